/- slices.Insert of one element, at rows and at ints. -/
import Derived.Test.YtdmicblafmhflaaGreatDoorC03
import Derived.Test.YtdmicblafmhflaaGreatDoorC11
import Derived.Lib.Overlaps
import Derived.Laws.Externs
import Derived.Deep.AppendLies
import Derived.Deep.RegionLaw
set_option linter.unusedSimpArgs false
set_option linter.unusedVariables false
set_option maxHeartbeats 4000000
set_option maxRecDepth 100000
namespace Go.Proofs.YtdmicblafmhflaaGreatDoor
section
open Go.RowKit
theorem gz{P:Program}(w:World){ops:Array Oper}{rest:List Oper}{o:Oper}{a:Act}{Q:Exit→Act→World→Prop}(zU:o.guard=none)(d s:Operand)(t t':TypeId)
 (ho:o.op=.call {callee:=.builtin .copy,args:=#[d,s],argTypes:=#[t,t']})(v u:Value)(hd:a.eval d=v)(hs:a.eval s=u){v':Value}{w':World}
 (hr:(Builtin.copy_ #[t,t'] o.type #[v,u]).run P w=.ok v' w')(h:wpList P ops Q rest (a.put o.dst v') w'):wpList P ops Q (o::rest) a w:=
 wpList_plain zU fun _ hK=>by
  unfold Oper.wp execOp
  simp only[ho,resolve,invoke,builtin,Sem.run_bind,Sem.run_pure,Result.andThen_ok,List.map_toArray,List.map_cons,List.map_nil,hd,hs,hr]
  exact hK _ _ h
theorem kE{P:Program}(w:World){ops:Array Oper}{rest:List Oper}{o:Oper}{a:Act}{Q:Exit→Act→World→Prop}(zU:o.guard=none)(d s:Operand)(t t':TypeId)
 (ho:o.op=.call {callee:=.builtin .append,args:=#[d,s],argTypes:=#[t,t']})(v u:Value)(hd:a.eval d=v)(hs:a.eval s=u){v':Value}{w':World}
 (hr:(Builtin.append_ #[t,t'] o.type #[v,u]).run P w=.ok v' w')(h:wpList P ops Q rest (a.put o.dst v') w'):wpList P ops Q (o::rest) a w:=
 wpList_plain zU fun _ hK=>by
  unfold Oper.wp execOp
  simp only[ho,resolve,invoke,builtin,Sem.run_bind,Sem.run_pure,Result.andThen_ok,List.map_toArray,List.map_cons,List.map_nil,hd,hs,hr]
  exact hK _ _ h
theorem jj{P:Program}{ops:Array Oper}{o:Oper}{a:Act}{w:World}{K:Act→World→Prop}{Q:Exit→Act→World→Prop}{E:Prop}
 (hg:o.guard=none)(d x:Operand)(dT sT:TypeId)(hop:o.op=Op.call {callee:=Callee.builtin Builtin.copy,args:=#[d,x],argTypes:=#[dT,sT]})
 (v u:Value)(hd:a.eval d=v)(hx:a.eval x=u){v':Value}{w':World}(hr:(Builtin.copy_ #[dT,sT] o.type #[v,u]).run P w=.ok v' w')(hK:K (a.put o.dst v') w'):
 if Region.wanted o (yielded ops a.tmps)=true then Oper.wp P o a w K Q else E:=by
 have hw:Region.wanted o (yielded ops a.tmps)=true:=by simp[Region.wanted,hg]
 rw[if_pos hw]
 unfold Oper.wp
 simp[execOp,hop,resolve,invoke,builtin,hd,hx,hr,Result.andThen]
 exact hK
theorem zV(l vs:List Value)(a k m:Nat)(hk:vs.length=k)(hl:a+k+m≤l.length):
 let c:=(l.take (a+m)).drop a
 let l1:=l.take (a+k)++c++l.drop (a+k+c.length)
 let l2:=l1.take a++vs++l1.drop (a+vs.length)
 l2.length=l.length∧l2.take (a+k+m)=l.take a++vs++c:=by
 intro c l1 l2
 have hc:c.length=m:=by simp[c];omega
 have e1:l1.take a=l.take a:=by
  simp only[l1,List.append_assoc]
  rw[List.take_append_of_le_length (by simp;omega),List.take_take]
  congr 1;omega
 have e2:l1.drop (a+vs.length)=c++l.drop (a+k+c.length):=by
  simp only[l1,List.append_assoc]
  rw[List.drop_left' (by simp;omega)]
 have e3:l2=l.take a++vs++c++l.drop (a+k+c.length):=by
  simp only[l2,e1,e2,List.append_assoc]
 refine⟨?_, ?_⟩
 · rw[e3];simp[hc,hk];omega
 · rw[e3]
   exact List.take_left' (by simp[hc,hk];omega)
theorem xH(l vs c:List Value)(a k m:Nat)(hk:vs.length=k)(hc:c.length=m)(hl:a+k+m≤l.length):
 let l1:=l.take a++vs++l.drop (a+vs.length)
 let l2:=l1.take (a+k)++c++l1.drop (a+k+c.length)
 l2.length=l.length∧l2.take (a+k+m)=l.take a++vs++c:=by
 intro l1 l2
 have e1:l1.take (a+k)=l.take a++vs:=by
  simp only[l1]
  exact List.take_left' (by simp;omega)
 have h1:l1.length=l.length:=by simp[l1,hk];omega
 refine⟨?_, ?_⟩
 · simp only[l2,List.length_append,e1,List.length_drop,h1,hc,hk,List.length_take];omega
 · simp only[l2,e1]
   exact List.take_left' (by simp;omega)
theorem Tryz.sk:(Tryz.prog.info? 119).map (fun i=>(i.zero,i.size,i.bytes))=some (some (.agg #[.string ByteArray.empty,.string ByteArray.empty,.string ByteArray.empty]),3,48):=by kernel_rfl
theorem Jw(w:World)(B:Nat)(rd:Option Addr)(rc n:Nat)(xs vs:List Value)(vb:Nat)(aj:w.ownsRow B 119 3 (.slice rd n rc) n xs)(hB:B≤w.heap.size)(hn:n≤1000000)
 (lR:vs.length=3)(Qj:∀(j:Nat) u,vs[j]?=some u→w.cell? ⟨vb,j,none⟩=some u)(h1:∀u∈vs,u.oneCell'=true):
 Calls Tryz.prog 245 #[.slice rd n rc,.int .i64 n,.slice (some ⟨vb,0,none⟩) 1 1] w fun e w'=>∃g cap,e=.returned (.slice (some ⟨g,0,none⟩) (n+1) cap)∧w'.ownsRow B 119 3 (.slice (some ⟨g,0,none⟩) (n+1) cap) (n+1) (xs++vs)∧Kb (Value.ownBlock (.slice rd n rc)).toList w w'∧cn w (.slice rd n rc) (.slice (some ⟨g,0,none⟩) (n+1) cap):=by
 obtain⟨i0,kP,eX,eP,eA⟩:=info_parts Tryz.sk
 have hle:n≤rc∧(rd=none→n=0∧rc=0):=by
  rcases aj.2 with⟨e1,e2⟩ | ⟨g,cap,cur,e1,_,hg,hc,_⟩
  · simp only[Value.slice.injEq]at e1;obtain⟨rfl,_,rfl⟩:=e1;exact⟨by omega,fun _=>⟨by omega,rfl⟩⟩
  · simp only[Value.slice.injEq]at e1;obtain⟨rfl,_,rfl⟩:=e1;exact⟨hc,fun e=>by cases e⟩
 have hnr:=hle.1
 have hrn:=hle.2
 clear hle
 have VX:¬((n:Int)<0):=by omega
 have dR:∀j,(⟨vb,0,none⟩:Addr).add j=⟨vb,j,none⟩:=by intro j;unfold Addr.add;split<;>simp_all
 have ew:Hid (∀(j:Nat) u,vs[j]?=some u→w.cell? ((⟨vb,0,none⟩:Addr).add j)=some u):=fun j u hj=>by rw[dR];exact Qj j u hj
 have HI:Hid (Tryz.prog.info? 119=some i0):=kP
 have H0:Hid (i0.zero=some (.agg #[.string ByteArray.empty,.string ByteArray.empty,.string ByteArray.empty])):=eX
 have H1:Hid (i0.size=3):=eP
 have H2:Hid (i0.bytes=48):=eA
 clear Qj dR kP eX eP eA
 go_enter Tryz.func245,Tryz.ntmps245
 cases rd with
 | none=>
  obtain⟨rfl,rfl⟩:=hrn rfl
  go_wp2_with (at_builtin;refine wpList_append_lies _ rfl (.tmp 23) (.tmp 24) 113 rfl B 119 i0 _ 3 48 Tryz.underlying113 HI.out H0.out H1.out H2.out rfl (by decide) _ _ _ rfl aj ⟨vb,0,none⟩ 1 1 vs rfl (by rw[lR]) ew.out h1 (by decide) (by unfold maxLen;omega) (by omega) hB w.heap.size rfl ?_;intro g2 mD w2 aO ch dL rM)
  go_ret
  refine⟨g2,mD,rfl,aO,Kb.dK ch, ?_⟩
  intro b hb
  simp only[Value.ownBlock,Option.some.injEq]at hb
  subst hb
  rcases dL with h | h
  · exact .inl h
  · exact .inr (by omega)
 | some ad=>
  by_cases IZ:rc=n
  · have TX:(rc=n)=True:=by simp[IZ]
    go_wp2_with (at_builtin;refine wpList_append_lies _ rfl (.tmp 23) (.tmp 24) 113 rfl B 119 i0 _ 3 48 Tryz.underlying113 HI.out H0.out H1.out H2.out rfl (by decide) _ _ _ rfl aj ⟨vb,0,none⟩ 1 1 vs rfl (by rw[lR]) ew.out h1 (by decide) (by unfold maxLen;omega) (by omega) hB w.heap.size rfl ?_;intro g2 mD w2 aO ch dL rM)
    go_ret
    refine⟨g2,mD,rfl,aO,Kb.dK ch, ?_⟩
    intro b hb
    simp only[Value.ownBlock,Option.some.injEq]at hb
    subst hb
    rcases dL with h | h
    · exact .inl h
    · exact .inr (by omega)
  · have TX:(rc=n)=False:=by simp[IZ]
    go_wp2_with (at_builtin;refine wpList_append_lies _ rfl (.tmp 23) (.tmp 24) 113 rfl B 119 i0 _ 3 48 Tryz.underlying113 HI.out H0.out H1.out H2.out rfl (by decide) _ _ _ rfl aj ⟨vb,0,none⟩ 1 1 vs rfl (by rw[lR]) ew.out h1 (by decide) (by unfold maxLen;omega) (by omega) hB w.heap.size rfl ?_;intro g2 mD w2 aO ch dL rM)
    go_ret
    refine⟨g2,mD,rfl,aO,Kb.dK ch, ?_⟩
    intro b hb
    simp only[Value.ownBlock,Option.some.injEq]at hb
    subst hb
    rcases dL with h | h
    · exact .inl h
    · exact .inr (by omega)
theorem Tryz.B3:(Tryz.prog.info? 3).map (fun i=>(i.zero,i.size,i.bytes))=some (some (.int .i64 0),1,8):=by kernel_rfl
theorem JZ(w:World)(B:Nat)(rd:Option Addr)(rc n:Nat)(xs vs:List Value)(vb:Nat)(aj:w.ownsRow B 3 1 (.slice rd n rc) n xs)(hB:B≤w.heap.size)(hn:n≤1000000)
 (lR:vs.length=1)(Qj:∀(j:Nat) u,vs[j]?=some u→w.cell? ⟨vb,j,none⟩=some u)(h1:∀u∈vs,u.oneCell'=true):
 Calls Tryz.prog 264 #[.slice rd n rc,.int .i64 n,.slice (some ⟨vb,0,none⟩) 1 1] w fun e w'=>∃g cap,e=.returned (.slice (some ⟨g,0,none⟩) (n+1) cap)∧w'.ownsRow B 3 1 (.slice (some ⟨g,0,none⟩) (n+1) cap) (n+1) (xs++vs)∧Kb (Value.ownBlock (.slice rd n rc)).toList w w'∧cn w (.slice rd n rc) (.slice (some ⟨g,0,none⟩) (n+1) cap):=by
 obtain⟨i0,kP,eX,eP,eA⟩:=info_parts Tryz.B3
 have hle:n≤rc∧(rd=none→n=0∧rc=0):=by
  rcases aj.2 with⟨e1,e2⟩ | ⟨g,cap,cur,e1,_,hg,hc,_⟩
  · simp only[Value.slice.injEq]at e1;obtain⟨rfl,_,rfl⟩:=e1;exact⟨by omega,fun _=>⟨by omega,rfl⟩⟩
  · simp only[Value.slice.injEq]at e1;obtain⟨rfl,_,rfl⟩:=e1;exact⟨hc,fun e=>by cases e⟩
 have hnr:=hle.1
 have hrn:=hle.2
 clear hle
 have VX:¬((n:Int)<0):=by omega
 have dR:∀j,(⟨vb,0,none⟩:Addr).add j=⟨vb,j,none⟩:=by intro j;unfold Addr.add;split<;>simp_all
 have ew:Hid (∀(j:Nat) u,vs[j]?=some u→w.cell? ((⟨vb,0,none⟩:Addr).add j)=some u):=fun j u hj=>by rw[dR];exact Qj j u hj
 have HI:Hid (Tryz.prog.info? 3=some i0):=kP
 have H0:Hid (i0.zero=some (.int .i64 0)):=eX
 have H1:Hid (i0.size=1):=eP
 have H2:Hid (i0.bytes=8):=eA
 clear Qj dR kP eX eP eA
 go_enter Tryz.func264,Tryz.ntmps264
 cases rd with
 | none=>
  obtain⟨rfl,rfl⟩:=hrn rfl
  go_wp2_with (at_builtin;refine wpList_append_lies _ rfl (.tmp 23) (.tmp 24) 31 rfl B 3 i0 _ 1 8 Tryz.underlying31 HI.out H0.out H1.out H2.out rfl (by decide) _ _ _ rfl aj ⟨vb,0,none⟩ 1 1 vs rfl (by rw[lR]) ew.out h1 (by decide) (by unfold maxLen;omega) (by omega) hB w.heap.size rfl ?_;intro g2 mD w2 aO ch dL rM)
  go_ret
  refine⟨g2,mD,rfl,aO,Kb.dK ch, ?_⟩
  intro b hb
  simp only[Value.ownBlock,Option.some.injEq]at hb
  subst hb
  rcases dL with h | h
  · exact .inl h
  · exact .inr (by omega)
 | some ad=>
  by_cases IZ:rc=n
  · have TX:(rc=n)=True:=by simp[IZ]
    go_wp2_with (at_builtin;refine wpList_append_lies _ rfl (.tmp 23) (.tmp 24) 31 rfl B 3 i0 _ 1 8 Tryz.underlying31 HI.out H0.out H1.out H2.out rfl (by decide) _ _ _ rfl aj ⟨vb,0,none⟩ 1 1 vs rfl (by rw[lR]) ew.out h1 (by decide) (by unfold maxLen;omega) (by omega) hB w.heap.size rfl ?_;intro g2 mD w2 aO ch dL rM)
    go_ret
    refine⟨g2,mD,rfl,aO,Kb.dK ch, ?_⟩
    intro b hb
    simp only[Value.ownBlock,Option.some.injEq]at hb
    subst hb
    rcases dL with h | h
    · exact .inl h
    · exact .inr (by omega)
  · have TX:(rc=n)=False:=by simp[IZ]
    go_wp2_with (at_builtin;refine wpList_append_lies _ rfl (.tmp 23) (.tmp 24) 31 rfl B 3 i0 _ 1 8 Tryz.underlying31 HI.out H0.out H1.out H2.out rfl (by decide) _ _ _ rfl aj ⟨vb,0,none⟩ 1 1 vs rfl (by rw[lR]) ew.out h1 (by decide) (by unfold maxLen;omega) (by omega) hB w.heap.size rfl ?_;intro g2 mD w2 aO ch dL rM)
    go_ret
    refine⟨g2,mD,rfl,aO,Kb.dK ch, ?_⟩
    intro b hb
    simp only[Value.ownBlock,Option.some.injEq]at hb
    subst hb
    rcases dL with h | h
    · exact .inl h
    · exact .inr (by omega)
theorem F6(w:World)(B g n c i vb:Nat)(xs vs:List Value)(aj:w.ownsRow B 119 3 (.slice (some ⟨g,0,none⟩) n c) n xs)(hi:i<n)(lh:n+1≤c)(hn:n≤1000000)(pE:∀u∈xs,u.oneCell'=true)
 (lR:vs.length=3)(tr:w.heap[vb]?=some (.cells vs.toArray 119 (0,0)))(cL:vb≠g)(h1:∀u∈vs,u.oneCell'=true):
 Calls Tryz.prog 245 #[.slice (some ⟨g,0,none⟩) n c,.int .i64 i,.slice (some ⟨vb,0,none⟩) 1 1] w fun e w'=>e=.returned (.slice (some ⟨g,0,none⟩) (n+1) c)∧w'.ownsRow B 119 3 (.slice (some ⟨g,0,none⟩) (n+1) c) (n+1) (xs.take (i*3)++vs++xs.drop (i*3))∧Kb [g] w w':=by
 have ir:=aj
 obtain⟨qb,aO⟩:=aj
 rcases aO with⟨e1,e2⟩ | ⟨g',cap,cur,e1,Oc,hg,IZ,Ca,bA,sO⟩
 · simp at e1
 simp only[Value.slice.injEq,Option.some.injEq,Addr.mk.injEq]at e1
 obtain⟨⟨rfl,_⟩,_,rfl⟩:=e1
 have aa0:c≤9223372036854775807:=by unfold maxLen at Ca;omega
 have eA:¬((i:Int)=(n:Int)):=by omega
 have cr:(Tryz.prog.info? 119).map (·.size)=some 3:=by
  obtain⟨i0,kP,h0,h1',h2⟩:=info_parts Tryz.sk
  rw[kP];simp[h1']
 have Zr:∀(o:Nat) lb cb,(callFunc 272 #[.slice (some ⟨vb,0,none⟩) 1 1,.slice (some ⟨g,o,none⟩) lb cb]).run Tryz.prog w=.ok (.value (.bool false)) w:=fun o lb cb=>by
  rw[run_callFunc_extern Tryz.func272 (by kernel_rfl) (by kernel_rfl) (by kernel_rfl) (e:=Extern.SlicesOverlaps.overlaps #[113,113] #[4]) (by kernel_rfl),
   Lib.run_overlaps_apart w 113 4 119 Tryz.underlying113 3 Tryz.sizeOf119 ⟨vb,0,none⟩ ⟨g,o,none⟩ 1 1 lb cb cL 119 119 3 cur.size (by simp[World.shape?,tr,lR]) (by simp[World.shape?,hg]) (by rw[bA];omega) (by simp[World.frozen?,tr]) (by simp[World.frozen?,tr])]
  rfl
 have hHO:Hid (∀(o:Nat) lb cb,(callFunc 272 #[.slice (some ⟨vb,0,none⟩) 1 1,.slice (some ⟨g,o,none⟩) lb cb]).run Tryz.prog w=.ok (.value (.bool false)) w):=Zr
 have adh:i≤n:=by omega
 have jN:=zV cur.toList vs (i*3) 3 ((n-i)*3) lR (by rw[Array.length_toList,bA];omega)
 obtain⟨zv,tY⟩:=jN
 have Ob:cur.toList.take (i*3+(n-i)*3)=xs:=by rw[←sO];congr 1;omega
 rw[Ob]at zv tY
 have xg:(xs.drop (i*3)).length=(n-i)*3:=by rw[List.length_drop,qb];omega
 have dR:∀(b o j:Nat),(⟨b,o,none⟩:Addr).add j=⟨b,o+j,none⟩:=by intro b o j;unfold Addr.add;split<;>simp_all
 have dt:∀(j:Nat) u,xs[j]?=some u→w.cell? ⟨g,j,none⟩=some u:=fun j u hj=>by
  have:=World.ownsRow.cells ir (g:=g) rfl j u hj
  rw[dR]at this
  simpa using this
 obtain⟨W1,rq⟩:∃W1,W1=w.drew.setRow g (cur.toList.take (i*3+3)++xs.drop (i*3)++cur.toList.drop (i*3+3+(xs.drop (i*3)).length)).toArray:=⟨_,rfl⟩
 have FW:∀ty dc sc,(Builtin.copy_ #[113,113] ty #[.slice (some ⟨g,(i+1)*3,none⟩) (n-i) dc,.slice (some ⟨g,i*3,none⟩) (n+1-i) sc]).run Tryz.prog w.drew=.ok (goInt ((n-i:Nat):Int)) W1:=fun ty dc sc=>by
  rw[rq,show(i+1)*3=i*3+3 by omega]
  exact dF Tryz.prog w.drew _ _ ty 119 g (i*3+3) (n-i) dc ⟨g,i*3,none⟩ (n+1-i) sc cur 119 (xs.drop (i*3)) 3 (n-i) Tryz.underlying113 cr hg (by simp only[Nat.min_def];split<;>omega) xg
   (fun j v hj=>by rw[dR];exact dt _ _ (by rwa [List.getElem?_drop]at hj))
   (by rw[xg,bA];omega) (fun v hv=>pE v (List.mem_of_mem_drop hv))
 have BJ:W1.heap[g]?=some (.cells (cur.toList.take (i*3+3)++xs.drop (i*3)++cur.toList.drop (i*3+3+(xs.drop (i*3)).length)).toArray 119 (0,0)):=by rw[rq];exact bq w.drew g _ hg
 have NV:W1.heap[vb]?=some (.cells vs.toArray 119 (0,0)):=by rw[rq,dZ _ _ _ _ cL];exact tr
 have Cd:Kb [g] w W1:=by rw[rq];exact((Kb.refl [g] w).drew).trans (Kb.setRow w.drew g _)
 obtain⟨L1,sM⟩:∃L1:List Value,L1=cur.toList.take (i*3+3)++xs.drop (i*3)++cur.toList.drop (i*3+3+(xs.drop (i*3)).length):=⟨_,rfl⟩
 rw[←sM]at BJ zv tY
 have yh:L1.length=cur.size:=by rw[sM];simp only[List.length_append,List.length_take,List.length_drop,Array.length_toList,xg,bA];omega
 obtain⟨W2,ub⟩:∃W2,W2=W1.setRow g (L1.take (i*3)++vs++L1.drop (i*3+vs.length)).toArray:=⟨_,rfl⟩
 have GU:∀ty dc,(Builtin.copy_ #[113,113] ty #[.slice (some ⟨g,i*3,none⟩) (n+1-i) dc,.slice (some ⟨vb,0,none⟩) 1 1]).run Tryz.prog W1=.ok (goInt 1) W2:=fun ty dc=>by
  rw[ub]
  have:=dF Tryz.prog W1 113 113 ty 119 g (i*3) (n+1-i) dc ⟨vb,0,none⟩ 1 1 L1.toArray 119 vs 3 1 Tryz.underlying113 cr BJ (by simp only[Nat.min_def];split<;>omega) (by rw[lR])
   (fun j v hj=>by rw[dR,Nat.zero_add,cell_of_row _ vb j _ _ _ NV];simpa using hj)
   (by rw[lR,List.size_toArray,yh,bA];omega) h1
  simpa using this
 have Vx:W2.ownsRow B 119 3 (.slice (some ⟨g,0,none⟩) (n+1) c) (n+1) (xs.take (i*3)++vs++xs.drop (i*3)):=by
  refine⟨by simp only[List.length_append,List.length_take,qb,lR,xg];rw[Nat.min_eq_left (by omega)];omega,.inr ⟨g,c,(L1.take (i*3)++vs++L1.drop (i*3+vs.length)).toArray,rfl,Oc, ?_,lh,Ca, ?_, ?_⟩⟩
  · rw[ub];exact bq W1 g _ BJ
  · rw[List.size_toArray];rw[zv,Array.length_toList,bA]
  · show List.take _ (L1.take (i*3)++vs++L1.drop (i*3+vs.length))=_
    rw[show(n+1)*3=i*3+3+(n-i)*3 by omega,tY]
    congr 2
    rw[←sO,List.take_take]
    congr 1;omega
 have NH:Kb [g] w W2:=by rw[ub];exact Cd.trans (Kb.setRow W1 g _)
 have sP:IntKind.i64.wrap ((i:Int)+1)=(i:Int)+1:=by rw[IntKind.wrap_i64];omega
 have bk:(0:Int)≤(i:Int)+1:=by omega
 have TM:((i:Int)+1).toNat=i+1:=by omega
 have cM:¬(c=i+1):=by omega
 have eB:(i:Int)≤(n:Int)+1:=by omega
 have lZ:¬(c=i):=by omega
 clear zv tY Ob sO cr ir lR h1 pE bA hHO tr qb xg dR dt BJ NV Cd sM yh ub rq hg
 go_enter Tryz.func245,Tryz.ntmps245
 go_wp2_with (simp only[Zr])
 go_region_law (refine jj rfl _ _ 113 113 rfl _ _ (by simp[Act.eval,Act.put]) (by simp[Act.eval,Act.put]) (FW _ _ _) ?_)
 go_wp2_with (at_builtin;refine gz _ rfl _ _ 113 113 rfl _ _ rfl rfl (GU _ _) ?_)
 go_ret
 exact⟨rfl,Vx,NH⟩
theorem Hh(w:World)(B g n c i vb:Nat)(xs vs:List Value)(aj:w.ownsRow B 3 1 (.slice (some ⟨g,0,none⟩) n c) n xs)(hi:i<n)(lh:n+1≤c)(hn:n≤1000000)(pE:∀u∈xs,u.oneCell'=true)
 (lR:vs.length=1)(tr:w.heap[vb]?=some (.cells vs.toArray 3 (0,0)))(cL:vb≠g)(h1:∀u∈vs,u.oneCell'=true):
 Calls Tryz.prog 264 #[.slice (some ⟨g,0,none⟩) n c,.int .i64 i,.slice (some ⟨vb,0,none⟩) 1 1] w fun e w'=>e=.returned (.slice (some ⟨g,0,none⟩) (n+1) c)∧w'.ownsRow B 3 1 (.slice (some ⟨g,0,none⟩) (n+1) c) (n+1) (xs.take (i)++vs++xs.drop (i))∧Kb [g] w w':=by
 have ir:=aj
 obtain⟨qb,aO⟩:=aj
 rcases aO with⟨e1,e2⟩ | ⟨g',cap,cur,e1,Oc,hg,IZ,Ca,bA,sO⟩
 · simp at e1
 simp only[Value.slice.injEq,Option.some.injEq,Addr.mk.injEq]at e1
 obtain⟨⟨rfl,_⟩,_,rfl⟩:=e1
 have aa0:c≤9223372036854775807:=by unfold maxLen at Ca;omega
 have eA:¬((i:Int)=(n:Int)):=by omega
 have cr:(Tryz.prog.info? 3).map (·.size)=some 1:=by
  obtain⟨i0,kP,h0,h1',h2⟩:=info_parts Tryz.B3
  rw[kP];simp[h1']
 have Zr:∀(o:Nat) lb cb,(callFunc 284 #[.slice (some ⟨vb,0,none⟩) 1 1,.slice (some ⟨g,o,none⟩) lb cb]).run Tryz.prog w=.ok (.value (.bool false)) w:=fun o lb cb=>by
  rw[run_callFunc_extern Tryz.func284 (by kernel_rfl) (by kernel_rfl) (by kernel_rfl) (e:=Extern.SlicesOverlaps.overlaps #[31,31] #[4]) (by kernel_rfl),
   Lib.run_overlaps_apart w 31 4 3 Tryz.underlying31 1 Tryz.sizeOf3 ⟨vb,0,none⟩ ⟨g,o,none⟩ 1 1 lb cb cL 3 3 1 cur.size (by simp[World.shape?,tr,lR]) (by simp[World.shape?,hg]) (by rw[bA];omega) (by simp[World.frozen?,tr]) (by simp[World.frozen?,tr])]
  rfl
 have hHO:Hid (∀(o:Nat) lb cb,(callFunc 284 #[.slice (some ⟨vb,0,none⟩) 1 1,.slice (some ⟨g,o,none⟩) lb cb]).run Tryz.prog w=.ok (.value (.bool false)) w):=Zr
 have adh:i≤n:=by omega
 have jN:=zV cur.toList vs (i) 1 ((n-i)*1) lR (by rw[Array.length_toList,bA];omega)
 obtain⟨zv,tY⟩:=jN
 have Ob:cur.toList.take (i+(n-i)*1)=xs:=by rw[←sO];congr 1;omega
 rw[Ob]at zv tY
 have xg:(xs.drop (i)).length=(n-i)*1:=by rw[List.length_drop,qb];omega
 have dR:∀(b o j:Nat),(⟨b,o,none⟩:Addr).add j=⟨b,o+j,none⟩:=by intro b o j;unfold Addr.add;split<;>simp_all
 have dt:∀(j:Nat) u,xs[j]?=some u→w.cell? ⟨g,j,none⟩=some u:=fun j u hj=>by
  have:=World.ownsRow.cells ir (g:=g) rfl j u hj
  rw[dR]at this
  simpa using this
 obtain⟨W1,rq⟩:∃W1,W1=w.drew.setRow g (cur.toList.take (i+1)++xs.drop (i)++cur.toList.drop (i+1+(xs.drop (i)).length)).toArray:=⟨_,rfl⟩
 have FW:∀ty dc sc,(Builtin.copy_ #[31,31] ty #[.slice (some ⟨g,i+1,none⟩) (n-i) dc,.slice (some ⟨g,i,none⟩) (n+1-i) sc]).run Tryz.prog w.drew=.ok (goInt ((n-i:Nat):Int)) W1:=fun ty dc sc=>by
  rw[rq,show i+1=i+1 by omega]
  exact dF Tryz.prog w.drew _ _ ty 3 g (i+1) (n-i) dc ⟨g,i,none⟩ (n+1-i) sc cur 3 (xs.drop (i)) 1 (n-i) Tryz.underlying31 cr hg (by simp only[Nat.min_def];split<;>omega) xg
   (fun j v hj=>by rw[dR];exact dt _ _ (by rwa [List.getElem?_drop]at hj))
   (by rw[xg,bA];omega) (fun v hv=>pE v (List.mem_of_mem_drop hv))
 have BJ:W1.heap[g]?=some (.cells (cur.toList.take (i+1)++xs.drop (i)++cur.toList.drop (i+1+(xs.drop (i)).length)).toArray 3 (0,0)):=by rw[rq];exact bq w.drew g _ hg
 have NV:W1.heap[vb]?=some (.cells vs.toArray 3 (0,0)):=by rw[rq,dZ _ _ _ _ cL];exact tr
 have Cd:Kb [g] w W1:=by rw[rq];exact((Kb.refl [g] w).drew).trans (Kb.setRow w.drew g _)
 obtain⟨L1,sM⟩:∃L1:List Value,L1=cur.toList.take (i+1)++xs.drop (i)++cur.toList.drop (i+1+(xs.drop (i)).length):=⟨_,rfl⟩
 rw[←sM]at BJ zv tY
 have yh:L1.length=cur.size:=by rw[sM];simp only[List.length_append,List.length_take,List.length_drop,Array.length_toList,xg,bA];omega
 obtain⟨W2,ub⟩:∃W2,W2=W1.setRow g (L1.take (i)++vs++L1.drop (i+vs.length)).toArray:=⟨_,rfl⟩
 have GU:∀ty dc,(Builtin.copy_ #[31,31] ty #[.slice (some ⟨g,i,none⟩) (n+1-i) dc,.slice (some ⟨vb,0,none⟩) 1 1]).run Tryz.prog W1=.ok (goInt 1) W2:=fun ty dc=>by
  rw[ub]
  have:=dF Tryz.prog W1 31 31 ty 3 g (i) (n+1-i) dc ⟨vb,0,none⟩ 1 1 L1.toArray 3 vs 1 1 Tryz.underlying31 cr BJ (by simp only[Nat.min_def];split<;>omega) (by rw[lR])
   (fun j v hj=>by rw[dR,Nat.zero_add,cell_of_row _ vb j _ _ _ NV];simpa using hj)
   (by rw[lR,List.size_toArray,yh,bA];omega) h1
  simpa using this
 have Vx:W2.ownsRow B 3 1 (.slice (some ⟨g,0,none⟩) (n+1) c) (n+1) (xs.take (i)++vs++xs.drop (i)):=by
  refine⟨by simp only[List.length_append,List.length_take,qb,lR,xg];rw[Nat.min_eq_left (by omega)];omega,.inr ⟨g,c,(L1.take (i)++vs++L1.drop (i+vs.length)).toArray,rfl,Oc, ?_,lh,Ca, ?_, ?_⟩⟩
  · rw[ub];exact bq W1 g _ BJ
  · rw[List.size_toArray];rw[zv,Array.length_toList,bA]
  · show List.take _ (L1.take (i)++vs++L1.drop (i+vs.length))=_
    rw[show(n+1)*1=i+1+(n-i)*1 by omega,tY]
    congr 2
    rw[←sO,List.take_take]
    congr 1;omega
 have NH:Kb [g] w W2:=by rw[ub];exact Cd.trans (Kb.setRow W1 g _)
 have sP:IntKind.i64.wrap ((i:Int)+1)=(i:Int)+1:=by rw[IntKind.wrap_i64];omega
 have bk:(0:Int)≤(i:Int)+1:=by omega
 have TM:((i:Int)+1).toNat=i+1:=by omega
 have cM:¬(c=i+1):=by omega
 have eB:(i:Int)≤(n:Int)+1:=by omega
 have lZ:¬(c=i):=by omega
 clear zv tY Ob sO cr ir lR h1 pE bA hHO tr qb xg dR dt BJ NV Cd sM yh ub rq hg
 go_enter Tryz.func264,Tryz.ntmps264
 go_wp2_with (simp only[Zr])
 go_region_law (refine jj rfl _ _ 31 31 rfl _ _ (by simp[Act.eval,Act.put]) (by simp[Act.eval,Act.put]) (FW _ _ _) ?_)
 go_wp2_with (at_builtin;refine gz _ rfl _ _ 31 31 rfl _ _ rfl rfl (GU _ _) ?_)
 go_ret
 exact⟨rfl,Vx,NH⟩
end
end Go.Proofs.YtdmicblafmhflaaGreatDoor
