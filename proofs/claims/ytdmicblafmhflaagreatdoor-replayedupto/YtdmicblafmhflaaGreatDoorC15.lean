/- slices.Insert of one element, at rows and at ints. -/
import Derived.Test.YtdmicblafmhflaaGreatDoorC03
import Derived.Test.YtdmicblafmhflaaGreatDoorC11
import Derived.Lib.Overlaps
import Derived.Laws.Externs
import Derived.Deep.AppendLies
import Derived.Deep.RegionLaw
set_option linter.unusedSimpArgs false
set_option linter.unusedVariables false
set_option maxHeartbeats 4000000
set_option maxRecDepth 100000
namespace Go.Proofs.YtdmicblafmhflaaGreatDoor
section
open Go.RowKit
theorem gh{P:Program}(w:World){ops:Array Oper}{rest:List Oper}{o:Oper}{a:Act}{Q:Exit→Act→World→Prop}(Aq:o.guard=none)(d s:Operand)(t t':TypeId)
 (ho:o.op=.call {callee:=.builtin .copy,args:=#[d,s],argTypes:=#[t,t']})(v u:Value)(hd:a.eval d=v)(hs:a.eval s=u){v':Value}{w':World}
 (hr:(Builtin.copy_ #[t,t'] o.type #[v,u]).run P w=.ok v' w')(h:wpList P ops Q rest (a.put o.dst v') w'):wpList P ops Q (o::rest) a w:=
 wpList_plain Aq fun _ hK=>by
  unfold Oper.wp execOp
  simp only[ho,resolve,invoke,builtin,Sem.run_bind,Sem.run_pure,Result.andThen_ok,List.map_toArray,List.map_cons,List.map_nil,hd,hs,hr]
  exact hK _ _ h
theorem kC{P:Program}(w:World){ops:Array Oper}{rest:List Oper}{o:Oper}{a:Act}{Q:Exit→Act→World→Prop}(Aq:o.guard=none)(d s:Operand)(t t':TypeId)
 (ho:o.op=.call {callee:=.builtin .append,args:=#[d,s],argTypes:=#[t,t']})(v u:Value)(hd:a.eval d=v)(hs:a.eval s=u){v':Value}{w':World}
 (hr:(Builtin.append_ #[t,t'] o.type #[v,u]).run P w=.ok v' w')(h:wpList P ops Q rest (a.put o.dst v') w'):wpList P ops Q (o::rest) a w:=
 wpList_plain Aq fun _ hK=>by
  unfold Oper.wp execOp
  simp only[ho,resolve,invoke,builtin,Sem.run_bind,Sem.run_pure,Result.andThen_ok,List.map_toArray,List.map_cons,List.map_nil,hd,hs,hr]
  exact hK _ _ h
theorem iY{P:Program}{ops:Array Oper}{o:Oper}{a:Act}{w:World}{K:Act→World→Prop}{Q:Exit→Act→World→Prop}{E:Prop}
 (hg:o.guard=none)(d x:Operand)(dT sT:TypeId)(hop:o.op=Op.call {callee:=Callee.builtin Builtin.copy,args:=#[d,x],argTypes:=#[dT,sT]})
 (v u:Value)(hd:a.eval d=v)(hx:a.eval x=u){v':Value}{w':World}(hr:(Builtin.copy_ #[dT,sT] o.type #[v,u]).run P w=.ok v' w')(hK:K (a.put o.dst v') w'):
 if Region.wanted o (yielded ops a.tmps)=true then Oper.wp P o a w K Q else E:=by
 have hw:Region.wanted o (yielded ops a.tmps)=true:=by simp[Region.wanted,hg]
 rw[if_pos hw]
 unfold Oper.wp
 simp[execOp,hop,resolve,invoke,builtin,hd,hx,hr,Result.andThen]
 exact hK
theorem Ak(l vs:List Value)(a k m:Nat)(hk:vs.length=k)(hl:a+k+m≤l.length):
 let c:=(l.take (a+m)).drop a
 let l1:=l.take (a+k)++c++l.drop (a+k+c.length)
 let l2:=l1.take a++vs++l1.drop (a+vs.length)
 l2.length=l.length∧l2.take (a+k+m)=l.take a++vs++c:=by
 intro c l1 l2
 have hc:c.length=m:=by simp[c];omega
 have e1:l1.take a=l.take a:=by
  simp only[l1,List.append_assoc]
  rw[List.take_append_of_le_length (by simp;omega),List.take_take]
  congr 1;omega
 have e2:l1.drop (a+vs.length)=c++l.drop (a+k+c.length):=by
  simp only[l1,List.append_assoc]
  rw[List.drop_left' (by simp;omega)]
 have e3:l2=l.take a++vs++c++l.drop (a+k+c.length):=by
  simp only[l2,e1,e2,List.append_assoc]
 refine⟨?_, ?_⟩
 · rw[e3];simp[hc,hk];omega
 · rw[e3]
   exact List.take_left' (by simp[hc,hk];omega)
theorem xI(l vs c:List Value)(a k m:Nat)(hk:vs.length=k)(hc:c.length=m)(hl:a+k+m≤l.length):
 let l1:=l.take a++vs++l.drop (a+vs.length)
 let l2:=l1.take (a+k)++c++l1.drop (a+k+c.length)
 l2.length=l.length∧l2.take (a+k+m)=l.take a++vs++c:=by
 intro l1 l2
 have e1:l1.take (a+k)=l.take a++vs:=by
  simp only[l1]
  exact List.take_left' (by simp;omega)
 have h1:l1.length=l.length:=by simp[l1,hk];omega
 refine⟨?_, ?_⟩
 · simp only[l2,List.length_append,e1,List.length_drop,h1,hc,hk,List.length_take];omega
 · simp only[l2,e1]
   exact List.take_left' (by simp;omega)
theorem Tryz.rB:(Tryz.prog.info? 119).map (fun i=>(i.zero,i.size,i.bytes))=some (some (.agg #[.string ByteArray.empty,.string ByteArray.empty,.string ByteArray.empty]),3,48):=by kernel_rfl
theorem Kw(w:World)(B:Nat)(rd:Option Addr)(rc n:Nat)(xs vs:List Value)(vb:Nat)(al:w.ownsRow B 119 3 (.slice rd n rc) n xs)(hB:B≤w.heap.size)(hn:n≤1000000)
 (lV:vs.length=3)(R6:∀(j:Nat) u,vs[j]?=some u→w.cell? ⟨vb,j,none⟩=some u)(h1:∀u∈vs,u.oneCell'=true):
 Calls Tryz.prog 245 #[.slice rd n rc,.int .i64 n,.slice (some ⟨vb,0,none⟩) 1 1] w fun e w'=>∃g cap,e=.returned (.slice (some ⟨g,0,none⟩) (n+1) cap)∧w'.ownsRow B 119 3 (.slice (some ⟨g,0,none⟩) (n+1) cap) (n+1) (xs++vs)∧Kb (Value.ownBlock (.slice rd n rc)).toList w w'∧cw w (.slice rd n rc) (.slice (some ⟨g,0,none⟩) (n+1) cap):=by
 obtain⟨i0,jy,ew,dZ,dX⟩:=info_parts Tryz.rB
 have hle:n≤rc∧(rd=none→n=0∧rc=0):=by
  rcases al.2 with⟨e1,e2⟩ | ⟨g,cap,cur,e1,_,hg,hc,_⟩
  · simp only[Value.slice.injEq]at e1;obtain⟨rfl,_,rfl⟩:=e1;exact⟨by omega,fun _=>⟨by omega,rfl⟩⟩
  · simp only[Value.slice.injEq]at e1;obtain⟨rfl,_,rfl⟩:=e1;exact⟨hc,fun e=>by cases e⟩
 have hnr:=hle.1
 have Wb:=hle.2
 clear hle
 have ZA:¬((n:Int)<0):=by omega
 have dI:∀j,(⟨vb,0,none⟩:Addr).add j=⟨vb,j,none⟩:=by intro j;unfold Addr.add;split<;>simp_all
 have et:Hid (∀(j:Nat) u,vs[j]?=some u→w.cell? ((⟨vb,0,none⟩:Addr).add j)=some u):=fun j u hj=>by rw[dI];exact R6 j u hj
 have HI:Hid (Tryz.prog.info? 119=some i0):=jy
 have H0:Hid (i0.zero=some (.agg #[.string ByteArray.empty,.string ByteArray.empty,.string ByteArray.empty])):=ew
 have H1:Hid (i0.size=3):=dZ
 have H2:Hid (i0.bytes=48):=dX
 clear R6 dI jy ew dZ dX
 go_enter Tryz.func245,Tryz.ntmps245
 cases rd with
 | none=>
  obtain⟨rfl,rfl⟩:=Wb rfl
  go_wp2_with (at_builtin;refine wpList_append_lies _ rfl (.tmp 23) (.tmp 24) 113 rfl B 119 i0 _ 3 48 Tryz.underlying113 HI.out H0.out H1.out H2.out rfl (by decide) _ _ _ rfl al ⟨vb,0,none⟩ 1 1 vs rfl (by rw[lV]) et.out h1 (by decide) (by unfold maxLen;omega) (by omega) hB w.heap.size rfl ?_;intro g2 mm w2 aR bR dM oH)
  go_ret
  refine⟨g2,mm,rfl,aR,Kb.dz bR, ?_⟩
  intro b hb
  simp only[Value.ownBlock,Option.some.injEq]at hb
  subst hb
  rcases dM with h | h
  · exact .inl h
  · exact .inr (by omega)
 | some ad=>
  by_cases DB:rc=n
  · have UR:(rc=n)=True:=by simp[DB]
    go_wp2_with (at_builtin;refine wpList_append_lies _ rfl (.tmp 23) (.tmp 24) 113 rfl B 119 i0 _ 3 48 Tryz.underlying113 HI.out H0.out H1.out H2.out rfl (by decide) _ _ _ rfl al ⟨vb,0,none⟩ 1 1 vs rfl (by rw[lV]) et.out h1 (by decide) (by unfold maxLen;omega) (by omega) hB w.heap.size rfl ?_;intro g2 mm w2 aR bR dM oH)
    go_ret
    refine⟨g2,mm,rfl,aR,Kb.dz bR, ?_⟩
    intro b hb
    simp only[Value.ownBlock,Option.some.injEq]at hb
    subst hb
    rcases dM with h | h
    · exact .inl h
    · exact .inr (by omega)
  · have UR:(rc=n)=False:=by simp[DB]
    go_wp2_with (at_builtin;refine wpList_append_lies _ rfl (.tmp 23) (.tmp 24) 113 rfl B 119 i0 _ 3 48 Tryz.underlying113 HI.out H0.out H1.out H2.out rfl (by decide) _ _ _ rfl al ⟨vb,0,none⟩ 1 1 vs rfl (by rw[lV]) et.out h1 (by decide) (by unfold maxLen;omega) (by omega) hB w.heap.size rfl ?_;intro g2 mm w2 aR bR dM oH)
    go_ret
    refine⟨g2,mm,rfl,aR,Kb.dz bR, ?_⟩
    intro b hb
    simp only[Value.ownBlock,Option.some.injEq]at hb
    subst hb
    rcases dM with h | h
    · exact .inl h
    · exact .inr (by omega)
theorem Tryz.BR:(Tryz.prog.info? 3).map (fun i=>(i.zero,i.size,i.bytes))=some (some (.int .i64 0),1,8):=by kernel_rfl
theorem Ku(w:World)(B:Nat)(rd:Option Addr)(rc n:Nat)(xs vs:List Value)(vb:Nat)(al:w.ownsRow B 3 1 (.slice rd n rc) n xs)(hB:B≤w.heap.size)(hn:n≤1000000)
 (lV:vs.length=1)(R6:∀(j:Nat) u,vs[j]?=some u→w.cell? ⟨vb,j,none⟩=some u)(h1:∀u∈vs,u.oneCell'=true):
 Calls Tryz.prog 264 #[.slice rd n rc,.int .i64 n,.slice (some ⟨vb,0,none⟩) 1 1] w fun e w'=>∃g cap,e=.returned (.slice (some ⟨g,0,none⟩) (n+1) cap)∧w'.ownsRow B 3 1 (.slice (some ⟨g,0,none⟩) (n+1) cap) (n+1) (xs++vs)∧Kb (Value.ownBlock (.slice rd n rc)).toList w w'∧cw w (.slice rd n rc) (.slice (some ⟨g,0,none⟩) (n+1) cap):=by
 obtain⟨i0,jy,ew,dZ,dX⟩:=info_parts Tryz.BR
 have hle:n≤rc∧(rd=none→n=0∧rc=0):=by
  rcases al.2 with⟨e1,e2⟩ | ⟨g,cap,cur,e1,_,hg,hc,_⟩
  · simp only[Value.slice.injEq]at e1;obtain⟨rfl,_,rfl⟩:=e1;exact⟨by omega,fun _=>⟨by omega,rfl⟩⟩
  · simp only[Value.slice.injEq]at e1;obtain⟨rfl,_,rfl⟩:=e1;exact⟨hc,fun e=>by cases e⟩
 have hnr:=hle.1
 have Wb:=hle.2
 clear hle
 have ZA:¬((n:Int)<0):=by omega
 have dI:∀j,(⟨vb,0,none⟩:Addr).add j=⟨vb,j,none⟩:=by intro j;unfold Addr.add;split<;>simp_all
 have et:Hid (∀(j:Nat) u,vs[j]?=some u→w.cell? ((⟨vb,0,none⟩:Addr).add j)=some u):=fun j u hj=>by rw[dI];exact R6 j u hj
 have HI:Hid (Tryz.prog.info? 3=some i0):=jy
 have H0:Hid (i0.zero=some (.int .i64 0)):=ew
 have H1:Hid (i0.size=1):=dZ
 have H2:Hid (i0.bytes=8):=dX
 clear R6 dI jy ew dZ dX
 go_enter Tryz.func264,Tryz.ntmps264
 cases rd with
 | none=>
  obtain⟨rfl,rfl⟩:=Wb rfl
  go_wp2_with (at_builtin;refine wpList_append_lies _ rfl (.tmp 23) (.tmp 24) 31 rfl B 3 i0 _ 1 8 Tryz.underlying31 HI.out H0.out H1.out H2.out rfl (by decide) _ _ _ rfl al ⟨vb,0,none⟩ 1 1 vs rfl (by rw[lV]) et.out h1 (by decide) (by unfold maxLen;omega) (by omega) hB w.heap.size rfl ?_;intro g2 mm w2 aR bR dM oH)
  go_ret
  refine⟨g2,mm,rfl,aR,Kb.dz bR, ?_⟩
  intro b hb
  simp only[Value.ownBlock,Option.some.injEq]at hb
  subst hb
  rcases dM with h | h
  · exact .inl h
  · exact .inr (by omega)
 | some ad=>
  by_cases DB:rc=n
  · have UR:(rc=n)=True:=by simp[DB]
    go_wp2_with (at_builtin;refine wpList_append_lies _ rfl (.tmp 23) (.tmp 24) 31 rfl B 3 i0 _ 1 8 Tryz.underlying31 HI.out H0.out H1.out H2.out rfl (by decide) _ _ _ rfl al ⟨vb,0,none⟩ 1 1 vs rfl (by rw[lV]) et.out h1 (by decide) (by unfold maxLen;omega) (by omega) hB w.heap.size rfl ?_;intro g2 mm w2 aR bR dM oH)
    go_ret
    refine⟨g2,mm,rfl,aR,Kb.dz bR, ?_⟩
    intro b hb
    simp only[Value.ownBlock,Option.some.injEq]at hb
    subst hb
    rcases dM with h | h
    · exact .inl h
    · exact .inr (by omega)
  · have UR:(rc=n)=False:=by simp[DB]
    go_wp2_with (at_builtin;refine wpList_append_lies _ rfl (.tmp 23) (.tmp 24) 31 rfl B 3 i0 _ 1 8 Tryz.underlying31 HI.out H0.out H1.out H2.out rfl (by decide) _ _ _ rfl al ⟨vb,0,none⟩ 1 1 vs rfl (by rw[lV]) et.out h1 (by decide) (by unfold maxLen;omega) (by omega) hB w.heap.size rfl ?_;intro g2 mm w2 aR bR dM oH)
    go_ret
    refine⟨g2,mm,rfl,aR,Kb.dz bR, ?_⟩
    intro b hb
    simp only[Value.ownBlock,Option.some.injEq]at hb
    subst hb
    rcases dM with h | h
    · exact .inl h
    · exact .inr (by omega)
theorem Fa(w:World)(B g n c i vb:Nat)(xs vs:List Value)(al:w.ownsRow B 119 3 (.slice (some ⟨g,0,none⟩) n c) n xs)(hi:i<n)(kQ:n+1≤c)(hn:n≤1000000)(p8:∀u∈xs,u.oneCell'=true)
 (lV:vs.length=3)(tY:w.heap[vb]?=some (.cells vs.toArray 119 (0,0)))(cA:vb≠g)(h1:∀u∈vs,u.oneCell'=true):
 Calls Tryz.prog 245 #[.slice (some ⟨g,0,none⟩) n c,.int .i64 i,.slice (some ⟨vb,0,none⟩) 1 1] w fun e w'=>e=.returned (.slice (some ⟨g,0,none⟩) (n+1) c)∧w'.ownsRow B 119 3 (.slice (some ⟨g,0,none⟩) (n+1) c) (n+1) (xs.take (i*3)++vs++xs.drop (i*3))∧Kb [g] w w':=by
 have ix:=al
 obtain⟨nR,aR⟩:=al
 rcases aR with⟨e1,e2⟩ | ⟨g',cap,cur,e1,OJ,hg,DB,Ci,bH,sK⟩
 · simp at e1
 simp only[Value.slice.injEq,Option.some.injEq,Addr.mk.injEq]at e1
 obtain⟨⟨rfl,_⟩,_,rfl⟩:=e1
 have acL:c≤9223372036854775807:=by unfold maxLen at Ci;omega
 have dX:¬((i:Int)=(n:Int)):=by omega
 have cE:(Tryz.prog.info? 119).map (·.size)=some 3:=by
  obtain⟨i0,jy,h0,h1',h2⟩:=info_parts Tryz.rB
  rw[jy];simp[h1']
 have Xd:∀(o:Nat) lb cb,(callFunc 272 #[.slice (some ⟨vb,0,none⟩) 1 1,.slice (some ⟨g,o,none⟩) lb cb]).run Tryz.prog w=.ok (.value (.bool false)) w:=fun o lb cb=>by
  rw[run_callFunc_extern Tryz.func272 (by kernel_rfl) (by kernel_rfl) (by kernel_rfl) (e:=Extern.SlicesOverlaps.overlaps #[113,113] #[4]) (by kernel_rfl),
   Lib.run_overlaps_apart w 113 4 119 Tryz.underlying113 3 Tryz.sizeOf119 ⟨vb,0,none⟩ ⟨g,o,none⟩ 1 1 lb cb cA 119 119 3 cur.size (by simp[World.shape?,tY,lV]) (by simp[World.shape?,hg]) (by rw[bH];omega) (by simp[World.frozen?,tY]) (by simp[World.frozen?,tY])]
  rfl
 have hHO:Hid (∀(o:Nat) lb cb,(callFunc 272 #[.slice (some ⟨vb,0,none⟩) 1 1,.slice (some ⟨g,o,none⟩) lb cb]).run Tryz.prog w=.ok (.value (.bool false)) w):=Xd
 have acX:i≤n:=by omega
 have jG:=Ak cur.toList vs (i*3) 3 ((n-i)*3) lV (by rw[Array.length_toList,bH];omega)
 obtain⟨tH,qy⟩:=jG
 have Nz:cur.toList.take (i*3+(n-i)*3)=xs:=by rw[←sK];congr 1;omega
 rw[Nz]at tH qy
 have xH:(xs.drop (i*3)).length=(n-i)*3:=by rw[List.length_drop,nR];omega
 have dI:∀(b o j:Nat),(⟨b,o,none⟩:Addr).add j=⟨b,o+j,none⟩:=by intro b o j;unfold Addr.add;split<;>simp_all
 have dg:∀(j:Nat) u,xs[j]?=some u→w.cell? ⟨g,j,none⟩=some u:=fun j u hj=>by
  have:=World.ownsRow.cells ix (g:=g) rfl j u hj
  rw[dI]at this
  simpa using this
 obtain⟨W1,sC⟩:∃W1,W1=w.drew.setRow g (cur.toList.take (i*3+3)++xs.drop (i*3)++cur.toList.drop (i*3+3+(xs.drop (i*3)).length)).toArray:=⟨_,rfl⟩
 have FX:∀ty dc sc,(Builtin.copy_ #[113,113] ty #[.slice (some ⟨g,(i+1)*3,none⟩) (n-i) dc,.slice (some ⟨g,i*3,none⟩) (n+1-i) sc]).run Tryz.prog w.drew=.ok (goInt ((n-i:Nat):Int)) W1:=fun ty dc sc=>by
  rw[sC,show(i+1)*3=i*3+3 by omega]
  exact dF Tryz.prog w.drew _ _ ty 119 g (i*3+3) (n-i) dc ⟨g,i*3,none⟩ (n+1-i) sc cur 119 (xs.drop (i*3)) 3 (n-i) Tryz.underlying113 cE hg (by simp only[Nat.min_def];split<;>omega) xH
   (fun j v hj=>by rw[dI];exact dg _ _ (by rwa [List.getElem?_drop]at hj))
   (by rw[xH,bH];omega) (fun v hv=>p8 v (List.mem_of_mem_drop hv))
 have Bu:W1.heap[g]?=some (.cells (cur.toList.take (i*3+3)++xs.drop (i*3)++cur.toList.drop (i*3+3+(xs.drop (i*3)).length)).toArray 119 (0,0)):=by rw[sC];exact bt w.drew g _ hg
 have Oi:W1.heap[vb]?=some (.cells vs.toArray 119 (0,0)):=by rw[sC,dR _ _ _ _ cA];exact tY
 have BS:Kb [g] w W1:=by rw[sC];exact((Kb.refl [g] w).drew).trans (Kb.setRow w.drew g _)
 obtain⟨L1,ti⟩:∃L1:List Value,L1=cur.toList.take (i*3+3)++xs.drop (i*3)++cur.toList.drop (i*3+3+(xs.drop (i*3)).length):=⟨_,rfl⟩
 rw[←ti]at Bu tH qy
 have wX:L1.length=cur.size:=by rw[ti];simp only[List.length_append,List.length_take,List.length_drop,Array.length_toList,xH,bH];omega
 obtain⟨W2,tz⟩:∃W2,W2=W1.setRow g (L1.take (i*3)++vs++L1.drop (i*3+vs.length)).toArray:=⟨_,rfl⟩
 have F5:∀ty dc,(Builtin.copy_ #[113,113] ty #[.slice (some ⟨g,i*3,none⟩) (n+1-i) dc,.slice (some ⟨vb,0,none⟩) 1 1]).run Tryz.prog W1=.ok (goInt 1) W2:=fun ty dc=>by
  rw[tz]
  have:=dF Tryz.prog W1 113 113 ty 119 g (i*3) (n+1-i) dc ⟨vb,0,none⟩ 1 1 L1.toArray 119 vs 3 1 Tryz.underlying113 cE Bu (by simp only[Nat.min_def];split<;>omega) (by rw[lV])
   (fun j v hj=>by rw[dI,Nat.zero_add,cell_of_row _ vb j _ _ _ Oi];simpa using hj)
   (by rw[lV,List.size_toArray,wX,bH];omega) h1
  simpa using this
 have Un:W2.ownsRow B 119 3 (.slice (some ⟨g,0,none⟩) (n+1) c) (n+1) (xs.take (i*3)++vs++xs.drop (i*3)):=by
  refine⟨by simp only[List.length_append,List.length_take,nR,lV,xH];rw[Nat.min_eq_left (by omega)];omega,.inr ⟨g,c,(L1.take (i*3)++vs++L1.drop (i*3+vs.length)).toArray,rfl,OJ, ?_,kQ,Ci, ?_, ?_⟩⟩
  · rw[tz];exact bt W1 g _ Bu
  · rw[List.size_toArray];rw[tH,Array.length_toList,bH]
  · show List.take _ (L1.take (i*3)++vs++L1.drop (i*3+vs.length))=_
    rw[show(n+1)*3=i*3+3+(n-i)*3 by omega,qy]
    congr 2
    rw[←sK,List.take_take]
    congr 1;omega
 have O2:Kb [g] w W2:=by rw[tz];exact BS.trans (Kb.setRow W1 g _)
 have sL:IntKind.i64.wrap ((i:Int)+1)=(i:Int)+1:=by rw[IntKind.wrap_i64];omega
 have a8:(0:Int)≤(i:Int)+1:=by omega
 have wV:((i:Int)+1).toNat=i+1:=by omega
 have cM:¬(c=i+1):=by omega
 have eA:(i:Int)≤(n:Int)+1:=by omega
 have kW:¬(c=i):=by omega
 clear tH qy Nz sK cE ix lV h1 p8 bH hHO tY nR xH dI dg Bu Oi BS ti wX tz sC hg
 go_enter Tryz.func245,Tryz.ntmps245
 go_wp2_with (simp only[Xd])
 go_region_law (refine iY rfl _ _ 113 113 rfl _ _ (by simp[Act.eval,Act.put]) (by simp[Act.eval,Act.put]) (FX _ _ _) ?_)
 go_wp2_with (at_builtin;refine gh _ rfl _ _ 113 113 rfl _ _ rfl rfl (F5 _ _) ?_)
 go_ret
 exact⟨rfl,Un,O2⟩
theorem Gp(w:World)(B g n c i vb:Nat)(xs vs:List Value)(al:w.ownsRow B 3 1 (.slice (some ⟨g,0,none⟩) n c) n xs)(hi:i<n)(kQ:n+1≤c)(hn:n≤1000000)(p8:∀u∈xs,u.oneCell'=true)
 (lV:vs.length=1)(tY:w.heap[vb]?=some (.cells vs.toArray 3 (0,0)))(cA:vb≠g)(h1:∀u∈vs,u.oneCell'=true):
 Calls Tryz.prog 264 #[.slice (some ⟨g,0,none⟩) n c,.int .i64 i,.slice (some ⟨vb,0,none⟩) 1 1] w fun e w'=>e=.returned (.slice (some ⟨g,0,none⟩) (n+1) c)∧w'.ownsRow B 3 1 (.slice (some ⟨g,0,none⟩) (n+1) c) (n+1) (xs.take (i)++vs++xs.drop (i))∧Kb [g] w w':=by
 have ix:=al
 obtain⟨nR,aR⟩:=al
 rcases aR with⟨e1,e2⟩ | ⟨g',cap,cur,e1,OJ,hg,DB,Ci,bH,sK⟩
 · simp at e1
 simp only[Value.slice.injEq,Option.some.injEq,Addr.mk.injEq]at e1
 obtain⟨⟨rfl,_⟩,_,rfl⟩:=e1
 have acL:c≤9223372036854775807:=by unfold maxLen at Ci;omega
 have dX:¬((i:Int)=(n:Int)):=by omega
 have cE:(Tryz.prog.info? 3).map (·.size)=some 1:=by
  obtain⟨i0,jy,h0,h1',h2⟩:=info_parts Tryz.BR
  rw[jy];simp[h1']
 have Xd:∀(o:Nat) lb cb,(callFunc 284 #[.slice (some ⟨vb,0,none⟩) 1 1,.slice (some ⟨g,o,none⟩) lb cb]).run Tryz.prog w=.ok (.value (.bool false)) w:=fun o lb cb=>by
  rw[run_callFunc_extern Tryz.func284 (by kernel_rfl) (by kernel_rfl) (by kernel_rfl) (e:=Extern.SlicesOverlaps.overlaps #[31,31] #[4]) (by kernel_rfl),
   Lib.run_overlaps_apart w 31 4 3 Tryz.underlying31 1 Tryz.sizeOf3 ⟨vb,0,none⟩ ⟨g,o,none⟩ 1 1 lb cb cA 3 3 1 cur.size (by simp[World.shape?,tY,lV]) (by simp[World.shape?,hg]) (by rw[bH];omega) (by simp[World.frozen?,tY]) (by simp[World.frozen?,tY])]
  rfl
 have hHO:Hid (∀(o:Nat) lb cb,(callFunc 284 #[.slice (some ⟨vb,0,none⟩) 1 1,.slice (some ⟨g,o,none⟩) lb cb]).run Tryz.prog w=.ok (.value (.bool false)) w):=Xd
 have acX:i≤n:=by omega
 have jG:=Ak cur.toList vs (i) 1 ((n-i)*1) lV (by rw[Array.length_toList,bH];omega)
 obtain⟨tH,qy⟩:=jG
 have Nz:cur.toList.take (i+(n-i)*1)=xs:=by rw[←sK];congr 1;omega
 rw[Nz]at tH qy
 have xH:(xs.drop (i)).length=(n-i)*1:=by rw[List.length_drop,nR];omega
 have dI:∀(b o j:Nat),(⟨b,o,none⟩:Addr).add j=⟨b,o+j,none⟩:=by intro b o j;unfold Addr.add;split<;>simp_all
 have dg:∀(j:Nat) u,xs[j]?=some u→w.cell? ⟨g,j,none⟩=some u:=fun j u hj=>by
  have:=World.ownsRow.cells ix (g:=g) rfl j u hj
  rw[dI]at this
  simpa using this
 obtain⟨W1,sC⟩:∃W1,W1=w.drew.setRow g (cur.toList.take (i+1)++xs.drop (i)++cur.toList.drop (i+1+(xs.drop (i)).length)).toArray:=⟨_,rfl⟩
 have FX:∀ty dc sc,(Builtin.copy_ #[31,31] ty #[.slice (some ⟨g,i+1,none⟩) (n-i) dc,.slice (some ⟨g,i,none⟩) (n+1-i) sc]).run Tryz.prog w.drew=.ok (goInt ((n-i:Nat):Int)) W1:=fun ty dc sc=>by
  rw[sC,show i+1=i+1 by omega]
  exact dF Tryz.prog w.drew _ _ ty 3 g (i+1) (n-i) dc ⟨g,i,none⟩ (n+1-i) sc cur 3 (xs.drop (i)) 1 (n-i) Tryz.underlying31 cE hg (by simp only[Nat.min_def];split<;>omega) xH
   (fun j v hj=>by rw[dI];exact dg _ _ (by rwa [List.getElem?_drop]at hj))
   (by rw[xH,bH];omega) (fun v hv=>p8 v (List.mem_of_mem_drop hv))
 have Bu:W1.heap[g]?=some (.cells (cur.toList.take (i+1)++xs.drop (i)++cur.toList.drop (i+1+(xs.drop (i)).length)).toArray 3 (0,0)):=by rw[sC];exact bt w.drew g _ hg
 have Oi:W1.heap[vb]?=some (.cells vs.toArray 3 (0,0)):=by rw[sC,dR _ _ _ _ cA];exact tY
 have BS:Kb [g] w W1:=by rw[sC];exact((Kb.refl [g] w).drew).trans (Kb.setRow w.drew g _)
 obtain⟨L1,ti⟩:∃L1:List Value,L1=cur.toList.take (i+1)++xs.drop (i)++cur.toList.drop (i+1+(xs.drop (i)).length):=⟨_,rfl⟩
 rw[←ti]at Bu tH qy
 have wX:L1.length=cur.size:=by rw[ti];simp only[List.length_append,List.length_take,List.length_drop,Array.length_toList,xH,bH];omega
 obtain⟨W2,tz⟩:∃W2,W2=W1.setRow g (L1.take (i)++vs++L1.drop (i+vs.length)).toArray:=⟨_,rfl⟩
 have F5:∀ty dc,(Builtin.copy_ #[31,31] ty #[.slice (some ⟨g,i,none⟩) (n+1-i) dc,.slice (some ⟨vb,0,none⟩) 1 1]).run Tryz.prog W1=.ok (goInt 1) W2:=fun ty dc=>by
  rw[tz]
  have:=dF Tryz.prog W1 31 31 ty 3 g (i) (n+1-i) dc ⟨vb,0,none⟩ 1 1 L1.toArray 3 vs 1 1 Tryz.underlying31 cE Bu (by simp only[Nat.min_def];split<;>omega) (by rw[lV])
   (fun j v hj=>by rw[dI,Nat.zero_add,cell_of_row _ vb j _ _ _ Oi];simpa using hj)
   (by rw[lV,List.size_toArray,wX,bH];omega) h1
  simpa using this
 have Un:W2.ownsRow B 3 1 (.slice (some ⟨g,0,none⟩) (n+1) c) (n+1) (xs.take (i)++vs++xs.drop (i)):=by
  refine⟨by simp only[List.length_append,List.length_take,nR,lV,xH];rw[Nat.min_eq_left (by omega)];omega,.inr ⟨g,c,(L1.take (i)++vs++L1.drop (i+vs.length)).toArray,rfl,OJ, ?_,kQ,Ci, ?_, ?_⟩⟩
  · rw[tz];exact bt W1 g _ Bu
  · rw[List.size_toArray];rw[tH,Array.length_toList,bH]
  · show List.take _ (L1.take (i)++vs++L1.drop (i+vs.length))=_
    rw[show(n+1)*1=i+1+(n-i)*1 by omega,qy]
    congr 2
    rw[←sK,List.take_take]
    congr 1;omega
 have O2:Kb [g] w W2:=by rw[tz];exact BS.trans (Kb.setRow W1 g _)
 have sL:IntKind.i64.wrap ((i:Int)+1)=(i:Int)+1:=by rw[IntKind.wrap_i64];omega
 have a8:(0:Int)≤(i:Int)+1:=by omega
 have wV:((i:Int)+1).toNat=i+1:=by omega
 have cM:¬(c=i+1):=by omega
 have eA:(i:Int)≤(n:Int)+1:=by omega
 have kW:¬(c=i):=by omega
 clear tH qy Nz sK cE ix lV h1 p8 bH hHO tY nR xH dI dg Bu Oi BS ti wX tz sC hg
 go_enter Tryz.func264,Tryz.ntmps264
 go_wp2_with (simp only[Xd])
 go_region_law (refine iY rfl _ _ 31 31 rfl _ _ (by simp[Act.eval,Act.put]) (by simp[Act.eval,Act.put]) (FX _ _ _) ?_)
 go_wp2_with (at_builtin;refine gh _ rfl _ _ 31 31 rfl _ _ rfl rfl (F5 _ _) ?_)
 go_ret
 exact⟨rfl,Un,O2⟩
end
end Go.Proofs.YtdmicblafmhflaaGreatDoor
