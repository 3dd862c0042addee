/- slices.Insert where there is no room. -/
import Derived.Test.YtdmicblafmhflaaGreatDoorC16
import Derived.Test.YtdmicblafmhflaaGreatDoorC15
set_option linter.unusedSimpArgs false
set_option linter.unusedVariables false
set_option maxHeartbeats 4000000
set_option maxRecDepth 100000
namespace Go.Proofs.YtdmicblafmhflaaGreatDoor
section
open Go.RowKit
theorem FP(w:World)(B g n c i vb:Nat)(xs vs:List Value)(au:w.ownsRow B 119 3 (.slice (some ⟨g,0,none⟩) n c) n xs)(hB:B≤w.heap.size)(hi:i<n)(kQ:c<n+1)(hn:n≤1000000)(lS:∀u∈xs,u.oneCell'=true)
 (lQ:vs.length=3)(tT:w.heap[vb]?=some (.cells vs.toArray 119 (0,0)))(h1:∀u∈vs,u.oneCell'=true):
 Calls Tryz.prog 245 #[.slice (some ⟨g,0,none⟩) n c,.int .i64 i,.slice (some ⟨vb,0,none⟩) 1 1] w fun e w'=>∃cap,e=.returned (.slice (some ⟨w.heap.size,0,none⟩) (n+1) cap)∧w'.ownsRow B 119 3 (.slice (some ⟨w.heap.size,0,none⟩) (n+1) cap) (n+1) (xs.take (i*3)++vs++xs.drop (i*3))∧Kb [] w w':=by
 have ig:=au
 obtain⟨oP,aP⟩:=au
 rcases aP with⟨e1,e2⟩ | ⟨g',cap,cur,e1,OZ,hg,DN,yG,br,sN⟩
 · simp at e1
 simp only[Value.slice.injEq,Option.some.injEq,Addr.mk.injEq]at e1
 obtain⟨⟨rfl,_⟩,_,rfl⟩:=e1
 obtain⟨i0,jS,ew,uA,TJ⟩:=info_parts Tryz.rY
 have dY:¬((i:Int)=(n:Int)):=by omega
 have hz3:(c:Int)<(n:Int)+1:=by omega
 have cR:(Tryz.prog.info? 119).map (·.size)=some 3:=by rw[jS];simp[uA]
 have Zv:g<w.heap.size:=(Array.getElem?_eq_some_iff.1 hg).1
 have VU:vb<w.heap.size:=(Array.getElem?_eq_some_iff.1 tT).1
 have ef:∀(b o j:Nat),(⟨b,o,none⟩:Addr).add j=⟨b,o+j,none⟩:=by intro b o j;unfold Addr.add;split<;>simp_all
 have dk:∀(j:Nat) u,xs[j]?=some u→w.cell? ⟨g,j,none⟩=some u:=fun j u hj=>by
  have:=World.ownsRow.cells ig (g:=g) rfl j u hj
  rw[ef]at this
  simpa using this
 have x7:(xs.take (i*3)).length=i*3:=by rw[List.length_take,oP];omega
 have vZ:(xs.drop (i*3)).length=(n-i)*3:=by rw[List.length_drop,oP];omega
 have hold:(Builtin.firstCells i0.size i (.slice (some ⟨g,0,none⟩) i c)).run Tryz.prog w.drew=.ok (xs.take (i*3)).toArray w.drew:=by
  rw[uA]
  exact run_firstCells_some w.drew 3 i ⟨g,0,none⟩ i c (xs.take (i*3)) x7 (fun j v hj=>by
   rw[ef,Nat.zero_add]
   rw[List.getElem?_take]at hj
   split at hj
   · exact dk j v hj
   · cases hj)
 have YC:(n:Int)+1-(i:Int)=((n+1-i:Nat):Int):=by omega
 have Ud:i+(n+1-i)=n+1:=by omega
 obtain⟨G,hG⟩:∃G,G=grownCap w (n+1) c 119:=⟨_,rfl⟩
 obtain⟨uO,BK⟩:∃uO:Array Value,uO=(xs.take (i*3)).toArray++Builtin.zeroCells (Value.cells (.agg #[.string ByteArray.empty,.string ByteArray.empty,.string ByteArray.empty])) (n+1-i)++Builtin.zeroCells (Value.cells (.agg #[.string ByteArray.empty,.string ByteArray.empty,.string ByteArray.empty])) (G-(n+1)):=⟨_,rfl⟩
 have P4:n+1≤G:=by rw[hG];exact grownCap_ge w _ _ _
 have WX:G≤maxLen:=by rw[hG];exact grownCap_le_maxLen w (n+1) c 119 (by unfold maxLen;omega)
 have ON:uO.size=G*3:=by
  rw[BK]
  simp only[Array.size_append,List.size_toArray,x7,size_zeroCells]
  have:(Value.cells (.agg #[.string ByteArray.empty,.string ByteArray.empty,.string ByteArray.empty])).size=3:=rfl
  rw[this]
  omega
 have Xm:uO.toList.take (i*3)=xs.take (i*3):=by
  rw[BK]
  simp only[Array.toList_append,List.append_assoc]
  exact List.take_left' (by rw[x7])
 have Y2:∀ty,(Builtin.append_ #[113,3] ty #[.slice (some ⟨g,0,none⟩) i c,.int .i64 ((n:Int)+1-(i:Int))]).run Tryz.prog w=.ok (.slice (some ⟨w.heap.size,0,none⟩) (n+1) G) (w.drew.alloc (.cells uO 119)):=fun ty=>by
  have h:=Lib.run_append_grow_zeros w 113 3 ty 119 i0 _ .i64 .i64 Tryz.underlying113 Tryz.underlying3 jS ew (some ⟨g,0,none⟩) i c (xs.take (i*3)) hold (n+1-i) (by omega) (by rw[uA];decide) (by omega) (by omega) (by rw[TJ];omega) (by rw[TJ,Ud];exact growslice_fits kQ (by omega))
  rw[Ud,←hG,←BK]at h
  rw[YC]
  exact h
 obtain⟨W1,rL⟩:∃W1,W1=w.drew.alloc (.cells uO 119):=⟨_,rfl⟩
 rw[←rL]at Y2
 have Gd:W1.heap[w.heap.size]?=some (.cells uO 119 (0,0)):=by rw[rL];exact heap_alloc_new w.drew _
 have FV:∀k o,w.heap[k]?=some o→W1.heap[k]?=some o:=fun k o h=>by
  rw[rL]
  have:=Below.heap_alloc w.drew (.cells uO 119) k (Array.getElem?_eq_some_iff.1 h).1
  rw[this]
  exact h
 have aa5:g≠w.heap.size:=by omega
 have aaE:vb≠w.heap.size:=by omega
 obtain⟨L1,s5⟩:∃L1:List Value,L1=uO.toList.take (i*3)++vs++uO.toList.drop (i*3+vs.length):=⟨_,rfl⟩
 obtain⟨W2,s6⟩:∃W2,W2=W1.setRow w.heap.size L1.toArray:=⟨_,rfl⟩
 have Gp:∀ty dc,(Builtin.copy_ #[113,113] ty #[.slice (some ⟨w.heap.size,i*3,none⟩) (n+1-i) dc,.slice (some ⟨vb,0,none⟩) 1 1]).run Tryz.prog W1=.ok (goInt 1) W2:=fun ty dc=>by
  rw[s6,s5]
  have:=dL Tryz.prog W1 113 113 ty 119 w.heap.size (i*3) (n+1-i) dc ⟨vb,0,none⟩ 1 1 uO 119 vs 3 1 Tryz.underlying113 cR Gd (by simp only[Nat.min_def];split<;>omega) (by rw[lQ])
   (fun j v hj=>by rw[ef,Nat.zero_add,cell_of_row _ vb j _ _ _ (FV _ _ tT)];simpa using hj)
   (by rw[lQ,ON];omega) h1
  simpa using this
 have Fx:W2.heap[w.heap.size]?=some (.cells L1.toArray 119 (0,0)):=by rw[s6];exact bz W1 _ _ Gd
 have L5:∀k o,w.heap[k]?=some o→W2.heap[k]?=some o:=fun k o h=>by
  have:k≠w.heap.size:=by have:=(Array.getElem?_eq_some_iff.1 h).1;omega
  rw[s6,eu _ _ _ _ this]
  exact FV k o h
 have xG:L1.length=G*3:=by rw[s5];simp only[List.length_append,List.length_take,List.length_drop,Array.length_toList,ON,lQ];omega
 obtain⟨vU,s9⟩:=wT uO.toList vs (xs.drop (i*3)) (i*3) 3 ((n-i)*3) lQ vZ (by rw[Array.length_toList,ON];omega)
 rw[←s5]at vU s9
 obtain⟨W3,Rl⟩:∃W3,W3=W2.drew.setRow w.heap.size (L1.take (i*3+3)++xs.drop (i*3)++L1.drop (i*3+3+(xs.drop (i*3)).length)).toArray:=⟨_,rfl⟩
 have Gl:∀ty dc sc,(Builtin.copy_ #[113,113] ty #[.slice (some ⟨w.heap.size,(i+1)*3,none⟩) (n-i) dc,.slice (some ⟨g,i*3,none⟩) (n-i) sc]).run Tryz.prog W2.drew=.ok (goInt ((n-i:Nat):Int)) W3:=fun ty dc sc=>by
  rw[Rl,show(i+1)*3=i*3+3 by omega]
  have:=dL Tryz.prog W2.drew 113 113 ty 119 w.heap.size (i*3+3) (n-i) dc ⟨g,i*3,none⟩ (n-i) sc L1.toArray 119 (xs.drop (i*3)) 3 (n-i) Tryz.underlying113 cR Fx (by simp only[Nat.min_def];split<;>omega) vZ
   (fun j v hj=>by
     rw[ef]
     have e:=dk (i*3+j) v (by rwa [List.getElem?_drop]at hj)
     rw[cell_of_row _ g _ _ _ _ hg]at e
     have e2:W2.drew.heap[g]?=some (.cells cur 119 (0,0)):=L5 _ _ hg
     rw[cell_of_row _ g _ _ _ _ e2]
     exact e)
   (by rw[List.size_toArray,xG,vZ];omega) (fun v hv=>lS v (List.mem_of_mem_drop hv))
  simpa using this
 have nS:W3.ownsRow B 119 3 (.slice (some ⟨w.heap.size,0,none⟩) (n+1) G) (n+1) (xs.take (i*3)++vs++xs.drop (i*3)):=by
  refine⟨by simp only[List.length_append,x7,lQ,vZ];omega,.inr ⟨w.heap.size,G,(L1.take (i*3+3)++xs.drop (i*3)++L1.drop (i*3+3+(xs.drop (i*3)).length)).toArray,rfl,hB, ?_,P4,WX, ?_, ?_⟩⟩
  · rw[Rl];exact bz W2.drew _ _ Fx
  · rw[List.size_toArray,vU,Array.length_toList,ON]
  · show List.take _ (L1.take (i*3+3)++xs.drop (i*3)++L1.drop (i*3+3+(xs.drop (i*3)).length))=_
    rw[show(n+1)*3=i*3+3+(n-i)*3 by omega,s9,Xm]
 have fK:Kb [] w W3:=by
  rw[Rl,s6,rL]
  exact(((((Kb.refl [] w).drew).alloc _).trans' (Kb.setRow _ _ _) (fun k hk aG=>by simp at hk;omega)).drew).trans' (Kb.setRow _ _ _) (fun k hk aG=>by simp at hk;omega)
 have qa:IntKind.i64.wrap ((i:Int)+1)=(i:Int)+1:=by rw[IntKind.wrap_i64];omega
 have bq:(0:Int)≤(i:Int)+1:=by omega
 have Rx:((i:Int)+1).toNat=i+1:=by omega
 have cw:¬(G=i+1):=by omega
 have qX:¬(G=i):=by omega
 have mN:¬(c=i):=by omega
 have adL:G≤9223372036854775807:=by unfold maxLen at WX;omega
 have dS:i≤n:=by omega
 have Jk:(i:Int)≤(n:Int)+1:=by omega
 clear vU s9 sN cR ig lQ h1 lS br tT oP vZ ef dk Gd FV s5 xG s6 rL hg hold x7 jS ew uA TJ Fx L5 Rl BK ON Xm hG YC Ud
 go_enter Tryz.func245,Tryz.ntmps245
 go_wp2_with (first | (at_builtin;refine kR _ rfl _ _ 113 3 rfl _ _ rfl rfl (Y2 _) ?_) | (at_builtin;refine gA _ rfl _ _ 113 113 rfl _ _ rfl rfl (Gp _ _) ?_))
 go_region_law (refine jg rfl _ _ 113 113 rfl _ _ (by simp[Act.eval,Act.put]) (by simp[Act.eval,Act.put]) (Gl _ _ _) ?_)
 go_wp2_with fail
 go_ret
 exact⟨G,rfl,nS,fK⟩
theorem yV(w:World)(B:Nat)(rd:Option Addr)(rc n i vb:Nat)(xs vs:List Value)(au:w.ownsRow B 119 3 (.slice rd n rc) n xs)(hB:B≤w.heap.size)(hi:i≤n)(hn:n≤1000000)(lS:∀u∈xs,u.oneCell'=true)
 (lQ:vs.length=3)(tT:w.heap[vb]?=some (.cells vs.toArray 119 (0,0)))(cE:some vb≠Value.ownBlock (.slice rd n rc))(h1:∀u∈vs,u.oneCell'=true):
 Calls Tryz.prog 245 #[.slice rd n rc,.int .i64 i,.slice (some ⟨vb,0,none⟩) 1 1] w fun e w'=>∃g cap,e=.returned (.slice (some ⟨g,0,none⟩) (n+1) cap)∧w'.ownsRow B 119 3 (.slice (some ⟨g,0,none⟩) (n+1) cap) (n+1) (xs.take (i*3)++vs++xs.drop (i*3))∧Kb (Value.ownBlock (.slice rd n rc)).toList w w'∧cr w (.slice rd n rc) (.slice (some ⟨g,0,none⟩) (n+1) cap):=by
 by_cases dS:i=n
 · subst dS
   have LC:∀(j:Nat) u,vs[j]?=some u→w.cell? ⟨vb,j,none⟩=some u:=fun j u hj=>by rw[cell_of_row _ vb j _ _ _ tT];simpa using hj
   refine(JL w B rd rc i xs vs vb au hB hn lQ LC h1).mono ?_
   rintro e w' ⟨g,cap,rfl,h2,h3,h4⟩
   have e1:xs.take (i*3)=xs:=List.take_of_length_le (by rw[au.1];omega)
   have e2:xs.drop (i*3)=[]:=List.drop_of_length_le (by rw[au.1];omega)
   exact⟨g,cap,rfl,by rw[e1,e2,List.append_nil];exact h2,h3,h4⟩
 · have rZ:∃g,rd=some ⟨g,0,none⟩:=by
    rcases au.2 with⟨_,e2⟩ | ⟨g,cap,cur,e1,_⟩
    · omega
    · simp only[Value.slice.injEq]at e1
      exact⟨g,e1.1⟩
   obtain⟨g,rfl⟩:=rZ
   have T9:vb≠g:=fun e=>cE (by rw[e];rfl)
   by_cases hr:n+1≤rc
   · refine(EZ w B g n rc i vb xs vs au (by omega) hr hn lS lQ tT T9 h1).mono ?_
     rintro e w' ⟨rfl,h2,h3⟩
     exact⟨g,rc,rfl,h2,h3,fun b hb=>.inl hb⟩
   · refine(FP w B g n rc i vb xs vs au hB (by omega) (by omega) hn lS lQ tT h1).mono ?_
     rintro e w' ⟨cap,rfl,h2,h3⟩
     refine⟨w.heap.size,cap,rfl,h2,h3.mono (fun k hk=>by cases hk), ?_⟩
     intro b hb
     simp only[Value.ownBlock,Option.some.injEq]at hb
     exact .inr (by omega)
theorem Fe(w:World)(B g n c i vb:Nat)(xs vs:List Value)(au:w.ownsRow B 3 1 (.slice (some ⟨g,0,none⟩) n c) n xs)(hB:B≤w.heap.size)(hi:i<n)(kQ:c<n+1)(hn:n≤1000000)(lS:∀u∈xs,u.oneCell'=true)
 (lQ:vs.length=1)(tT:w.heap[vb]?=some (.cells vs.toArray 3 (0,0)))(h1:∀u∈vs,u.oneCell'=true):
 Calls Tryz.prog 264 #[.slice (some ⟨g,0,none⟩) n c,.int .i64 i,.slice (some ⟨vb,0,none⟩) 1 1] w fun e w'=>∃cap,e=.returned (.slice (some ⟨w.heap.size,0,none⟩) (n+1) cap)∧w'.ownsRow B 3 1 (.slice (some ⟨w.heap.size,0,none⟩) (n+1) cap) (n+1) (xs.take (i)++vs++xs.drop (i))∧Kb [] w w':=by
 have ig:=au
 obtain⟨oP,aP⟩:=au
 rcases aP with⟨e1,e2⟩ | ⟨g',cap,cur,e1,OZ,hg,DN,yG,br,sN⟩
 · simp at e1
 simp only[Value.slice.injEq,Option.some.injEq,Addr.mk.injEq]at e1
 obtain⟨⟨rfl,_⟩,_,rfl⟩:=e1
 obtain⟨i0,jS,ew,uA,TJ⟩:=info_parts Tryz.Bd
 have dY:¬((i:Int)=(n:Int)):=by omega
 have hz3:(c:Int)<(n:Int)+1:=by omega
 have cR:(Tryz.prog.info? 3).map (·.size)=some 1:=by rw[jS];simp[uA]
 have Zv:g<w.heap.size:=(Array.getElem?_eq_some_iff.1 hg).1
 have VU:vb<w.heap.size:=(Array.getElem?_eq_some_iff.1 tT).1
 have ef:∀(b o j:Nat),(⟨b,o,none⟩:Addr).add j=⟨b,o+j,none⟩:=by intro b o j;unfold Addr.add;split<;>simp_all
 have dk:∀(j:Nat) u,xs[j]?=some u→w.cell? ⟨g,j,none⟩=some u:=fun j u hj=>by
  have:=World.ownsRow.cells ig (g:=g) rfl j u hj
  rw[ef]at this
  simpa using this
 have x7:(xs.take (i)).length=i*1:=by rw[List.length_take,oP];omega
 have vZ:(xs.drop (i)).length=(n-i)*1:=by rw[List.length_drop,oP];omega
 have hold:(Builtin.firstCells i0.size i (.slice (some ⟨g,0,none⟩) i c)).run Tryz.prog w.drew=.ok (xs.take (i)).toArray w.drew:=by
  rw[uA]
  exact run_firstCells_some w.drew 1 i ⟨g,0,none⟩ i c (xs.take (i)) x7 (fun j v hj=>by
   rw[ef,Nat.zero_add]
   rw[List.getElem?_take]at hj
   split at hj
   · exact dk j v hj
   · cases hj)
 have YC:(n:Int)+1-(i:Int)=((n+1-i:Nat):Int):=by omega
 have Ud:i+(n+1-i)=n+1:=by omega
 obtain⟨G,hG⟩:∃G,G=grownCap w (n+1) c 3:=⟨_,rfl⟩
 obtain⟨uO,BK⟩:∃uO:Array Value,uO=(xs.take (i)).toArray++Builtin.zeroCells (Value.cells (.int .i64 0)) (n+1-i)++Builtin.zeroCells (Value.cells (.int .i64 0)) (G-(n+1)):=⟨_,rfl⟩
 have P4:n+1≤G:=by rw[hG];exact grownCap_ge w _ _ _
 have WX:G≤maxLen:=by rw[hG];exact grownCap_le_maxLen w (n+1) c 3 (by unfold maxLen;omega)
 have ON:uO.size=G*1:=by
  rw[BK]
  simp only[Array.size_append,List.size_toArray,x7,size_zeroCells]
  have:(Value.cells (.int .i64 0)).size=1:=rfl
  rw[this]
  omega
 have Xm:uO.toList.take (i)=xs.take (i):=by
  rw[BK]
  simp only[Array.toList_append,List.append_assoc]
  exact List.take_left' (by rw[x7];omega)
 have Y2:∀ty,(Builtin.append_ #[31,3] ty #[.slice (some ⟨g,0,none⟩) i c,.int .i64 ((n:Int)+1-(i:Int))]).run Tryz.prog w=.ok (.slice (some ⟨w.heap.size,0,none⟩) (n+1) G) (w.drew.alloc (.cells uO 3)):=fun ty=>by
  have h:=Lib.run_append_grow_zeros w 31 3 ty 3 i0 _ .i64 .i64 Tryz.underlying31 Tryz.underlying3 jS ew (some ⟨g,0,none⟩) i c (xs.take (i)) hold (n+1-i) (by omega) (by rw[uA];decide) (by omega) (by omega) (by rw[TJ];omega) (by rw[TJ,Ud];exact growslice_fits kQ (by omega))
  rw[Ud,←hG,←BK]at h
  rw[YC]
  exact h
 obtain⟨W1,rL⟩:∃W1,W1=w.drew.alloc (.cells uO 3):=⟨_,rfl⟩
 rw[←rL]at Y2
 have Gd:W1.heap[w.heap.size]?=some (.cells uO 3 (0,0)):=by rw[rL];exact heap_alloc_new w.drew _
 have FV:∀k o,w.heap[k]?=some o→W1.heap[k]?=some o:=fun k o h=>by
  rw[rL]
  have:=Below.heap_alloc w.drew (.cells uO 3) k (Array.getElem?_eq_some_iff.1 h).1
  rw[this]
  exact h
 have aa5:g≠w.heap.size:=by omega
 have aaE:vb≠w.heap.size:=by omega
 obtain⟨L1,s5⟩:∃L1:List Value,L1=uO.toList.take (i)++vs++uO.toList.drop (i+vs.length):=⟨_,rfl⟩
 obtain⟨W2,s6⟩:∃W2,W2=W1.setRow w.heap.size L1.toArray:=⟨_,rfl⟩
 have Gp:∀ty dc,(Builtin.copy_ #[31,31] ty #[.slice (some ⟨w.heap.size,i,none⟩) (n+1-i) dc,.slice (some ⟨vb,0,none⟩) 1 1]).run Tryz.prog W1=.ok (goInt 1) W2:=fun ty dc=>by
  rw[s6,s5]
  have:=dL Tryz.prog W1 31 31 ty 3 w.heap.size (i) (n+1-i) dc ⟨vb,0,none⟩ 1 1 uO 3 vs 1 1 Tryz.underlying31 cR Gd (by simp only[Nat.min_def];split<;>omega) (by rw[lQ])
   (fun j v hj=>by rw[ef,Nat.zero_add,cell_of_row _ vb j _ _ _ (FV _ _ tT)];simpa using hj)
   (by rw[lQ,ON];omega) h1
  simpa using this
 have Fx:W2.heap[w.heap.size]?=some (.cells L1.toArray 3 (0,0)):=by rw[s6];exact bz W1 _ _ Gd
 have L5:∀k o,w.heap[k]?=some o→W2.heap[k]?=some o:=fun k o h=>by
  have:k≠w.heap.size:=by have:=(Array.getElem?_eq_some_iff.1 h).1;omega
  rw[s6,eu _ _ _ _ this]
  exact FV k o h
 have xG:L1.length=G*1:=by rw[s5];simp only[List.length_append,List.length_take,List.length_drop,Array.length_toList,ON,lQ];omega
 obtain⟨vU,s9⟩:=wT uO.toList vs (xs.drop (i)) (i) 1 ((n-i)*1) lQ vZ (by rw[Array.length_toList,ON];omega)
 rw[←s5]at vU s9
 obtain⟨W3,Rl⟩:∃W3,W3=W2.drew.setRow w.heap.size (L1.take (i+1)++xs.drop (i)++L1.drop (i+1+(xs.drop (i)).length)).toArray:=⟨_,rfl⟩
 have Gl:∀ty dc sc,(Builtin.copy_ #[31,31] ty #[.slice (some ⟨w.heap.size,i+1,none⟩) (n-i) dc,.slice (some ⟨g,i,none⟩) (n-i) sc]).run Tryz.prog W2.drew=.ok (goInt ((n-i:Nat):Int)) W3:=fun ty dc sc=>by
  rw[Rl,show i+1=i+1 by omega]
  have:=dL Tryz.prog W2.drew 31 31 ty 3 w.heap.size (i+1) (n-i) dc ⟨g,i,none⟩ (n-i) sc L1.toArray 3 (xs.drop (i)) 1 (n-i) Tryz.underlying31 cR Fx (by simp only[Nat.min_def];split<;>omega) vZ
   (fun j v hj=>by
     rw[ef]
     have e:=dk (i+j) v (by rwa [List.getElem?_drop]at hj)
     rw[cell_of_row _ g _ _ _ _ hg]at e
     have e2:W2.drew.heap[g]?=some (.cells cur 3 (0,0)):=L5 _ _ hg
     rw[cell_of_row _ g _ _ _ _ e2]
     exact e)
   (by rw[List.size_toArray,xG,vZ];omega) (fun v hv=>lS v (List.mem_of_mem_drop hv))
  simpa using this
 have nS:W3.ownsRow B 3 1 (.slice (some ⟨w.heap.size,0,none⟩) (n+1) G) (n+1) (xs.take (i)++vs++xs.drop (i)):=by
  refine⟨by simp only[List.length_append,x7,lQ,vZ];omega,.inr ⟨w.heap.size,G,(L1.take (i+1)++xs.drop (i)++L1.drop (i+1+(xs.drop (i)).length)).toArray,rfl,hB, ?_,P4,WX, ?_, ?_⟩⟩
  · rw[Rl];exact bz W2.drew _ _ Fx
  · rw[List.size_toArray,vU,Array.length_toList,ON]
  · show List.take _ (L1.take (i+1)++xs.drop (i)++L1.drop (i+1+(xs.drop (i)).length))=_
    rw[show(n+1)*1=i+1+(n-i)*1 by omega,s9,Xm]
 have fK:Kb [] w W3:=by
  rw[Rl,s6,rL]
  exact(((((Kb.refl [] w).drew).alloc _).trans' (Kb.setRow _ _ _) (fun k hk aG=>by simp at hk;omega)).drew).trans' (Kb.setRow _ _ _) (fun k hk aG=>by simp at hk;omega)
 have qa:IntKind.i64.wrap ((i:Int)+1)=(i:Int)+1:=by rw[IntKind.wrap_i64];omega
 have bq:(0:Int)≤(i:Int)+1:=by omega
 have Rx:((i:Int)+1).toNat=i+1:=by omega
 have cw:¬(G=i+1):=by omega
 have qX:¬(G=i):=by omega
 have mN:¬(c=i):=by omega
 have adL:G≤9223372036854775807:=by unfold maxLen at WX;omega
 have dS:i≤n:=by omega
 have Jk:(i:Int)≤(n:Int)+1:=by omega
 clear vU s9 sN cR ig lQ h1 lS br tT oP vZ ef dk Gd FV s5 xG s6 rL hg hold x7 jS ew uA TJ Fx L5 Rl BK ON Xm hG YC Ud
 go_enter Tryz.func264,Tryz.ntmps264
 go_wp2_with (first | (at_builtin;refine kR _ rfl _ _ 31 3 rfl _ _ rfl rfl (Y2 _) ?_) | (at_builtin;refine gA _ rfl _ _ 31 31 rfl _ _ rfl rfl (Gp _ _) ?_))
 go_region_law (refine jg rfl _ _ 31 31 rfl _ _ (by simp[Act.eval,Act.put]) (by simp[Act.eval,Act.put]) (Gl _ _ _) ?_)
 go_wp2_with fail
 go_ret
 exact⟨G,rfl,nS,fK⟩
theorem yJ(w:World)(B:Nat)(rd:Option Addr)(rc n i vb:Nat)(xs vs:List Value)(au:w.ownsRow B 3 1 (.slice rd n rc) n xs)(hB:B≤w.heap.size)(hi:i≤n)(hn:n≤1000000)(lS:∀u∈xs,u.oneCell'=true)
 (lQ:vs.length=1)(tT:w.heap[vb]?=some (.cells vs.toArray 3 (0,0)))(cE:some vb≠Value.ownBlock (.slice rd n rc))(h1:∀u∈vs,u.oneCell'=true):
 Calls Tryz.prog 264 #[.slice rd n rc,.int .i64 i,.slice (some ⟨vb,0,none⟩) 1 1] w fun e w'=>∃g cap,e=.returned (.slice (some ⟨g,0,none⟩) (n+1) cap)∧w'.ownsRow B 3 1 (.slice (some ⟨g,0,none⟩) (n+1) cap) (n+1) (xs.take (i)++vs++xs.drop (i))∧Kb (Value.ownBlock (.slice rd n rc)).toList w w'∧cr w (.slice rd n rc) (.slice (some ⟨g,0,none⟩) (n+1) cap):=by
 by_cases dS:i=n
 · subst dS
   have LC:∀(j:Nat) u,vs[j]?=some u→w.cell? ⟨vb,j,none⟩=some u:=fun j u hj=>by rw[cell_of_row _ vb j _ _ _ tT];simpa using hj
   refine(Kc w B rd rc i xs vs vb au hB hn lQ LC h1).mono ?_
   rintro e w' ⟨g,cap,rfl,h2,h3,h4⟩
   have e1:xs.take (i)=xs:=List.take_of_length_le (by rw[au.1];omega)
   have e2:xs.drop (i)=[]:=List.drop_of_length_le (by rw[au.1];omega)
   exact⟨g,cap,rfl,by rw[e1,e2,List.append_nil];exact h2,h3,h4⟩
 · have rZ:∃g,rd=some ⟨g,0,none⟩:=by
    rcases au.2 with⟨_,e2⟩ | ⟨g,cap,cur,e1,_⟩
    · omega
    · simp only[Value.slice.injEq]at e1
      exact⟨g,e1.1⟩
   obtain⟨g,rfl⟩:=rZ
   have T9:vb≠g:=fun e=>cE (by rw[e];rfl)
   by_cases hr:n+1≤rc
   · refine(Gx w B g n rc i vb xs vs au (by omega) hr hn lS lQ tT T9 h1).mono ?_
     rintro e w' ⟨rfl,h2,h3⟩
     exact⟨g,rc,rfl,h2,h3,fun b hb=>.inl hb⟩
   · refine(Fe w B g n rc i vb xs vs au hB (by omega) (by omega) hn lS lQ tT h1).mono ?_
     rintro e w' ⟨cap,rfl,h2,h3⟩
     refine⟨w.heap.size,cap,rfl,h2,h3.mono (fun k hk=>by cases hk), ?_⟩
     intro b hb
     simp only[Value.ownBlock,Option.some.injEq]at hb
     exact .inr (by omega)
end
/- put: a fact's row into a table. -/
section
open Go.RowKit
open Go.Sort (grow)
structure bW(w:World)(g:Nat)(T:TypeId)(nm:ByteArray)(pl:Nat)(rd:Option Addr)(rc:Nat)(L:List (List ByteArray))(rest:List Value):Prop where
 cP:w.heap[g]?=some (.cells (Value.string nm:: .int .i64 pl:: .slice rd L.length rc::rest).toArray T (0,0))
 rows:kK w rd rc L
 ord:Tb.Ord L
 type:T≠119
theorem bW.below{w w':World}{g:Nat}{T:TypeId}{nm:ByteArray}{pl:Nat}{rd:Option Addr}{rc:Nat}{L:List (List ByteArray)}{rest:List Value}(h:bW w g T nm pl rd rc L rest)(hb:Below w.heap.size w w'):bW w' g T nm pl rd rc L rest:=
 ⟨by rw[hb.block g (lt_of_heap h.cP)];exact h.cP,h.rows.below hb,h.ord,h.type⟩
theorem bW.kept{w w':World}{S:List Nat}{g:Nat}{T:TypeId}{nm:ByteArray}{pl:Nat}{rd:Option Addr}{rc:Nat}{L:List (List ByteArray)}{rest:List Value}(h:bW w g T nm pl rd rc L rest)(hk:Kb S w w')(hg:¬g∈S)(hr:∀b,Value.ownBlock (.slice rd L.length rc)=some b→¬b∈S):bW w' g T nm pl rd rc L rest:=
 ⟨hk.heap h.cP hg,⟨h.rows.three,hk.row h.rows.own hr⟩,h.ord,h.type⟩
theorem bW.kz{w:World}{g:Nat}{T:TypeId}{nm:ByteArray}{pl:Nat}{rd:Option Addr}{rc:Nat}{L:List (List ByteArray)}{rest:List Value}(h:bW w g T nm pl rd rc L rest):w.cell? ⟨g,2,none⟩=some (.slice rd L.length rc)∧w.frozen? ⟨g,2,none⟩=false∧w.cell? ⟨g,1,none⟩=some (.int .i64 pl)∧w.cell? ⟨g,0,none⟩=some (.string nm):=by
 refine⟨?_, ?_, ?_, ?_⟩
 · rw[cell_of_row _ _ 2 _ _ _ h.cP];simp
 · simp[World.frozen?,h.cP]
 · rw[cell_of_row _ _ 1 _ _ _ h.cP];simp
 · rw[cell_of_row _ _ 0 _ _ _ h.cP];simp
theorem bW.apart{w:World}{g:Nat}{T:TypeId}{nm:ByteArray}{pl:Nat}{rd:Option Addr}{rc:Nat}{L:List (List ByteArray)}{rest:List Value}(h:bW w g T nm pl rd rc L rest):¬g∈(Value.ownBlock (.slice rd L.length rc)).toList:=by
 intro hc
 rcases h.rows.own.2 with⟨e,_⟩ | ⟨g',cap,cur,e,_,hg,_⟩
 · rw[e]at hc;simp[Value.ownBlock]at hc
 · rw[e]at hc
   simp only[Value.ownBlock,Option.toList_some,List.mem_singleton]at hc
   rw[←hc,h.cP]at hg
   simp only[Option.some.injEq,Obj.cells.injEq]at hg
   exact h.type hg.2.1
theorem aw(w:World){g:Nat}{cur:Array Value}{T:TypeId}{fr:Nat×Nat}(h:w.heap[g]?=some (.cells cur T fr))(o:Nat)(v:Value):(w.setCell ⟨g,o,none⟩ v).heap[g]?=some (.cells (cur.setIfInBounds o v) T fr):=by
 rw[setCell_eq_setRow w g o cur T fr v h]
 exact bz w g _ h
theorem Ji{w W w3:World}{g:Nat}{T:TypeId}{nm:ByteArray}{pl:Nat}{rd:Option Addr}{rc:Nat}{L:List (List ByteArray)}{rest:List Value}(h:bW w g T nm pl rd rc L rest)(hW:Below w.heap.size w W){a b c:ByteArray}
 (hni:Tb.jT L [a,b,c]=false){g' cap:Nat}
 (au:w3.ownsRow 0 119 3 (.slice (some ⟨g',0,none⟩) (L.length+1) cap) (L.length+1) ((aK L).take (Tb.pos L [a,b,c]*3)++[.string a,.string b,.string c]++(aK L).drop (Tb.pos L [a,b,c]*3)))
 (hk:Kb (Value.ownBlock (.slice rd L.length rc)).toList W w3)(hf:cr W (.slice rd L.length rc) (.slice (some ⟨g',0,none⟩) (L.length+1) cap)):
 bW (w3.setCell ⟨g,2,none⟩ (.slice (some ⟨g',0,none⟩) (L.length+1) cap)) g T nm pl (some ⟨g',0,none⟩) cap (Tb.put L [a,b,c]) rest∧(Tb.put L [a,b,c]).length=L.length+1∧
  Kb (g::(Value.ownBlock (.slice rd L.length rc)).toList) w (w3.setCell ⟨g,2,none⟩ (.slice (some ⟨g',0,none⟩) (L.length+1) cap))∧cr w (.slice rd L.length rc) (.slice (some ⟨g',0,none⟩) (L.length+1) cap):=by
 have iJ:¬[a,b,c]∈L:=fun hc=>by rw[Tb.dA.2 hc]at hni;cases hni
 have CZ:Tb.put L [a,b,c]=Tb.ins L [a,b,c]:=by unfold Tb.put;rw[hni];rfl
 have hlen:(Tb.put L [a,b,c]).length=L.length+1:=by
  rw[CZ]
  have:=Tb.qt L [a,b,c]
  simp only[Tb.ins,List.length_append,List.length_cons,List.length_take,List.length_drop]
  omega
 have Cd:=h.apart
 have hblk:w3.heap[g]?=_:=hk.heap (by rw[hW.block g (lt_of_heap h.cP)];exact h.cP) Cd
 have hth:pS (Tb.put L [a,b,c]):=by
  intro r hr
  rcases Tb.vj.1 hr with rfl | hr
  · rfl
  · exact h.rows.three r hr
 have br:aK (Tb.put L [a,b,c])=(aK L).take (Tb.pos L [a,b,c]*3)++[.string a,.string b,.string c]++(aK L).drop (Tb.pos L [a,b,c]*3):=by
  rw[CZ,lY _ h.rows.three,jf _ h.rows.three,Tb.ins,qU]
  simp[aK]
 have hgg:g'≠g:=by
  rcases au.2 with⟨e,_⟩ | ⟨x,E4,cur,e,_,hg,_⟩
  · simp at e
  · simp only[Value.slice.injEq,Option.some.injEq,Addr.mk.injEq]at e
    obtain⟨⟨rfl,_⟩,_⟩:=e
    rintro rfl
    rw[hblk]at hg
    simp only[Option.some.injEq,Obj.cells.injEq]at hg
    exact h.type hg.2.1
 refine⟨⟨?_,⟨hth, ?_⟩,Tb.Qu h.ord _,h.type⟩,hlen, ?_, ?_⟩
 · rw[aw w3 hblk,hlen]
   rfl
 · rw[hlen,br]
   refine(Kb.setCell w3 ⟨g,2,none⟩ _).row au ?_
   intro x hx
   simp only[Value.ownBlock,Option.some.injEq]at hx
   subst hx
   simpa using hgg
 · refine Kb.trans' ((Kb.bM hW _).trans (hk.mono ?_)) (Kb.setCell w3 _ _) ?_
   · intro i hi _;exact List.mem_cons_of_mem _ hi
   · intro i hi _
     simp only[List.mem_singleton]at hi
     subst hi
     simp
 · intro x hx
   rcases hf x hx with e | e
   · exact .inl e
   · exact .inr (Nat.le_trans hW.size e)
theorem Hg(w:World)(g:Nat)(T:TypeId)(nm:ByteArray)(pl:Nat)(rd:Option Addr)(rc:Nat)(L:List (List ByteArray))(rest:List Value)(a b c:ByteArray)(h:bW w g T nm pl rd rc L rest)(hL:L.length≤999999):
 Calls Tryz.prog 196 #[.pointer (some ⟨g,0,none⟩),.agg #[.string a,.string b,.string c]] w fun e w'=>∃rd' rc',
  e=.returned (.tuple #[.int .i64 (Tb.pos L [a,b,c]:Nat),.bool (!Tb.jT L [a,b,c])])∧bW w' g T nm pl rd' rc' (Tb.put L [a,b,c]) rest∧
   Kb (g::(Value.ownBlock (.slice rd L.length rc)).toList) w w'∧cr w (.slice rd L.length rc) (.slice rd' (Tb.put L [a,b,c]).length rc'):=by
 obtain⟨w0,db⟩:∃w0,w0=w.alloc (.cells #[.string a,.string b,.string c] 119):=⟨_,rfl⟩
 have bU:Below w.heap.size w w0:=by rw[db];exact(Below.refl _ _).alloc (Nat.le_refl _) _
 have lX:w0.heap[w.heap.size]?=some (.cells #[.string a,.string b,.string c] 119 (0,0)):=by rw[db];exact heap_alloc_new w _
 have t0:w0.cell? ⟨w.heap.size,0,none⟩=some (.string a):=by rw[cell_of_row _ _ 0 _ _ _ lX];rfl
 have t1:w0.cell? ⟨w.heap.size,1,none⟩=some (.string b):=by rw[cell_of_row _ _ 1 _ _ _ lX];rfl
 have t2:w0.cell? ⟨w.heap.size,2,none⟩=some (.string c):=by rw[cell_of_row _ _ 2 _ _ _ lX];rfl
 have h0:=h.below bU
 have yh:=qV w0 g rd rc L a b c h0.rows (by omega) h0.ord h0.kz.1
 cases dS:Tb.jT L [a,b,c]with
 | true=>
  rw[dS]at yh
  have CZ:Tb.put L [a,b,c]=L:=by unfold Tb.put;rw[dS];rfl
  rw[CZ]
  generalize Tb.pos L [a,b,c]=ps at yh ⊢
  clear t0 t1 t2 lX dS CZ
  go_enter Tryz.func196,Tryz.ntmps196
  go_wp2_with fail
  rw[←db]
  clear db
  refine yh.mono ?_
  rintro e w1 ⟨rfl,bq⟩
  have fl:Below w.heap.size w w1:=bU.trans (bq.mono bU.size)
  have eh:=h.below fl
  clear yh h0 h
  go_wp2_with fail
  go_ret2
  exact⟨rd,rc,rfl,eh,Kb.bM fl _,cr.refl _ _⟩
 | false=>
  rw[dS]at yh
  have RB:Hid (Tb.jT L [a,b,c]=false):=dS
  have Bn:∀(W1 W:World),Below w0.heap.size w0 W1→W.heap=(W1.alloc (.cells #[.string a,.string b,.string c] 119)).heap→Calls Tryz.prog 245 #[.slice rd L.length rc,.int .i64 (Tb.pos L [a,b,c]:Nat),.slice (some ⟨W1.heap.size,0,none⟩) 1 1] W fun e w3=>∃g' cap,e=.returned (.slice (some ⟨g',0,none⟩) (L.length+1) cap)∧
   (w3.ownsRow 0 119 3 (.slice (some ⟨g',0,none⟩) (L.length+1) cap) (L.length+1) ((aK L).take (Tb.pos L [a,b,c]*3)++[.string a,.string b,.string c]++(aK L).drop (Tb.pos L [a,b,c]*3))∧Kb (Value.ownBlock (.slice rd L.length rc)).toList W w3∧cr W (.slice rd L.length rc) (.slice (some ⟨g',0,none⟩) (L.length+1) cap))∧w3.cell? ⟨g,2,none⟩=some (.slice rd L.length rc)∧w3.frozen? ⟨g,2,none⟩=false:=by
   intro W1 W bq hW
   have h1:=h0.below bq
   have LB:=h1.rows.own
   have Pb:W.ownsRow 0 119 3 (.slice rd L.length rc) L.length (aK L):=by
    have:=LB.alloc (.cells #[.string a,.string b,.string c] 119)
    refine⟨this.1, ?_⟩
    rw[hW]
    exact this.2
   have eE:W.heap[g]?=some (.cells (Value.string nm:: .int .i64 pl:: .slice rd L.length rc::rest).toArray T (0,0)):=by
    rw[hW,Below.heap_alloc _ _ _ (lt_of_heap h1.cP)]
    exact h1.cP
   refine(yV W 0 rd rc L.length (Tb.pos L [a,b,c]) W1.heap.size (aK L) [.string a,.string b,.string c] Pb (Nat.zero_le _) (Tb.qt _ _) (by omega) (mR L) rfl (by rw[hW];exact heap_alloc_new W1 _) ?_ (by intro u hu;simp at hu;rcases hu with rfl | rfl | rfl<;>rfl)).mono ?_
   · intro hc
     have:=(World.ownsRow.lt LB W1.heap.size hc.symm).2
     omega
   · rintro e w3 ⟨g',cap,rfl,h2,h3,h4⟩
     have nN:=h3.heap eE h1.apart
     exact⟨g',cap,rfl,⟨h2,h3,h4⟩,by rw[cell_of_row _ _ 2 _ _ _ nN];simp,by simp[World.frozen?,nN]⟩
  have Tr:=h0.kz.1
  have Po:=h0.kz.2.1
  have mO:=lt_of_heap h0.cP
  have DV:w0.heap.size=w.heap.size+1:=by rw[db];simp
  clear dS
  generalize sI:Tb.pos L [a,b,c]=ps at yh Bn ⊢
  have Qa:Hid (Tb.pos L [a,b,c]=ps):=sI
  clear lX sI
  go_enter Tryz.func196,Tryz.ntmps196
  go_wp2_with fail
  rw[←db]
  clear db
  refine yh.mono ?_
  rintro e w1 ⟨rfl,bq⟩
  have fl:Below w.heap.size w w1:=bU.trans (bq.mono bU.size)
  have SO:=fun W=>Bn w1 W bq
  have s0:w1.cell? ⟨w.heap.size,0,none⟩=some (.string a):=by rw[bq.cell (by show w.heap.size<_;omega)];exact t0
  have s1:w1.cell? ⟨w.heap.size,1,none⟩=some (.string b):=by rw[bq.cell (by show w.heap.size<_;omega)];exact t1
  have s2:w1.cell? ⟨w.heap.size,2,none⟩=some (.string c):=by rw[bq.cell (by show w.heap.size<_;omega)];exact t2
  have s3:w1.cell? ⟨g,2,none⟩=some (.slice rd L.length rc):=by rw[bq.cell (by show g<_;omega)];exact Tr
  have kV:=bq.size
  have aih:w.heap.size<w1.heap.size:=by omega
  have adz:g<w1.heap.size:=by omega
  clear yh t0 t1 t2 Tr Po Bn h0
  go_upto_region 3 with fail
  go_region_with (go_at_call 245;refine(SO _ (by rfl)).mono ?_;rintro e w3 ⟨g',cap,rfl,hI,k2,kf⟩)
  all_goals
   (obtain⟨p1,p2,p3,p4⟩:=Ji h ((fl.alloc fl.size _).drew) RB.out (by rw[Qa.out];exact hI.1) hI.2.1 hI.2.2
    clear hI k2 kf SO s0 s1 s2 s3
    go_wp2_with fail
    go_ret2
    exact⟨_,cap,rfl,p1,p3,by rw[p2];exact p4⟩)
end
end Go.Proofs.YtdmicblafmhflaaGreatDoor
