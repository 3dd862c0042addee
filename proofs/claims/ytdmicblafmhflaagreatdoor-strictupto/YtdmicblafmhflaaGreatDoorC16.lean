/- slices.Insert where there is no room. -/
import Derived.Test.YtdmicblafmhflaaGreatDoorC15
import Derived.Test.YtdmicblafmhflaaGreatDoorC14
set_option linter.unusedSimpArgs false
set_option linter.unusedVariables false
set_option maxHeartbeats 4000000
set_option maxRecDepth 100000
namespace Go.Proofs.YtdmicblafmhflaaGreatDoor
section
open Go.RowKit
theorem F7(w:World)(B g n c i vb:Nat)(xs vs:List Value)(aj:w.ownsRow B 119 3 (.slice (some ⟨g,0,none⟩) n c) n xs)(hB:B≤w.heap.size)(hi:i<n)(lh:c<n+1)(hn:n≤1000000)(pE:∀u∈xs,u.oneCell'=true)
 (lR:vs.length=3)(tr:w.heap[vb]?=some (.cells vs.toArray 119 (0,0)))(h1:∀u∈vs,u.oneCell'=true):
 Calls Tryz.prog 245 #[.slice (some ⟨g,0,none⟩) n c,.int .i64 i,.slice (some ⟨vb,0,none⟩) 1 1] w fun e w'=>∃cap,e=.returned (.slice (some ⟨w.heap.size,0,none⟩) (n+1) cap)∧w'.ownsRow B 119 3 (.slice (some ⟨w.heap.size,0,none⟩) (n+1) cap) (n+1) (xs.take (i*3)++vs++xs.drop (i*3))∧Kb [] w w':=by
 have ir:=aj
 obtain⟨qb,aO⟩:=aj
 rcases aO with⟨e1,e2⟩ | ⟨g',cap,cur,e1,Oc,hg,IZ,Ca,bA,sO⟩
 · simp at e1
 simp only[Value.slice.injEq,Option.some.injEq,Addr.mk.injEq]at e1
 obtain⟨⟨rfl,_⟩,_,rfl⟩:=e1
 obtain⟨i0,kP,eX,ue,UL⟩:=info_parts Tryz.sk
 have eA:¬((i:Int)=(n:Int)):=by omega
 have hz3:(c:Int)<(n:Int)+1:=by omega
 have cr:(Tryz.prog.info? 119).map (·.size)=some 3:=by rw[kP];simp[ue]
 have X4:g<w.heap.size:=(Array.getElem?_eq_some_iff.1 hg).1
 have W8:vb<w.heap.size:=(Array.getElem?_eq_some_iff.1 tr).1
 have dR:∀(b o j:Nat),(⟨b,o,none⟩:Addr).add j=⟨b,o+j,none⟩:=by intro b o j;unfold Addr.add;split<;>simp_all
 have dt:∀(j:Nat) u,xs[j]?=some u→w.cell? ⟨g,j,none⟩=some u:=fun j u hj=>by
  have:=World.ownsRow.cells ir (g:=g) rfl j u hj
  rw[dR]at this
  simpa using this
 have AK:(xs.take (i*3)).length=i*3:=by rw[List.length_take,qb];omega
 have xg:(xs.drop (i*3)).length=(n-i)*3:=by rw[List.length_drop,qb];omega
 have hold:(Builtin.firstCells i0.size i (.slice (some ⟨g,0,none⟩) i c)).run Tryz.prog w.drew=.ok (xs.take (i*3)).toArray w.drew:=by
  rw[ue]
  exact run_firstCells_some w.drew 3 i ⟨g,0,none⟩ i c (xs.take (i*3)) AK (fun j v hj=>by
   rw[dR,Nat.zero_add]
   rw[List.getElem?_take]at hj
   split at hj
   · exact dt j v hj
   · cases hj)
 have Zo:(n:Int)+1-(i:Int)=((n+1-i:Nat):Int):=by omega
 have V1:i+(n+1-i)=n+1:=by omega
 obtain⟨G,hG⟩:∃G,G=grownCap w (n+1) c 119:=⟨_,rfl⟩
 obtain⟨vJ,CL⟩:∃vJ:Array Value,vJ=(xs.take (i*3)).toArray++Builtin.zeroCells (Value.cells (.agg #[.string ByteArray.empty,.string ByteArray.empty,.string ByteArray.empty])) (n+1-i)++Builtin.zeroCells (Value.cells (.agg #[.string ByteArray.empty,.string ByteArray.empty,.string ByteArray.empty])) (G-(n+1)):=⟨_,rfl⟩
 have FH:n+1≤G:=by rw[hG];exact grownCap_ge w _ _ _
 have Ze:G≤maxLen:=by rw[hG];exact grownCap_le_maxLen w (n+1) c 119 (by unfold maxLen;omega)
 have NO:vJ.size=G*3:=by
  rw[CL]
  simp only[Array.size_append,List.size_toArray,AK,size_zeroCells]
  have:(Value.cells (.agg #[.string ByteArray.empty,.string ByteArray.empty,.string ByteArray.empty])).size=3:=rfl
  rw[this]
  omega
 have ZX:vJ.toList.take (i*3)=xs.take (i*3):=by
  rw[CL]
  simp only[Array.toList_append,List.append_assoc]
  exact List.take_left' (by rw[AK])
 have Xu:∀ty,(Builtin.append_ #[113,3] ty #[.slice (some ⟨g,0,none⟩) i c,.int .i64 ((n:Int)+1-(i:Int))]).run Tryz.prog w=.ok (.slice (some ⟨w.heap.size,0,none⟩) (n+1) G) (w.drew.alloc (.cells vJ 119)):=fun ty=>by
  have h:=Lib.run_append_grow_zeros w 113 3 ty 119 i0 _ .i64 .i64 Tryz.underlying113 Tryz.underlying3 kP eX (some ⟨g,0,none⟩) i c (xs.take (i*3)) hold (n+1-i) (by omega) (by rw[ue];decide) (by omega) (by omega) (by rw[UL];omega) (by rw[UL,V1];exact growslice_fits lh (by omega))
  rw[V1,←hG,←CL]at h
  rw[Zo]
  exact h
 obtain⟨W1,rq⟩:∃W1,W1=w.drew.alloc (.cells vJ 119):=⟨_,rfl⟩
 rw[←rq]at Xu
 have G4:W1.heap[w.heap.size]?=some (.cells vJ 119 (0,0)):=by rw[rq];exact heap_alloc_new w.drew _
 have Ii:∀k o,w.heap[k]?=some o→W1.heap[k]?=some o:=fun k o h=>by
  rw[rq]
  have:=Below.heap_alloc w.drew (.cells vJ 119) k (Array.getElem?_eq_some_iff.1 h).1
  rw[this]
  exact h
 have acZ:g≠w.heap.size:=by omega
 have ab9:vb≠w.heap.size:=by omega
 obtain⟨L1,sM⟩:∃L1:List Value,L1=vJ.toList.take (i*3)++vs++vJ.toList.drop (i*3+vs.length):=⟨_,rfl⟩
 obtain⟨W2,ub⟩:∃W2,W2=W1.setRow w.heap.size L1.toArray:=⟨_,rfl⟩
 have FW:∀ty dc,(Builtin.copy_ #[113,113] ty #[.slice (some ⟨w.heap.size,i*3,none⟩) (n+1-i) dc,.slice (some ⟨vb,0,none⟩) 1 1]).run Tryz.prog W1=.ok (goInt 1) W2:=fun ty dc=>by
  rw[ub,sM]
  have:=dF Tryz.prog W1 113 113 ty 119 w.heap.size (i*3) (n+1-i) dc ⟨vb,0,none⟩ 1 1 vJ 119 vs 3 1 Tryz.underlying113 cr G4 (by simp only[Nat.min_def];split<;>omega) (by rw[lR])
   (fun j v hj=>by rw[dR,Nat.zero_add,cell_of_row _ vb j _ _ _ (Ii _ _ tr)];simpa using hj)
   (by rw[lR,NO];omega) h1
  simpa using this
 have FV:W2.heap[w.heap.size]?=some (.cells L1.toArray 119 (0,0)):=by rw[ub];exact bq W1 _ _ G4
 have O2:∀k o,w.heap[k]?=some o→W2.heap[k]?=some o:=fun k o h=>by
  have:k≠w.heap.size:=by have:=(Array.getElem?_eq_some_iff.1 h).1;omega
  rw[ub,dZ _ _ _ _ this]
  exact Ii k o h
 have yh:L1.length=G*3:=by rw[sM];simp only[List.length_append,List.length_take,List.length_drop,Array.length_toList,NO,lR];omega
 obtain⟨zv,tY⟩:=xH vJ.toList vs (xs.drop (i*3)) (i*3) 3 ((n-i)*3) lR xg (by rw[Array.length_toList,NO];omega)
 rw[←sM]at zv tY
 obtain⟨W3,Sm⟩:∃W3,W3=W2.drew.setRow w.heap.size (L1.take (i*3+3)++xs.drop (i*3)++L1.drop (i*3+3+(xs.drop (i*3)).length)).toArray:=⟨_,rfl⟩
 have GU:∀ty dc sc,(Builtin.copy_ #[113,113] ty #[.slice (some ⟨w.heap.size,(i+1)*3,none⟩) (n-i) dc,.slice (some ⟨g,i*3,none⟩) (n-i) sc]).run Tryz.prog W2.drew=.ok (goInt ((n-i:Nat):Int)) W3:=fun ty dc sc=>by
  rw[Sm,show(i+1)*3=i*3+3 by omega]
  have:=dF Tryz.prog W2.drew 113 113 ty 119 w.heap.size (i*3+3) (n-i) dc ⟨g,i*3,none⟩ (n-i) sc L1.toArray 119 (xs.drop (i*3)) 3 (n-i) Tryz.underlying113 cr FV (by simp only[Nat.min_def];split<;>omega) xg
   (fun j v hj=>by
     rw[dR]
     have e:=dt (i*3+j) v (by rwa [List.getElem?_drop]at hj)
     rw[cell_of_row _ g _ _ _ _ hg]at e
     have e2:W2.drew.heap[g]?=some (.cells cur 119 (0,0)):=O2 _ _ hg
     rw[cell_of_row _ g _ _ _ _ e2]
     exact e)
   (by rw[List.size_toArray,yh,xg];omega) (fun v hv=>pE v (List.mem_of_mem_drop hv))
  simpa using this
 have od:W3.ownsRow B 119 3 (.slice (some ⟨w.heap.size,0,none⟩) (n+1) G) (n+1) (xs.take (i*3)++vs++xs.drop (i*3)):=by
  refine⟨by simp only[List.length_append,AK,lR,xg];omega,.inr ⟨w.heap.size,G,(L1.take (i*3+3)++xs.drop (i*3)++L1.drop (i*3+3+(xs.drop (i*3)).length)).toArray,rfl,hB, ?_,FH,Ze, ?_, ?_⟩⟩
  · rw[Sm];exact bq W2.drew _ _ FV
  · rw[List.size_toArray,zv,Array.length_toList,NO]
  · show List.take _ (L1.take (i*3+3)++xs.drop (i*3)++L1.drop (i*3+3+(xs.drop (i*3)).length))=_
    rw[show(n+1)*3=i*3+3+(n-i)*3 by omega,tY,ZX]
 have fC:Kb [] w W3:=by
  rw[Sm,ub,rq]
  exact(((((Kb.refl [] w).drew).alloc _).trans' (Kb.setRow _ _ _) (fun k hk aC=>by simp at hk;omega)).drew).trans' (Kb.setRow _ _ _) (fun k hk aC=>by simp at hk;omega)
 have sP:IntKind.i64.wrap ((i:Int)+1)=(i:Int)+1:=by rw[IntKind.wrap_i64];omega
 have bk:(0:Int)≤(i:Int)+1:=by omega
 have TM:((i:Int)+1).toNat=i+1:=by omega
 have cM:¬(G=i+1):=by omega
 have lZ:¬(G=i):=by omega
 have ls:¬(c=i):=by omega
 have aa4:G≤9223372036854775807:=by unfold maxLen at Ze;omega
 have dQ:i≤n:=by omega
 have KQ:(i:Int)≤(n:Int)+1:=by omega
 clear zv tY sO cr ir lR h1 pE bA tr qb xg dR dt G4 Ii sM yh ub rq hg hold AK kP eX ue UL FV O2 Sm CL NO ZX hG Zo V1
 go_enter Tryz.func245,Tryz.ntmps245
 go_wp2_with (first | (at_builtin;refine kE _ rfl _ _ 113 3 rfl _ _ rfl rfl (Xu _) ?_) | (at_builtin;refine gz _ rfl _ _ 113 113 rfl _ _ rfl rfl (FW _ _) ?_))
 go_region_law (refine jj rfl _ _ 113 113 rfl _ _ (by simp[Act.eval,Act.put]) (by simp[Act.eval,Act.put]) (GU _ _ _) ?_)
 go_wp2_with fail
 go_ret
 exact⟨G,rfl,od,fC⟩
theorem zB(w:World)(B:Nat)(rd:Option Addr)(rc n i vb:Nat)(xs vs:List Value)(aj:w.ownsRow B 119 3 (.slice rd n rc) n xs)(hB:B≤w.heap.size)(hi:i≤n)(hn:n≤1000000)(pE:∀u∈xs,u.oneCell'=true)
 (lR:vs.length=3)(tr:w.heap[vb]?=some (.cells vs.toArray 119 (0,0)))(cL:some vb≠Value.ownBlock (.slice rd n rc))(h1:∀u∈vs,u.oneCell'=true):
 Calls Tryz.prog 245 #[.slice rd n rc,.int .i64 i,.slice (some ⟨vb,0,none⟩) 1 1] w fun e w'=>∃g cap,e=.returned (.slice (some ⟨g,0,none⟩) (n+1) cap)∧w'.ownsRow B 119 3 (.slice (some ⟨g,0,none⟩) (n+1) cap) (n+1) (xs.take (i*3)++vs++xs.drop (i*3))∧Kb (Value.ownBlock (.slice rd n rc)).toList w w'∧cn w (.slice rd n rc) (.slice (some ⟨g,0,none⟩) (n+1) cap):=by
 by_cases dQ:i=n
 · subst dQ
   have Qj:∀(j:Nat) u,vs[j]?=some u→w.cell? ⟨vb,j,none⟩=some u:=fun j u hj=>by rw[cell_of_row _ vb j _ _ _ tr];simpa using hj
   refine(Jw w B rd rc i xs vs vb aj hB hn lR Qj h1).mono ?_
   rintro e w' ⟨g,cap,rfl,h2,h3,h4⟩
   have e1:xs.take (i*3)=xs:=List.take_of_length_le (by rw[aj.1];omega)
   have e2:xs.drop (i*3)=[]:=List.drop_of_length_le (by rw[aj.1];omega)
   exact⟨g,cap,rfl,by rw[e1,e2,List.append_nil];exact h2,h3,h4⟩
 · have og:∃g,rd=some ⟨g,0,none⟩:=by
    rcases aj.2 with⟨_,e2⟩ | ⟨g,cap,cur,e1,_⟩
    · omega
    · simp only[Value.slice.injEq]at e1
      exact⟨g,e1.1⟩
   obtain⟨g,rfl⟩:=og
   have T7:vb≠g:=fun e=>cL (by rw[e];rfl)
   by_cases hr:n+1≤rc
   · refine(F6 w B g n rc i vb xs vs aj (by omega) hr hn pE lR tr T7 h1).mono ?_
     rintro e w' ⟨rfl,h2,h3⟩
     exact⟨g,rc,rfl,h2,h3,fun b hb=>.inl hb⟩
   · refine(F7 w B g n rc i vb xs vs aj hB (by omega) (by omega) hn pE lR tr h1).mono ?_
     rintro e w' ⟨cap,rfl,h2,h3⟩
     refine⟨w.heap.size,cap,rfl,h2,h3.mono (fun k hk=>by cases hk), ?_⟩
     intro b hb
     simp only[Value.ownBlock,Option.some.injEq]at hb
     exact .inr (by omega)
theorem Hc(w:World)(B g n c i vb:Nat)(xs vs:List Value)(aj:w.ownsRow B 3 1 (.slice (some ⟨g,0,none⟩) n c) n xs)(hB:B≤w.heap.size)(hi:i<n)(lh:c<n+1)(hn:n≤1000000)(pE:∀u∈xs,u.oneCell'=true)
 (lR:vs.length=1)(tr:w.heap[vb]?=some (.cells vs.toArray 3 (0,0)))(h1:∀u∈vs,u.oneCell'=true):
 Calls Tryz.prog 264 #[.slice (some ⟨g,0,none⟩) n c,.int .i64 i,.slice (some ⟨vb,0,none⟩) 1 1] w fun e w'=>∃cap,e=.returned (.slice (some ⟨w.heap.size,0,none⟩) (n+1) cap)∧w'.ownsRow B 3 1 (.slice (some ⟨w.heap.size,0,none⟩) (n+1) cap) (n+1) (xs.take (i)++vs++xs.drop (i))∧Kb [] w w':=by
 have ir:=aj
 obtain⟨qb,aO⟩:=aj
 rcases aO with⟨e1,e2⟩ | ⟨g',cap,cur,e1,Oc,hg,IZ,Ca,bA,sO⟩
 · simp at e1
 simp only[Value.slice.injEq,Option.some.injEq,Addr.mk.injEq]at e1
 obtain⟨⟨rfl,_⟩,_,rfl⟩:=e1
 obtain⟨i0,kP,eX,ue,UL⟩:=info_parts Tryz.B3
 have eA:¬((i:Int)=(n:Int)):=by omega
 have hz3:(c:Int)<(n:Int)+1:=by omega
 have cr:(Tryz.prog.info? 3).map (·.size)=some 1:=by rw[kP];simp[ue]
 have X4:g<w.heap.size:=(Array.getElem?_eq_some_iff.1 hg).1
 have W8:vb<w.heap.size:=(Array.getElem?_eq_some_iff.1 tr).1
 have dR:∀(b o j:Nat),(⟨b,o,none⟩:Addr).add j=⟨b,o+j,none⟩:=by intro b o j;unfold Addr.add;split<;>simp_all
 have dt:∀(j:Nat) u,xs[j]?=some u→w.cell? ⟨g,j,none⟩=some u:=fun j u hj=>by
  have:=World.ownsRow.cells ir (g:=g) rfl j u hj
  rw[dR]at this
  simpa using this
 have AK:(xs.take (i)).length=i*1:=by rw[List.length_take,qb];omega
 have xg:(xs.drop (i)).length=(n-i)*1:=by rw[List.length_drop,qb];omega
 have hold:(Builtin.firstCells i0.size i (.slice (some ⟨g,0,none⟩) i c)).run Tryz.prog w.drew=.ok (xs.take (i)).toArray w.drew:=by
  rw[ue]
  exact run_firstCells_some w.drew 1 i ⟨g,0,none⟩ i c (xs.take (i)) AK (fun j v hj=>by
   rw[dR,Nat.zero_add]
   rw[List.getElem?_take]at hj
   split at hj
   · exact dt j v hj
   · cases hj)
 have Zo:(n:Int)+1-(i:Int)=((n+1-i:Nat):Int):=by omega
 have V1:i+(n+1-i)=n+1:=by omega
 obtain⟨G,hG⟩:∃G,G=grownCap w (n+1) c 3:=⟨_,rfl⟩
 obtain⟨vJ,CL⟩:∃vJ:Array Value,vJ=(xs.take (i)).toArray++Builtin.zeroCells (Value.cells (.int .i64 0)) (n+1-i)++Builtin.zeroCells (Value.cells (.int .i64 0)) (G-(n+1)):=⟨_,rfl⟩
 have FH:n+1≤G:=by rw[hG];exact grownCap_ge w _ _ _
 have Ze:G≤maxLen:=by rw[hG];exact grownCap_le_maxLen w (n+1) c 3 (by unfold maxLen;omega)
 have NO:vJ.size=G*1:=by
  rw[CL]
  simp only[Array.size_append,List.size_toArray,AK,size_zeroCells]
  have:(Value.cells (.int .i64 0)).size=1:=rfl
  rw[this]
  omega
 have ZX:vJ.toList.take (i)=xs.take (i):=by
  rw[CL]
  simp only[Array.toList_append,List.append_assoc]
  exact List.take_left' (by rw[AK];omega)
 have Xu:∀ty,(Builtin.append_ #[31,3] ty #[.slice (some ⟨g,0,none⟩) i c,.int .i64 ((n:Int)+1-(i:Int))]).run Tryz.prog w=.ok (.slice (some ⟨w.heap.size,0,none⟩) (n+1) G) (w.drew.alloc (.cells vJ 3)):=fun ty=>by
  have h:=Lib.run_append_grow_zeros w 31 3 ty 3 i0 _ .i64 .i64 Tryz.underlying31 Tryz.underlying3 kP eX (some ⟨g,0,none⟩) i c (xs.take (i)) hold (n+1-i) (by omega) (by rw[ue];decide) (by omega) (by omega) (by rw[UL];omega) (by rw[UL,V1];exact growslice_fits lh (by omega))
  rw[V1,←hG,←CL]at h
  rw[Zo]
  exact h
 obtain⟨W1,rq⟩:∃W1,W1=w.drew.alloc (.cells vJ 3):=⟨_,rfl⟩
 rw[←rq]at Xu
 have G4:W1.heap[w.heap.size]?=some (.cells vJ 3 (0,0)):=by rw[rq];exact heap_alloc_new w.drew _
 have Ii:∀k o,w.heap[k]?=some o→W1.heap[k]?=some o:=fun k o h=>by
  rw[rq]
  have:=Below.heap_alloc w.drew (.cells vJ 3) k (Array.getElem?_eq_some_iff.1 h).1
  rw[this]
  exact h
 have acZ:g≠w.heap.size:=by omega
 have ab9:vb≠w.heap.size:=by omega
 obtain⟨L1,sM⟩:∃L1:List Value,L1=vJ.toList.take (i)++vs++vJ.toList.drop (i+vs.length):=⟨_,rfl⟩
 obtain⟨W2,ub⟩:∃W2,W2=W1.setRow w.heap.size L1.toArray:=⟨_,rfl⟩
 have FW:∀ty dc,(Builtin.copy_ #[31,31] ty #[.slice (some ⟨w.heap.size,i,none⟩) (n+1-i) dc,.slice (some ⟨vb,0,none⟩) 1 1]).run Tryz.prog W1=.ok (goInt 1) W2:=fun ty dc=>by
  rw[ub,sM]
  have:=dF Tryz.prog W1 31 31 ty 3 w.heap.size (i) (n+1-i) dc ⟨vb,0,none⟩ 1 1 vJ 3 vs 1 1 Tryz.underlying31 cr G4 (by simp only[Nat.min_def];split<;>omega) (by rw[lR])
   (fun j v hj=>by rw[dR,Nat.zero_add,cell_of_row _ vb j _ _ _ (Ii _ _ tr)];simpa using hj)
   (by rw[lR,NO];omega) h1
  simpa using this
 have FV:W2.heap[w.heap.size]?=some (.cells L1.toArray 3 (0,0)):=by rw[ub];exact bq W1 _ _ G4
 have O2:∀k o,w.heap[k]?=some o→W2.heap[k]?=some o:=fun k o h=>by
  have:k≠w.heap.size:=by have:=(Array.getElem?_eq_some_iff.1 h).1;omega
  rw[ub,dZ _ _ _ _ this]
  exact Ii k o h
 have yh:L1.length=G*1:=by rw[sM];simp only[List.length_append,List.length_take,List.length_drop,Array.length_toList,NO,lR];omega
 obtain⟨zv,tY⟩:=xH vJ.toList vs (xs.drop (i)) (i) 1 ((n-i)*1) lR xg (by rw[Array.length_toList,NO];omega)
 rw[←sM]at zv tY
 obtain⟨W3,Sm⟩:∃W3,W3=W2.drew.setRow w.heap.size (L1.take (i+1)++xs.drop (i)++L1.drop (i+1+(xs.drop (i)).length)).toArray:=⟨_,rfl⟩
 have GU:∀ty dc sc,(Builtin.copy_ #[31,31] ty #[.slice (some ⟨w.heap.size,i+1,none⟩) (n-i) dc,.slice (some ⟨g,i,none⟩) (n-i) sc]).run Tryz.prog W2.drew=.ok (goInt ((n-i:Nat):Int)) W3:=fun ty dc sc=>by
  rw[Sm,show i+1=i+1 by omega]
  have:=dF Tryz.prog W2.drew 31 31 ty 3 w.heap.size (i+1) (n-i) dc ⟨g,i,none⟩ (n-i) sc L1.toArray 3 (xs.drop (i)) 1 (n-i) Tryz.underlying31 cr FV (by simp only[Nat.min_def];split<;>omega) xg
   (fun j v hj=>by
     rw[dR]
     have e:=dt (i+j) v (by rwa [List.getElem?_drop]at hj)
     rw[cell_of_row _ g _ _ _ _ hg]at e
     have e2:W2.drew.heap[g]?=some (.cells cur 3 (0,0)):=O2 _ _ hg
     rw[cell_of_row _ g _ _ _ _ e2]
     exact e)
   (by rw[List.size_toArray,yh,xg];omega) (fun v hv=>pE v (List.mem_of_mem_drop hv))
  simpa using this
 have od:W3.ownsRow B 3 1 (.slice (some ⟨w.heap.size,0,none⟩) (n+1) G) (n+1) (xs.take (i)++vs++xs.drop (i)):=by
  refine⟨by simp only[List.length_append,AK,lR,xg];omega,.inr ⟨w.heap.size,G,(L1.take (i+1)++xs.drop (i)++L1.drop (i+1+(xs.drop (i)).length)).toArray,rfl,hB, ?_,FH,Ze, ?_, ?_⟩⟩
  · rw[Sm];exact bq W2.drew _ _ FV
  · rw[List.size_toArray,zv,Array.length_toList,NO]
  · show List.take _ (L1.take (i+1)++xs.drop (i)++L1.drop (i+1+(xs.drop (i)).length))=_
    rw[show(n+1)*1=i+1+(n-i)*1 by omega,tY,ZX]
 have fC:Kb [] w W3:=by
  rw[Sm,ub,rq]
  exact(((((Kb.refl [] w).drew).alloc _).trans' (Kb.setRow _ _ _) (fun k hk aC=>by simp at hk;omega)).drew).trans' (Kb.setRow _ _ _) (fun k hk aC=>by simp at hk;omega)
 have sP:IntKind.i64.wrap ((i:Int)+1)=(i:Int)+1:=by rw[IntKind.wrap_i64];omega
 have bk:(0:Int)≤(i:Int)+1:=by omega
 have TM:((i:Int)+1).toNat=i+1:=by omega
 have cM:¬(G=i+1):=by omega
 have lZ:¬(G=i):=by omega
 have ls:¬(c=i):=by omega
 have aa4:G≤9223372036854775807:=by unfold maxLen at Ze;omega
 have dQ:i≤n:=by omega
 have KQ:(i:Int)≤(n:Int)+1:=by omega
 clear zv tY sO cr ir lR h1 pE bA tr qb xg dR dt G4 Ii sM yh ub rq hg hold AK kP eX ue UL FV O2 Sm CL NO ZX hG Zo V1
 go_enter Tryz.func264,Tryz.ntmps264
 go_wp2_with (first | (at_builtin;refine kE _ rfl _ _ 31 3 rfl _ _ rfl rfl (Xu _) ?_) | (at_builtin;refine gz _ rfl _ _ 31 31 rfl _ _ rfl rfl (FW _ _) ?_))
 go_region_law (refine jj rfl _ _ 31 31 rfl _ _ (by simp[Act.eval,Act.put]) (by simp[Act.eval,Act.put]) (GU _ _ _) ?_)
 go_wp2_with fail
 go_ret
 exact⟨G,rfl,od,fC⟩
theorem zP(w:World)(B:Nat)(rd:Option Addr)(rc n i vb:Nat)(xs vs:List Value)(aj:w.ownsRow B 3 1 (.slice rd n rc) n xs)(hB:B≤w.heap.size)(hi:i≤n)(hn:n≤1000000)(pE:∀u∈xs,u.oneCell'=true)
 (lR:vs.length=1)(tr:w.heap[vb]?=some (.cells vs.toArray 3 (0,0)))(cL:some vb≠Value.ownBlock (.slice rd n rc))(h1:∀u∈vs,u.oneCell'=true):
 Calls Tryz.prog 264 #[.slice rd n rc,.int .i64 i,.slice (some ⟨vb,0,none⟩) 1 1] w fun e w'=>∃g cap,e=.returned (.slice (some ⟨g,0,none⟩) (n+1) cap)∧w'.ownsRow B 3 1 (.slice (some ⟨g,0,none⟩) (n+1) cap) (n+1) (xs.take (i)++vs++xs.drop (i))∧Kb (Value.ownBlock (.slice rd n rc)).toList w w'∧cn w (.slice rd n rc) (.slice (some ⟨g,0,none⟩) (n+1) cap):=by
 by_cases dQ:i=n
 · subst dQ
   have Qj:∀(j:Nat) u,vs[j]?=some u→w.cell? ⟨vb,j,none⟩=some u:=fun j u hj=>by rw[cell_of_row _ vb j _ _ _ tr];simpa using hj
   refine(JZ w B rd rc i xs vs vb aj hB hn lR Qj h1).mono ?_
   rintro e w' ⟨g,cap,rfl,h2,h3,h4⟩
   have e1:xs.take (i)=xs:=List.take_of_length_le (by rw[aj.1];omega)
   have e2:xs.drop (i)=[]:=List.drop_of_length_le (by rw[aj.1];omega)
   exact⟨g,cap,rfl,by rw[e1,e2,List.append_nil];exact h2,h3,h4⟩
 · have og:∃g,rd=some ⟨g,0,none⟩:=by
    rcases aj.2 with⟨_,e2⟩ | ⟨g,cap,cur,e1,_⟩
    · omega
    · simp only[Value.slice.injEq]at e1
      exact⟨g,e1.1⟩
   obtain⟨g,rfl⟩:=og
   have T7:vb≠g:=fun e=>cL (by rw[e];rfl)
   by_cases hr:n+1≤rc
   · refine(Hh w B g n rc i vb xs vs aj (by omega) hr hn pE lR tr T7 h1).mono ?_
     rintro e w' ⟨rfl,h2,h3⟩
     exact⟨g,rc,rfl,h2,h3,fun b hb=>.inl hb⟩
   · refine(Hc w B g n rc i vb xs vs aj hB (by omega) (by omega) hn pE lR tr h1).mono ?_
     rintro e w' ⟨cap,rfl,h2,h3⟩
     refine⟨w.heap.size,cap,rfl,h2,h3.mono (fun k hk=>by cases hk), ?_⟩
     intro b hb
     simp only[Value.ownBlock,Option.some.injEq]at hb
     exact .inr (by omega)
end
/- put: a fact's row into a table. -/
section
open Go.RowKit
open Go.Sort (grow)
structure cl(w:World)(g:Nat)(T:TypeId)(nm:ByteArray)(pl:Nat)(rd:Option Addr)(rc:Nat)(L:List (List ByteArray))(rest:List Value):Prop where
 da:w.heap[g]?=some (.cells (Value.string nm:: .int .i64 pl:: .slice rd L.length rc::rest).toArray T (0,0))
 rows:kI w rd rc L
 ord:Tb.Ord L
 type:T≠119
theorem cl.below{w w':World}{g:Nat}{T:TypeId}{nm:ByteArray}{pl:Nat}{rd:Option Addr}{rc:Nat}{L:List (List ByteArray)}{rest:List Value}(h:cl w g T nm pl rd rc L rest)(hb:Below w.heap.size w w'):cl w' g T nm pl rd rc L rest:=
 ⟨by rw[hb.block g (lt_of_heap h.da)];exact h.da,h.rows.below hb,h.ord,h.type⟩
theorem cl.kept{w w':World}{S:List Nat}{g:Nat}{T:TypeId}{nm:ByteArray}{pl:Nat}{rd:Option Addr}{rc:Nat}{L:List (List ByteArray)}{rest:List Value}(h:cl w g T nm pl rd rc L rest)(hk:Kb S w w')(hg:¬g∈S)(hr:∀b,Value.ownBlock (.slice rd L.length rc)=some b→¬b∈S):cl w' g T nm pl rd rc L rest:=
 ⟨hk.heap h.da hg,⟨h.rows.three,hk.row h.rows.own hr⟩,h.ord,h.type⟩
theorem cl.lB{w:World}{g:Nat}{T:TypeId}{nm:ByteArray}{pl:Nat}{rd:Option Addr}{rc:Nat}{L:List (List ByteArray)}{rest:List Value}(h:cl w g T nm pl rd rc L rest):w.cell? ⟨g,2,none⟩=some (.slice rd L.length rc)∧w.frozen? ⟨g,2,none⟩=false∧w.cell? ⟨g,1,none⟩=some (.int .i64 pl)∧w.cell? ⟨g,0,none⟩=some (.string nm):=by
 refine⟨?_, ?_, ?_, ?_⟩
 · rw[cell_of_row _ _ 2 _ _ _ h.da];simp
 · simp[World.frozen?,h.da]
 · rw[cell_of_row _ _ 1 _ _ _ h.da];simp
 · rw[cell_of_row _ _ 0 _ _ _ h.da];simp
theorem cl.apart{w:World}{g:Nat}{T:TypeId}{nm:ByteArray}{pl:Nat}{rd:Option Addr}{rc:Nat}{L:List (List ByteArray)}{rest:List Value}(h:cl w g T nm pl rd rc L rest):¬g∈(Value.ownBlock (.slice rd L.length rc)).toList:=by
 intro hc
 rcases h.rows.own.2 with⟨e,_⟩ | ⟨g',cap,cur,e,_,hg,_⟩
 · rw[e]at hc;simp[Value.ownBlock]at hc
 · rw[e]at hc
   simp only[Value.ownBlock,Option.toList_some,List.mem_singleton]at hc
   rw[←hc,h.da]at hg
   simp only[Option.some.injEq,Obj.cells.injEq]at hg
   exact h.type hg.2.1
theorem an(w:World){g:Nat}{cur:Array Value}{T:TypeId}{fr:Nat×Nat}(h:w.heap[g]?=some (.cells cur T fr))(o:Nat)(v:Value):(w.setCell ⟨g,o,none⟩ v).heap[g]?=some (.cells (cur.setIfInBounds o v) T fr):=by
 rw[setCell_eq_setRow w g o cur T fr v h]
 exact bq w g _ h
theorem Kw{w W w3:World}{g:Nat}{T:TypeId}{nm:ByteArray}{pl:Nat}{rd:Option Addr}{rc:Nat}{L:List (List ByteArray)}{rest:List Value}(h:cl w g T nm pl rd rc L rest)(hW:Below w.heap.size w W){a b c:ByteArray}
 (hni:Tb.lO L [a,b,c]=false){g' cap:Nat}
 (aj:w3.ownsRow 0 119 3 (.slice (some ⟨g',0,none⟩) (L.length+1) cap) (L.length+1) ((aF L).take (Tb.pos L [a,b,c]*3)++[.string a,.string b,.string c]++(aF L).drop (Tb.pos L [a,b,c]*3)))
 (hk:Kb (Value.ownBlock (.slice rd L.length rc)).toList W w3)(hf:cn W (.slice rd L.length rc) (.slice (some ⟨g',0,none⟩) (L.length+1) cap)):
 cl (w3.setCell ⟨g,2,none⟩ (.slice (some ⟨g',0,none⟩) (L.length+1) cap)) g T nm pl (some ⟨g',0,none⟩) cap (Tb.put L [a,b,c]) rest∧(Tb.put L [a,b,c]).length=L.length+1∧
  Kb (g::(Value.ownBlock (.slice rd L.length rc)).toList) w (w3.setCell ⟨g,2,none⟩ (.slice (some ⟨g',0,none⟩) (L.length+1) cap))∧cn w (.slice rd L.length rc) (.slice (some ⟨g',0,none⟩) (L.length+1) cap):=by
 have iG:¬[a,b,c]∈L:=fun hc=>by rw[Tb.dM.2 hc]at hni;cases hni
 have EK:Tb.put L [a,b,c]=Tb.ins L [a,b,c]:=by unfold Tb.put;rw[hni];rfl
 have hlen:(Tb.put L [a,b,c]).length=L.length+1:=by
  rw[EK]
  have:=Tb.qu L [a,b,c]
  simp only[Tb.ins,List.length_append,List.length_cons,List.length_take,List.length_drop]
  omega
 have Ff:=h.apart
 have hblk:w3.heap[g]?=_:=hk.heap (by rw[hW.block g (lt_of_heap h.da)];exact h.da) Ff
 have FG:p9 (Tb.put L [a,b,c]):=by
  intro r hr
  rcases Tb.sA.1 hr with rfl | hr
  · rfl
  · exact h.rows.three r hr
 have bA:aF (Tb.put L [a,b,c])=(aF L).take (Tb.pos L [a,b,c]*3)++[.string a,.string b,.string c]++(aF L).drop (Tb.pos L [a,b,c]*3):=by
  rw[EK,lT _ h.rows.three,jk _ h.rows.three,Tb.ins,sr]
  simp[aF]
 have hgg:g'≠g:=by
  rcases aj.2 with⟨e,_⟩ | ⟨x,G1,cur,e,_,hg,_⟩
  · simp at e
  · simp only[Value.slice.injEq,Option.some.injEq,Addr.mk.injEq]at e
    obtain⟨⟨rfl,_⟩,_⟩:=e
    rintro rfl
    rw[hblk]at hg
    simp only[Option.some.injEq,Obj.cells.injEq]at hg
    exact h.type hg.2.1
 refine⟨⟨?_,⟨FG, ?_⟩,Tb.Iq h.ord _,h.type⟩,hlen, ?_, ?_⟩
 · rw[an w3 hblk,hlen]
   rfl
 · rw[hlen,bA]
   refine(Kb.setCell w3 ⟨g,2,none⟩ _).row aj ?_
   intro x hx
   simp only[Value.ownBlock,Option.some.injEq]at hx
   subst hx
   simpa using hgg
 · refine Kb.trans' ((Kb.bG hW _).trans (hk.mono ?_)) (Kb.setCell w3 _ _) ?_
   · intro i hi _;exact List.mem_cons_of_mem _ hi
   · intro i hi _
     simp only[List.mem_singleton]at hi
     subst hi
     simp
 · intro x hx
   rcases hf x hx with e | e
   · exact .inl e
   · exact .inr (Nat.le_trans hW.size e)
theorem Jl(w:World)(g:Nat)(T:TypeId)(nm:ByteArray)(pl:Nat)(rd:Option Addr)(rc:Nat)(L:List (List ByteArray))(rest:List Value)(a b c:ByteArray)(h:cl w g T nm pl rd rc L rest)(hL:L.length≤999999):
 Calls Tryz.prog 196 #[.pointer (some ⟨g,0,none⟩),.agg #[.string a,.string b,.string c]] w fun e w'=>∃rd' rc',
  e=.returned (.tuple #[.int .i64 (Tb.pos L [a,b,c]:Nat),.bool (!Tb.lO L [a,b,c])])∧cl w' g T nm pl rd' rc' (Tb.put L [a,b,c]) rest∧
   Kb (g::(Value.ownBlock (.slice rd L.length rc)).toList) w w'∧cn w (.slice rd L.length rc) (.slice rd' (Tb.put L [a,b,c]).length rc'):=by
 obtain⟨w0,di⟩:∃w0,w0=w.alloc (.cells #[.string a,.string b,.string c] 119):=⟨_,rfl⟩
 have bK:Below w.heap.size w w0:=by rw[di];exact(Below.refl _ _).alloc (Nat.le_refl _) _
 have lY:w0.heap[w.heap.size]?=some (.cells #[.string a,.string b,.string c] 119 (0,0)):=by rw[di];exact heap_alloc_new w _
 have t0:w0.cell? ⟨w.heap.size,0,none⟩=some (.string a):=by rw[cell_of_row _ _ 0 _ _ _ lY];rfl
 have t1:w0.cell? ⟨w.heap.size,1,none⟩=some (.string b):=by rw[cell_of_row _ _ 1 _ _ _ lY];rfl
 have t2:w0.cell? ⟨w.heap.size,2,none⟩=some (.string c):=by rw[cell_of_row _ _ 2 _ _ _ lY];rfl
 have h0:=h.below bK
 have ur:=si w0 g rd rc L a b c h0.rows (by omega) h0.ord h0.lB.1
 cases dQ:Tb.lO L [a,b,c]with
 | true=>
  rw[dQ]at ur
  have EK:Tb.put L [a,b,c]=L:=by unfold Tb.put;rw[dQ];rfl
  rw[EK]
  generalize Tb.pos L [a,b,c]=ps at ur ⊢
  clear t0 t1 t2 lY dQ EK
  go_enter Tryz.func196,Tryz.ntmps196
  go_wp2_with fail
  rw[←di]
  clear di
  refine ur.mono ?_
  rintro e w1 ⟨rfl,bk⟩
  have fY:Below w.heap.size w w1:=bK.trans (bk.mono bK.size)
  have dU:=h.below fY
  clear ur h0 h
  go_wp2_with fail
  go_ret2
  exact⟨rd,rc,rfl,dU,Kb.bG fY _,cn.refl _ _⟩
 | false=>
  rw[dQ]at ur
  have Zc:Hid (Tb.lO L [a,b,c]=false):=dQ
  have VT:∀(W1 W:World),Below w0.heap.size w0 W1→W.heap=(W1.alloc (.cells #[.string a,.string b,.string c] 119)).heap→Calls Tryz.prog 245 #[.slice rd L.length rc,.int .i64 (Tb.pos L [a,b,c]:Nat),.slice (some ⟨W1.heap.size,0,none⟩) 1 1] W fun e w3=>∃g' cap,e=.returned (.slice (some ⟨g',0,none⟩) (L.length+1) cap)∧
   (w3.ownsRow 0 119 3 (.slice (some ⟨g',0,none⟩) (L.length+1) cap) (L.length+1) ((aF L).take (Tb.pos L [a,b,c]*3)++[.string a,.string b,.string c]++(aF L).drop (Tb.pos L [a,b,c]*3))∧Kb (Value.ownBlock (.slice rd L.length rc)).toList W w3∧cn W (.slice rd L.length rc) (.slice (some ⟨g',0,none⟩) (L.length+1) cap))∧w3.cell? ⟨g,2,none⟩=some (.slice rd L.length rc)∧w3.frozen? ⟨g,2,none⟩=false:=by
   intro W1 W bk hW
   have h1:=h0.below bk
   have Cn:=h1.rows.own
   have P5:W.ownsRow 0 119 3 (.slice rd L.length rc) L.length (aF L):=by
    have:=Cn.alloc (.cells #[.string a,.string b,.string c] 119)
    refine⟨this.1, ?_⟩
    rw[hW]
    exact this.2
   have dL:W.heap[g]?=some (.cells (Value.string nm:: .int .i64 pl:: .slice rd L.length rc::rest).toArray T (0,0)):=by
    rw[hW,Below.heap_alloc _ _ _ (lt_of_heap h1.da)]
    exact h1.da
   refine(zB W 0 rd rc L.length (Tb.pos L [a,b,c]) W1.heap.size (aF L) [.string a,.string b,.string c] P5 (Nat.zero_le _) (Tb.qu _ _) (by omega) (nA L) rfl (by rw[hW];exact heap_alloc_new W1 _) ?_ (by intro u hu;simp at hu;rcases hu with rfl | rfl | rfl<;>rfl)).mono ?_
   · intro hc
     have:=(World.ownsRow.lt Cn W1.heap.size hc.symm).2
     omega
   · rintro e w3 ⟨g',cap,rfl,h2,h3,h4⟩
     have nB:=h3.heap dL h1.apart
     exact⟨g',cap,rfl,⟨h2,h3,h4⟩,by rw[cell_of_row _ _ 2 _ _ _ nB];simp,by simp[World.frozen?,nB]⟩
  have UO:=h0.lB.1
  have PH:=h0.lB.2.1
  have mh:=lt_of_heap h0.da
  have JA:w0.heap.size=w.heap.size+1:=by rw[di];simp
  clear dQ
  generalize uK:Tb.pos L [a,b,c]=ps at ur VT ⊢
  have HPS:Hid (Tb.pos L [a,b,c]=ps):=uK
  clear lY uK
  go_enter Tryz.func196,Tryz.ntmps196
  go_wp2_with fail
  rw[←di]
  clear di
  refine ur.mono ?_
  rintro e w1 ⟨rfl,bk⟩
  have fY:Below w.heap.size w w1:=bK.trans (bk.mono bK.size)
  have S6:=fun W=>VT w1 W bk
  have s0:w1.cell? ⟨w.heap.size,0,none⟩=some (.string a):=by rw[bk.cell (by show w.heap.size<_;omega)];exact t0
  have s1:w1.cell? ⟨w.heap.size,1,none⟩=some (.string b):=by rw[bk.cell (by show w.heap.size<_;omega)];exact t1
  have s2:w1.cell? ⟨w.heap.size,2,none⟩=some (.string c):=by rw[bk.cell (by show w.heap.size<_;omega)];exact t2
  have s3:w1.cell? ⟨g,2,none⟩=some (.slice rd L.length rc):=by rw[bk.cell (by show g<_;omega)];exact UO
  have kW:=bk.size
  have ahD:w.heap.size<w1.heap.size:=by omega
  have ab2:g<w1.heap.size:=by omega
  clear ur t0 t1 t2 UO PH VT h0
  go_upto_region 3 with fail
  go_region_with (go_at_call 245;refine(S6 _ (by rfl)).mono ?_;rintro e w3 ⟨g',cap,rfl,hI,k2,kf⟩)
  all_goals
   (obtain⟨p1,p2,p3,p4⟩:=Kw h ((fY.alloc fY.size _).drew) Zc.out (by rw[HPS.out];exact hI.1) hI.2.1 hI.2.2
    clear hI k2 kf S6 s0 s1 s2 s3
    go_wp2_with fail
    go_ret2
    exact⟨_,cap,rfl,p1,p3,by rw[p2];exact p4⟩)
end
end Go.Proofs.YtdmicblafmhflaaGreatDoor
