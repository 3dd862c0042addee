/- slices.Insert where there is no room. -/
import Derived.Test.YtdmicblafmhflaaGreatDoorC15
import Derived.Test.YtdmicblafmhflaaGreatDoorC14
set_option linter.unusedSimpArgs false
set_option linter.unusedVariables false
set_option maxHeartbeats 4000000
set_option maxRecDepth 100000
namespace Go.Proofs.YtdmicblafmhflaaGreatDoor
section
open Go.RowKit
theorem Gr(w:World)(B g n c i vb:Nat)(xs vs:List Value)(al:w.ownsRow B 119 3 (.slice (some ⟨g,0,none⟩) n c) n xs)(hB:B≤w.heap.size)(hi:i<n)(kQ:c<n+1)(hn:n≤1000000)(p8:∀u∈xs,u.oneCell'=true)
 (lV:vs.length=3)(tY:w.heap[vb]?=some (.cells vs.toArray 119 (0,0)))(h1:∀u∈vs,u.oneCell'=true):
 Calls Tryz.prog 245 #[.slice (some ⟨g,0,none⟩) n c,.int .i64 i,.slice (some ⟨vb,0,none⟩) 1 1] w fun e w'=>∃cap,e=.returned (.slice (some ⟨w.heap.size,0,none⟩) (n+1) cap)∧w'.ownsRow B 119 3 (.slice (some ⟨w.heap.size,0,none⟩) (n+1) cap) (n+1) (xs.take (i*3)++vs++xs.drop (i*3))∧Kb [] w w':=by
 have ix:=al
 obtain⟨nR,aR⟩:=al
 rcases aR with⟨e1,e2⟩ | ⟨g',cap,cur,e1,OJ,hg,DB,Ci,bH,sK⟩
 · simp at e1
 simp only[Value.slice.injEq,Option.some.injEq,Addr.mk.injEq]at e1
 obtain⟨⟨rfl,_⟩,_,rfl⟩:=e1
 obtain⟨i0,jy,ew,uj,Uc⟩:=info_parts Tryz.rB
 have dX:¬((i:Int)=(n:Int)):=by omega
 have hz3:(c:Int)<(n:Int)+1:=by omega
 have cE:(Tryz.prog.info? 119).map (·.size)=some 3:=by rw[jy];simp[uj]
 have ZU:g<w.heap.size:=(Array.getElem?_eq_some_iff.1 hg).1
 have V2:vb<w.heap.size:=(Array.getElem?_eq_some_iff.1 tY).1
 have dI:∀(b o j:Nat),(⟨b,o,none⟩:Addr).add j=⟨b,o+j,none⟩:=by intro b o j;unfold Addr.add;split<;>simp_all
 have dg:∀(j:Nat) u,xs[j]?=some u→w.cell? ⟨g,j,none⟩=some u:=fun j u hj=>by
  have:=World.ownsRow.cells ix (g:=g) rfl j u hj
  rw[dI]at this
  simpa using this
 have xB:(xs.take (i*3)).length=i*3:=by rw[List.length_take,nR];omega
 have xH:(xs.drop (i*3)).length=(n-i)*3:=by rw[List.length_drop,nR];omega
 have hold:(Builtin.firstCells i0.size i (.slice (some ⟨g,0,none⟩) i c)).run Tryz.prog w.drew=.ok (xs.take (i*3)).toArray w.drew:=by
  rw[uj]
  exact run_firstCells_some w.drew 3 i ⟨g,0,none⟩ i c (xs.take (i*3)) xB (fun j v hj=>by
   rw[dI,Nat.zero_add]
   rw[List.getElem?_take]at hj
   split at hj
   · exact dg j v hj
   · cases hj)
 have Xu:(n:Int)+1-(i:Int)=((n+1-i:Nat):Int):=by omega
 have OK:i+(n+1-i)=n+1:=by omega
 obtain⟨G,hG⟩:∃G,G=grownCap w (n+1) c 119:=⟨_,rfl⟩
 obtain⟨vq,BO⟩:∃vq:Array Value,vq=(xs.take (i*3)).toArray++Builtin.zeroCells (Value.cells (.agg #[.string ByteArray.empty,.string ByteArray.empty,.string ByteArray.empty])) (n+1-i)++Builtin.zeroCells (Value.cells (.agg #[.string ByteArray.empty,.string ByteArray.empty,.string ByteArray.empty])) (G-(n+1)):=⟨_,rfl⟩
 have RM:n+1≤G:=by rw[hG];exact grownCap_ge w _ _ _
 have Yj:G≤maxLen:=by rw[hG];exact grownCap_le_maxLen w (n+1) c 119 (by unfold maxLen;omega)
 have MV:vq.size=G*3:=by
  rw[BO]
  simp only[Array.size_append,List.size_toArray,xB,size_zeroCells]
  have:(Value.cells (.agg #[.string ByteArray.empty,.string ByteArray.empty,.string ByteArray.empty])).size=3:=rfl
  rw[this]
  omega
 have XR:vq.toList.take (i*3)=xs.take (i*3):=by
  rw[BO]
  simp only[Array.toList_append,List.append_assoc]
  exact List.take_left' (by rw[xB])
 have WQ:∀ty,(Builtin.append_ #[113,3] ty #[.slice (some ⟨g,0,none⟩) i c,.int .i64 ((n:Int)+1-(i:Int))]).run Tryz.prog w=.ok (.slice (some ⟨w.heap.size,0,none⟩) (n+1) G) (w.drew.alloc (.cells vq 119)):=fun ty=>by
  have h:=Lib.run_append_grow_zeros w 113 3 ty 119 i0 _ .i64 .i64 Tryz.underlying113 Tryz.underlying3 jy ew (some ⟨g,0,none⟩) i c (xs.take (i*3)) hold (n+1-i) (by omega) (by rw[uj];decide) (by omega) (by omega) (by rw[Uc];omega) (by rw[Uc,OK];exact growslice_fits kQ (by omega))
  rw[OK,←hG,←BO]at h
  rw[Xu]
  exact h
 obtain⟨W1,sC⟩:∃W1,W1=w.drew.alloc (.cells vq 119):=⟨_,rfl⟩
 rw[←sC]at WQ
 have G9:W1.heap[w.heap.size]?=some (.cells vq 119 (0,0)):=by rw[sC];exact heap_alloc_new w.drew _
 have FQ:∀k o,w.heap[k]?=some o→W1.heap[k]?=some o:=fun k o h=>by
  rw[sC]
  have:=Below.heap_alloc w.drew (.cells vq 119) k (Array.getElem?_eq_some_iff.1 h).1
  rw[this]
  exact h
 have ads:g≠w.heap.size:=by omega
 have adL:vb≠w.heap.size:=by omega
 obtain⟨L1,ti⟩:∃L1:List Value,L1=vq.toList.take (i*3)++vs++vq.toList.drop (i*3+vs.length):=⟨_,rfl⟩
 obtain⟨W2,tz⟩:∃W2,W2=W1.setRow w.heap.size L1.toArray:=⟨_,rfl⟩
 have FX:∀ty dc,(Builtin.copy_ #[113,113] ty #[.slice (some ⟨w.heap.size,i*3,none⟩) (n+1-i) dc,.slice (some ⟨vb,0,none⟩) 1 1]).run Tryz.prog W1=.ok (goInt 1) W2:=fun ty dc=>by
  rw[tz,ti]
  have:=dF Tryz.prog W1 113 113 ty 119 w.heap.size (i*3) (n+1-i) dc ⟨vb,0,none⟩ 1 1 vq 119 vs 3 1 Tryz.underlying113 cE G9 (by simp only[Nat.min_def];split<;>omega) (by rw[lV])
   (fun j v hj=>by rw[dI,Nat.zero_add,cell_of_row _ vb j _ _ _ (FQ _ _ tY)];simpa using hj)
   (by rw[lV,MV];omega) h1
  simpa using this
 have Gj:W2.heap[w.heap.size]?=some (.cells L1.toArray 119 (0,0)):=by rw[tz];exact bt W1 _ _ G9
 have OL:∀k o,w.heap[k]?=some o→W2.heap[k]?=some o:=fun k o h=>by
  have:k≠w.heap.size:=by have:=(Array.getElem?_eq_some_iff.1 h).1;omega
  rw[tz,dR _ _ _ _ this]
  exact FQ k o h
 have wX:L1.length=G*3:=by rw[ti];simp only[List.length_append,List.length_take,List.length_drop,Array.length_toList,MV,lV];omega
 obtain⟨tH,qy⟩:=xI vq.toList vs (xs.drop (i*3)) (i*3) 3 ((n-i)*3) lV xH (by rw[Array.length_toList,MV];omega)
 rw[←ti]at tH qy
 obtain⟨W3,Ri⟩:∃W3,W3=W2.drew.setRow w.heap.size (L1.take (i*3+3)++xs.drop (i*3)++L1.drop (i*3+3+(xs.drop (i*3)).length)).toArray:=⟨_,rfl⟩
 have F5:∀ty dc sc,(Builtin.copy_ #[113,113] ty #[.slice (some ⟨w.heap.size,(i+1)*3,none⟩) (n-i) dc,.slice (some ⟨g,i*3,none⟩) (n-i) sc]).run Tryz.prog W2.drew=.ok (goInt ((n-i:Nat):Int)) W3:=fun ty dc sc=>by
  rw[Ri,show(i+1)*3=i*3+3 by omega]
  have:=dF Tryz.prog W2.drew 113 113 ty 119 w.heap.size (i*3+3) (n-i) dc ⟨g,i*3,none⟩ (n-i) sc L1.toArray 119 (xs.drop (i*3)) 3 (n-i) Tryz.underlying113 cE Gj (by simp only[Nat.min_def];split<;>omega) xH
   (fun j v hj=>by
     rw[dI]
     have e:=dg (i*3+j) v (by rwa [List.getElem?_drop]at hj)
     rw[cell_of_row _ g _ _ _ _ hg]at e
     have e2:W2.drew.heap[g]?=some (.cells cur 119 (0,0)):=OL _ _ hg
     rw[cell_of_row _ g _ _ _ _ e2]
     exact e)
   (by rw[List.size_toArray,wX,xH];omega) (fun v hv=>p8 v (List.mem_of_mem_drop hv))
  simpa using this
 have nW:W3.ownsRow B 119 3 (.slice (some ⟨w.heap.size,0,none⟩) (n+1) G) (n+1) (xs.take (i*3)++vs++xs.drop (i*3)):=by
  refine⟨by simp only[List.length_append,xB,lV,xH];omega,.inr ⟨w.heap.size,G,(L1.take (i*3+3)++xs.drop (i*3)++L1.drop (i*3+3+(xs.drop (i*3)).length)).toArray,rfl,hB, ?_,RM,Yj, ?_, ?_⟩⟩
  · rw[Ri];exact bt W2.drew _ _ Gj
  · rw[List.size_toArray,tH,Array.length_toList,MV]
  · show List.take _ (L1.take (i*3+3)++xs.drop (i*3)++L1.drop (i*3+3+(xs.drop (i*3)).length))=_
    rw[show(n+1)*3=i*3+3+(n-i)*3 by omega,qy,XR]
 have fq:Kb [] w W3:=by
  rw[Ri,tz,sC]
  exact(((((Kb.refl [] w).drew).alloc _).trans' (Kb.setRow _ _ _) (fun k hk aE=>by simp at hk;omega)).drew).trans' (Kb.setRow _ _ _) (fun k hk aE=>by simp at hk;omega)
 have sL:IntKind.i64.wrap ((i:Int)+1)=(i:Int)+1:=by rw[IntKind.wrap_i64];omega
 have a8:(0:Int)≤(i:Int)+1:=by omega
 have wV:((i:Int)+1).toNat=i+1:=by omega
 have cM:¬(G=i+1):=by omega
 have kW:¬(G=i):=by omega
 have la:¬(c=i):=by omega
 have acq:G≤9223372036854775807:=by unfold maxLen at Yj;omega
 have dN:i≤n:=by omega
 have Jp:(i:Int)≤(n:Int)+1:=by omega
 clear tH qy sK cE ix lV h1 p8 bH tY nR xH dI dg G9 FQ ti wX tz sC hg hold xB jy ew uj Uc Gj OL Ri BO MV XR hG Xu OK
 go_enter Tryz.func245,Tryz.ntmps245
 go_wp2_with (first | (at_builtin;refine kC _ rfl _ _ 113 3 rfl _ _ rfl rfl (WQ _) ?_) | (at_builtin;refine gh _ rfl _ _ 113 113 rfl _ _ rfl rfl (FX _ _) ?_))
 go_region_law (refine iY rfl _ _ 113 113 rfl _ _ (by simp[Act.eval,Act.put]) (by simp[Act.eval,Act.put]) (F5 _ _ _) ?_)
 go_wp2_with fail
 go_ret
 exact⟨G,rfl,nW,fq⟩
theorem yX(w:World)(B:Nat)(rd:Option Addr)(rc n i vb:Nat)(xs vs:List Value)(al:w.ownsRow B 119 3 (.slice rd n rc) n xs)(hB:B≤w.heap.size)(hi:i≤n)(hn:n≤1000000)(p8:∀u∈xs,u.oneCell'=true)
 (lV:vs.length=3)(tY:w.heap[vb]?=some (.cells vs.toArray 119 (0,0)))(cA:some vb≠Value.ownBlock (.slice rd n rc))(h1:∀u∈vs,u.oneCell'=true):
 Calls Tryz.prog 245 #[.slice rd n rc,.int .i64 i,.slice (some ⟨vb,0,none⟩) 1 1] w fun e w'=>∃g cap,e=.returned (.slice (some ⟨g,0,none⟩) (n+1) cap)∧w'.ownsRow B 119 3 (.slice (some ⟨g,0,none⟩) (n+1) cap) (n+1) (xs.take (i*3)++vs++xs.drop (i*3))∧Kb (Value.ownBlock (.slice rd n rc)).toList w w'∧cw w (.slice rd n rc) (.slice (some ⟨g,0,none⟩) (n+1) cap):=by
 by_cases dN:i=n
 · subst dN
   have R6:∀(j:Nat) u,vs[j]?=some u→w.cell? ⟨vb,j,none⟩=some u:=fun j u hj=>by rw[cell_of_row _ vb j _ _ _ tY];simpa using hj
   refine(Kw w B rd rc i xs vs vb al hB hn lV R6 h1).mono ?_
   rintro e w' ⟨g,cap,rfl,h2,h3,h4⟩
   have e1:xs.take (i*3)=xs:=List.take_of_length_le (by rw[al.1];omega)
   have e2:xs.drop (i*3)=[]:=List.drop_of_length_le (by rw[al.1];omega)
   exact⟨g,cap,rfl,by rw[e1,e2,List.append_nil];exact h2,h3,h4⟩
 · have qV:∃g,rd=some ⟨g,0,none⟩:=by
    rcases al.2 with⟨_,e2⟩ | ⟨g,cap,cur,e1,_⟩
    · omega
    · simp only[Value.slice.injEq]at e1
      exact⟨g,e1.1⟩
   obtain⟨g,rfl⟩:=qV
   have VN:vb≠g:=fun e=>cA (by rw[e];rfl)
   by_cases hr:n+1≤rc
   · refine(Fa w B g n rc i vb xs vs al (by omega) hr hn p8 lV tY VN h1).mono ?_
     rintro e w' ⟨rfl,h2,h3⟩
     exact⟨g,rc,rfl,h2,h3,fun b hb=>.inl hb⟩
   · refine(Gr w B g n rc i vb xs vs al hB (by omega) (by omega) hn p8 lV tY h1).mono ?_
     rintro e w' ⟨cap,rfl,h2,h3⟩
     refine⟨w.heap.size,cap,rfl,h2,h3.mono (fun k hk=>by cases hk), ?_⟩
     intro b hb
     simp only[Value.ownBlock,Option.some.injEq]at hb
     exact .inr (by omega)
theorem Ge(w:World)(B g n c i vb:Nat)(xs vs:List Value)(al:w.ownsRow B 3 1 (.slice (some ⟨g,0,none⟩) n c) n xs)(hB:B≤w.heap.size)(hi:i<n)(kQ:c<n+1)(hn:n≤1000000)(p8:∀u∈xs,u.oneCell'=true)
 (lV:vs.length=1)(tY:w.heap[vb]?=some (.cells vs.toArray 3 (0,0)))(h1:∀u∈vs,u.oneCell'=true):
 Calls Tryz.prog 264 #[.slice (some ⟨g,0,none⟩) n c,.int .i64 i,.slice (some ⟨vb,0,none⟩) 1 1] w fun e w'=>∃cap,e=.returned (.slice (some ⟨w.heap.size,0,none⟩) (n+1) cap)∧w'.ownsRow B 3 1 (.slice (some ⟨w.heap.size,0,none⟩) (n+1) cap) (n+1) (xs.take (i)++vs++xs.drop (i))∧Kb [] w w':=by
 have ix:=al
 obtain⟨nR,aR⟩:=al
 rcases aR with⟨e1,e2⟩ | ⟨g',cap,cur,e1,OJ,hg,DB,Ci,bH,sK⟩
 · simp at e1
 simp only[Value.slice.injEq,Option.some.injEq,Addr.mk.injEq]at e1
 obtain⟨⟨rfl,_⟩,_,rfl⟩:=e1
 obtain⟨i0,jy,ew,uj,Uc⟩:=info_parts Tryz.BR
 have dX:¬((i:Int)=(n:Int)):=by omega
 have hz3:(c:Int)<(n:Int)+1:=by omega
 have cE:(Tryz.prog.info? 3).map (·.size)=some 1:=by rw[jy];simp[uj]
 have ZU:g<w.heap.size:=(Array.getElem?_eq_some_iff.1 hg).1
 have V2:vb<w.heap.size:=(Array.getElem?_eq_some_iff.1 tY).1
 have dI:∀(b o j:Nat),(⟨b,o,none⟩:Addr).add j=⟨b,o+j,none⟩:=by intro b o j;unfold Addr.add;split<;>simp_all
 have dg:∀(j:Nat) u,xs[j]?=some u→w.cell? ⟨g,j,none⟩=some u:=fun j u hj=>by
  have:=World.ownsRow.cells ix (g:=g) rfl j u hj
  rw[dI]at this
  simpa using this
 have xB:(xs.take (i)).length=i*1:=by rw[List.length_take,nR];omega
 have xH:(xs.drop (i)).length=(n-i)*1:=by rw[List.length_drop,nR];omega
 have hold:(Builtin.firstCells i0.size i (.slice (some ⟨g,0,none⟩) i c)).run Tryz.prog w.drew=.ok (xs.take (i)).toArray w.drew:=by
  rw[uj]
  exact run_firstCells_some w.drew 1 i ⟨g,0,none⟩ i c (xs.take (i)) xB (fun j v hj=>by
   rw[dI,Nat.zero_add]
   rw[List.getElem?_take]at hj
   split at hj
   · exact dg j v hj
   · cases hj)
 have Xu:(n:Int)+1-(i:Int)=((n+1-i:Nat):Int):=by omega
 have OK:i+(n+1-i)=n+1:=by omega
 obtain⟨G,hG⟩:∃G,G=grownCap w (n+1) c 3:=⟨_,rfl⟩
 obtain⟨vq,BO⟩:∃vq:Array Value,vq=(xs.take (i)).toArray++Builtin.zeroCells (Value.cells (.int .i64 0)) (n+1-i)++Builtin.zeroCells (Value.cells (.int .i64 0)) (G-(n+1)):=⟨_,rfl⟩
 have RM:n+1≤G:=by rw[hG];exact grownCap_ge w _ _ _
 have Yj:G≤maxLen:=by rw[hG];exact grownCap_le_maxLen w (n+1) c 3 (by unfold maxLen;omega)
 have MV:vq.size=G*1:=by
  rw[BO]
  simp only[Array.size_append,List.size_toArray,xB,size_zeroCells]
  have:(Value.cells (.int .i64 0)).size=1:=rfl
  rw[this]
  omega
 have XR:vq.toList.take (i)=xs.take (i):=by
  rw[BO]
  simp only[Array.toList_append,List.append_assoc]
  exact List.take_left' (by rw[xB];omega)
 have WQ:∀ty,(Builtin.append_ #[31,3] ty #[.slice (some ⟨g,0,none⟩) i c,.int .i64 ((n:Int)+1-(i:Int))]).run Tryz.prog w=.ok (.slice (some ⟨w.heap.size,0,none⟩) (n+1) G) (w.drew.alloc (.cells vq 3)):=fun ty=>by
  have h:=Lib.run_append_grow_zeros w 31 3 ty 3 i0 _ .i64 .i64 Tryz.underlying31 Tryz.underlying3 jy ew (some ⟨g,0,none⟩) i c (xs.take (i)) hold (n+1-i) (by omega) (by rw[uj];decide) (by omega) (by omega) (by rw[Uc];omega) (by rw[Uc,OK];exact growslice_fits kQ (by omega))
  rw[OK,←hG,←BO]at h
  rw[Xu]
  exact h
 obtain⟨W1,sC⟩:∃W1,W1=w.drew.alloc (.cells vq 3):=⟨_,rfl⟩
 rw[←sC]at WQ
 have G9:W1.heap[w.heap.size]?=some (.cells vq 3 (0,0)):=by rw[sC];exact heap_alloc_new w.drew _
 have FQ:∀k o,w.heap[k]?=some o→W1.heap[k]?=some o:=fun k o h=>by
  rw[sC]
  have:=Below.heap_alloc w.drew (.cells vq 3) k (Array.getElem?_eq_some_iff.1 h).1
  rw[this]
  exact h
 have ads:g≠w.heap.size:=by omega
 have adL:vb≠w.heap.size:=by omega
 obtain⟨L1,ti⟩:∃L1:List Value,L1=vq.toList.take (i)++vs++vq.toList.drop (i+vs.length):=⟨_,rfl⟩
 obtain⟨W2,tz⟩:∃W2,W2=W1.setRow w.heap.size L1.toArray:=⟨_,rfl⟩
 have FX:∀ty dc,(Builtin.copy_ #[31,31] ty #[.slice (some ⟨w.heap.size,i,none⟩) (n+1-i) dc,.slice (some ⟨vb,0,none⟩) 1 1]).run Tryz.prog W1=.ok (goInt 1) W2:=fun ty dc=>by
  rw[tz,ti]
  have:=dF Tryz.prog W1 31 31 ty 3 w.heap.size (i) (n+1-i) dc ⟨vb,0,none⟩ 1 1 vq 3 vs 1 1 Tryz.underlying31 cE G9 (by simp only[Nat.min_def];split<;>omega) (by rw[lV])
   (fun j v hj=>by rw[dI,Nat.zero_add,cell_of_row _ vb j _ _ _ (FQ _ _ tY)];simpa using hj)
   (by rw[lV,MV];omega) h1
  simpa using this
 have Gj:W2.heap[w.heap.size]?=some (.cells L1.toArray 3 (0,0)):=by rw[tz];exact bt W1 _ _ G9
 have OL:∀k o,w.heap[k]?=some o→W2.heap[k]?=some o:=fun k o h=>by
  have:k≠w.heap.size:=by have:=(Array.getElem?_eq_some_iff.1 h).1;omega
  rw[tz,dR _ _ _ _ this]
  exact FQ k o h
 have wX:L1.length=G*1:=by rw[ti];simp only[List.length_append,List.length_take,List.length_drop,Array.length_toList,MV,lV];omega
 obtain⟨tH,qy⟩:=xI vq.toList vs (xs.drop (i)) (i) 1 ((n-i)*1) lV xH (by rw[Array.length_toList,MV];omega)
 rw[←ti]at tH qy
 obtain⟨W3,Ri⟩:∃W3,W3=W2.drew.setRow w.heap.size (L1.take (i+1)++xs.drop (i)++L1.drop (i+1+(xs.drop (i)).length)).toArray:=⟨_,rfl⟩
 have F5:∀ty dc sc,(Builtin.copy_ #[31,31] ty #[.slice (some ⟨w.heap.size,i+1,none⟩) (n-i) dc,.slice (some ⟨g,i,none⟩) (n-i) sc]).run Tryz.prog W2.drew=.ok (goInt ((n-i:Nat):Int)) W3:=fun ty dc sc=>by
  rw[Ri,show i+1=i+1 by omega]
  have:=dF Tryz.prog W2.drew 31 31 ty 3 w.heap.size (i+1) (n-i) dc ⟨g,i,none⟩ (n-i) sc L1.toArray 3 (xs.drop (i)) 1 (n-i) Tryz.underlying31 cE Gj (by simp only[Nat.min_def];split<;>omega) xH
   (fun j v hj=>by
     rw[dI]
     have e:=dg (i+j) v (by rwa [List.getElem?_drop]at hj)
     rw[cell_of_row _ g _ _ _ _ hg]at e
     have e2:W2.drew.heap[g]?=some (.cells cur 3 (0,0)):=OL _ _ hg
     rw[cell_of_row _ g _ _ _ _ e2]
     exact e)
   (by rw[List.size_toArray,wX,xH];omega) (fun v hv=>p8 v (List.mem_of_mem_drop hv))
  simpa using this
 have nW:W3.ownsRow B 3 1 (.slice (some ⟨w.heap.size,0,none⟩) (n+1) G) (n+1) (xs.take (i)++vs++xs.drop (i)):=by
  refine⟨by simp only[List.length_append,xB,lV,xH];omega,.inr ⟨w.heap.size,G,(L1.take (i+1)++xs.drop (i)++L1.drop (i+1+(xs.drop (i)).length)).toArray,rfl,hB, ?_,RM,Yj, ?_, ?_⟩⟩
  · rw[Ri];exact bt W2.drew _ _ Gj
  · rw[List.size_toArray,tH,Array.length_toList,MV]
  · show List.take _ (L1.take (i+1)++xs.drop (i)++L1.drop (i+1+(xs.drop (i)).length))=_
    rw[show(n+1)*1=i+1+(n-i)*1 by omega,qy,XR]
 have fq:Kb [] w W3:=by
  rw[Ri,tz,sC]
  exact(((((Kb.refl [] w).drew).alloc _).trans' (Kb.setRow _ _ _) (fun k hk aE=>by simp at hk;omega)).drew).trans' (Kb.setRow _ _ _) (fun k hk aE=>by simp at hk;omega)
 have sL:IntKind.i64.wrap ((i:Int)+1)=(i:Int)+1:=by rw[IntKind.wrap_i64];omega
 have a8:(0:Int)≤(i:Int)+1:=by omega
 have wV:((i:Int)+1).toNat=i+1:=by omega
 have cM:¬(G=i+1):=by omega
 have kW:¬(G=i):=by omega
 have la:¬(c=i):=by omega
 have acq:G≤9223372036854775807:=by unfold maxLen at Yj;omega
 have dN:i≤n:=by omega
 have Jp:(i:Int)≤(n:Int)+1:=by omega
 clear tH qy sK cE ix lV h1 p8 bH tY nR xH dI dg G9 FQ ti wX tz sC hg hold xB jy ew uj Uc Gj OL Ri BO MV XR hG Xu OK
 go_enter Tryz.func264,Tryz.ntmps264
 go_wp2_with (first | (at_builtin;refine kC _ rfl _ _ 31 3 rfl _ _ rfl rfl (WQ _) ?_) | (at_builtin;refine gh _ rfl _ _ 31 31 rfl _ _ rfl rfl (FX _ _) ?_))
 go_region_law (refine iY rfl _ _ 31 31 rfl _ _ (by simp[Act.eval,Act.put]) (by simp[Act.eval,Act.put]) (F5 _ _ _) ?_)
 go_wp2_with fail
 go_ret
 exact⟨G,rfl,nW,fq⟩
theorem yQ(w:World)(B:Nat)(rd:Option Addr)(rc n i vb:Nat)(xs vs:List Value)(al:w.ownsRow B 3 1 (.slice rd n rc) n xs)(hB:B≤w.heap.size)(hi:i≤n)(hn:n≤1000000)(p8:∀u∈xs,u.oneCell'=true)
 (lV:vs.length=1)(tY:w.heap[vb]?=some (.cells vs.toArray 3 (0,0)))(cA:some vb≠Value.ownBlock (.slice rd n rc))(h1:∀u∈vs,u.oneCell'=true):
 Calls Tryz.prog 264 #[.slice rd n rc,.int .i64 i,.slice (some ⟨vb,0,none⟩) 1 1] w fun e w'=>∃g cap,e=.returned (.slice (some ⟨g,0,none⟩) (n+1) cap)∧w'.ownsRow B 3 1 (.slice (some ⟨g,0,none⟩) (n+1) cap) (n+1) (xs.take (i)++vs++xs.drop (i))∧Kb (Value.ownBlock (.slice rd n rc)).toList w w'∧cw w (.slice rd n rc) (.slice (some ⟨g,0,none⟩) (n+1) cap):=by
 by_cases dN:i=n
 · subst dN
   have R6:∀(j:Nat) u,vs[j]?=some u→w.cell? ⟨vb,j,none⟩=some u:=fun j u hj=>by rw[cell_of_row _ vb j _ _ _ tY];simpa using hj
   refine(Ku w B rd rc i xs vs vb al hB hn lV R6 h1).mono ?_
   rintro e w' ⟨g,cap,rfl,h2,h3,h4⟩
   have e1:xs.take (i)=xs:=List.take_of_length_le (by rw[al.1];omega)
   have e2:xs.drop (i)=[]:=List.drop_of_length_le (by rw[al.1];omega)
   exact⟨g,cap,rfl,by rw[e1,e2,List.append_nil];exact h2,h3,h4⟩
 · have qV:∃g,rd=some ⟨g,0,none⟩:=by
    rcases al.2 with⟨_,e2⟩ | ⟨g,cap,cur,e1,_⟩
    · omega
    · simp only[Value.slice.injEq]at e1
      exact⟨g,e1.1⟩
   obtain⟨g,rfl⟩:=qV
   have VN:vb≠g:=fun e=>cA (by rw[e];rfl)
   by_cases hr:n+1≤rc
   · refine(Gp w B g n rc i vb xs vs al (by omega) hr hn p8 lV tY VN h1).mono ?_
     rintro e w' ⟨rfl,h2,h3⟩
     exact⟨g,rc,rfl,h2,h3,fun b hb=>.inl hb⟩
   · refine(Ge w B g n rc i vb xs vs al hB (by omega) (by omega) hn p8 lV tY h1).mono ?_
     rintro e w' ⟨cap,rfl,h2,h3⟩
     refine⟨w.heap.size,cap,rfl,h2,h3.mono (fun k hk=>by cases hk), ?_⟩
     intro b hb
     simp only[Value.ownBlock,Option.some.injEq]at hb
     exact .inr (by omega)
end
/- put: a fact's row into a table. -/
section
open Go.RowKit
open Go.Sort (grow)
structure cp(w:World)(g:Nat)(T:TypeId)(nm:ByteArray)(pl:Nat)(rd:Option Addr)(rc:Nat)(L:List (List ByteArray))(rest:List Value):Prop where
 cU:w.heap[g]?=some (.cells (Value.string nm:: .int .i64 pl:: .slice rd L.length rc::rest).toArray T (0,0))
 rows:kj w rd rc L
 ord:Tb.Ord L
 type:T≠119
theorem cp.below{w w':World}{g:Nat}{T:TypeId}{nm:ByteArray}{pl:Nat}{rd:Option Addr}{rc:Nat}{L:List (List ByteArray)}{rest:List Value}(h:cp w g T nm pl rd rc L rest)(hb:Below w.heap.size w w'):cp w' g T nm pl rd rc L rest:=
 ⟨by rw[hb.block g (lt_of_heap h.cU)];exact h.cU,h.rows.below hb,h.ord,h.type⟩
theorem cp.kept{w w':World}{S:List Nat}{g:Nat}{T:TypeId}{nm:ByteArray}{pl:Nat}{rd:Option Addr}{rc:Nat}{L:List (List ByteArray)}{rest:List Value}(h:cp w g T nm pl rd rc L rest)(hk:Kb S w w')(hg:¬g∈S)(hr:∀b,Value.ownBlock (.slice rd L.length rc)=some b→¬b∈S):cp w' g T nm pl rd rc L rest:=
 ⟨hk.heap h.cU hg,⟨h.rows.three,hk.row h.rows.own hr⟩,h.ord,h.type⟩
theorem cp.lE{w:World}{g:Nat}{T:TypeId}{nm:ByteArray}{pl:Nat}{rd:Option Addr}{rc:Nat}{L:List (List ByteArray)}{rest:List Value}(h:cp w g T nm pl rd rc L rest):w.cell? ⟨g,2,none⟩=some (.slice rd L.length rc)∧w.frozen? ⟨g,2,none⟩=false∧w.cell? ⟨g,1,none⟩=some (.int .i64 pl)∧w.cell? ⟨g,0,none⟩=some (.string nm):=by
 refine⟨?_, ?_, ?_, ?_⟩
 · rw[cell_of_row _ _ 2 _ _ _ h.cU];simp
 · simp[World.frozen?,h.cU]
 · rw[cell_of_row _ _ 1 _ _ _ h.cU];simp
 · rw[cell_of_row _ _ 0 _ _ _ h.cU];simp
theorem cp.apart{w:World}{g:Nat}{T:TypeId}{nm:ByteArray}{pl:Nat}{rd:Option Addr}{rc:Nat}{L:List (List ByteArray)}{rest:List Value}(h:cp w g T nm pl rd rc L rest):¬g∈(Value.ownBlock (.slice rd L.length rc)).toList:=by
 intro hc
 rcases h.rows.own.2 with⟨e,_⟩ | ⟨g',cap,cur,e,_,hg,_⟩
 · rw[e]at hc;simp[Value.ownBlock]at hc
 · rw[e]at hc
   simp only[Value.ownBlock,Option.toList_some,List.mem_singleton]at hc
   rw[←hc,h.cU]at hg
   simp only[Option.some.injEq,Obj.cells.injEq]at hg
   exact h.type hg.2.1
theorem an(w:World){g:Nat}{cur:Array Value}{T:TypeId}{fr:Nat×Nat}(h:w.heap[g]?=some (.cells cur T fr))(o:Nat)(v:Value):(w.setCell ⟨g,o,none⟩ v).heap[g]?=some (.cells (cur.setIfInBounds o v) T fr):=by
 rw[setCell_eq_setRow w g o cur T fr v h]
 exact bt w g _ h
theorem Lu{w W w3:World}{g:Nat}{T:TypeId}{nm:ByteArray}{pl:Nat}{rd:Option Addr}{rc:Nat}{L:List (List ByteArray)}{rest:List Value}(h:cp w g T nm pl rd rc L rest)(hW:Below w.heap.size w W){a b c:ByteArray}
 (hni:Tb.mg L [a,b,c]=false){g' cap:Nat}
 (al:w3.ownsRow 0 119 3 (.slice (some ⟨g',0,none⟩) (L.length+1) cap) (L.length+1) ((aM L).take (Tb.pos L [a,b,c]*3)++[.string a,.string b,.string c]++(aM L).drop (Tb.pos L [a,b,c]*3)))
 (hk:Kb (Value.ownBlock (.slice rd L.length rc)).toList W w3)(hf:cw W (.slice rd L.length rc) (.slice (some ⟨g',0,none⟩) (L.length+1) cap)):
 cp (w3.setCell ⟨g,2,none⟩ (.slice (some ⟨g',0,none⟩) (L.length+1) cap)) g T nm pl (some ⟨g',0,none⟩) cap (Tb.put L [a,b,c]) rest∧(Tb.put L [a,b,c]).length=L.length+1∧
  Kb (g::(Value.ownBlock (.slice rd L.length rc)).toList) w (w3.setCell ⟨g,2,none⟩ (.slice (some ⟨g',0,none⟩) (L.length+1) cap))∧cw w (.slice rd L.length rc) (.slice (some ⟨g',0,none⟩) (L.length+1) cap):=by
 have ga:¬[a,b,c]∈L:=fun hc=>by rw[Tb.dY.2 hc]at hni;cases hni
 have Es:Tb.put L [a,b,c]=Tb.ins L [a,b,c]:=by unfold Tb.put;rw[hni];rfl
 have hlen:(Tb.put L [a,b,c]).length=L.length+1:=by
  rw[Es]
  have:=Tb.qg L [a,b,c]
  simp only[Tb.ins,List.length_append,List.length_cons,List.length_take,List.length_drop]
  omega
 have GW:=h.apart
 have hblk:w3.heap[g]?=_:=hk.heap (by rw[hW.block g (lt_of_heap h.cU)];exact h.cU) GW
 have hth:p7 (Tb.put L [a,b,c]):=by
  intro r hr
  rcases Tb.vS.1 hr with rfl | hr
  · rfl
  · exact h.rows.three r hr
 have bH:aM (Tb.put L [a,b,c])=(aM L).take (Tb.pos L [a,b,c]*3)++[.string a,.string b,.string c]++(aM L).drop (Tb.pos L [a,b,c]*3):=by
  rw[Es,lU _ h.rows.three,je _ h.rows.three,Tb.ins,qR]
  simp[aM]
 have hgg:g'≠g:=by
  rcases al.2 with⟨e,_⟩ | ⟨x,FN,cur,e,_,hg,_⟩
  · simp at e
  · simp only[Value.slice.injEq,Option.some.injEq,Addr.mk.injEq]at e
    obtain⟨⟨rfl,_⟩,_⟩:=e
    rintro rfl
    rw[hblk]at hg
    simp only[Option.some.injEq,Obj.cells.injEq]at hg
    exact h.type hg.2.1
 refine⟨⟨?_,⟨hth, ?_⟩,Tb.RU h.ord _,h.type⟩,hlen, ?_, ?_⟩
 · rw[an w3 hblk,hlen]
   rfl
 · rw[hlen,bH]
   refine(Kb.setCell w3 ⟨g,2,none⟩ _).row al ?_
   intro x hx
   simp only[Value.ownBlock,Option.some.injEq]at hx
   subst hx
   simpa using hgg
 · refine Kb.trans' ((Kb.bF hW _).trans (hk.mono ?_)) (Kb.setCell w3 _ _) ?_
   · intro i hi _;exact List.mem_cons_of_mem _ hi
   · intro i hi _
     simp only[List.mem_singleton]at hi
     subst hi
     simp
 · intro x hx
   rcases hf x hx with e | e
   · exact .inl e
   · exact .inr (Nat.le_trans hW.size e)
theorem Hm(w:World)(g:Nat)(T:TypeId)(nm:ByteArray)(pl:Nat)(rd:Option Addr)(rc:Nat)(L:List (List ByteArray))(rest:List Value)(a b c:ByteArray)(h:cp w g T nm pl rd rc L rest)(hL:L.length≤999999):
 Calls Tryz.prog 196 #[.pointer (some ⟨g,0,none⟩),.agg #[.string a,.string b,.string c]] w fun e w'=>∃rd' rc',
  e=.returned (.tuple #[.int .i64 (Tb.pos L [a,b,c]:Nat),.bool (!Tb.mg L [a,b,c])])∧cp w' g T nm pl rd' rc' (Tb.put L [a,b,c]) rest∧
   Kb (g::(Value.ownBlock (.slice rd L.length rc)).toList) w w'∧cw w (.slice rd L.length rc) (.slice rd' (Tb.put L [a,b,c]).length rc'):=by
 obtain⟨w0,cZ⟩:∃w0,w0=w.alloc (.cells #[.string a,.string b,.string c] 119):=⟨_,rfl⟩
 have bL:Below w.heap.size w w0:=by rw[cZ];exact(Below.refl _ _).alloc (Nat.le_refl _) _
 have lX:w0.heap[w.heap.size]?=some (.cells #[.string a,.string b,.string c] 119 (0,0)):=by rw[cZ];exact heap_alloc_new w _
 have t0:w0.cell? ⟨w.heap.size,0,none⟩=some (.string a):=by rw[cell_of_row _ _ 0 _ _ _ lX];rfl
 have t1:w0.cell? ⟨w.heap.size,1,none⟩=some (.string b):=by rw[cell_of_row _ _ 1 _ _ _ lX];rfl
 have t2:w0.cell? ⟨w.heap.size,2,none⟩=some (.string c):=by rw[cell_of_row _ _ 2 _ _ _ lX];rfl
 have h0:=h.below bL
 have ud:=ss w0 g rd rc L a b c h0.rows (by omega) h0.ord h0.lE.1
 cases dN:Tb.mg L [a,b,c]with
 | true=>
  rw[dN]at ud
  have Es:Tb.put L [a,b,c]=L:=by unfold Tb.put;rw[dN];rfl
  rw[Es]
  generalize Tb.pos L [a,b,c]=ps at ud ⊢
  clear t0 t1 t2 lX dN Es
  go_enter Tryz.func196,Tryz.ntmps196
  go_wp2_with fail
  rw[←cZ]
  clear cZ
  refine ud.mono ?_
  rintro e w1 ⟨rfl,a8⟩
  have fQ:Below w.heap.size w w1:=bL.trans (a8.mono bL.size)
  have dU:=h.below fQ
  clear ud h0 h
  go_wp2_with fail
  go_ret2
  exact⟨rd,rc,rfl,dU,Kb.bF fQ _,cw.refl _ _⟩
 | false=>
  rw[dN]at ud
  have XU:Hid (Tb.mg L [a,b,c]=false):=dN
  have TE:∀(W1 W:World),Below w0.heap.size w0 W1→W.heap=(W1.alloc (.cells #[.string a,.string b,.string c] 119)).heap→Calls Tryz.prog 245 #[.slice rd L.length rc,.int .i64 (Tb.pos L [a,b,c]:Nat),.slice (some ⟨W1.heap.size,0,none⟩) 1 1] W fun e w3=>∃g' cap,e=.returned (.slice (some ⟨g',0,none⟩) (L.length+1) cap)∧
   (w3.ownsRow 0 119 3 (.slice (some ⟨g',0,none⟩) (L.length+1) cap) (L.length+1) ((aM L).take (Tb.pos L [a,b,c]*3)++[.string a,.string b,.string c]++(aM L).drop (Tb.pos L [a,b,c]*3))∧Kb (Value.ownBlock (.slice rd L.length rc)).toList W w3∧cw W (.slice rd L.length rc) (.slice (some ⟨g',0,none⟩) (L.length+1) cap))∧w3.cell? ⟨g,2,none⟩=some (.slice rd L.length rc)∧w3.frozen? ⟨g,2,none⟩=false:=by
   intro W1 W a8 hW
   have h1:=h0.below a8
   have E7:=h1.rows.own
   have KK:W.ownsRow 0 119 3 (.slice rd L.length rc) L.length (aM L):=by
    have:=E7.alloc (.cells #[.string a,.string b,.string c] 119)
    refine⟨this.1, ?_⟩
    rw[hW]
    exact this.2
   have dM:W.heap[g]?=some (.cells (Value.string nm:: .int .i64 pl:: .slice rd L.length rc::rest).toArray T (0,0)):=by
    rw[hW,Below.heap_alloc _ _ _ (lt_of_heap h1.cU)]
    exact h1.cU
   refine(yX W 0 rd rc L.length (Tb.pos L [a,b,c]) W1.heap.size (aM L) [.string a,.string b,.string c] KK (Nat.zero_le _) (Tb.qg _ _) (by omega) (nB L) rfl (by rw[hW];exact heap_alloc_new W1 _) ?_ (by intro u hu;simp at hu;rcases hu with rfl | rfl | rfl<;>rfl)).mono ?_
   · intro hc
     have:=(World.ownsRow.lt E7 W1.heap.size hc.symm).2
     omega
   · rintro e w3 ⟨g',cap,rfl,h2,h3,h4⟩
     have nP:=h3.heap dM h1.apart
     exact⟨g',cap,rfl,⟨h2,h3,h4⟩,by rw[cell_of_row _ _ 2 _ _ _ nP];simp,by simp[World.frozen?,nP]⟩
  have TL:=h0.lE.1
  have Ia:=h0.lE.2.1
  have mO:=lt_of_heap h0.cU
  have E4:w0.heap.size=w.heap.size+1:=by rw[cZ];simp
  clear dN
  generalize ux:Tb.pos L [a,b,c]=ps at ud TE ⊢
  have HPS:Hid (Tb.pos L [a,b,c]=ps):=ux
  clear lX ux
  go_enter Tryz.func196,Tryz.ntmps196
  go_wp2_with fail
  rw[←cZ]
  clear cZ
  refine ud.mono ?_
  rintro e w1 ⟨rfl,a8⟩
  have fQ:Below w.heap.size w w1:=bL.trans (a8.mono bL.size)
  have Sd:=fun W=>TE w1 W a8
  have s0:w1.cell? ⟨w.heap.size,0,none⟩=some (.string a):=by rw[a8.cell (by show w.heap.size<_;omega)];exact t0
  have s1:w1.cell? ⟨w.heap.size,1,none⟩=some (.string b):=by rw[a8.cell (by show w.heap.size<_;omega)];exact t1
  have s2:w1.cell? ⟨w.heap.size,2,none⟩=some (.string c):=by rw[a8.cell (by show w.heap.size<_;omega)];exact t2
  have s3:w1.cell? ⟨g,2,none⟩=some (.slice rd L.length rc):=by rw[a8.cell (by show g<_;omega)];exact TL
  have kV:=a8.size
  have akC:w.heap.size<w1.heap.size:=by omega
  have aa6:g<w1.heap.size:=by omega
  clear ud t0 t1 t2 TL Ia TE h0
  go_upto_region 3 with fail
  go_region_with (go_at_call 245;refine(Sd _ (by rfl)).mono ?_;rintro e w3 ⟨g',cap,rfl,hI,k2,kf⟩)
  all_goals
   (obtain⟨p1,p2,p3,p4⟩:=Lu h ((fQ.alloc fQ.size _).drew) XU.out (by rw[HPS.out];exact hI.1) hI.2.1 hI.2.2
    clear hI k2 kf Sd s0 s1 s2 s3
    go_wp2_with fail
    go_ret2
    exact⟨_,cap,rfl,p1,p3,by rw[p2];exact p4⟩)
end
end Go.Proofs.YtdmicblafmhflaaGreatDoor
