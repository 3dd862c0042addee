/- slices.Insert where there is no room. -/
import Derived.Test.YtdmicblafmhflaaGreatDoorC15
import Derived.Test.YtdmicblafmhflaaGreatDoorC14
set_option linter.unusedSimpArgs false
set_option linter.unusedVariables false
set_option maxHeartbeats 4000000
set_option maxRecDepth 100000
namespace Go.Proofs.YtdmicblafmhflaaGreatDoor
section
open Go.RowKit
theorem G6(w:World)(B g n c i vb:Nat)(xs vs:List Value)(al:w.ownsRow B 119 3 (.slice (some ⟨g,0,none⟩) n c) n xs)(hB:B≤w.heap.size)(hi:i<n)(ky:c<n+1)(hn:n≤1000000)(pQ:∀u∈xs,u.oneCell'=true)
 (lO:vs.length=3)(sP:w.heap[vb]?=some (.cells vs.toArray 119 (0,0)))(h1:∀u∈vs,u.oneCell'=true):
 Calls Tryz.prog 245 #[.slice (some ⟨g,0,none⟩) n c,.int .i64 i,.slice (some ⟨vb,0,none⟩) 1 1] w fun e w'=>∃cap,e=.returned (.slice (some ⟨w.heap.size,0,none⟩) (n+1) cap)∧w'.ownsRow B 119 3 (.slice (some ⟨w.heap.size,0,none⟩) (n+1) cap) (n+1) (xs.take (i*3)++vs++xs.drop (i*3))∧Kb [] w w':=by
 have gW:=al
 obtain⟨nT,aR⟩:=al
 rcases aR with⟨e1,e2⟩ | ⟨g',cap,cur,e1,M1,hg,EC,Ce,bH,sK⟩
 · simp at e1
 simp only[Value.slice.injEq,Option.some.injEq,Addr.mk.injEq]at e1
 obtain⟨⟨rfl,_⟩,_,rfl⟩:=e1
 obtain⟨i0,jt,ew,uB,Ul⟩:=info_parts Tryz.rH
 have dU:¬((i:Int)=(n:Int)):=by omega
 have hz3:(c:Int)<(n:Int)+1:=by omega
 have cE:(Tryz.prog.info? 119).map (·.size)=some 3:=by rw[jt];simp[uB]
 have hgw:g<w.heap.size:=(Array.getElem?_eq_some_iff.1 hg).1
 have Wl:vb<w.heap.size:=(Array.getElem?_eq_some_iff.1 sP).1
 have dI:∀(b o j:Nat),(⟨b,o,none⟩:Addr).add j=⟨b,o+j,none⟩:=by intro b o j;unfold Addr.add;split<;>simp_all
 have dh:∀(j:Nat) u,xs[j]?=some u→w.cell? ⟨g,j,none⟩=some u:=fun j u hj=>by
  have:=World.ownsRow.cells gW (g:=g) rfl j u hj
  rw[dI]at this
  simpa using this
 have xt:(xs.take (i*3)).length=i*3:=by rw[List.length_take,nT];omega
 have wk:(xs.drop (i*3)).length=(n-i)*3:=by rw[List.length_drop,nT];omega
 have hold:(Builtin.firstCells i0.size i (.slice (some ⟨g,0,none⟩) i c)).run Tryz.prog w.drew=.ok (xs.take (i*3)).toArray w.drew:=by
  rw[uB]
  exact run_firstCells_some w.drew 3 i ⟨g,0,none⟩ i c (xs.take (i*3)) xt (fun j v hj=>by
   rw[dI,Nat.zero_add]
   rw[List.getElem?_take]at hj
   split at hj
   · exact dh j v hj
   · cases hj)
 have YK:(n:Int)+1-(i:Int)=((n+1-i:Nat):Int):=by omega
 have Mv:i+(n+1-i)=n+1:=by omega
 obtain⟨G,hG⟩:∃G,G=grownCap w (n+1) c 119:=⟨_,rfl⟩
 obtain⟨u7,Bk⟩:∃u7:Array Value,u7=(xs.take (i*3)).toArray++Builtin.zeroCells (Value.cells (.agg #[.string ByteArray.empty,.string ByteArray.empty,.string ByteArray.empty])) (n+1-i)++Builtin.zeroCells (Value.cells (.agg #[.string ByteArray.empty,.string ByteArray.empty,.string ByteArray.empty])) (G-(n+1)):=⟨_,rfl⟩
 have P2:n+1≤G:=by rw[hG];exact grownCap_ge w _ _ _
 have Zn:G≤maxLen:=by rw[hG];exact grownCap_le_maxLen w (n+1) c 119 (by unfold maxLen;omega)
 have Oy:u7.size=G*3:=by
  rw[Bk]
  simp only[Array.size_append,List.size_toArray,xt,size_zeroCells]
  have:(Value.cells (.agg #[.string ByteArray.empty,.string ByteArray.empty,.string ByteArray.empty])).size=3:=rfl
  rw[this]
  omega
 have Zb:u7.toList.take (i*3)=xs.take (i*3):=by
  rw[Bk]
  simp only[Array.toList_append,List.append_assoc]
  exact List.take_left' (by rw[xt])
 have Xb:∀ty,(Builtin.append_ #[113,3] ty #[.slice (some ⟨g,0,none⟩) i c,.int .i64 ((n:Int)+1-(i:Int))]).run Tryz.prog w=.ok (.slice (some ⟨w.heap.size,0,none⟩) (n+1) G) (w.drew.alloc (.cells u7 119)):=fun ty=>by
  have h:=Lib.run_append_grow_zeros w 113 3 ty 119 i0 _ .i64 .i64 Tryz.underlying113 Tryz.underlying3 jt ew (some ⟨g,0,none⟩) i c (xs.take (i*3)) hold (n+1-i) (by omega) (by rw[uB];decide) (by omega) (by omega) (by rw[Ul];omega) (by rw[Ul,Mv];exact growslice_fits ky (by omega))
  rw[Mv,←hG,←Bk]at h
  rw[YK]
  exact h
 obtain⟨W1,ry⟩:∃W1,W1=w.drew.alloc (.cells u7 119):=⟨_,rfl⟩
 rw[←ry]at Xb
 have GN:W1.heap[w.heap.size]?=some (.cells u7 119 (0,0)):=by rw[ry];exact heap_alloc_new w.drew _
 have Fi:∀k o,w.heap[k]?=some o→W1.heap[k]?=some o:=fun k o h=>by
  rw[ry]
  have:=Below.heap_alloc w.drew (.cells u7 119) k (Array.getElem?_eq_some_iff.1 h).1
  rw[this]
  exact h
 have adM:g≠w.heap.size:=by omega
 have acD:vb≠w.heap.size:=by omega
 obtain⟨L1,s8⟩:∃L1:List Value,L1=u7.toList.take (i*3)++vs++u7.toList.drop (i*3+vs.length):=⟨_,rfl⟩
 obtain⟨W2,tL⟩:∃W2,W2=W1.setRow w.heap.size L1.toArray:=⟨_,rfl⟩
 have Gk:∀ty dc,(Builtin.copy_ #[113,113] ty #[.slice (some ⟨w.heap.size,i*3,none⟩) (n+1-i) dc,.slice (some ⟨vb,0,none⟩) 1 1]).run Tryz.prog W1=.ok (goInt 1) W2:=fun ty dc=>by
  rw[tL,s8]
  have:=dF Tryz.prog W1 113 113 ty 119 w.heap.size (i*3) (n+1-i) dc ⟨vb,0,none⟩ 1 1 u7 119 vs 3 1 Tryz.underlying113 cE GN (by simp only[Nat.min_def];split<;>omega) (by rw[lO])
   (fun j v hj=>by rw[dI,Nat.zero_add,cell_of_row _ vb j _ _ _ (Fi _ _ sP)];simpa using hj)
   (by rw[lO,Oy];omega) h1
  simpa using this
 have Gm:W2.heap[w.heap.size]?=some (.cells L1.toArray 119 (0,0)):=by rw[tL];exact bt W1 _ _ GN
 have Ns:∀k o,w.heap[k]?=some o→W2.heap[k]?=some o:=fun k o h=>by
  have:k≠w.heap.size:=by have:=(Array.getElem?_eq_some_iff.1 h).1;omega
  rw[tL,dQ _ _ _ _ this]
  exact Fi k o h
 have wb:L1.length=G*3:=by rw[s8];simp only[List.length_append,List.length_take,List.length_drop,Array.length_toList,Oy,lO];omega
 obtain⟨tJ,qn⟩:=xS u7.toList vs (xs.drop (i*3)) (i*3) 3 ((n-i)*3) lO wk (by rw[Array.length_toList,Oy];omega)
 rw[←s8]at tJ qn
 obtain⟨W3,R7⟩:∃W3,W3=W2.drew.setRow w.heap.size (L1.take (i*3+3)++xs.drop (i*3)++L1.drop (i*3+3+(xs.drop (i*3)).length)).toArray:=⟨_,rfl⟩
 have Gx:∀ty dc sc,(Builtin.copy_ #[113,113] ty #[.slice (some ⟨w.heap.size,(i+1)*3,none⟩) (n-i) dc,.slice (some ⟨g,i*3,none⟩) (n-i) sc]).run Tryz.prog W2.drew=.ok (goInt ((n-i:Nat):Int)) W3:=fun ty dc sc=>by
  rw[R7,show(i+1)*3=i*3+3 by omega]
  have:=dF Tryz.prog W2.drew 113 113 ty 119 w.heap.size (i*3+3) (n-i) dc ⟨g,i*3,none⟩ (n-i) sc L1.toArray 119 (xs.drop (i*3)) 3 (n-i) Tryz.underlying113 cE Gm (by simp only[Nat.min_def];split<;>omega) wk
   (fun j v hj=>by
     rw[dI]
     have e:=dh (i*3+j) v (by rwa [List.getElem?_drop]at hj)
     rw[cell_of_row _ g _ _ _ _ hg]at e
     have e2:W2.drew.heap[g]?=some (.cells cur 119 (0,0)):=Ns _ _ hg
     rw[cell_of_row _ g _ _ _ _ e2]
     exact e)
   (by rw[List.size_toArray,wb,wk];omega) (fun v hv=>pQ v (List.mem_of_mem_drop hv))
  simpa using this
 have nV:W3.ownsRow B 119 3 (.slice (some ⟨w.heap.size,0,none⟩) (n+1) G) (n+1) (xs.take (i*3)++vs++xs.drop (i*3)):=by
  refine⟨by simp only[List.length_append,xt,lO,wk];omega,.inr ⟨w.heap.size,G,(L1.take (i*3+3)++xs.drop (i*3)++L1.drop (i*3+3+(xs.drop (i*3)).length)).toArray,rfl,hB, ?_,P2,Zn, ?_, ?_⟩⟩
  · rw[R7];exact bt W2.drew _ _ Gm
  · rw[List.size_toArray,tJ,Array.length_toList,Oy]
  · show List.take _ (L1.take (i*3+3)++xs.drop (i*3)++L1.drop (i*3+3+(xs.drop (i*3)).length))=_
    rw[show(n+1)*3=i*3+3+(n-i)*3 by omega,qn,Zb]
 have fG:Kb [] w W3:=by
  rw[R7,tL,ry]
  exact(((((Kb.refl [] w).drew).alloc _).trans' (Kb.setRow _ _ _) (fun k hk aE=>by simp at hk;omega)).drew).trans' (Kb.setRow _ _ _) (fun k hk aE=>by simp at hk;omega)
 have sI:IntKind.i64.wrap ((i:Int)+1)=(i:Int)+1:=by rw[IntKind.wrap_i64];omega
 have a8:(0:Int)≤(i:Int)+1:=by omega
 have yx:((i:Int)+1).toNat=i+1:=by omega
 have cM:¬(G=i+1):=by omega
 have kY:¬(G=i):=by omega
 have la:¬(c=i):=by omega
 have abK:G≤9223372036854775807:=by unfold maxLen at Zn;omega
 have dN:i≤n:=by omega
 have Jf:(i:Int)≤(n:Int)+1:=by omega
 clear tJ qn sK cE gW lO h1 pQ bH sP nT wk dI dh GN Fi s8 wb tL ry hg hold xt jt ew uB Ul Gm Ns R7 Bk Oy Zb hG YK Mv
 go_enter Tryz.func245,Tryz.ntmps245
 go_wp2_with (first | (at_builtin;refine kU _ rfl _ _ 113 3 rfl _ _ rfl rfl (Xb _) ?_) | (at_builtin;refine gg _ rfl _ _ 113 113 rfl _ _ rfl rfl (Gk _ _) ?_))
 go_region_law (refine iZ rfl _ _ 113 113 rfl _ _ (by simp[Act.eval,Act.put]) (by simp[Act.eval,Act.put]) (Gx _ _ _) ?_)
 go_wp2_with fail
 go_ret
 exact⟨G,rfl,nV,fG⟩
theorem zt(w:World)(B:Nat)(rd:Option Addr)(rc n i vb:Nat)(xs vs:List Value)(al:w.ownsRow B 119 3 (.slice rd n rc) n xs)(hB:B≤w.heap.size)(hi:i≤n)(hn:n≤1000000)(pQ:∀u∈xs,u.oneCell'=true)
 (lO:vs.length=3)(sP:w.heap[vb]?=some (.cells vs.toArray 119 (0,0)))(cA:some vb≠Value.ownBlock (.slice rd n rc))(h1:∀u∈vs,u.oneCell'=true):
 Calls Tryz.prog 245 #[.slice rd n rc,.int .i64 i,.slice (some ⟨vb,0,none⟩) 1 1] w fun e w'=>∃g cap,e=.returned (.slice (some ⟨g,0,none⟩) (n+1) cap)∧w'.ownsRow B 119 3 (.slice (some ⟨g,0,none⟩) (n+1) cap) (n+1) (xs.take (i*3)++vs++xs.drop (i*3))∧Kb (Value.ownBlock (.slice rd n rc)).toList w w'∧cu w (.slice rd n rc) (.slice (some ⟨g,0,none⟩) (n+1) cap):=by
 by_cases dN:i=n
 · subst dN
   have QI:∀(j:Nat) u,vs[j]?=some u→w.cell? ⟨vb,j,none⟩=some u:=fun j u hj=>by rw[cell_of_row _ vb j _ _ _ sP];simpa using hj
   refine(KH w B rd rc i xs vs vb al hB hn lO QI h1).mono ?_
   rintro e w' ⟨g,cap,rfl,h2,h3,h4⟩
   have e1:xs.take (i*3)=xs:=List.take_of_length_le (by rw[al.1];omega)
   have e2:xs.drop (i*3)=[]:=List.drop_of_length_le (by rw[al.1];omega)
   exact⟨g,cap,rfl,by rw[e1,e2,List.append_nil];exact h2,h3,h4⟩
 · have rA:∃g,rd=some ⟨g,0,none⟩:=by
    rcases al.2 with⟨_,e2⟩ | ⟨g,cap,cur,e1,_⟩
    · omega
    · simp only[Value.slice.injEq]at e1
      exact⟨g,e1.1⟩
   obtain⟨g,rfl⟩:=rA
   have VF:vb≠g:=fun e=>cA (by rw[e];rfl)
   by_cases hr:n+1≤rc
   · refine(GL w B g n rc i vb xs vs al (by omega) hr hn pQ lO sP VF h1).mono ?_
     rintro e w' ⟨rfl,h2,h3⟩
     exact⟨g,rc,rfl,h2,h3,fun b hb=>.inl hb⟩
   · refine(G6 w B g n rc i vb xs vs al hB (by omega) (by omega) hn pQ lO sP h1).mono ?_
     rintro e w' ⟨cap,rfl,h2,h3⟩
     refine⟨w.heap.size,cap,rfl,h2,h3.mono (fun k hk=>by cases hk), ?_⟩
     intro b hb
     simp only[Value.ownBlock,Option.some.injEq]at hb
     exact .inr (by omega)
theorem Gd(w:World)(B g n c i vb:Nat)(xs vs:List Value)(al:w.ownsRow B 3 1 (.slice (some ⟨g,0,none⟩) n c) n xs)(hB:B≤w.heap.size)(hi:i<n)(ky:c<n+1)(hn:n≤1000000)(pQ:∀u∈xs,u.oneCell'=true)
 (lO:vs.length=1)(sP:w.heap[vb]?=some (.cells vs.toArray 3 (0,0)))(h1:∀u∈vs,u.oneCell'=true):
 Calls Tryz.prog 264 #[.slice (some ⟨g,0,none⟩) n c,.int .i64 i,.slice (some ⟨vb,0,none⟩) 1 1] w fun e w'=>∃cap,e=.returned (.slice (some ⟨w.heap.size,0,none⟩) (n+1) cap)∧w'.ownsRow B 3 1 (.slice (some ⟨w.heap.size,0,none⟩) (n+1) cap) (n+1) (xs.take (i)++vs++xs.drop (i))∧Kb [] w w':=by
 have gW:=al
 obtain⟨nT,aR⟩:=al
 rcases aR with⟨e1,e2⟩ | ⟨g',cap,cur,e1,M1,hg,EC,Ce,bH,sK⟩
 · simp at e1
 simp only[Value.slice.injEq,Option.some.injEq,Addr.mk.injEq]at e1
 obtain⟨⟨rfl,_⟩,_,rfl⟩:=e1
 obtain⟨i0,jt,ew,uB,Ul⟩:=info_parts Tryz.Ca
 have dU:¬((i:Int)=(n:Int)):=by omega
 have hz3:(c:Int)<(n:Int)+1:=by omega
 have cE:(Tryz.prog.info? 3).map (·.size)=some 1:=by rw[jt];simp[uB]
 have hgw:g<w.heap.size:=(Array.getElem?_eq_some_iff.1 hg).1
 have Wl:vb<w.heap.size:=(Array.getElem?_eq_some_iff.1 sP).1
 have dI:∀(b o j:Nat),(⟨b,o,none⟩:Addr).add j=⟨b,o+j,none⟩:=by intro b o j;unfold Addr.add;split<;>simp_all
 have dh:∀(j:Nat) u,xs[j]?=some u→w.cell? ⟨g,j,none⟩=some u:=fun j u hj=>by
  have:=World.ownsRow.cells gW (g:=g) rfl j u hj
  rw[dI]at this
  simpa using this
 have xt:(xs.take (i)).length=i*1:=by rw[List.length_take,nT];omega
 have wk:(xs.drop (i)).length=(n-i)*1:=by rw[List.length_drop,nT];omega
 have hold:(Builtin.firstCells i0.size i (.slice (some ⟨g,0,none⟩) i c)).run Tryz.prog w.drew=.ok (xs.take (i)).toArray w.drew:=by
  rw[uB]
  exact run_firstCells_some w.drew 1 i ⟨g,0,none⟩ i c (xs.take (i)) xt (fun j v hj=>by
   rw[dI,Nat.zero_add]
   rw[List.getElem?_take]at hj
   split at hj
   · exact dh j v hj
   · cases hj)
 have YK:(n:Int)+1-(i:Int)=((n+1-i:Nat):Int):=by omega
 have Mv:i+(n+1-i)=n+1:=by omega
 obtain⟨G,hG⟩:∃G,G=grownCap w (n+1) c 3:=⟨_,rfl⟩
 obtain⟨u7,Bk⟩:∃u7:Array Value,u7=(xs.take (i)).toArray++Builtin.zeroCells (Value.cells (.int .i64 0)) (n+1-i)++Builtin.zeroCells (Value.cells (.int .i64 0)) (G-(n+1)):=⟨_,rfl⟩
 have P2:n+1≤G:=by rw[hG];exact grownCap_ge w _ _ _
 have Zn:G≤maxLen:=by rw[hG];exact grownCap_le_maxLen w (n+1) c 3 (by unfold maxLen;omega)
 have Oy:u7.size=G*1:=by
  rw[Bk]
  simp only[Array.size_append,List.size_toArray,xt,size_zeroCells]
  have:(Value.cells (.int .i64 0)).size=1:=rfl
  rw[this]
  omega
 have Zb:u7.toList.take (i)=xs.take (i):=by
  rw[Bk]
  simp only[Array.toList_append,List.append_assoc]
  exact List.take_left' (by rw[xt];omega)
 have Xb:∀ty,(Builtin.append_ #[31,3] ty #[.slice (some ⟨g,0,none⟩) i c,.int .i64 ((n:Int)+1-(i:Int))]).run Tryz.prog w=.ok (.slice (some ⟨w.heap.size,0,none⟩) (n+1) G) (w.drew.alloc (.cells u7 3)):=fun ty=>by
  have h:=Lib.run_append_grow_zeros w 31 3 ty 3 i0 _ .i64 .i64 Tryz.underlying31 Tryz.underlying3 jt ew (some ⟨g,0,none⟩) i c (xs.take (i)) hold (n+1-i) (by omega) (by rw[uB];decide) (by omega) (by omega) (by rw[Ul];omega) (by rw[Ul,Mv];exact growslice_fits ky (by omega))
  rw[Mv,←hG,←Bk]at h
  rw[YK]
  exact h
 obtain⟨W1,ry⟩:∃W1,W1=w.drew.alloc (.cells u7 3):=⟨_,rfl⟩
 rw[←ry]at Xb
 have GN:W1.heap[w.heap.size]?=some (.cells u7 3 (0,0)):=by rw[ry];exact heap_alloc_new w.drew _
 have Fi:∀k o,w.heap[k]?=some o→W1.heap[k]?=some o:=fun k o h=>by
  rw[ry]
  have:=Below.heap_alloc w.drew (.cells u7 3) k (Array.getElem?_eq_some_iff.1 h).1
  rw[this]
  exact h
 have adM:g≠w.heap.size:=by omega
 have acD:vb≠w.heap.size:=by omega
 obtain⟨L1,s8⟩:∃L1:List Value,L1=u7.toList.take (i)++vs++u7.toList.drop (i+vs.length):=⟨_,rfl⟩
 obtain⟨W2,tL⟩:∃W2,W2=W1.setRow w.heap.size L1.toArray:=⟨_,rfl⟩
 have Gk:∀ty dc,(Builtin.copy_ #[31,31] ty #[.slice (some ⟨w.heap.size,i,none⟩) (n+1-i) dc,.slice (some ⟨vb,0,none⟩) 1 1]).run Tryz.prog W1=.ok (goInt 1) W2:=fun ty dc=>by
  rw[tL,s8]
  have:=dF Tryz.prog W1 31 31 ty 3 w.heap.size (i) (n+1-i) dc ⟨vb,0,none⟩ 1 1 u7 3 vs 1 1 Tryz.underlying31 cE GN (by simp only[Nat.min_def];split<;>omega) (by rw[lO])
   (fun j v hj=>by rw[dI,Nat.zero_add,cell_of_row _ vb j _ _ _ (Fi _ _ sP)];simpa using hj)
   (by rw[lO,Oy];omega) h1
  simpa using this
 have Gm:W2.heap[w.heap.size]?=some (.cells L1.toArray 3 (0,0)):=by rw[tL];exact bt W1 _ _ GN
 have Ns:∀k o,w.heap[k]?=some o→W2.heap[k]?=some o:=fun k o h=>by
  have:k≠w.heap.size:=by have:=(Array.getElem?_eq_some_iff.1 h).1;omega
  rw[tL,dQ _ _ _ _ this]
  exact Fi k o h
 have wb:L1.length=G*1:=by rw[s8];simp only[List.length_append,List.length_take,List.length_drop,Array.length_toList,Oy,lO];omega
 obtain⟨tJ,qn⟩:=xS u7.toList vs (xs.drop (i)) (i) 1 ((n-i)*1) lO wk (by rw[Array.length_toList,Oy];omega)
 rw[←s8]at tJ qn
 obtain⟨W3,R7⟩:∃W3,W3=W2.drew.setRow w.heap.size (L1.take (i+1)++xs.drop (i)++L1.drop (i+1+(xs.drop (i)).length)).toArray:=⟨_,rfl⟩
 have Gx:∀ty dc sc,(Builtin.copy_ #[31,31] ty #[.slice (some ⟨w.heap.size,i+1,none⟩) (n-i) dc,.slice (some ⟨g,i,none⟩) (n-i) sc]).run Tryz.prog W2.drew=.ok (goInt ((n-i:Nat):Int)) W3:=fun ty dc sc=>by
  rw[R7,show i+1=i+1 by omega]
  have:=dF Tryz.prog W2.drew 31 31 ty 3 w.heap.size (i+1) (n-i) dc ⟨g,i,none⟩ (n-i) sc L1.toArray 3 (xs.drop (i)) 1 (n-i) Tryz.underlying31 cE Gm (by simp only[Nat.min_def];split<;>omega) wk
   (fun j v hj=>by
     rw[dI]
     have e:=dh (i+j) v (by rwa [List.getElem?_drop]at hj)
     rw[cell_of_row _ g _ _ _ _ hg]at e
     have e2:W2.drew.heap[g]?=some (.cells cur 3 (0,0)):=Ns _ _ hg
     rw[cell_of_row _ g _ _ _ _ e2]
     exact e)
   (by rw[List.size_toArray,wb,wk];omega) (fun v hv=>pQ v (List.mem_of_mem_drop hv))
  simpa using this
 have nV:W3.ownsRow B 3 1 (.slice (some ⟨w.heap.size,0,none⟩) (n+1) G) (n+1) (xs.take (i)++vs++xs.drop (i)):=by
  refine⟨by simp only[List.length_append,xt,lO,wk];omega,.inr ⟨w.heap.size,G,(L1.take (i+1)++xs.drop (i)++L1.drop (i+1+(xs.drop (i)).length)).toArray,rfl,hB, ?_,P2,Zn, ?_, ?_⟩⟩
  · rw[R7];exact bt W2.drew _ _ Gm
  · rw[List.size_toArray,tJ,Array.length_toList,Oy]
  · show List.take _ (L1.take (i+1)++xs.drop (i)++L1.drop (i+1+(xs.drop (i)).length))=_
    rw[show(n+1)*1=i+1+(n-i)*1 by omega,qn,Zb]
 have fG:Kb [] w W3:=by
  rw[R7,tL,ry]
  exact(((((Kb.refl [] w).drew).alloc _).trans' (Kb.setRow _ _ _) (fun k hk aE=>by simp at hk;omega)).drew).trans' (Kb.setRow _ _ _) (fun k hk aE=>by simp at hk;omega)
 have sI:IntKind.i64.wrap ((i:Int)+1)=(i:Int)+1:=by rw[IntKind.wrap_i64];omega
 have a8:(0:Int)≤(i:Int)+1:=by omega
 have yx:((i:Int)+1).toNat=i+1:=by omega
 have cM:¬(G=i+1):=by omega
 have kY:¬(G=i):=by omega
 have la:¬(c=i):=by omega
 have abK:G≤9223372036854775807:=by unfold maxLen at Zn;omega
 have dN:i≤n:=by omega
 have Jf:(i:Int)≤(n:Int)+1:=by omega
 clear tJ qn sK cE gW lO h1 pQ bH sP nT wk dI dh GN Fi s8 wb tL ry hg hold xt jt ew uB Ul Gm Ns R7 Bk Oy Zb hG YK Mv
 go_enter Tryz.func264,Tryz.ntmps264
 go_wp2_with (first | (at_builtin;refine kU _ rfl _ _ 31 3 rfl _ _ rfl rfl (Xb _) ?_) | (at_builtin;refine gg _ rfl _ _ 31 31 rfl _ _ rfl rfl (Gk _ _) ?_))
 go_region_law (refine iZ rfl _ _ 31 31 rfl _ _ (by simp[Act.eval,Act.put]) (by simp[Act.eval,Act.put]) (Gx _ _ _) ?_)
 go_wp2_with fail
 go_ret
 exact⟨G,rfl,nV,fG⟩
theorem zw(w:World)(B:Nat)(rd:Option Addr)(rc n i vb:Nat)(xs vs:List Value)(al:w.ownsRow B 3 1 (.slice rd n rc) n xs)(hB:B≤w.heap.size)(hi:i≤n)(hn:n≤1000000)(pQ:∀u∈xs,u.oneCell'=true)
 (lO:vs.length=1)(sP:w.heap[vb]?=some (.cells vs.toArray 3 (0,0)))(cA:some vb≠Value.ownBlock (.slice rd n rc))(h1:∀u∈vs,u.oneCell'=true):
 Calls Tryz.prog 264 #[.slice rd n rc,.int .i64 i,.slice (some ⟨vb,0,none⟩) 1 1] w fun e w'=>∃g cap,e=.returned (.slice (some ⟨g,0,none⟩) (n+1) cap)∧w'.ownsRow B 3 1 (.slice (some ⟨g,0,none⟩) (n+1) cap) (n+1) (xs.take (i)++vs++xs.drop (i))∧Kb (Value.ownBlock (.slice rd n rc)).toList w w'∧cu w (.slice rd n rc) (.slice (some ⟨g,0,none⟩) (n+1) cap):=by
 by_cases dN:i=n
 · subst dN
   have QI:∀(j:Nat) u,vs[j]?=some u→w.cell? ⟨vb,j,none⟩=some u:=fun j u hj=>by rw[cell_of_row _ vb j _ _ _ sP];simpa using hj
   refine(I8 w B rd rc i xs vs vb al hB hn lO QI h1).mono ?_
   rintro e w' ⟨g,cap,rfl,h2,h3,h4⟩
   have e1:xs.take (i)=xs:=List.take_of_length_le (by rw[al.1];omega)
   have e2:xs.drop (i)=[]:=List.drop_of_length_le (by rw[al.1];omega)
   exact⟨g,cap,rfl,by rw[e1,e2,List.append_nil];exact h2,h3,h4⟩
 · have rA:∃g,rd=some ⟨g,0,none⟩:=by
    rcases al.2 with⟨_,e2⟩ | ⟨g,cap,cur,e1,_⟩
    · omega
    · simp only[Value.slice.injEq]at e1
      exact⟨g,e1.1⟩
   obtain⟨g,rfl⟩:=rA
   have VF:vb≠g:=fun e=>cA (by rw[e];rfl)
   by_cases hr:n+1≤rc
   · refine(Gl w B g n rc i vb xs vs al (by omega) hr hn pQ lO sP VF h1).mono ?_
     rintro e w' ⟨rfl,h2,h3⟩
     exact⟨g,rc,rfl,h2,h3,fun b hb=>.inl hb⟩
   · refine(Gd w B g n rc i vb xs vs al hB (by omega) (by omega) hn pQ lO sP h1).mono ?_
     rintro e w' ⟨cap,rfl,h2,h3⟩
     refine⟨w.heap.size,cap,rfl,h2,h3.mono (fun k hk=>by cases hk), ?_⟩
     intro b hb
     simp only[Value.ownBlock,Option.some.injEq]at hb
     exact .inr (by omega)
end
/- put: a fact's row into a table. -/
section
open Go.RowKit
open Go.Sort (grow)
structure cp(w:World)(g:Nat)(T:TypeId)(nm:ByteArray)(pl:Nat)(rd:Option Addr)(rc:Nat)(L:List (List ByteArray))(rest:List Value):Prop where
 cT:w.heap[g]?=some (.cells (Value.string nm:: .int .i64 pl:: .slice rd L.length rc::rest).toArray T (0,0))
 rows:kB w rd rc L
 ord:Tb.Ord L
 type:T≠119
theorem cp.below{w w':World}{g:Nat}{T:TypeId}{nm:ByteArray}{pl:Nat}{rd:Option Addr}{rc:Nat}{L:List (List ByteArray)}{rest:List Value}(h:cp w g T nm pl rd rc L rest)(hb:Below w.heap.size w w'):cp w' g T nm pl rd rc L rest:=
 ⟨by rw[hb.block g (lt_of_heap h.cT)];exact h.cT,h.rows.below hb,h.ord,h.type⟩
theorem cp.kept{w w':World}{S:List Nat}{g:Nat}{T:TypeId}{nm:ByteArray}{pl:Nat}{rd:Option Addr}{rc:Nat}{L:List (List ByteArray)}{rest:List Value}(h:cp w g T nm pl rd rc L rest)(hk:Kb S w w')(hg:¬g∈S)(hr:∀b,Value.ownBlock (.slice rd L.length rc)=some b→¬b∈S):cp w' g T nm pl rd rc L rest:=
 ⟨hk.heap h.cT hg,⟨h.rows.three,hk.row h.rows.own hr⟩,h.ord,h.type⟩
theorem cp.lH{w:World}{g:Nat}{T:TypeId}{nm:ByteArray}{pl:Nat}{rd:Option Addr}{rc:Nat}{L:List (List ByteArray)}{rest:List Value}(h:cp w g T nm pl rd rc L rest):w.cell? ⟨g,2,none⟩=some (.slice rd L.length rc)∧w.frozen? ⟨g,2,none⟩=false∧w.cell? ⟨g,1,none⟩=some (.int .i64 pl)∧w.cell? ⟨g,0,none⟩=some (.string nm):=by
 refine⟨?_, ?_, ?_, ?_⟩
 · rw[cell_of_row _ _ 2 _ _ _ h.cT];simp
 · simp[World.frozen?,h.cT]
 · rw[cell_of_row _ _ 1 _ _ _ h.cT];simp
 · rw[cell_of_row _ _ 0 _ _ _ h.cT];simp
theorem cp.apart{w:World}{g:Nat}{T:TypeId}{nm:ByteArray}{pl:Nat}{rd:Option Addr}{rc:Nat}{L:List (List ByteArray)}{rest:List Value}(h:cp w g T nm pl rd rc L rest):¬g∈(Value.ownBlock (.slice rd L.length rc)).toList:=by
 intro hc
 rcases h.rows.own.2 with⟨e,_⟩ | ⟨g',cap,cur,e,_,hg,_⟩
 · rw[e]at hc;simp[Value.ownBlock]at hc
 · rw[e]at hc
   simp only[Value.ownBlock,Option.toList_some,List.mem_singleton]at hc
   rw[←hc,h.cT]at hg
   simp only[Option.some.injEq,Obj.cells.injEq]at hg
   exact h.type hg.2.1
theorem an(w:World){g:Nat}{cur:Array Value}{T:TypeId}{fr:Nat×Nat}(h:w.heap[g]?=some (.cells cur T fr))(o:Nat)(v:Value):(w.setCell ⟨g,o,none⟩ v).heap[g]?=some (.cells (cur.setIfInBounds o v) T fr):=by
 rw[setCell_eq_setRow w g o cur T fr v h]
 exact bt w g _ h
theorem JE{w W w3:World}{g:Nat}{T:TypeId}{nm:ByteArray}{pl:Nat}{rd:Option Addr}{rc:Nat}{L:List (List ByteArray)}{rest:List Value}(h:cp w g T nm pl rd rc L rest)(hW:Below w.heap.size w W){a b c:ByteArray}
 (hni:Tb.mD L [a,b,c]=false){g' cap:Nat}
 (al:w3.ownsRow 0 119 3 (.slice (some ⟨g',0,none⟩) (L.length+1) cap) (L.length+1) ((aM L).take (Tb.pos L [a,b,c]*3)++[.string a,.string b,.string c]++(aM L).drop (Tb.pos L [a,b,c]*3)))
 (hk:Kb (Value.ownBlock (.slice rd L.length rc)).toList W w3)(hf:cu W (.slice rd L.length rc) (.slice (some ⟨g',0,none⟩) (L.length+1) cap)):
 cp (w3.setCell ⟨g,2,none⟩ (.slice (some ⟨g',0,none⟩) (L.length+1) cap)) g T nm pl (some ⟨g',0,none⟩) cap (Tb.put L [a,b,c]) rest∧(Tb.put L [a,b,c]).length=L.length+1∧
  Kb (g::(Value.ownBlock (.slice rd L.length rc)).toList) w (w3.setCell ⟨g,2,none⟩ (.slice (some ⟨g',0,none⟩) (L.length+1) cap))∧cu w (.slice rd L.length rc) (.slice (some ⟨g',0,none⟩) (L.length+1) cap):=by
 have gh:¬[a,b,c]∈L:=fun hc=>by rw[Tb.dW.2 hc]at hni;cases hni
 have Eb:Tb.put L [a,b,c]=Tb.ins L [a,b,c]:=by unfold Tb.put;rw[hni];rfl
 have hlen:(Tb.put L [a,b,c]).length=L.length+1:=by
  rw[Eb]
  have:=Tb.qx L [a,b,c]
  simp only[Tb.ins,List.length_append,List.length_cons,List.length_take,List.length_drop]
  omega
 have G3:=h.apart
 have hblk:w3.heap[g]?=_:=hk.heap (by rw[hW.block g (lt_of_heap h.cT)];exact h.cT) G3
 have hth:pZ (Tb.put L [a,b,c]):=by
  intro r hr
  rcases Tb.vL.1 hr with rfl | hr
  · rfl
  · exact h.rows.three r hr
 have bH:aM (Tb.put L [a,b,c])=(aM L).take (Tb.pos L [a,b,c]*3)++[.string a,.string b,.string c]++(aM L).drop (Tb.pos L [a,b,c]*3):=by
  rw[Eb,lM _ h.rows.three,ja _ h.rows.three,Tb.ins,rp]
  simp[aM]
 have hgg:g'≠g:=by
  rcases al.2 with⟨e,_⟩ | ⟨x,Ft,cur,e,_,hg,_⟩
  · simp at e
  · simp only[Value.slice.injEq,Option.some.injEq,Addr.mk.injEq]at e
    obtain⟨⟨rfl,_⟩,_⟩:=e
    rintro rfl
    rw[hblk]at hg
    simp only[Option.some.injEq,Obj.cells.injEq]at hg
    exact h.type hg.2.1
 refine⟨⟨?_,⟨hth, ?_⟩,Tb.Qj h.ord _,h.type⟩,hlen, ?_, ?_⟩
 · rw[an w3 hblk,hlen]
   rfl
 · rw[hlen,bH]
   refine(Kb.setCell w3 ⟨g,2,none⟩ _).row al ?_
   intro x hx
   simp only[Value.ownBlock,Option.some.injEq]at hx
   subst hx
   simpa using hgg
 · refine Kb.trans' ((Kb.bF hW _).trans (hk.mono ?_)) (Kb.setCell w3 _ _) ?_
   · intro i hi _;exact List.mem_cons_of_mem _ hi
   · intro i hi _
     simp only[List.mem_singleton]at hi
     subst hi
     simp
 · intro x hx
   rcases hf x hx with e | e
   · exact .inl e
   · exact .inr (Nat.le_trans hW.size e)
theorem IY(w:World)(g:Nat)(T:TypeId)(nm:ByteArray)(pl:Nat)(rd:Option Addr)(rc:Nat)(L:List (List ByteArray))(rest:List Value)(a b c:ByteArray)(h:cp w g T nm pl rd rc L rest)(hL:L.length≤999999):
 Calls Tryz.prog 196 #[.pointer (some ⟨g,0,none⟩),.agg #[.string a,.string b,.string c]] w fun e w'=>∃rd' rc',
  e=.returned (.tuple #[.int .i64 (Tb.pos L [a,b,c]:Nat),.bool (!Tb.mD L [a,b,c])])∧cp w' g T nm pl rd' rc' (Tb.put L [a,b,c]) rest∧
   Kb (g::(Value.ownBlock (.slice rd L.length rc)).toList) w w'∧cu w (.slice rd L.length rc) (.slice rd' (Tb.put L [a,b,c]).length rc'):=by
 obtain⟨w0,cZ⟩:∃w0,w0=w.alloc (.cells #[.string a,.string b,.string c] 119):=⟨_,rfl⟩
 have bL:Below w.heap.size w w0:=by rw[cZ];exact(Below.refl _ _).alloc (Nat.le_refl _) _
 have lY:w0.heap[w.heap.size]?=some (.cells #[.string a,.string b,.string c] 119 (0,0)):=by rw[cZ];exact heap_alloc_new w _
 have t0:w0.cell? ⟨w.heap.size,0,none⟩=some (.string a):=by rw[cell_of_row _ _ 0 _ _ _ lY];rfl
 have t1:w0.cell? ⟨w.heap.size,1,none⟩=some (.string b):=by rw[cell_of_row _ _ 1 _ _ _ lY];rfl
 have t2:w0.cell? ⟨w.heap.size,2,none⟩=some (.string c):=by rw[cell_of_row _ _ 2 _ _ _ lY];rfl
 have h0:=h.below bL
 have ue:=rZ w0 g rd rc L a b c h0.rows (by omega) h0.ord h0.lH.1
 cases dN:Tb.mD L [a,b,c]with
 | true=>
  rw[dN]at ue
  have Eb:Tb.put L [a,b,c]=L:=by unfold Tb.put;rw[dN];rfl
  rw[Eb]
  generalize Tb.pos L [a,b,c]=ps at ue ⊢
  clear t0 t1 t2 lY dN Eb
  go_enter Tryz.func196,Tryz.ntmps196
  go_wp2_with fail
  rw[←cZ]
  clear cZ
  refine ue.mono ?_
  rintro e w1 ⟨rfl,a8⟩
  have fQ:Below w.heap.size w w1:=bL.trans (a8.mono bL.size)
  have dY:=h.below fQ
  clear ue h0 h
  go_wp2_with fail
  go_ret2
  exact⟨rd,rc,rfl,dY,Kb.bF fQ _,cu.refl _ _⟩
 | false=>
  rw[dN]at ue
  have Zj:Hid (Tb.mD L [a,b,c]=false):=dN
  have Vn:∀(W1 W:World),Below w0.heap.size w0 W1→W.heap=(W1.alloc (.cells #[.string a,.string b,.string c] 119)).heap→Calls Tryz.prog 245 #[.slice rd L.length rc,.int .i64 (Tb.pos L [a,b,c]:Nat),.slice (some ⟨W1.heap.size,0,none⟩) 1 1] W fun e w3=>∃g' cap,e=.returned (.slice (some ⟨g',0,none⟩) (L.length+1) cap)∧
   (w3.ownsRow 0 119 3 (.slice (some ⟨g',0,none⟩) (L.length+1) cap) (L.length+1) ((aM L).take (Tb.pos L [a,b,c]*3)++[.string a,.string b,.string c]++(aM L).drop (Tb.pos L [a,b,c]*3))∧Kb (Value.ownBlock (.slice rd L.length rc)).toList W w3∧cu W (.slice rd L.length rc) (.slice (some ⟨g',0,none⟩) (L.length+1) cap))∧w3.cell? ⟨g,2,none⟩=some (.slice rd L.length rc)∧w3.frozen? ⟨g,2,none⟩=false:=by
   intro W1 W a8 hW
   have h1:=h0.below a8
   have E6:=h1.rows.own
   have I3:W.ownsRow 0 119 3 (.slice rd L.length rc) L.length (aM L):=by
    have:=E6.alloc (.cells #[.string a,.string b,.string c] 119)
    refine⟨this.1, ?_⟩
    rw[hW]
    exact this.2
   have dM:W.heap[g]?=some (.cells (Value.string nm:: .int .i64 pl:: .slice rd L.length rc::rest).toArray T (0,0)):=by
    rw[hW,Below.heap_alloc _ _ _ (lt_of_heap h1.cT)]
    exact h1.cT
   refine(zt W 0 rd rc L.length (Tb.pos L [a,b,c]) W1.heap.size (aM L) [.string a,.string b,.string c] I3 (Nat.zero_le _) (Tb.qx _ _) (by omega) (np L) rfl (by rw[hW];exact heap_alloc_new W1 _) ?_ (by intro u hu;simp at hu;rcases hu with rfl | rfl | rfl<;>rfl)).mono ?_
   · intro hc
     have:=(World.ownsRow.lt E6 W1.heap.size hc.symm).2
     omega
   · rintro e w3 ⟨g',cap,rfl,h2,h3,h4⟩
     have nL:=h3.heap dM h1.apart
     exact⟨g',cap,rfl,⟨h2,h3,h4⟩,by rw[cell_of_row _ _ 2 _ _ _ nL];simp,by simp[World.frozen?,nL]⟩
  have TE:=h0.lH.1
  have Hi:=h0.lH.2.1
  have mO:=lt_of_heap h0.cT
  have E9:w0.heap.size=w.heap.size+1:=by rw[cZ];simp
  clear dN
  generalize uH:Tb.pos L [a,b,c]=ps at ue Vn ⊢
  have HPS:Hid (Tb.pos L [a,b,c]=ps):=uH
  clear lY uH
  go_enter Tryz.func196,Tryz.ntmps196
  go_wp2_with fail
  rw[←cZ]
  clear cZ
  refine ue.mono ?_
  rintro e w1 ⟨rfl,a8⟩
  have fQ:Below w.heap.size w w1:=bL.trans (a8.mono bL.size)
  have Sp:=fun W=>Vn w1 W a8
  have s0:w1.cell? ⟨w.heap.size,0,none⟩=some (.string a):=by rw[a8.cell (by show w.heap.size<_;omega)];exact t0
  have s1:w1.cell? ⟨w.heap.size,1,none⟩=some (.string b):=by rw[a8.cell (by show w.heap.size<_;omega)];exact t1
  have s2:w1.cell? ⟨w.heap.size,2,none⟩=some (.string c):=by rw[a8.cell (by show w.heap.size<_;omega)];exact t2
  have s3:w1.cell? ⟨g,2,none⟩=some (.slice rd L.length rc):=by rw[a8.cell (by show g<_;omega)];exact TE
  have kA:=a8.size
  have akl:w.heap.size<w1.heap.size:=by omega
  have acf:g<w1.heap.size:=by omega
  clear ue t0 t1 t2 TE Hi Vn h0
  go_upto_region 3 with fail
  go_region_with (go_at_call 245;refine(Sp _ (by rfl)).mono ?_;rintro e w3 ⟨g',cap,rfl,hI,k2,kf⟩)
  all_goals
   (obtain⟨p1,p2,p3,p4⟩:=JE h ((fQ.alloc fQ.size _).drew) Zj.out (by rw[HPS.out];exact hI.1) hI.2.1 hI.2.2
    clear hI k2 kf Sp s0 s1 s2 s3
    go_wp2_with fail
    go_ret2
    exact⟨_,cap,rfl,p1,p3,by rw[p2];exact p4⟩)
end
end Go.Proofs.YtdmicblafmhflaaGreatDoor
