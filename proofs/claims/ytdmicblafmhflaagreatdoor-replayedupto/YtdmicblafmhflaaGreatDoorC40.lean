/- What an export is written as, as a function of the rules and of what is given; a state's parts as they lie. -/
import Derived.Test.YtdmicblafmhflaaGreatDoorC39
set_option linter.unusedSimpArgs false
set_option linter.unusedVariables false
set_option maxHeartbeats 4000000
set_option maxRecDepth 100000
namespace Go.Proofs.YtdmicblafmhflaaGreatDoor
section
open Go.Shelf Go.RowKit Go.Maps
def gQ:List Pd.Pr:=[(Ax.cu 1,2),(Ax.cu 0,1),(Ax.cu 2,2)]
theorem N0{Q:List Pd.Pr}(hs:Pd.vF Q)(hm:∀p,p∈Q↔p∈jL):Q=gQ:=by
 refine Pd.IY hs (by unfold Pd.vF gQ;decide+kernel) (fun x=>(hm x).trans ?_)
 unfold jL gQ
 simp only[List.mem_cons,List.not_mem_nil,or_false]
 constructor
 · rintro(h | h | h)<;>simp[h]
 · rintro(h | h | h)<;>simp[h]
theorem oh{p:Pd.Pr}(h:p∈gQ):p∈jL:=by
 unfold gQ at h
 unfold jL
 simp only[List.mem_cons,List.not_mem_nil,or_false]at h ⊢
 rcases h with h | h | h<;>simp[h]
namespace Ex
def nj(H:Nat→Bool)(Q:List Pd.Pr):List ByteArray:=Q.flatMap fun p=>(cW H p.1).flatMap fun j=>(be j).2
def Qa(l:List ByteArray):List (List UInt8):=Lib.compact ((l.map ByteArray.toList).mergeSort fun x y=>decide (x≤y))
def jC(H:Nat→Bool):List ByteArray:=(Qa (nj H gQ)).map fun l=>⟨l.toArray⟩
def place(H:Nat→Bool)(x:ByteArray):Nat:=(jC H).findIdx fun y=>decide (y=x)
def fact(kl:List Ax.ay)(gv:Nat→Bool)(j:Nat):List UInt8:=Rc.aQ (if gv j=true then 1 else 0)++Rc.aQ (FJ kl gv j)++(be j).2.flatMap fun x=>Rc.aQ (place (En.ak (En.aj kl) gv) x)
def facts(kl:List Ax.ay)(gv:Nat→Bool)(p:ByteArray):List UInt8:=Rc.aQ (cW (En.ak (En.aj kl) gv) p).length++(cW (En.ak (En.aj kl) gv) p).flatMap (fact kl gv)
def body(kl:List Ax.ay)(gv:Nat→Bool):List UInt8:=Rc.aC (Ax.au kl)++Rc.aQ (jC (En.ak (En.aj kl) gv)).length++(jC (En.ak (En.aj kl) gv)).flatMap Rc.aC++gQ.flatMap fun p=>facts kl gv p.1
theorem abg(l:List ByteArray):strCells l=vu (l.map ByteArray.toList):=by
 simp[strCells,vu,encStr,ByteArray.toList_eq]
theorem ac6(l:List (List UInt8)):strCells (l.map fun b=>(⟨b.toArray⟩:ByteArray))=vu l:=by
 simp[strCells,vu,encStr]
theorem Fw(H:Nat→Bool):(jC H).Pairwise fun a b=>a.toList<b.toList:=by
 unfold jC
 rw[List.pairwise_map]
 exact(sD ((nj H gQ).map ByteArray.toList)).1.imp (fun h=>by simpa [ByteArray.toList_eq]using h)
theorem Hp(H:Nat→Bool)(x:ByteArray):x∈jC H↔x∈nj H gQ:=by
 unfold jC
 rw[List.mem_map]
 constructor
 · rintro⟨l,hl,rfl⟩
   have h:=((sD ((nj H gQ).map ByteArray.toList)).2 l).1 hl
   obtain⟨y,hy,rfl⟩:=List.mem_map.1 h
   simpa [ByteArray.toList_eq]using hy
 · intro h
   refine⟨x.toList,((sD ((nj H gQ).map ByteArray.toList)).2 _).2 (List.mem_map_of_mem h),by simp[ByteArray.toList_eq]⟩
theorem Ec(H:Nat→Bool){p:Pd.Pr}(hp:p∈gQ){j:Nat}(hj:j∈cW H p.1){x:ByteArray}(hx:x∈(be j).2):(jC H)[place H x]?=some x:=by
 have hm:x∈jC H:=(Hp H x).2 (List.mem_flatMap.2 ⟨p,hp,List.mem_flatMap.2 ⟨j,hj,hx⟩⟩)
 have aE:place H x<(jC H).length:=List.findIdx_lt_length_of_exists ⟨x,hm,by simp⟩
 have hp:=List.findIdx_getElem (p:=fun y=>decide (y=x)) (xs:=jC H) (w:=aE)
 rw[List.getElem?_eq_getElem aE]
 exact congrArg some (of_decide_eq_true hp)
theorem DU(H:Nat→Bool)(Q:List Pd.Pr):(nj H Q).length≤108*Q.length:=by
 unfold nj
 induction Q with
 | nil=>simp
 | cons p Q ih=>
  rw[List.flatMap_cons,List.length_append]
  have h1:∀l:List Nat,(l.flatMap fun j=>(be j).2).length≤3*l.length:=by
   intro l
   induction l with
   | nil=>simp
   | cons a l ih=>
    rw[List.flatMap_cons,List.length_append,List.length_cons]
    have:=mW a
    omega
  have h2:(cW H p.1).length≤36:=by
   unfold cW
   exact Nat.le_trans (List.length_filter_le _ _) (by simp)
  have:=h1 (cW H p.1)
  rw[List.length_cons]
  omega
theorem qX(H:Nat→Bool):(jC H).length≤324:=by
 unfold jC Qa
 rw[List.length_map]
 refine Nat.le_trans (wL _) ?_
 rw[List.length_mergeSort,List.length_map]
 exact DU H gQ
end Ex
structure Xl(w:World)(kl:List Ax.ay)(gv:Nat→Bool)(hm:Nat)(p:ByteArray)(ug:Nat):Prop where
 lt:ug<w.heap.size
 look:∀W:World,Below w.heap.size w W→(Instr.lookup 103 (.map (some hm)) (.string p) false).run Tryz.prog W=.ok (.pointer (some ⟨ug,0,none⟩)) W
 len:∀W:World,Below w.heap.size w W→Calls Tryz.prog 136 #[.pointer (some ⟨ug,0,none⟩)] W fun e w'=>e=.returned (.int .i64 (cW (En.ak (En.aj kl) gv) p).length)∧w'=W
 rows:∀W:World,Below w.heap.size w W→Calls Tryz.prog 133 #[.pointer (some ⟨ug,0,none⟩)] W fun e w'=>∃rd rc,e=.returned (.slice rd (cW (En.ak (En.aj kl) gv) p).length rc)∧w'.ownsRow W.heap.size 119 3 (.slice rd (cW (En.ak (En.aj kl) gv) p).length rc) (cW (En.ak (En.aj kl) gv) p).length (aM ((cW (En.ak (En.aj kl) gv) p).map fun j=>Tb.eu (be j).2))∧Below W.heap.size W w'
 count:∀W:World,Below w.heap.size w W→∀j,j∈cW (En.ak (En.aj kl) gv) p→Calls Tryz.prog 43 #[.pointer (some ⟨ug,0,none⟩),.agg (Tb.fA (be j).2)] W fun e w'=>e=.returned (.int .i64 (FJ kl gv j:Nat))∧Below W.heap.size W w'
structure WR(w:World)(gv:Nat→Bool)(gm:Nat)(p:ByteArray)(tg:Nat):Prop where
 lt:tg<w.heap.size
 look:∀W:World,Below w.heap.size w W→(Instr.lookup 102 (.map (some gm)) (.string p) false).run Tryz.prog W=.ok (.pointer (some ⟨tg,0,none⟩)) W
 has:∀W:World,Below w.heap.size w W→∀j,j<36→(be j).1=p→Calls Tryz.prog 42 #[.pointer (some ⟨tg,0,none⟩),.agg (Tb.fA (be j).2)] W fun e w'=>e=.returned (.bool (gv j))∧Below W.heap.size W w'
structure NJ(w:World)(kl:List Ax.ay)(gv:Nat→Bool)(rv:Value)(gm hm:Nat):Prop where
 kM:∀W:World,Below w.heap.size w W→Calls Tryz.prog 59 #[.agg #[.string (Ax.au kl),rv]] W fun e w'=>∃qd qc,e=.returned (.slice qd 3 qc)∧w'.ownsRow W.heap.size 112 2 (.slice qd 3 qc) 3 (aB gQ)∧Below W.heap.size W w'
 Uw:∀p,p∈gQ→∃ug,Xl w kl gv hm p.1 ug
 Na:∀p,p∈gQ→∃tg,WR w gv gm p.1 tg
theorem NJ.below{w w':World}{kl:List Ax.ay}{gv:Nat→Bool}{rv:Value}{gm hm:Nat}(h:NJ w kl gv rv gm hm)(hb:Below w.heap.size w w'):NJ w' kl gv rv gm hm:=by
 have key:∀W,Below w'.heap.size w' W→Below w.heap.size w W:=fun W hW=>hb.trans (hW.mono hb.size)
 refine⟨fun W hW=>h.kM W (key W hW),fun p hp=> ?_,fun p hp=> ?_⟩
 · obtain⟨ug,k⟩:=h.Uw p hp
   exact⟨ug,Nat.lt_of_lt_of_le k.lt hb.size,fun W hW=>k.look W (key W hW),fun W hW=>k.len W (key W hW),fun W hW=>k.rows W (key W hW),fun W hW=>k.count W (key W hW)⟩
 · obtain⟨tg,k⟩:=h.Na p hp
   exact⟨tg,Nat.lt_of_lt_of_le k.lt hb.size,fun W hW=>k.look W (key W hW),fun W hW=>k.has W (key W hW)⟩
end
/- An engine's state, as its calls answer. -/
section
open Go.RowKit Go.Maps
theorem n9(l:List ByteArray):Tb.fA l=#[.string (Tb.ef l 0),.string (Tb.ef l 1),.string (Tb.ef l 2)]:=rfl
theorem OH{w:World}{rd:Option Addr}{rc:Nat}{l:List MR}{gm hm:Nat}{G:List GT}{T:List HT}{s:En.dB En.cl}{kl:List Ax.ay}{gv:Nat→Bool}(dN:aI w rd rc l)(he:(l.map MR.aw).map Ax.kX=Ax.gR kl)(hG:lB w gm G)(hR:fV G gv)(hH:pG w hm T s)(hI:En.Inv (En.sR (En.aj kl)) (En.gF gv) s s.found.length)(hT:∀p,p∈T.map ig↔p∈jL)(hg:ji gv):NJ w kl gv (.slice rd l.length rc) gm hm:=by
 refine⟨?_, ?_, ?_⟩
 · intro W hW
   obtain⟨_,_,Aa⟩:=iP dN he
   have cA:l≠[]:=by
    rintro rfl
    simp[Ax.gR,Ax.ls]at he
   refine(mf W (Ax.au kl) rd rc l (dN.below hW) (by omega) (nE he) cA).mono ?_
   rintro e w' ⟨qd,qc,Q,rfl,h1,h2,h3⟩
   have hQ:Q=gQ:=N0 h3.out.1 (fun p=>(h3.out.2 p).trans (dW he p))
   subst hQ
   exact⟨qd,qc,rfl,h1,h2⟩
 · intro p hp9
   have hp:=oh hp9
   obtain⟨u,hu,pN⟩:=List.mem_map.1 ((hT _).2 hp)
   have Ts:u.nm=p.1:=congrArg Prod.fst pN
   have hu3:u.pl=p.2:=congrArg Prod.snd pN
   have ux:p.1.size≤1000000:=Nat.le_trans (dP _ hp) (by decide)
   have OO:=Dj hI
   have hlU:=hH.CZ u hu
   have dD:=En.th kl
   have RK:=(hH.b7 u hu).o7
   have EO:∀r,r∈u.L↔(p.1,r)∈s.found:=fun r=>by rw[hH.rows u hu,Ts]
   obtain⟨js,e1,e2,e3⟩:=NS (H:=En.ak (En.aj kl) gv) (pl:=p.2) hp u.L (fun r hr=>by
    have h1:=(EO r).1 hr
    obtain⟨j,hj,e⟩:=En.MH (En.tj dD hI _ h1)
    rw[e]at h1
    exact⟨j,hj,(En.tK dD hg hI hj).1 h1,e⟩)
   have acx:Lst (En.ak (En.aj kl) gv) p.1 js:=by
    refine⟨fun j=>⟨e3 j, ?_⟩, ?_⟩
    · rintro⟨hj,hH9,hd9⟩
      have h1:=(En.tK dD hg hI hj).2 hH9
      rw[kS,hd9]at h1
      have h2:=(EO _).2 h1
      rw[e1]at h2
      obtain⟨i,hi,e⟩:=List.mem_map.1 h2
      obtain⟨K7,_,hid⟩:=e3 i hi
      have:i=j:=En.tP K7 hj (by rw[kS,kS,hid,hd9,e])
      rw[←this]
      exact hi
    · have h1:Tb.Ord u.L:=RK.ord
      rw[e1]at h1
      exact List.pairwise_map.1 h1
   have LM:=acx.eq
   subst LM
   have hlen:u.L.length=(cW (En.ak (En.aj kl) gv) p.1).length:=by rw[e1,List.length_map]
   refine⟨u.g,lt_of_heap RK.cU, ?_, ?_, ?_, ?_⟩
   · intro W hW
     exact(hH.below hW).map.look (by rw[←Ts];exact rF hH.names hu) ux Tryz.underlying103 (Tryz.zeroValue97 W)
   · intro W hW
     rw[←hlen]
     exact IP W u.g _ _ _ _ _ _ _ (RK.below hW)
   · intro W hW
     rw[←hlen,←e1]
     exact xC W u.g _ _ _ _ _ _ _ (RK.below hW) (by omega)
   · intro W hW j hj
     obtain⟨zk,hHj,PG⟩:=gE.1 hj
     rw[n9]
     refine(JZ W u.g _ _ _ _ _ _ _ _ _ _ _ ((hH.b7 u hu).below hW) (by omega)).mono ?_
     rintro e w' ⟨rfl,hb⟩
     refine⟨?_,hb⟩
     have O1:Tb.Ord u.L:=(hH.b7 u hu).o7.ord
     have hc:s.count (En.uF j)=FJ kl gv j:=En.Be dD hg hI zk
     have Yg:(u.nm,Tb.eu (be j).2)=En.uF j:=by rw[kS,Ts,PG]
     have e3:Tb.Ag u.L u.C (Tb.eu (be j).2)=FJ kl gv j:=by
      rw[hH.vx u hu,KN O1]
      by_cases h:Tb.mg u.L (Tb.eu (be j).2)=true
      · rw[if_pos h,Yg]
        exact hc
      · rw[if_neg h,←hc]
        rw[Tb.dY,hH.rows u hu,Yg]at h
        exact(hH.zero _ h).symm
     rw[←e3]
     rfl
 · intro p hp9
   have hp:=oh hp9
   obtain⟨t,ht,ga,kY⟩:=hR.has (p:=p.1) (n:=p.2) hp
   have ux:p.1.size≤1000000:=Nat.le_trans (dP _ hp) (by decide)
   have hlL:t.L.length≤36:=Nat.le_trans (oe ht) (hR.sum hG.names (fun t ht=>cp.ord (hG.b7 t ht)))
   refine⟨t.g,lt_of_heap (cp.cU (hG.b7 t ht)), ?_, ?_⟩
   · intro W hW
     exact(hG.below hW).map.look (by rw[←ga];exact iW hG.names ht) ux Tryz.underlying102 (Tryz.zeroValue122 W)
   · intro W hW j hj PG
     rw[n9]
     refine(R2 W t.g _ _ _ _ _ _ _ _ _ _ ((hG.b7 t ht).below hW) (by omega)).mono ?_
     rintro e w' ⟨rfl,hb⟩
     refine⟨?_,hb⟩
     have htf:(t.nm,Tb.eu (be j).2)=En.uF j:=by rw[kS,ga,PG]
     have e1:Tb.mg t.L (Tb.eu (be j).2)=gv j:=by
      rw[Bool.eq_iff_iff,Tb.dY,hR.rows t ht]
      constructor
      · rintro⟨i,hi,hgj,e⟩
        rw[htf]at e
        rw[←En.tP hi hj e]
        exact hgj
      · intro h
        exact⟨j,hj,h,htf.symm⟩
     rw[←e1]
     rfl
theorem JG{w:World}{B eg:Nat}{kl:List Ax.ay}{gv:Nat→Bool}{n:Nat}(hE:nQ w B eg kl gv n)(hg:ji gv):∃rd rn rc gm hm hd lv,w.heap[eg]?=some (.cells (bE (Ax.au kl) (.slice rd rn rc) gm hm hd lv) 109 (0,0))∧hd.length=32∧NJ w kl gv (.slice rd rn rc) gm hm:=by
 obtain⟨pl,rd,rc,l,gm,G,hm,T,s,hd,lv,ln,lx,eb,dN,he,hG,hR,hH,hI,hT,bS,nT,yS,rfl⟩:=hE.at_
 exact⟨rd,l.length,rc,gm,hm,hd,lv,eb,bS,OH dN he hG hR hH hI hT hg⟩
end
/- state.State.names, walked. -/
section
open Go.Shelf Go.RowKit Go.Maps
structure Iy(w1 wr:World)(v:Value)(n:Nat)(l:List ByteArray):Prop where
 own:wr.ownsRow w1.heap.size 9 1 v n (strCells l)
 aZ:Below w1.heap.size w1 wr
theorem Iy.len{w1 wr:World}{v:Value}{n:Nat}{l:List ByteArray}(h:Iy w1 wr v n l):n=l.length:=by
 have:=h.own.1
 simp[strCells]at this
 omega
theorem Iy.grow{w1 w2 w4:World}{v v4:Value}{n p:Nat}{l m:List ByteArray}{o:Obj}(h:Iy w1 w2 v n l)(al:w4.ownsRow w1.heap.size 9 1 v4 (n+p) (strCells l++strCells m))(bG:(w2.alloc o).grownBy w4 v.ownBlock):Iy w1 w4 v4 (n+p) (l++m):=by
 refine⟨by simpa [strCells]using al, ?_⟩
 exact(h.aZ.alloc h.aZ.size o).grown bG (by simp;have:=h.aZ.size;omega) (fun k hk=>(h.own.lt k hk).1)
theorem Iy.below{w1 w2 w3:World}{v:Value}{n:Nat}{l:List ByteArray}(h:Iy w1 w2 v n l)(hb:Below w2.heap.size w2 w3):Iy w1 w3 v n l:=⟨ae h.own hb,h.aZ.trans (hb.mono h.aZ.size)⟩
theorem Ba(w1 w:World)(d:Option Addr)(n c:Nat)(l:List ByteArray)(h:Iy w1 w (.slice d n c) n l)(hl:n≤1000):
 Calls Tryz.prog 134 #[.slice d n c] w fun e w'=>e=.returned (.tuple #[])∧Hid (Below w1.heap.size w1 w')∧Hid (Calls Tryz.prog 135 #[.slice d n c] w' fun e w3=>∃d' c',e=.returned (.slice d' (Ex.Qa l).length c')∧Hid (w3.ownsRow w1.heap.size 9 1 (.slice d' (Ex.Qa l).length c') (Ex.Qa l).length (vu (Ex.Qa l))∧Below w1.heap.size w1 w3)):=by
 have al:=h.own
 have GY:=h.len
 rcases h.own.2 with⟨e1,e2⟩ | ⟨g,cap,cur,e1,hB,hg,Ko,uI,vm,_⟩
 · simp only[Value.slice.injEq]at e1
   obtain⟨rfl,rfl,rfl⟩:=e1
   have NW:l=[]:=List.eq_nil_of_length_eq_zero GY.symm
   subst NW
   refine Calls.mono (AnyG.slices_Sort_string_none zL none 0 w) ?_
   rintro e w' ⟨rfl,rfl⟩
   refine⟨rfl,h.aZ, ?_⟩
   refine Calls.mono (AnyG.slices_Compact_string_empty zJ none 0 w') ?_
   rintro e w3 ⟨rfl,rfl⟩
   have e0:Ex.Qa []=[]:=by
    refine List.eq_nil_iff_forall_not_mem.2 fun x hx=> ?_
    have h9:=((sD []).2 x).1 hx
    cases h9
   rw[e0]
   exact⟨none,0,rfl,World.ownsRow_nil _ _ _ _,h.aZ⟩
 · simp only[Value.slice.injEq]at e1
   obtain⟨rfl,_,rfl⟩:=e1
   rw[Ex.abg]at al
   have GM:=hB
   have cE:=h.aZ.size
   have mO:=lt_of_heap hg
   refine(I6 w1.heap.size w g n c _ al (by omega)).mono ?_
   rintro e w' ⟨rfl,yE,lN⟩
   have zX:=lN.size
   have cM:Below w1.heap.size w1 w':=lN.aK h.aZ cE (by simp;omega)
   refine⟨rfl,cM, ?_⟩
   refine(Ju w1.heap.size w' g n c _ yE (by omega) (by omega)).mono ?_
   rintro e w3 ⟨rfl,XA,KS⟩
   exact⟨_,_,rfl,XA,KS.aK cM (by omega) (by simp;omega)⟩
theorem IW{l:List ByteArray}(hl:l.length≤3){x:Nat}{u:Value}(h:(strCells l)[x]?=some u):[Value.string (Tb.ef l 0),.string (Tb.ef l 1),.string (Tb.ef l 2)][x]?=some u:=by
 rw[strCells,List.getElem?_map]at h
 obtain⟨y,hy,rfl⟩:=Option.map_eq_some_iff.1 h
 have aE:=(List.getElem?_eq_some_iff.1 hy).1
 have e:Tb.ef l x=y:=by unfold Tb.ef;rw[List.getD_eq_getElem?_getD,hy];rfl
 have hx:x=0∨x=1∨x=2:=by omega
 rcases hx with rfl | rfl | rfl<;>simp[e]
theorem KR(w:World)(kl:List Ax.ay)(gv:Nat→Bool)(rd:Option Addr)(rn rc gm hm:Nat)(hd:List UInt8)(hS:NJ w kl gv (.slice rd rn rc) gm hm):
 Calls Tryz.prog 76 #[.agg (aO (Ax.au kl) (.slice rd rn rc) gm hm hd)] w fun e w'=>∃d c,e=.returned (.slice d (Ex.jC (En.ak (En.aj kl) gv)).length c)∧w'.ownsRow w.heap.size 9 1 (.slice d (Ex.jC (En.ak (En.aj kl) gv)).length c) (Ex.jC (En.ak (En.aj kl) gv)).length (strCells (Ex.jC (En.ak (En.aj kl) gv)))∧Below w.heap.size w w':=by
 obtain⟨i0,jy,ew,dZ,dX⟩:=info_parts Tryz.o5
 have HI:Hid (Tryz.prog.info? 9=some i0):=jy
 have H0:Hid (i0.zero=some (.string ByteArray.empty)):=ew
 have H1:Hid (i0.size=1):=dZ
 have H2:Hid (i0.bytes=16):=dX
 clear jy ew dZ dX
 have HS:Hid (NJ w kl gv (.slice rd rn rc) gm hm):=hS
 obtain⟨cs,bH⟩:∃cs,cs=aO (Ax.au kl) (.slice rd rn rc) gm hm hd:=⟨_,rfl⟩
 obtain⟨w0,cZ⟩:∃w0,w0=w.alloc (.cells cs 107):=⟨_,rfl⟩
 have bL:Below w.heap.size w w0:=by rw[cZ];exact(Below.refl _ _).alloc (Nat.le_refl _) _
 have mN:w0.heap[w.heap.size]?=some (.cells cs 107 (0,0)):=by rw[cZ];exact heap_alloc_new w _
 have t0:w0.cell? ⟨w.heap.size,0,none⟩=some (.string (Ax.au kl)):=by rw[cell_of_row _ _ _ _ _ _ mN,bH];rfl
 have t1:w0.cell? ⟨w.heap.size,1,none⟩=some (.slice rd rn rc):=by rw[cell_of_row _ _ _ _ _ _ mN,bH];rfl
 have t3:w0.cell? ⟨w.heap.size,3,none⟩=some (.map (some hm)):=by rw[cell_of_row _ _ _ _ _ _ mN,bH];rfl
 have PX:=lt_of_heap mN
 have tS:Hid (Calls Tryz.prog 59 #[.agg #[.string (Ax.au kl),.slice rd rn rc]] w0 fun e w1=>∃qd qc,e=.returned (.slice qd 3 qc)∧w1.cell? ⟨w.heap.size,3,none⟩=some (.map (some hm))∧Hid (w1.ownsRow w0.heap.size 112 2 (.slice qd 3 qc) 3 (aB gQ)∧Below w.heap.size w w1)):=by
  refine(hS.kM w0 bL).mono ?_
  rintro e w1 ⟨qd,qc,rfl,h1,h2⟩
  exact⟨qd,qc,rfl,by rw[h2.cell PX];exact t3,h1,bL.trans (h2.mono bL.size)⟩
 rw[←bH]
 clear bH hS mN
 go_enter Tryz.func76,Tryz.ntmps76
 go_upto_region 2 with fail
 rw[←cZ]
 clear cZ
 go_wp2_with (go_at_call 59;refine tS.out.mono ?_;rintro e w1 ⟨qd,qc,rfl,x3,PN⟩)
 have Cv:Hid (Below w.heap.size w w1):=PN.out.2
 have IV:w.heap.size<w1.heap.size:=block_lt_of_cell x3
 clear tS t0 t1 t3 PX bL
 go_loopw [3,12] (fun a i wr=>∃(k n:Nat),k≤3∧i=.int .i64 k∧Iy w1 wr a n (Ex.nj (En.ak (En.aj kl) gv) (gQ.take k))) (fun _ i _=>3-(intOf i).toNat)
 case atStart=>exact⟨0,0,Nat.zero_le _,rfl,World.ownsRow_nil _ _ _ _,Below.refl _ _⟩
 case round=>
  obtain⟨k,n,hk,rfl,hN⟩:=hrel
  obtain⟨ad,ac,LB⟩:=ah hN.own
  subst LB
  have hn9:n≤324:=by
   rw[hN.len]
   refine Nat.le_trans (Ex.DU _ _) ?_
   rw[List.length_take]
   have:gQ.length=3:=rfl
   omega
  obtain⟨wA,rfl⟩:∃x,x=wr:=⟨_,rfl⟩
  have PR:Below w.heap.size w wA:=Cv.out.trans (hN.aZ.mono Cv.out.size)
  have x3A:wA.cell? ⟨w.heap.size,3,none⟩=some (.map (some hm)):=by rw[hN.aZ.cell IV];exact x3
  have acb:w.heap.size<wA.heap.size:=block_lt_of_cell x3A
  by_cases aE:k<3
  · have mL:k<gQ.length:=aE
    obtain⟨g2,rfl,dM,uI,bH⟩:=aD (ae PN.out.1 hN.aZ) (by omega)
    have c0:=bH _ _ (aT gQ k mL).1
    have c1:=bH _ _ (aT gQ k mL).2
    have Cx:gQ[k]∈gQ:=List.getElem_mem mL
    obtain⟨ug,hA⟩:=HS.out.Uw _ Cx
    have Ip:Hid (Ex.nj (En.ak (En.aj kl) gv) (gQ.take (k+1))=Ex.nj (En.ak (En.aj kl) gv) (gQ.take k)++(cW (En.ak (En.aj kl) gv) (gQ[k]).1).flatMap fun j=>(be j).2):=by
     have e0:gQ.take (k+1)=gQ.take k++[gQ[k]]:=by rw[List.take_add_one,List.getElem?_eq_getElem mL];rfl
     have e1:Ex.nj (En.ak (En.aj kl) gv) (gQ.take (k+1))=Ex.nj (En.ak (En.aj kl) gv) (gQ.take k)++(cW (En.ak (En.aj kl) gv) (gQ[k]).1).flatMap fun j=>(be j).2:=by unfold Ex.nj;rw[e0,List.flatMap_append,List.flatMap_singleton]
     exact e1
    have ZQ:Hid (∀j,j∈cW (En.ak (En.aj kl) gv) (gQ[k]).1→(be j).2.length=(gQ[k]).2):=by
     intro j hj
     obtain⟨h1,_,h3⟩:=gE.1 hj
     have h4:=kO h1
     rw[h3]at h4
     exact s7 h4 (oh Cx)
    have FP:(gQ[k]).2≤3:=by
     have:∀q,q∈gQ→q.2≤3:=by unfold gQ;decide
     exact this _ Cx
    generalize gQ[k]=p at c0 c1 hA Ip ZQ FP
    obtain⟨pn,pp⟩:=p
    simp only at c0 c1 hA Ip ZQ FP
    have hug:ug<wA.heap.size:=Nat.lt_of_lt_of_le hA.lt PR.size
    obtain⟨wP,Hd⟩:∃wP,wP=wA.alloc (.cells #[.string pn,.int .i64 (pp:Nat)] 112):=⟨_,rfl⟩
    have IX:Below wA.heap.size wA wP:=by rw[Hd];exact(Below.refl _ _).alloc (Nat.le_refl _) _
    have LH:wP.heap[wA.heap.size]?=some (.cells #[.string pn,.int .i64 (pp:Nat)] 112 (0,0)):=by rw[Hd];exact heap_alloc_new wA _
    have p0:wP.cell? ⟨wA.heap.size,0,none⟩=some (.string pn):=by rw[cell_of_row _ _ _ _ _ _ LH];rfl
    have p3:wP.cell? ⟨w.heap.size,3,none⟩=some (.map (some hm)):=by rw[IX.cell acb];exact x3A
    have U1:Below w.heap.size w wP:=PR.trans (IX.mono PR.size)
    have nU:=hA.look wP U1
    have ahI:ug<wP.heap.size:=Nat.lt_of_lt_of_le hug IX.size
    generalize LM:cW (En.ak (En.aj kl) gv) pn=js at Ip ZQ
    have vv:Hid (Calls Tryz.prog 133 #[.pointer (some ⟨ug,0,none⟩)] wP fun e w3=>∃xd xc,e=.returned (.slice xd js.length xc)∧Hid (w3.ownsRow wP.heap.size 119 3 (.slice xd js.length xc) js.length (aM (js.map fun j=>Tb.eu (be j).2))∧Iy w1 w3 (.slice ad n ac) n (Ex.nj (En.ak (En.aj kl) gv) (gQ.take k))∧w3.heap[wA.heap.size]?=some (.cells #[.string pn,.int .i64 (pp:Nat)] 112 (0,0)))):=by
     refine(hA.rows wP U1).mono ?_
     rintro e w3 ⟨xd,xc,rfl,q1,q2⟩
     rw[LM]at q1 ⊢
     exact⟨xd,xc,rfl,q1,(hN.below IX).below q2,by rw[q2.block _ (lt_of_heap LH)];exact LH⟩
    have EZ:js.length≤36:=by
     rw[←LM]
     unfold cW
     exact Nat.le_trans (List.length_filter_le _ _) (by simp)
    clear bH hA LM hN PR LH Cx U1 IX PN
    go_upto_region 5 with fail
    rw[←Hd]
    clear Hd
    go_wp2_with (go_at_call 133;refine vv.out.mono ?_;rintro e w3 ⟨xd,xc,rfl,H3⟩)
    clear vv nU p0 p3 c0 c1
    generalize Ex.nj (En.ak (En.aj kl) gv) (gQ.take k)=base at H3 Ip
    go_loopw [3,25] (fun a i w4=>∃(q m:Nat),q≤js.length∧i=.int .i64 q∧Iy w1 w4 a m (base++(js.take q).flatMap fun j=>(be j).2)∧Lib.OthersKept 9 none w3 w4) (fun _ i _=>js.length-(intOf i).toNat)
    case atStart=>exact⟨0,n,Nat.zero_le _,rfl,by simpa using H3.out.2.1,Lib.OthersKept.refl _ _ _⟩
    case round=>
     obtain⟨q,m,hq,rfl,RH,XH⟩:=hrel
     obtain⟨bd,bc,bL⟩:=ah RH.own
     subst bL
     have HN4:Hid (Iy w1 wr (.slice bd m bc) m (base++(js.take q).flatMap fun j=>(be j).2)):=RH
     have HO4:Hid (Lib.OthersKept 9 none w3 wr):=XH
     have hblk:wr.heap[wA.heap.size]?=some (.cells #[.string pn,.int .i64 (pp:Nat)] 112 (0,0)):=XH _ _ H3.out.2.2 (by simp) (fun c fz e=>by simp at e)
     have y1:wr.cell? ⟨wA.heap.size,1,none⟩=some (.int .i64 (pp:Nat)):=by rw[cell_of_row _ _ _ _ _ _ hblk];rfl
     have fm:=lt_of_heap hblk
     by_cases qS:q<js.length
     · have bQ:=bJ H3.out.1 XH (by decide)
       obtain⟨g3,rfl,nP,vm,mc⟩:=aD bQ (by omega)
       have h3:p7 (js.map fun j=>Tb.eu (be j).2):=fun r hr=>by
        obtain⟨j,_,rfl⟩:=List.mem_map.1 hr
        rfl
       obtain⟨r0,r1,r2⟩:=jU h3 (k:=q) (by simpa using qS) (a:=Tb.ef (be js[q]).2 0) (b:=Tb.ef (be js[q]).2 1) (c:=Tb.ef (be js[q]).2 2) (by rw[List.getElem_map];rfl)
       have z0:=mc _ _ r0
       have z1:=mc _ _ r1
       have z2:=mc _ _ r2
       have fR:Hid (base++(js.take (q+1)).flatMap (fun j=>(be j).2)=base++(js.take q).flatMap (fun j=>(be j).2)++(be js[q]).2):=by
        have e0:js.take (q+1)=js.take q++[js[q]]:=by rw[List.take_add_one,List.getElem?_eq_getElem qS];rfl
        have e1:base++(js.take (q+1)).flatMap (fun j=>(be j).2)=base++(js.take q).flatMap (fun j=>(be j).2)++(be js[q]).2:=by rw[e0,List.flatMap_append];simp
        exact e1
       have Wl:(be js[q]).2.length=pp:=ZQ.out _ (List.getElem_mem qS)
       have qM:=mW js[q]
       have hm9:m≤100000:=by
        have h8:=RH.len
        rw[List.length_append]at h8
        have h7:=H3.out.2.1.len
        have h6:∀l:List Nat,(l.flatMap fun j=>(be j).2).length≤3*l.length:=by
         intro l
         induction l with
         | nil=>simp
         | cons a l ih=>
          rw[List.flatMap_cons,List.length_append,List.length_cons]
          have:=mW a
          omega
        have h5:=h6 (js.take q)
        rw[List.length_take]at h5
        omega
       have V0:Hid (∀(x:Nat) u,(strCells (be js[q]).2)[x]?=some u→(wr.alloc (.cells #[.string (Tb.ef (be js[q]).2 0),.string (Tb.ef (be js[q]).2 1),.string (Tb.ef (be js[q]).2 2)] 119)).cell? ((⟨wr.heap.size,0,none⟩:Addr).add x)=some u):=by
        intro x u hu
        rw[Addr.add_lit,cell_of_row _ _ _ _ _ _ (heap_alloc_new wr _)]
        have h8:=IW (by omega) hu
        simpa using h8
       have al:=RH.own
       have ain:w1.heap.size≤wr.heap.size:=RH.aZ.size
       generalize Tb.ef (be js[q]).2 0=s0 at*
       generalize Tb.ef (be js[q]).2 1=s1 at*
       generalize Tb.ef (be js[q]).2 2=s2 at*
       generalize (be js[q]).2=dl at*
       have adh:(strCells dl).length=pp*1:=by simp[strCells,Wl]
       have abf:∀u∈strCells dl,u.oneCell'=true:=by
        intro u hu
        obtain⟨x,_,rfl⟩:=List.mem_map.1 hu
        rfl
       have b1:(0:Int)≤(pp:Int):=by omega
       have b2:(pp:Int)≤3:=by omega
       clear mc bQ r0 r1 r2 h3 RH XH hblk
       go_wp2_with (at_builtin;go_must (refine wpList_append_own _ rfl (.tmp 29) (.tmp 32) 46 rfl w1.heap.size 9 i0 _ 1 16 Tryz.underlying46 HI.out H0.out H1.out H2.out rfl (by decide) _ _ _ rfl (al.alloc _) ⟨wr.heap.size,0,none⟩ pp 3 (strCells dl) rfl adh V0.out abf (by unfold maxLen;omega) (by omega) (by simp;omega) ?_;intro v5 w5 Ad wE _))
       have YN:=(HO4.out.alloc _).grown wE (bj (al.alloc _))
       have hN5:=HN4.out.grow Ad wE
       rw[←fR.out]at hN5
       go_roundw
       case rel=>exact⟨q+1,m+pp,qS,by go_num,hN5,YN⟩
       case measure=>simp[intOf];omega
     · have HE:Hid (Iy w1 wr (.slice bd m bc) m (Ex.nj (En.ak (En.aj kl) gv) (gQ.take (k+1)))):=by
        rw[Ip.out]
        have e:js.take q=js:=List.take_of_length_le (by omega)
        rw[e]at RH
        exact RH
       clear RH XH HN4
       go_wp2_with fail
       go_roundw
       case rel=>exact⟨k+1,m,by omega,by go_num,HE.out⟩
       case measure=>simp[intOf];omega
  · have va:k=3:=by omega
    subst va
    have HN9:Hid (Calls Tryz.prog 134 #[.slice ad n ac] wA fun e w'=>e=.returned (.tuple #[])∧Hid (Below w1.heap.size w1 w')∧Hid (Calls Tryz.prog 135 #[.slice ad n ac] w' fun e w3=>∃d' c',e=.returned (.slice d' (Ex.jC (En.ak (En.aj kl) gv)).length c')∧Hid (w3.ownsRow w1.heap.size 9 1 (.slice d' (Ex.jC (En.ak (En.aj kl) gv)).length c') (Ex.jC (En.ak (En.aj kl) gv)).length (strCells (Ex.jC (En.ak (En.aj kl) gv)))∧Below w1.heap.size w1 w3))):=by
     have h9:=Ba w1 wA ad n ac _ hN (by omega)
     have e1:(Ex.jC (En.ak (En.aj kl) gv)).length=(Ex.Qa (Ex.nj (En.ak (En.aj kl) gv) (gQ.take 3))).length:=by unfold Ex.jC;rw[List.length_map];rfl
     have e2:strCells (Ex.jC (En.ak (En.aj kl) gv))=vu (Ex.Qa (Ex.nj (En.ak (En.aj kl) gv) (gQ.take 3))):=by unfold Ex.jC;rw[Ex.ac6];rfl
     rw[e1,e2]
     exact h9
    clear hN PR x3A x3
    go_wp2_with (first | (go_at_call 134;refine HN9.out.mono ?_;rintro e w5 ⟨rfl,PL,HC5⟩) | (go_at_call 135;refine HC5.out.mono ?_;rintro e w6 ⟨d',c',rfl,H6⟩))
    go_ret
    exact⟨d',c',rfl,aG H6.out.1 Cv.out.size,Cv.out.trans (H6.out.2.mono Cv.out.size)⟩
end
end Go.Proofs.YtdmicblafmhflaaGreatDoor
