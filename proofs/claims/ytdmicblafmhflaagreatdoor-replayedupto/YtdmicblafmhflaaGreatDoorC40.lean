/- What an export is written as, as a function of the rules and of what is given; a state's parts as they lie. -/
import Derived.Test.YtdmicblafmhflaaGreatDoorC39
set_option linter.unusedSimpArgs false
set_option linter.unusedVariables false
set_option maxHeartbeats 4000000
set_option maxRecDepth 100000
namespace Go.Proofs.YtdmicblafmhflaaGreatDoor
section
open Go.Shelf Go.RowKit Go.Maps
def gQ:List Pd.Pr:=[(Ax.cr 1,2),(Ax.cr 0,1),(Ax.cr 2,2)]
theorem Oc{Q:List Pd.Pr}(hs:Pd.vG Q)(hm:∀p,p∈Q↔p∈jI):Q=gQ:=by
 refine Pd.Ii hs (by unfold Pd.vG gQ;decide+kernel) (fun x=>(hm x).trans ?_)
 unfold jI gQ
 simp only[List.mem_cons,List.not_mem_nil,or_false]
 constructor
 · rintro(h | h | h)<;>simp[h]
 · rintro(h | h | h)<;>simp[h]
theorem oH{p:Pd.Pr}(h:p∈gQ):p∈jI:=by
 unfold gQ at h
 unfold jI
 simp only[List.mem_cons,List.not_mem_nil,or_false]at h ⊢
 rcases h with h | h | h<;>simp[h]
namespace Ex
def mT(H:Nat→Bool)(Q:List Pd.Pr):List ByteArray:=Q.flatMap fun p=>(cW H p.1).flatMap fun j=>(be j).2
def RL(l:List ByteArray):List (List UInt8):=Lib.compact ((l.map ByteArray.toList).mergeSort fun x y=>decide (x≤y))
def jC(H:Nat→Bool):List ByteArray:=(RL (mT H gQ)).map fun l=>⟨l.toArray⟩
def place(H:Nat→Bool)(x:ByteArray):Nat:=(jC H).findIdx fun y=>decide (y=x)
def fact(kl:List Ax.ay)(gv:Nat→Bool)(j:Nat):List UInt8:=Rc.aQ (if gv j=true then 1 else 0)++Rc.aQ (Gc kl gv j)++(be j).2.flatMap fun x=>Rc.aQ (place (En.ak (En.aj kl) gv) x)
def facts(kl:List Ax.ay)(gv:Nat→Bool)(p:ByteArray):List UInt8:=Rc.aQ (cW (En.ak (En.aj kl) gv) p).length++(cW (En.ak (En.aj kl) gv) p).flatMap (fact kl gv)
def body(kl:List Ax.ay)(gv:Nat→Bool):List UInt8:=Rc.aC (Ax.au kl)++Rc.aQ (jC (En.ak (En.aj kl) gv)).length++(jC (En.ak (En.aj kl) gv)).flatMap Rc.aC++gQ.flatMap fun p=>facts kl gv p.1
theorem acV(l:List ByteArray):strCells l=vr (l.map ByteArray.toList):=by
 simp[strCells,vr,encStr,ByteArray.toList_eq]
theorem adH(l:List (List UInt8)):strCells (l.map fun b=>(⟨b.toArray⟩:ByteArray))=vr l:=by
 simp[strCells,vr,encStr]
theorem GU(H:Nat→Bool):(jC H).Pairwise fun a b=>a.toList<b.toList:=by
 unfold jC
 rw[List.pairwise_map]
 exact(sC ((mT H gQ).map ByteArray.toList)).1.imp (fun h=>by simpa [ByteArray.toList_eq]using h)
theorem He(H:Nat→Bool)(x:ByteArray):x∈jC H↔x∈mT H gQ:=by
 unfold jC
 rw[List.mem_map]
 constructor
 · rintro⟨l,hl,rfl⟩
   have h:=((sC ((mT H gQ).map ByteArray.toList)).2 l).1 hl
   obtain⟨y,hy,rfl⟩:=List.mem_map.1 h
   simpa [ByteArray.toList_eq]using hy
 · intro h
   refine⟨x.toList,((sC ((mT H gQ).map ByteArray.toList)).2 _).2 (List.mem_map_of_mem h),by simp[ByteArray.toList_eq]⟩
theorem Dp(H:Nat→Bool){p:Pd.Pr}(hp:p∈gQ){j:Nat}(hj:j∈cW H p.1){x:ByteArray}(hx:x∈(be j).2):(jC H)[place H x]?=some x:=by
 have hm:x∈jC H:=(He H x).2 (List.mem_flatMap.2 ⟨p,hp,List.mem_flatMap.2 ⟨j,hj,hx⟩⟩)
 have aE:place H x<(jC H).length:=List.findIdx_lt_length_of_exists ⟨x,hm,by simp⟩
 have hp:=List.findIdx_getElem (p:=fun y=>decide (y=x)) (xs:=jC H) (w:=aE)
 rw[List.getElem?_eq_getElem aE]
 exact congrArg some (of_decide_eq_true hp)
theorem EO(H:Nat→Bool)(Q:List Pd.Pr):(mT H Q).length≤108*Q.length:=by
 unfold mT
 induction Q with
 | nil=>simp
 | cons p Q ih=>
  rw[List.flatMap_cons,List.length_append]
  have h1:∀l:List Nat,(l.flatMap fun j=>(be j).2).length≤3*l.length:=by
   intro l
   induction l with
   | nil=>simp
   | cons a l ih=>
    rw[List.flatMap_cons,List.length_append,List.length_cons]
    have:=na a
    omega
  have h2:(cW H p.1).length≤36:=by
   unfold cW
   exact Nat.le_trans (List.length_filter_le _ _) (by simp)
  have:=h1 (cW H p.1)
  rw[List.length_cons]
  omega
theorem sr(H:Nat→Bool):(jC H).length≤324:=by
 unfold jC RL
 rw[List.length_map]
 refine Nat.le_trans (yA _) ?_
 rw[List.length_mergeSort,List.length_map]
 exact EO H gQ
end Ex
structure Yn(w:World)(kl:List Ax.ay)(gv:Nat→Bool)(hm:Nat)(p:ByteArray)(ug:Nat):Prop where
 lt:ug<w.heap.size
 look:∀W:World,Below w.heap.size w W→(Instr.lookup 103 (.map (some hm)) (.string p) false).run Tryz.prog W=.ok (.pointer (some ⟨ug,0,none⟩)) W
 len:∀W:World,Below w.heap.size w W→Calls Tryz.prog 136 #[.pointer (some ⟨ug,0,none⟩)] W fun e w'=>e=.returned (.int .i64 (cW (En.ak (En.aj kl) gv) p).length)∧w'=W
 rows:∀W:World,Below w.heap.size w W→Calls Tryz.prog 133 #[.pointer (some ⟨ug,0,none⟩)] W fun e w'=>∃rd rc,e=.returned (.slice rd (cW (En.ak (En.aj kl) gv) p).length rc)∧w'.ownsRow W.heap.size 119 3 (.slice rd (cW (En.ak (En.aj kl) gv) p).length rc) (cW (En.ak (En.aj kl) gv) p).length (aM ((cW (En.ak (En.aj kl) gv) p).map fun j=>Tb.ev (be j).2))∧Below W.heap.size W w'
 count:∀W:World,Below w.heap.size w W→∀j,j∈cW (En.ak (En.aj kl) gv) p→Calls Tryz.prog 43 #[.pointer (some ⟨ug,0,none⟩),.agg (Tb.fB (be j).2)] W fun e w'=>e=.returned (.int .i64 (Gc kl gv j:Nat))∧Below W.heap.size W w'
structure YE(w:World)(gv:Nat→Bool)(gm:Nat)(p:ByteArray)(tg:Nat):Prop where
 lt:tg<w.heap.size
 look:∀W:World,Below w.heap.size w W→(Instr.lookup 102 (.map (some gm)) (.string p) false).run Tryz.prog W=.ok (.pointer (some ⟨tg,0,none⟩)) W
 has:∀W:World,Below w.heap.size w W→∀j,j<36→(be j).1=p→Calls Tryz.prog 42 #[.pointer (some ⟨tg,0,none⟩),.agg (Tb.fB (be j).2)] W fun e w'=>e=.returned (.bool (gv j))∧Below W.heap.size W w'
structure Nx(w:World)(kl:List Ax.ay)(gv:Nat→Bool)(rv:Value)(gm hm:Nat):Prop where
 kP:∀W:World,Below w.heap.size w W→Calls Tryz.prog 59 #[.agg #[.string (Ax.au kl),rv]] W fun e w'=>∃qd qc,e=.returned (.slice qd 3 qc)∧w'.ownsRow W.heap.size 112 2 (.slice qd 3 qc) 3 (aB gQ)∧Below W.heap.size W w'
 Uq:∀p,p∈gQ→∃ug,Yn w kl gv hm p.1 ug
 Oz:∀p,p∈gQ→∃tg,YE w gv gm p.1 tg
theorem Nx.below{w w':World}{kl:List Ax.ay}{gv:Nat→Bool}{rv:Value}{gm hm:Nat}(h:Nx w kl gv rv gm hm)(hb:Below w.heap.size w w'):Nx w' kl gv rv gm hm:=by
 have key:∀W,Below w'.heap.size w' W→Below w.heap.size w W:=fun W hW=>hb.trans (hW.mono hb.size)
 refine⟨fun W hW=>h.kP W (key W hW),fun p hp=> ?_,fun p hp=> ?_⟩
 · obtain⟨ug,k⟩:=h.Uq p hp
   exact⟨ug,Nat.lt_of_lt_of_le k.lt hb.size,fun W hW=>k.look W (key W hW),fun W hW=>k.len W (key W hW),fun W hW=>k.rows W (key W hW),fun W hW=>k.count W (key W hW)⟩
 · obtain⟨tg,k⟩:=h.Oz p hp
   exact⟨tg,Nat.lt_of_lt_of_le k.lt hb.size,fun W hW=>k.look W (key W hW),fun W hW=>k.has W (key W hW)⟩
end
/- An engine's state, as its calls answer. -/
section
open Go.RowKit Go.Maps
theorem oO(l:List ByteArray):Tb.fB l=#[.string (Tb.eh l 0),.string (Tb.eh l 1),.string (Tb.eh l 2)]:=rfl
theorem OD{w:World}{rd:Option Addr}{rc:Nat}{l:List MR}{gm hm:Nat}{G:List GT}{T:List HT}{s:En.dB En.cg}{kl:List Ax.ay}{gv:Nat→Bool}(dN:aI w rd rc l)(he:(l.map MR.aw).map Ax.kX=Ax.gR kl)(hG:lJ w gm G)(hR:fU G gv)(hH:pH w hm T s)(hI:En.Inv (En.sR (En.aj kl)) (En.gF gv) s s.found.length)(hT:∀p,p∈T.map ic↔p∈jI)(hg:jk gv):Nx w kl gv (.slice rd l.length rc) gm hm:=by
 refine⟨?_, ?_, ?_⟩
 · intro W hW
   obtain⟨_,_,zK⟩:=iN dN he
   have cA:l≠[]:=by
    rintro rfl
    simp[Ax.gR,Ax.lr]at he
   refine(mc W (Ax.au kl) rd rc l (dN.below hW) (by omega) (nH he) cA).mono ?_
   rintro e w' ⟨qd,qc,Q,rfl,h1,h2,h3⟩
   have hQ:Q=gQ:=Oc h3.out.1 (fun p=>(h3.out.2 p).trans (dX he p))
   subst hQ
   exact⟨qd,qc,rfl,h1,h2⟩
 · intro p hp9
   have hp:=oH hp9
   obtain⟨u,hu,p9⟩:=List.mem_map.1 ((hT _).2 hp)
   have SV:u.nm=p.1:=congrArg Prod.fst p9
   have hu3:u.pl=p.2:=congrArg Prod.snd p9
   have uH:p.1.size≤1000000:=Nat.le_trans (dP _ hp) (by decide)
   have L4:=Ee hI
   have hlU:=hH.DY u hu
   have dD:=En.ub kl
   have RD:=(hH.b8 u hu).ph
   have DG:∀r,r∈u.L↔(p.1,r)∈s.found:=fun r=>by rw[hH.rows u hu,SV]
   obtain⟨js,e1,e2,e3⟩:=Pe (H:=En.ak (En.aj kl) gv) (pl:=p.2) hp u.L (fun r hr=>by
    have h1:=(DG r).1 hr
    obtain⟨j,hj,e⟩:=En.Mf (En.sV dD hI _ h1)
    rw[e]at h1
    exact⟨j,hj,(En.s7 dD hg hI hj).1 h1,e⟩)
   have acS:Lst (En.ak (En.aj kl) gv) p.1 js:=by
    refine⟨fun j=>⟨e3 j, ?_⟩, ?_⟩
    · rintro⟨hj,hH9,hd9⟩
      have h1:=(En.s7 dD hg hI hj).2 hH9
      rw[kI,hd9]at h1
      have h2:=(DG _).2 h1
      rw[e1]at h2
      obtain⟨i,hi,e⟩:=List.mem_map.1 h2
      obtain⟨Kw,_,hid⟩:=e3 i hi
      have:i=j:=En.tE Kw hj (by rw[kI,kI,hid,hd9,e])
      rw[←this]
      exact hi
    · have h1:Tb.Ord u.L:=RD.ord
      rw[e1]at h1
      exact List.pairwise_map.1 h1
   have LG:=acS.eq
   subst LG
   have hlen:u.L.length=(cW (En.ak (En.aj kl) gv) p.1).length:=by rw[e1,List.length_map]
   refine⟨u.g,lt_of_heap RD.cT, ?_, ?_, ?_, ?_⟩
   · intro W hW
     exact(hH.below hW).map.look (by rw[←SV];exact rU hH.names hu) uH Tryz.underlying103 (Tryz.zeroValue97 W)
   · intro W hW
     rw[←hlen]
     exact IE W u.g _ _ _ _ _ _ _ (RD.below hW)
   · intro W hW
     rw[←hlen,←e1]
     exact xP W u.g _ _ _ _ _ _ _ (RD.below hW) (by omega)
   · intro W hW j hj
     obtain⟨yP,hHj,PM⟩:=gJ.1 hj
     rw[oO]
     refine(Jt W u.g _ _ _ _ _ _ _ _ _ _ _ ((hH.b8 u hu).below hW) (by omega)).mono ?_
     rintro e w' ⟨rfl,hb⟩
     refine⟨?_,hb⟩
     have NX:Tb.Ord u.L:=(hH.b8 u hu).ph.ord
     have hc:s.count (En.uF j)=Gc kl gv j:=En.BO dD hg hI yP
     have Yv:(u.nm,Tb.ev (be j).2)=En.uF j:=by rw[kI,SV,PM]
     have e3:Tb.Aa u.L u.C (Tb.ev (be j).2)=Gc kl gv j:=by
      rw[hH.vm u hu,Ly NX]
      by_cases h:Tb.mD u.L (Tb.ev (be j).2)=true
      · rw[if_pos h,Yv]
        exact hc
      · rw[if_neg h,←hc]
        rw[Tb.dW,hH.rows u hu,Yv]at h
        exact(hH.zero _ h).symm
     rw[←e3]
     rfl
 · intro p hp9
   have hp:=oH hp9
   obtain⟨t,ht,gh,lj⟩:=hR.has (p:=p.1) (n:=p.2) hp
   have uH:p.1.size≤1000000:=Nat.le_trans (dP _ hp) (by decide)
   have hlL:t.L.length≤36:=Nat.le_trans (ot ht) (hR.sum hG.names (fun t ht=>cp.ord (hG.b8 t ht)))
   refine⟨t.g,lt_of_heap (cp.cT (hG.b8 t ht)), ?_, ?_⟩
   · intro W hW
     exact(hG.below hW).map.look (by rw[←gh];exact iH hG.names ht) uH Tryz.underlying102 (Tryz.zeroValue122 W)
   · intro W hW j hj PM
     rw[oO]
     refine(R6 W t.g _ _ _ _ _ _ _ _ _ _ ((hG.b8 t ht).below hW) (by omega)).mono ?_
     rintro e w' ⟨rfl,hb⟩
     refine⟨?_,hb⟩
     have htf:(t.nm,Tb.ev (be j).2)=En.uF j:=by rw[kI,gh,PM]
     have e1:Tb.mD t.L (Tb.ev (be j).2)=gv j:=by
      rw[Bool.eq_iff_iff,Tb.dW,hR.rows t ht]
      constructor
      · rintro⟨i,hi,hgj,e⟩
        rw[htf]at e
        rw[←En.tE hi hj e]
        exact hgj
      · intro h
        exact⟨j,hj,h,htf.symm⟩
     rw[←e1]
     rfl
theorem K7{w:World}{B eg:Nat}{kl:List Ax.ay}{gv:Nat→Bool}{n:Nat}(hE:nP w B eg kl gv n)(hg:jk gv):∃rd rn rc gm hm hd lv,w.heap[eg]?=some (.cells (bE (Ax.au kl) (.slice rd rn rc) gm hm hd lv) 109 (0,0))∧hd.length=32∧Nx w kl gv (.slice rd rn rc) gm hm:=by
 obtain⟨pl,rd,rc,l,gm,G,hm,T,s,hd,lv,ln,lx,eb,dN,he,hG,hR,hH,hI,hT,bT,nU,zn,rfl⟩:=hE.at_
 exact⟨rd,l.length,rc,gm,hm,hd,lv,eb,bT,OD dN he hG hR hH hI hT hg⟩
end
/- state.State.names, walked. -/
section
open Go.Shelf Go.RowKit Go.Maps
structure ID(w1 wr:World)(v:Value)(n:Nat)(l:List ByteArray):Prop where
 own:wr.ownsRow w1.heap.size 9 1 v n (strCells l)
 aZ:Below w1.heap.size w1 wr
theorem ID.len{w1 wr:World}{v:Value}{n:Nat}{l:List ByteArray}(h:ID w1 wr v n l):n=l.length:=by
 have:=h.own.1
 simp[strCells]at this
 omega
theorem ID.grow{w1 w2 w4:World}{v v4:Value}{n p:Nat}{l m:List ByteArray}{o:Obj}(h:ID w1 w2 v n l)(al:w4.ownsRow w1.heap.size 9 1 v4 (n+p) (strCells l++strCells m))(bG:(w2.alloc o).grownBy w4 v.ownBlock):ID w1 w4 v4 (n+p) (l++m):=by
 refine⟨by simpa [strCells]using al, ?_⟩
 exact(h.aZ.alloc h.aZ.size o).grown bG (by simp;have:=h.aZ.size;omega) (fun k hk=>(h.own.lt k hk).1)
theorem ID.below{w1 w2 w3:World}{v:Value}{n:Nat}{l:List ByteArray}(h:ID w1 w2 v n l)(hb:Below w2.heap.size w2 w3):ID w1 w3 v n l:=⟨ae h.own hb,h.aZ.trans (hb.mono h.aZ.size)⟩
theorem Co(w1 w:World)(d:Option Addr)(n c:Nat)(l:List ByteArray)(h:ID w1 w (.slice d n c) n l)(hl:n≤1000):
 Calls Tryz.prog 134 #[.slice d n c] w fun e w'=>e=.returned (.tuple #[])∧Hid (Below w1.heap.size w1 w')∧Hid (Calls Tryz.prog 135 #[.slice d n c] w' fun e w3=>∃d' c',e=.returned (.slice d' (Ex.RL l).length c')∧Hid (w3.ownsRow w1.heap.size 9 1 (.slice d' (Ex.RL l).length c') (Ex.RL l).length (vr (Ex.RL l))∧Below w1.heap.size w1 w3)):=by
 have al:=h.own
 have GH:=h.len
 rcases h.own.2 with⟨e1,e2⟩ | ⟨g,cap,cur,e1,hB,hg,Kk,uD,uY,_⟩
 · simp only[Value.slice.injEq]at e1
   obtain⟨rfl,rfl,rfl⟩:=e1
   have Ma:l=[]:=List.eq_nil_of_length_eq_zero GH.symm
   subst Ma
   refine Calls.mono (AnyG.slices_Sort_string_none AD none 0 w) ?_
   rintro e w' ⟨rfl,rfl⟩
   refine⟨rfl,h.aZ, ?_⟩
   refine Calls.mono (AnyG.slices_Compact_string_empty Am none 0 w') ?_
   rintro e w3 ⟨rfl,rfl⟩
   have e0:Ex.RL []=[]:=by
    refine List.eq_nil_iff_forall_not_mem.2 fun x hx=> ?_
    have h9:=((sC []).2 x).1 hx
    cases h9
   rw[e0]
   exact⟨none,0,rfl,World.ownsRow_nil _ _ _ _,h.aZ⟩
 · simp only[Value.slice.injEq]at e1
   obtain⟨rfl,_,rfl⟩:=e1
   rw[Ex.acV]at al
   have Gq:=hB
   have cE:=h.aZ.size
   have mO:=lt_of_heap hg
   refine(Ld w1.heap.size w g n c _ al (by omega)).mono ?_
   rintro e w' ⟨rfl,yF,lX⟩
   have Aq:=lX.size
   have cM:Below w1.heap.size w1 w':=lX.aJ h.aZ cE (by simp;omega)
   refine⟨rfl,cM, ?_⟩
   refine(Jx w1.heap.size w' g n c _ yF (by omega) (by omega)).mono ?_
   rintro e w3 ⟨rfl,WR,J9⟩
   exact⟨_,_,rfl,WR,J9.aJ cM (by omega) (by simp;omega)⟩
theorem Hu{l:List ByteArray}(hl:l.length≤3){x:Nat}{u:Value}(h:(strCells l)[x]?=some u):[Value.string (Tb.eh l 0),.string (Tb.eh l 1),.string (Tb.eh l 2)][x]?=some u:=by
 rw[strCells,List.getElem?_map]at h
 obtain⟨y,hy,rfl⟩:=Option.map_eq_some_iff.1 h
 have aE:=(List.getElem?_eq_some_iff.1 hy).1
 have e:Tb.eh l x=y:=by unfold Tb.eh;rw[List.getD_eq_getElem?_getD,hy];rfl
 have hx:x=0∨x=1∨x=2:=by omega
 rcases hx with rfl | rfl | rfl<;>simp[e]
theorem JA(w:World)(kl:List Ax.ay)(gv:Nat→Bool)(rd:Option Addr)(rn rc gm hm:Nat)(hd:List UInt8)(hS:Nx w kl gv (.slice rd rn rc) gm hm):
 Calls Tryz.prog 76 #[.agg (aO (Ax.au kl) (.slice rd rn rc) gm hm hd)] w fun e w'=>∃d c,e=.returned (.slice d (Ex.jC (En.ak (En.aj kl) gv)).length c)∧w'.ownsRow w.heap.size 9 1 (.slice d (Ex.jC (En.ak (En.aj kl) gv)).length c) (Ex.jC (En.ak (En.aj kl) gv)).length (strCells (Ex.jC (En.ak (En.aj kl) gv)))∧Below w.heap.size w w':=by
 obtain⟨i0,jt,ew,dZ,dU⟩:=info_parts Tryz.py
 have HI:Hid (Tryz.prog.info? 9=some i0):=jt
 have H0:Hid (i0.zero=some (.string ByteArray.empty)):=ew
 have H1:Hid (i0.size=1):=dZ
 have H2:Hid (i0.bytes=16):=dU
 clear jt ew dZ dU
 have HS:Hid (Nx w kl gv (.slice rd rn rc) gm hm):=hS
 obtain⟨cs,bH⟩:∃cs,cs=aO (Ax.au kl) (.slice rd rn rc) gm hm hd:=⟨_,rfl⟩
 obtain⟨w0,cZ⟩:∃w0,w0=w.alloc (.cells cs 107):=⟨_,rfl⟩
 have bL:Below w.heap.size w w0:=by rw[cZ];exact(Below.refl _ _).alloc (Nat.le_refl _) _
 have mN:w0.heap[w.heap.size]?=some (.cells cs 107 (0,0)):=by rw[cZ];exact heap_alloc_new w _
 have t0:w0.cell? ⟨w.heap.size,0,none⟩=some (.string (Ax.au kl)):=by rw[cell_of_row _ _ _ _ _ _ mN,bH];rfl
 have t1:w0.cell? ⟨w.heap.size,1,none⟩=some (.slice rd rn rc):=by rw[cell_of_row _ _ _ _ _ _ mN,bH];rfl
 have t3:w0.cell? ⟨w.heap.size,3,none⟩=some (.map (some hm)):=by rw[cell_of_row _ _ _ _ _ _ mN,bH];rfl
 have QD:=lt_of_heap mN
 have tq:Hid (Calls Tryz.prog 59 #[.agg #[.string (Ax.au kl),.slice rd rn rc]] w0 fun e w1=>∃qd qc,e=.returned (.slice qd 3 qc)∧w1.cell? ⟨w.heap.size,3,none⟩=some (.map (some hm))∧Hid (w1.ownsRow w0.heap.size 112 2 (.slice qd 3 qc) 3 (aB gQ)∧Below w.heap.size w w1)):=by
  refine(hS.kP w0 bL).mono ?_
  rintro e w1 ⟨qd,qc,rfl,h1,h2⟩
  exact⟨qd,qc,rfl,by rw[h2.cell QD];exact t3,h1,bL.trans (h2.mono bL.size)⟩
 rw[←bH]
 clear bH hS mN
 go_enter Tryz.func76,Tryz.ntmps76
 go_upto_region 2 with fail
 rw[←cZ]
 clear cZ
 go_wp2_with (go_at_call 59;refine tq.out.mono ?_;rintro e w1 ⟨qd,qc,rfl,x3,Pw⟩)
 have CE:Hid (Below w.heap.size w w1):=Pw.out.2
 have Hn:w.heap.size<w1.heap.size:=block_lt_of_cell x3
 clear tq t0 t1 t3 QD bL
 go_loopw [3,12] (fun a i wr=>∃(k n:Nat),k≤3∧i=.int .i64 k∧ID w1 wr a n (Ex.mT (En.ak (En.aj kl) gv) (gQ.take k))) (fun _ i _=>3-(intOf i).toNat)
 case atStart=>exact⟨0,0,Nat.zero_le _,rfl,World.ownsRow_nil _ _ _ _,Below.refl _ _⟩
 case round=>
  obtain⟨k,n,hk,rfl,hN⟩:=hrel
  obtain⟨ad,ac,LO⟩:=ah hN.own
  subst LO
  have hn9:n≤324:=by
   rw[hN.len]
   refine Nat.le_trans (Ex.EO _ _) ?_
   rw[List.length_take]
   have:gQ.length=3:=rfl
   omega
  obtain⟨wA,rfl⟩:∃x,x=wr:=⟨_,rfl⟩
  have PU:Below w.heap.size w wA:=CE.out.trans (hN.aZ.mono CE.out.size)
  have x3A:wA.cell? ⟨w.heap.size,3,none⟩=some (.map (some hm)):=by rw[hN.aZ.cell Hn];exact x3
  have abd:w.heap.size<wA.heap.size:=block_lt_of_cell x3A
  by_cases aE:k<3
  · have mP:k<gQ.length:=aE
    obtain⟨g2,rfl,dM,uD,bH⟩:=aD (ae Pw.out.1 hN.aZ) (by omega)
    have c0:=bH _ _ (aT gQ k mP).1
    have c1:=bH _ _ (aT gQ k mP).2
    have CB:gQ[k]∈gQ:=List.getElem_mem mP
    obtain⟨ug,hA⟩:=HS.out.Uq _ CB
    have IB:Hid (Ex.mT (En.ak (En.aj kl) gv) (gQ.take (k+1))=Ex.mT (En.ak (En.aj kl) gv) (gQ.take k)++(cW (En.ak (En.aj kl) gv) (gQ[k]).1).flatMap fun j=>(be j).2):=by
     have e0:gQ.take (k+1)=gQ.take k++[gQ[k]]:=by rw[List.take_add_one,List.getElem?_eq_getElem mP];rfl
     have e1:Ex.mT (En.ak (En.aj kl) gv) (gQ.take (k+1))=Ex.mT (En.ak (En.aj kl) gv) (gQ.take k)++(cW (En.ak (En.aj kl) gv) (gQ[k]).1).flatMap fun j=>(be j).2:=by unfold Ex.mT;rw[e0,List.flatMap_append,List.flatMap_singleton]
     exact e1
    have ZG:Hid (∀j,j∈cW (En.ak (En.aj kl) gv) (gQ[k]).1→(be j).2.length=(gQ[k]).2):=by
     intro j hj
     obtain⟨h1,_,h3⟩:=gJ.1 hj
     have h4:=kL h1
     rw[h3]at h4
     exact tZ h4 (oH CB)
    have FU:(gQ[k]).2≤3:=by
     have:∀q,q∈gQ→q.2≤3:=by unfold gQ;decide
     exact this _ CB
    generalize gQ[k]=p at c0 c1 hA IB ZG FU
    obtain⟨pn,pp⟩:=p
    simp only at c0 c1 hA IB ZG FU
    have hug:ug<wA.heap.size:=Nat.lt_of_lt_of_le hA.lt PU.size
    obtain⟨wP,Ho⟩:∃wP,wP=wA.alloc (.cells #[.string pn,.int .i64 (pp:Nat)] 112):=⟨_,rfl⟩
    have Hz:Below wA.heap.size wA wP:=by rw[Ho];exact(Below.refl _ _).alloc (Nat.le_refl _) _
    have LB:wP.heap[wA.heap.size]?=some (.cells #[.string pn,.int .i64 (pp:Nat)] 112 (0,0)):=by rw[Ho];exact heap_alloc_new wA _
    have p0:wP.cell? ⟨wA.heap.size,0,none⟩=some (.string pn):=by rw[cell_of_row _ _ _ _ _ _ LB];rfl
    have p3:wP.cell? ⟨w.heap.size,3,none⟩=some (.map (some hm)):=by rw[Hz.cell abd];exact x3A
    have UE:Below w.heap.size w wP:=PU.trans (Hz.mono PU.size)
    have nS:=hA.look wP UE
    have ahb:ug<wP.heap.size:=Nat.lt_of_lt_of_le hug Hz.size
    generalize LG:cW (En.ak (En.aj kl) gv) pn=js at IB ZG
    have vv:Hid (Calls Tryz.prog 133 #[.pointer (some ⟨ug,0,none⟩)] wP fun e w3=>∃xd xc,e=.returned (.slice xd js.length xc)∧Hid (w3.ownsRow wP.heap.size 119 3 (.slice xd js.length xc) js.length (aM (js.map fun j=>Tb.ev (be j).2))∧ID w1 w3 (.slice ad n ac) n (Ex.mT (En.ak (En.aj kl) gv) (gQ.take k))∧w3.heap[wA.heap.size]?=some (.cells #[.string pn,.int .i64 (pp:Nat)] 112 (0,0)))):=by
     refine(hA.rows wP UE).mono ?_
     rintro e w3 ⟨xd,xc,rfl,q1,q2⟩
     rw[LG]at q1 ⊢
     exact⟨xd,xc,rfl,q1,(hN.below Hz).below q2,by rw[q2.block _ (lt_of_heap LB)];exact LB⟩
    have E5:js.length≤36:=by
     rw[←LG]
     unfold cW
     exact Nat.le_trans (List.length_filter_le _ _) (by simp)
    clear bH hA LG hN PU LB CB UE Hz Pw
    go_upto_region 5 with fail
    rw[←Ho]
    clear Ho
    go_wp2_with (go_at_call 133;refine vv.out.mono ?_;rintro e w3 ⟨xd,xc,rfl,H3⟩)
    clear vv nS p0 p3 c0 c1
    generalize Ex.mT (En.ak (En.aj kl) gv) (gQ.take k)=base at H3 IB
    go_loopw [3,25] (fun a i w4=>∃(q m:Nat),q≤js.length∧i=.int .i64 q∧ID w1 w4 a m (base++(js.take q).flatMap fun j=>(be j).2)∧Lib.OthersKept 9 none w3 w4) (fun _ i _=>js.length-(intOf i).toNat)
    case atStart=>exact⟨0,n,Nat.zero_le _,rfl,by simpa using H3.out.2.1,Lib.OthersKept.refl _ _ _⟩
    case round=>
     obtain⟨q,m,hq,rfl,Qc,X2⟩:=hrel
     obtain⟨bd,bc,bL⟩:=ah Qc.own
     subst bL
     have HN4:Hid (ID w1 wr (.slice bd m bc) m (base++(js.take q).flatMap fun j=>(be j).2)):=Qc
     have HO4:Hid (Lib.OthersKept 9 none w3 wr):=X2
     have hblk:wr.heap[wA.heap.size]?=some (.cells #[.string pn,.int .i64 (pp:Nat)] 112 (0,0)):=X2 _ _ H3.out.2.2 (by simp) (fun c fz e=>by simp at e)
     have y1:wr.cell? ⟨wA.heap.size,1,none⟩=some (.int .i64 (pp:Nat)):=by rw[cell_of_row _ _ _ _ _ _ hblk];rfl
     have fl:=lt_of_heap hblk
     by_cases rJ:q<js.length
     · have bQ:=bJ H3.out.1 X2 (by decide)
       obtain⟨g3,rfl,nL,uY,mA⟩:=aD bQ (by omega)
       have h3:pZ (js.map fun j=>Tb.ev (be j).2):=fun r hr=>by
        obtain⟨j,_,rfl⟩:=List.mem_map.1 hr
        rfl
       obtain⟨r0,r1,r2⟩:=jZ h3 (k:=q) (by simpa using rJ) (a:=Tb.eh (be js[q]).2 0) (b:=Tb.eh (be js[q]).2 1) (c:=Tb.eh (be js[q]).2 2) (by rw[List.getElem_map];rfl)
       have z0:=mA _ _ r0
       have z1:=mA _ _ r1
       have z2:=mA _ _ r2
       have fS:Hid (base++(js.take (q+1)).flatMap (fun j=>(be j).2)=base++(js.take q).flatMap (fun j=>(be j).2)++(be js[q]).2):=by
        have e0:js.take (q+1)=js.take q++[js[q]]:=by rw[List.take_add_one,List.getElem?_eq_getElem rJ];rfl
        have e1:base++(js.take (q+1)).flatMap (fun j=>(be j).2)=base++(js.take q).flatMap (fun j=>(be j).2)++(be js[q]).2:=by rw[e0,List.flatMap_append];simp
        exact e1
       have WD:(be js[q]).2.length=pp:=ZG.out _ (List.getElem_mem rJ)
       have qN:=na js[q]
       have hm9:m≤100000:=by
        have h8:=Qc.len
        rw[List.length_append]at h8
        have h7:=H3.out.2.1.len
        have h6:∀l:List Nat,(l.flatMap fun j=>(be j).2).length≤3*l.length:=by
         intro l
         induction l with
         | nil=>simp
         | cons a l ih=>
          rw[List.flatMap_cons,List.length_append,List.length_cons]
          have:=na a
          omega
        have h5:=h6 (js.take q)
        rw[List.length_take]at h5
        omega
       have WG:Hid (∀(x:Nat) u,(strCells (be js[q]).2)[x]?=some u→(wr.alloc (.cells #[.string (Tb.eh (be js[q]).2 0),.string (Tb.eh (be js[q]).2 1),.string (Tb.eh (be js[q]).2 2)] 119)).cell? ((⟨wr.heap.size,0,none⟩:Addr).add x)=some u):=by
        intro x u hu
        rw[Addr.add_lit,cell_of_row _ _ _ _ _ _ (heap_alloc_new wr _)]
        have h8:=Hu (by omega) hu
        simpa using h8
       have al:=Qc.own
       have aim:w1.heap.size≤wr.heap.size:=Qc.aZ.size
       generalize Tb.eh (be js[q]).2 0=s0 at*
       generalize Tb.eh (be js[q]).2 1=s1 at*
       generalize Tb.eh (be js[q]).2 2=s2 at*
       generalize (be js[q]).2=dl at*
       have ac4:(strCells dl).length=pp*1:=by simp[strCells,WD]
       have aaW:∀u∈strCells dl,u.oneCell'=true:=by
        intro u hu
        obtain⟨x,_,rfl⟩:=List.mem_map.1 hu
        rfl
       have b1:(0:Int)≤(pp:Int):=by omega
       have b2:(pp:Int)≤3:=by omega
       clear mA bQ r0 r1 r2 h3 Qc X2 hblk
       go_wp2_with (at_builtin;go_must (refine wpList_append_own _ rfl (.tmp 29) (.tmp 32) 46 rfl w1.heap.size 9 i0 _ 1 16 Tryz.underlying46 HI.out H0.out H1.out H2.out rfl (by decide) _ _ _ rfl (al.alloc _) ⟨wr.heap.size,0,none⟩ pp 3 (strCells dl) rfl ac4 WG.out aaW (by unfold maxLen;omega) (by omega) (by simp;omega) ?_;intro v5 w5 zR xD _))
       have Xe:=(HO4.out.alloc _).grown xD (bj (al.alloc _))
       have hN5:=HN4.out.grow zR xD
       rw[←fS.out]at hN5
       go_roundw
       case rel=>exact⟨q+1,m+pp,rJ,by go_num,hN5,Xe⟩
       case measure=>simp[intOf];omega
     · have HE:Hid (ID w1 wr (.slice bd m bc) m (Ex.mT (En.ak (En.aj kl) gv) (gQ.take (k+1)))):=by
        rw[IB.out]
        have e:js.take q=js:=List.take_of_length_le (by omega)
        rw[e]at Qc
        exact Qc
       clear Qc X2 HN4
       go_wp2_with fail
       go_roundw
       case rel=>exact⟨k+1,m,by omega,by go_num,HE.out⟩
       case measure=>simp[intOf];omega
  · have vA:k=3:=by omega
    subst vA
    have HN9:Hid (Calls Tryz.prog 134 #[.slice ad n ac] wA fun e w'=>e=.returned (.tuple #[])∧Hid (Below w1.heap.size w1 w')∧Hid (Calls Tryz.prog 135 #[.slice ad n ac] w' fun e w3=>∃d' c',e=.returned (.slice d' (Ex.jC (En.ak (En.aj kl) gv)).length c')∧Hid (w3.ownsRow w1.heap.size 9 1 (.slice d' (Ex.jC (En.ak (En.aj kl) gv)).length c') (Ex.jC (En.ak (En.aj kl) gv)).length (strCells (Ex.jC (En.ak (En.aj kl) gv)))∧Below w1.heap.size w1 w3))):=by
     have h9:=Co w1 wA ad n ac _ hN (by omega)
     have e1:(Ex.jC (En.ak (En.aj kl) gv)).length=(Ex.RL (Ex.mT (En.ak (En.aj kl) gv) (gQ.take 3))).length:=by unfold Ex.jC;rw[List.length_map];rfl
     have e2:strCells (Ex.jC (En.ak (En.aj kl) gv))=vr (Ex.RL (Ex.mT (En.ak (En.aj kl) gv) (gQ.take 3))):=by unfold Ex.jC;rw[Ex.adH];rfl
     rw[e1,e2]
     exact h9
    clear hN PU x3A x3
    go_wp2_with (first | (go_at_call 134;refine HN9.out.mono ?_;rintro e w5 ⟨rfl,PT,HC5⟩) | (go_at_call 135;refine HC5.out.mono ?_;rintro e w6 ⟨d',c',rfl,H6⟩))
    go_ret
    exact⟨d',c',rfl,aG H6.out.1 CE.out.size,CE.out.trans (H6.out.2.mono CE.out.size)⟩
end
end Go.Proofs.YtdmicblafmhflaaGreatDoor
