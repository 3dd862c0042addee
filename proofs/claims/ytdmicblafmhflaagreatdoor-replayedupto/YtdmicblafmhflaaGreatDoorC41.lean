/- state.State.appendFacts, walked. -/
import Derived.Test.YtdmicblafmhflaaGreatDoorC40
set_option linter.unusedSimpArgs false
set_option linter.unusedVariables false
set_option maxHeartbeats 4000000
set_option maxRecDepth 100000
namespace Go.Proofs.YtdmicblafmhflaaGreatDoor
section
open Go.Shelf Go.RowKit Go.Maps
theorem MM(r:En.bO)(H:Nat→Bool):(En.fo r H).length≤64:=by
 unfold En.fo En.EW En.vs
 rw[List.length_map]
 refine Nat.le_trans (List.length_filter_le _ _) (Nat.le_trans (List.length_filter_le _ _) (by simp))
theorem Gq(kl:List Ax.ay)(gv:Nat→Bool)(i:Nat):FJ kl gv i≤1000:=by
 have h1:∀R:List En.bO,(R.map fun r=>En.jK (En.fo r (En.ak (En.aj kl) gv)) i).sum≤64*R.length:=by
  intro R
  induction R with
  | nil=>simp
  | cons r R ih=>
   rw[List.map_cons,List.sum_cons,List.length_cons]
   have h2:En.jK (En.fo r (En.ak (En.aj kl) gv)) i≤64:=Nat.le_trans List.count_le_length (MM _ _)
   omega
 have h3:(En.aj kl).length≤6:=by
  unfold En.aj
  rw[List.length_map,List.length_take]
  omega
 have h4:=h1 (En.aj kl)
 unfold FJ
 split<;>split<;>omega
theorem xL(H:Nat→Bool)(p:ByteArray):(cW H p).length≤36:=by
 unfold cW
 exact Nat.le_trans (List.length_filter_le _ _) (by simp)
theorem wj(H:Nat→Bool)(x:ByteArray):Ex.place H x≤324:=Nat.le_trans List.findIdx_le_length (Ex.qX H)
theorem jV{α:Type}(f:α→List UInt8)(b:Nat):∀l:List α,(∀x,x∈l→(f x).length≤b)→(l.flatMap f).length≤b*l.length
 | [],_=>by simp
 | a::l,h=>by
  rw[List.flatMap_cons,List.length_append,List.length_cons,Nat.mul_succ]
  have h1:=h a (by simp)
  have h2:=jV f b l (fun x hx=>h x (by simp[hx]))
  omega
theorem iL{n:Nat}(h:n≤1000):(Rc.aQ n).length≤10:=Rc.mD 10 n (by
 have:(128:Nat)^10=1180591620717411303424:=by decide
 omega) (by decide)
theorem vR(kl:List Ax.ay)(gv:Nat→Bool)(j:Nat):(Ex.fact kl gv j).length≤100:=by
 unfold Ex.fact
 rw[List.length_append,List.length_append]
 have h1:(Rc.aQ (if gv j=true then 1 else 0)).length≤10:=iL (by split<;>omega)
 have h2:=iL (Gq kl gv j)
 have h3:=jV (fun x=>Rc.aQ (Ex.place (En.ak (En.aj kl) gv) x)) 10 (be j).2 (fun x _=>iL (Nat.le_trans (wj _ _) (by decide)))
 have h4:=mW j
 omega
structure LR(B:Nat)(wR w':World)(rb pb:Nat)(x0 x1 x2:ByteArray)(pn:ByteArray)(pp:Nat):Prop where
 row:w'.heap[rb]?=some (.cells #[.string x0,.string x1,.string x2] 119 (0,0))
 Jn:w'.heap[pb]?=some (.cells #[.string pn,.int .i64 (pp:Nat)] 112 (0,0))
 Eu:Lib.OthersKept 5 none wR w'
 aZ:Below B wR w'
theorem LR.next{B:Nat}{wR w1 w2:World}{rb pb:Nat}{x0 x1 x2 pn:ByteArray}{pp:Nat}(h:LR B wR w1 rb pb x0 x1 x2 pn pp)(ho:Lib.OthersKept 5 none w1 w2)(hb:Below B w1 w2):LR B wR w2 rb pb x0 x1 x2 pn pp:=
 ⟨ho _ _ h.row (by simp) (fun c fz e=>by simp at e),ho _ _ h.Jn (by simp) (fun c fz e=>by simp at e),aP h.Eu ho,h.aZ.trans hb⟩
theorem LR.cells{B:Nat}{wR w1:World}{rb pb:Nat}{x0 x1 x2 pn:ByteArray}{pp:Nat}(h:LR B wR w1 rb pb x0 x1 x2 pn pp):w1.cell? ⟨rb,0,none⟩=some (.string x0)∧w1.cell? ⟨rb,1,none⟩=some (.string x1)∧w1.cell? ⟨rb,2,none⟩=some (.string x2)∧w1.cell? ⟨pb,1,none⟩=some (.int .i64 (pp:Nat))∧rb<w1.heap.size∧pb<w1.heap.size:=
 ⟨by rw[cell_of_row _ _ _ _ _ _ h.row];rfl,by rw[cell_of_row _ _ _ _ _ _ h.row];rfl,by rw[cell_of_row _ _ _ _ _ _ h.row];rfl,by rw[cell_of_row _ _ _ _ _ _ h.Jn];rfl,lt_of_heap h.row,lt_of_heap h.Jn⟩
theorem F4(w0:World)(kl:List Ax.ay)(gv:Nat→Bool)(rd:Option Addr)(rn rc gm hm:Nat)(hd:List UInt8)(hS:NJ w0 kl gv (.slice rd rn rc) gm hm)(w:World)(hb:Below w0.heap.size w0 w)(v:Value)(n:Nat)(xs:List Value)(al:w.ownsRow w0.heap.size 5 1 v n xs)(hn:n≤10000000000)(pn:ByteArray)(pp:Nat)(hp:(pn,pp)∈gQ)(nd:Option Addr)(nl nc:Nat)(ga:w.ownsRow 0 9 1 (.slice nd nl nc) nl (strCells (Ex.jC (En.ak (En.aj kl) gv)))):
 Calls Tryz.prog 79 #[.agg (aO (Ax.au kl) (.slice rd rn rc) gm hm hd),v,.agg #[.string pn,.int .i64 (pp:Nat)],.slice nd nl nc] w fun e w'=>∃v' n',e=.returned v'∧qJ w0.heap.size w w' v' n' (xs++Rc.bA (Ex.facts kl gv pn)):=by
 have nR:xs.length=n:=by have:=al.1;omega
 obtain⟨vd,vc,Mu⟩:=ah al
 subst Mu
 have WW:(Ex.jC (En.ak (En.aj kl) gv)).length=nl:=by have:=ga.1;simp[strCells]at this;omega
 have adQ:nl≤324:=by rw[←WW];exact Ex.qX _
 obtain⟨ug,hA⟩:=hS.Uw _ hp
 obtain⟨tg,hG⟩:=hS.Na _ hp
 simp only at hA hG
 have FP:pp≤2∧1≤pp:=by
  have:∀q,q∈gQ→q.2≤2∧1≤q.2:=by unfold gQ;decide
  exact this _ hp
 obtain⟨cs,bH⟩:∃cs,cs=aO (Ax.au kl) (.slice rd rn rc) gm hm hd:=⟨_,rfl⟩
 obtain⟨wB,Pw⟩:∃wB,wB=(w.alloc (.cells cs 107)).alloc (.cells #[.string pn,.int .i64 (pp:Nat)] 112):=⟨_,rfl⟩
 have FM:Below w.heap.size w wB:=by rw[Pw];exact((Below.refl _ _).alloc (Nat.le_refl _) _).alloc (by simp) _
 have hgA:wB.heap[w.heap.size]?=some (.cells cs 107 (0,0)):=by rw[Pw,Below.heap_alloc _ _ _ (by simp)];exact heap_alloc_new w _
 have GM:wB.heap[w.heap.size+1]?=some (.cells #[.string pn,.int .i64 (pp:Nat)] 112 (0,0)):=by rw[Pw];exact qv w _ _
 have t2:wB.cell? ⟨w.heap.size,2,none⟩=some (.map (some gm)):=by rw[cell_of_row _ _ _ _ _ _ hgA,bH];rfl
 have t3:wB.cell? ⟨w.heap.size,3,none⟩=some (.map (some hm)):=by rw[cell_of_row _ _ _ _ _ _ hgA,bH];rfl
 have t4:wB.cell? ⟨w.heap.size+1,0,none⟩=some (.string pn):=by rw[cell_of_row _ _ _ _ _ _ GM];rfl
 have Zo:w0.heap.size≤w.heap.size:=hb.size
 have mF:Below w0.heap.size w0 wB:=hb.trans (FM.mono Zo)
 have l1:=hG.look wB.drew mF.drew
 have l2:=hA.look wB.drew mF.drew
 have l3:=hG.look wB mF
 have l4:=hA.look wB mF
 have HB:Hid (Below w0.heap.size w0 w):=hb
 have HGB:Hid (wB.heap[w.heap.size+1]?=some (.cells #[.string pn,.int .i64 (pp:Nat)] 112 (0,0))):=GM
 have Cv:Hid (qJ w0.heap.size w wB (.slice vd n vc) n xs):=⟨ae al FM,FM.mono Zo,bT FM⟩
 have HA:Hid (Xl w0 kl gv hm pn ug):=hA
 have HG:Hid (WR w0 gv gm pn tg):=hG
 have yM:Hid (wB.ownsRow 0 9 1 (.slice nd nl nc) nl (strCells (Ex.jC (En.ak (En.aj kl) gv)))):=ae ga FM
 have HP:Hid ((pn,pp)∈gQ):=hp
 have agR:ug<wB.heap.size:=Nat.lt_of_lt_of_le hA.lt mF.size
 have ahk:tg<wB.heap.size:=Nat.lt_of_lt_of_le hG.lt mF.size
 rw[←bH]
 clear bH hS hgA al ga hA hG hb FM GM
 go_enter Tryz.func79,Tryz.ntmps79
 go_upto_region 1 with fail
 rw[←Pw]
 clear Pw
 go_region
 obtain⟨wC,hwC⟩:∃wC,wC=wB.drew:=⟨_,rfl⟩
 have Ii:Hid (Below wB.heap.size wB wC):=by rw[hwC];exact(Below.refl _ _).drew
 generalize LM:cW (En.ak (En.aj kl) gv) pn=js
 have HJS:Hid (cW (En.ak (En.aj kl) gv) pn=js):=LM
 have EZ:js.length≤36:=by rw[←LM];exact xL _ _
 have Ty:Hid (Calls Tryz.prog 136 #[.pointer (some ⟨ug,0,none⟩)] wC fun e w'=>e=.returned (.int .i64 js.length)∧w'=wC):=by
  rw[←LM]
  exact HA.out.len wC (mF.trans (Ii.out.mono mF.size))
 have HAN:Hid (Calls Tryz.prog 78 #[.slice vd n vc,.int .i64 js.length] wC fun e w'=>∃v1 n1,e=.returned v1∧Hid (qJ w0.heap.size w w' v1 n1 (xs++Rc.bA (Rc.aQ js.length))∧Lib.OthersKept 5 none wB w')):=by
  have hoC:Lib.OthersKept 5 none wB wC:=bT Ii.out
  have hsC:w0.heap.size≤wC.heap.size:=Nat.le_trans mF.size Ii.out.size
  refine(dH w0.heap.size wC (.slice vd n vc) n xs js.length (ae Cv.out.own Ii.out) hsC (by omega) (by omega)).mono ?_
  rintro e w' ⟨v1,n1,rfl,q1,q2,q3⟩
  exact⟨v1,n1,rfl,⟨q1,(Cv.out.aZ.trans (Ii.out.mono mF.size)).trans q2,aP (aP Cv.out.Eu hoC) q3⟩,aP hoC q3⟩
 rw[←hwC]
 clear hwC l1 l2 l3 l4 t2 t3 t4
 go_wp2_with (first | (go_at_call 136;refine Ty.out.mono ?_;rintro e w' ⟨rfl,hw⟩;subst hw) | (go_at_call 78;refine HAN.out.mono ?_;rintro e w1 ⟨v1,n1,rfl,H1⟩;have a8:Below w0.heap.size w0 w1:=HB.out.trans H1.out.1.aZ;have afO:ug<w1.heap.size:=Nat.lt_of_lt_of_le HA.out.lt a8.size;have vv:Hid (Calls Tryz.prog 133 #[.pointer (some ⟨ug,0,none⟩)] w1 fun e w3=>∃xd xc,e=.returned (.slice xd js.length xc)∧Hid (w3.ownsRow w1.heap.size 119 3 (.slice xd js.length xc) js.length (aM (js.map fun j=>Tb.eu (be j).2))∧Below w1.heap.size w1 w3)):=(by have h9:=HA.out.rows w1 a8;rw[HJS.out]at h9;exact h9.mono (fun e w' ⟨a,b,c,d⟩=>⟨a,b,c,d⟩))) | (go_at_call 133;refine vv.out.mono ?_;rintro e w3 ⟨xd,xc,rfl,H3⟩))
 have HPB:Hid (w3.heap[w.heap.size+1]?=some (.cells #[.string pn,.int .i64 (pp:Nat)] 112 (0,0))):=by
  have h8:=H1.out.2 _ _ HGB.out (by simp) (fun c fz e=>by simp at e)
  have h9:w3.heap[w.heap.size+1]?=some (.cells #[.string pn,.int .i64 (pp:Nat)] 112 (0,0)):=by rw[H3.out.2.block _ (lt_of_heap h8)];exact h8
  exact h9
 have ZN:Hid (w3.ownsRow 0 9 1 (.slice nd nl nc) nl (strCells (Ex.jC (En.ak (En.aj kl) gv)))):=ae (bJ yM.out H1.out.2 (by decide)) H3.out.2
 have pg:Hid (qJ w0.heap.size w w3 v1 n1 (xs++Rc.bA (Rc.aQ js.length++(js.take 0).flatMap (Ex.fact kl gv)))):=by
  have h1:=H1.out.1
  refine⟨by simpa using ae h1.own H3.out.2,h1.aZ.trans (H3.out.2.mono a8.size),aP h1.Eu (bT H3.out.2)⟩
 have aiN:(Rc.aQ js.length).length≤10:=iL (by omega)
 have G6:Hid (w3.ownsRow 0 119 3 (.slice xd js.length xc) js.length (aM (js.map fun j=>Tb.eu (be j).2))):=aG H3.out.1 (Nat.zero_le _)
 clear H1 vv Ty HAN Cv HGB Ii yM H3 LM mF a8
 go_loopw [1,38] (fun b i wr=>∃(k m:Nat),k≤js.length∧i=.int .i64 k∧qJ w0.heap.size w wr b m (xs++Rc.bA (Rc.aQ js.length++(js.take k).flatMap (Ex.fact kl gv)))∧Lib.OthersKept 5 none w3 wr) (fun _ i _=>js.length-(intOf i).toNat)
 case atStart=>exact⟨0,n1,Nat.zero_le _,rfl,pg.out,Lib.OthersKept.refl _ _ _⟩
 case round=>
  obtain⟨k,m,hk,rfl,mw,tG⟩:=hrel
  obtain⟨ad,ac,LB⟩:=ah mw.own
  subst LB
  clear pg
  have Rg:m≤10000100000:=by
   have h1:=mw.len
   have h2:=jV (Ex.fact kl gv) 100 (js.take k) (fun x _=>vR kl gv x)
   rw[List.length_append,Rc.bB,List.length_append]at h1
   rw[List.length_take]at h2
   omega
  have pg:Hid (qJ w0.heap.size w wr (.slice ad m ac) m (xs++Rc.bA (Rc.aQ js.length++(js.take k).flatMap (Ex.fact kl gv)))):=mw
  have HO:Hid (Lib.OthersKept 5 none w3 wr):=tG
  clear mw tG
  obtain⟨wA,rfl⟩:∃x,x=wr:=⟨_,rfl⟩
  by_cases aE:k<js.length
  · have bQ:=bJ G6.out HO.out (by decide)
    obtain⟨g3,rfl,nP,vm,mc⟩:=aD bQ (by omega)
    have h3:p7 (js.map fun j=>Tb.eu (be j).2):=fun r hr=>by
     obtain⟨j,_,rfl⟩:=List.mem_map.1 hr
     rfl
    obtain⟨r0,r1,r2⟩:=jU h3 (k:=k) (by simpa using aE) (a:=Tb.ef (be js[k]).2 0) (b:=Tb.ef (be js[k]).2 1) (c:=Tb.ef (be js[k]).2 2) (by rw[List.getElem_map];rfl)
    have z0:=mc _ _ r0
    have z1:=mc _ _ r1
    have z2:=mc _ _ r2
    have Ub:js[k]∈cW (En.ak (En.aj kl) gv) pn:=by rw[HJS.out];exact List.getElem_mem aE
    obtain⟨zk,hHj,PG⟩:=gE.1 Ub
    have fR:Hid (xs++Rc.bA (Rc.aQ js.length++(js.take (k+1)).flatMap (Ex.fact kl gv))=xs++Rc.bA (Rc.aQ js.length++(js.take k).flatMap (Ex.fact kl gv))++Rc.bA (Ex.fact kl gv js[k])):=by
     have e0:js.take (k+1)=js.take k++[js[k]]:=by rw[List.take_add_one,List.getElem?_eq_getElem aE];rfl
     have e1:xs++Rc.bA (Rc.aQ js.length++(js.take (k+1)).flatMap (Ex.fact kl gv))=xs++Rc.bA (Rc.aQ js.length++(js.take k).flatMap (Ex.fact kl gv))++Rc.bA (Ex.fact kl gv js[k]):=by
      rw[e0,List.flatMap_append]
      simp[Rc.eK]
     exact e1
    have Wl:(be js[k]).2.length=pp:=by
     have h4:=kO zk
     rw[PG]at h4
     exact s7 h4 (oh HP.out)
    have Gn:Hid (∀x,x∈(be js[k]).2→(Ex.jC (En.ak (En.aj kl) gv))[Ex.place (En.ak (En.aj kl) gv) x]?=some x):=fun x hx=>Ex.Ec _ HP.out Ub hx
    obtain⟨wR,hwR⟩:∃wR,wR=wA.alloc (.cells #[.string (Tb.ef (be js[k]).2 0),.string (Tb.ef (be js[k]).2 1),.string (Tb.ef (be js[k]).2 2)] 119):=⟨_,rfl⟩
    have OW:Below wA.heap.size wA wR:=by rw[hwR];exact(Below.refl _ _).alloc (Nat.le_refl _) _
    have hgR:wR.heap[wA.heap.size]?=some (.cells #[.string (Tb.ef (be js[k]).2 0),.string (Tb.ef (be js[k]).2 1),.string (Tb.ef (be js[k]).2 2)] 119 (0,0)):=by rw[hwR];exact heap_alloc_new wA _
    have X6:w0.heap.size≤wA.heap.size:=by have:=pg.out.aZ.size;have:=HB.out.size;omega
    have WY:Below w0.heap.size w0 wA:=HB.out.trans pg.out.aZ
    have HR0:Hid (∀W,Below wR.heap.size wR W→Below w0.heap.size w0 W):=fun W hW=>(WY.trans (OW.mono X6)).trans (hW.mono (Nat.le_trans X6 OW.size))
    have HPA:wR.heap[w.heap.size+1]?=some (.cells #[.string pn,.int .i64 (pp:Nat)] 112 (0,0)):=by
     have h8:=HO.out _ _ HPB.out (by simp) (fun c fz e=>by simp at e)
     rw[OW.block _ (lt_of_heap h8)]
     exact h8
    have Cy:Hid (wR.ownsRow 0 9 1 (.slice nd nl nc) nl (strCells (Ex.jC (En.ak (En.aj kl) gv)))):=ae (bJ ZN.out HO.out (by decide)) OW
    have QQ:Hid (qJ w0.heap.size w wR (.slice ad m ac) m (xs++Rc.bA (Rc.aQ js.length++(js.take k).flatMap (Ex.fact kl gv)))∧Lib.OthersKept 5 none w3 wR):=⟨⟨ae pg.out.own OW,pg.out.aZ.trans (OW.mono X6),aP pg.out.Eu (bT OW)⟩,aP HO.out (bT OW)⟩
    have HFJ:Hid (Ex.fact kl gv js[k]=Rc.aQ (if gv js[k]=true then 1 else 0)++Rc.aQ (FJ kl gv js[k])++(be js[k]).2.flatMap fun x=>Rc.aQ (Ex.place (En.ak (En.aj kl) gv) x)):=(rfl:Ex.fact kl gv js[k]=_)
    have DB:=Gq kl gv js[k]
    have HHS:Hid (∀W,Below wR.heap.size wR W→Calls Tryz.prog 42 #[.pointer (some ⟨tg,0,none⟩),.agg #[.string (Tb.ef (be js[k]).2 0),.string (Tb.ef (be js[k]).2 1),.string (Tb.ef (be js[k]).2 2)]] W fun e w'=>e=.returned (.bool (gv js[k]))∧Below wR.heap.size wR w'):=by
     intro W hW
     have h9:=HG.out.has W (HR0.out W hW) js[k] zk PG
     rw[n9]at h9
     refine h9.mono ?_
     rintro e w' ⟨rfl,hb⟩
     exact⟨rfl,hW.trans (hb.mono hW.size)⟩
    have PB:Hid (∀W,Below w0.heap.size w0 W→Calls Tryz.prog 43 #[.pointer (some ⟨ug,0,none⟩),.agg #[.string (Tb.ef (be js[k]).2 0),.string (Tb.ef (be js[k]).2 1),.string (Tb.ef (be js[k]).2 2)]] W fun e w'=>e=.returned (.int .i64 (FJ kl gv js[k]:Nat))∧Below W.heap.size W w'):=by
     intro W hW
     have h9:=HA.out.count W hW js[k] Ub
     rw[n9]at h9
     exact h9
    have U4:Hid (∀(x:Nat) u,(strCells (be js[k]).2)[x]?=some u→[Value.string (Tb.ef (be js[k]).2 0),.string (Tb.ef (be js[k]).2 1),.string (Tb.ef (be js[k]).2 2)][x]?=some u):=fun x u hu=>IW (by omega) hu
    generalize Ex.fact kl gv js[k]=fj at*
    generalize Tb.ef (be js[k]).2 0=x0 at*
    generalize Tb.ef (be js[k]).2 1=x1 at*
    generalize Tb.ef (be js[k]).2 2=x2 at*
    generalize (be js[k]).2=dl at*
    generalize FJ kl gv js[k]=cj at*
    generalize gv js[k]=gj at*
    generalize jm:xs++Rc.bA (Rc.aQ js.length++(js.take k).flatMap (Ex.fact kl gv))=base at QQ fR
    have fm:base.length=m:=QQ.out.1.len
    obtain⟨fn,CA⟩:∃fn:Nat,fn=if gj=true then 1 else 0:=⟨_,rfl⟩
    rw[←CA]at HFJ
    have acI:fn≤1:=by rw[CA];split<;>omega
    have Pu:Hid (∀W,Calls Tryz.prog 137 #[.bool gj] W fun e w'=>e=.returned (.int .i64 (fn:Nat))∧w'=W):=by
     intro W
     refine(NP gj W).mono ?_
     rintro e w' ⟨rfl,rfl⟩
     refine⟨?_,rfl⟩
     rw[CA]
     cases gj<;>rfl
    have Y6:Hid (LR w0.heap.size wR wR wA.heap.size (w.heap.size+1) x0 x1 x2 pn pp):=⟨hgR,HPA,Lib.OthersKept.refl _ _ _,Below.refl _ _⟩
    have X9:Hid (∀W,Below wR.heap.size wR W→Calls Tryz.prog 78 #[.slice ad m ac,.int .i64 (fn:Nat)] W fun e w'=>∃v2 n2,e=.returned v2∧Hid (qJ w0.heap.size w w' v2 n2 (base++Rc.bA (Rc.aQ fn))∧LR w0.heap.size wR w' wA.heap.size (w.heap.size+1) x0 x1 x2 pn pp)):=by
     intro W hW
     have Xr:w0.heap.size≤W.heap.size:=Nat.le_trans (Nat.le_trans X6 OW.size) hW.size
     have LO:Below w0.heap.size wR W:=hW.mono (Nat.le_trans X6 OW.size)
     refine(dH w0.heap.size W (.slice ad m ac) m base fn (ae QQ.out.1.own hW) Xr (by omega) (by omega)).mono ?_
     rintro e w' ⟨v2,n2,rfl,q1,q2,q3⟩
     exact⟨v2,n2,rfl,⟨q1,(QQ.out.1.aZ.trans LO).trans q2,aP (aP QQ.out.1.Eu (bT hW)) q3⟩,(Y6.out.next (bT hW) LO).next q3 q2⟩
    have s0:wR.cell? ⟨wA.heap.size,0,none⟩=some (.string x0):=Y6.out.cells.1
    have s1:wR.cell? ⟨wA.heap.size,1,none⟩=some (.string x1):=Y6.out.cells.2.1
    have s2:wR.cell? ⟨wA.heap.size,2,none⟩=some (.string x2):=Y6.out.cells.2.2.1
    have ajI:tg<wR.heap.size:=Nat.lt_of_lt_of_le HG.out.lt (HR0.out wR (Below.refl _ _)).size
    have VW:Hid (∀W,Below wR.heap.size wR W→Calls Tryz.prog 42 #[.pointer (some ⟨tg,0,none⟩),.agg #[.string x0,.string x1,.string x2]] W fun e w'=>e=.returned (.bool gj)∧Below wR.heap.size wR w'∧w'.cell? ⟨wA.heap.size,0,none⟩=some (.string x0)∧w'.cell? ⟨wA.heap.size,1,none⟩=some (.string x1)∧w'.cell? ⟨wA.heap.size,2,none⟩=some (.string x2)):=by
     intro W hW
     refine(HHS.out W hW).mono ?_
     rintro e w' ⟨rfl,hb⟩
     exact⟨rfl,hb,by rw[hb.cell (block_lt_of_cell s0)];exact s0,by rw[hb.cell (block_lt_of_cell s1)];exact s1,by rw[hb.cell (block_lt_of_cell s2)];exact s2⟩
    have Ta:Hid (∀W,Below wR.heap.size wR W→Calls Tryz.prog 137 #[.bool gj] W fun e w'=>e=.returned (.int .i64 (fn:Nat))∧Below wR.heap.size wR w'∧w'.cell? ⟨wA.heap.size,0,none⟩=some (.string x0)∧w'.cell? ⟨wA.heap.size,1,none⟩=some (.string x1)∧w'.cell? ⟨wA.heap.size,2,none⟩=some (.string x2)):=by
     intro W hb
     refine(Pu.out W).mono ?_
     rintro e w' ⟨rfl,rfl⟩
     exact⟨rfl,hb,by rw[hb.cell (block_lt_of_cell s0)];exact s0,by rw[hb.cell (block_lt_of_cell s1)];exact s1,by rw[hb.cell (block_lt_of_cell s2)];exact s2⟩
    have uf:Hid (Below wR.heap.size wR wR):=Below.refl _ _
    have abP:Hid (Lib.OthersKept 5 none w3 wR):=QQ.out.2
    have sH:Hid (Below wR.heap.size wR wR.drew):=(Below.refl _ _).drew
    clear CA
    clear bQ mc h3 r0 r1 r2 HHS jm hgR OW Ub hHj PG zk pg HO WY
    go_upto_region 6 with fail
    rw[←hwR]
    clear hwR z0 z1 z2
    go_cut [1,38]from 38 to 73 (fun v2 iv wx=>iv=.int .i64 k∧∃n2,Hid (qJ w0.heap.size w wx v2 n2 (base++Rc.bA (Rc.aQ fn))∧LR w0.heap.size wR wx wA.heap.size (w.heap.size+1) x0 x1 x2 pn pp))
    case first=>
     go_region_held3 (fun W=>W.cell? ⟨wA.heap.size,0,none⟩=some (.string x0)∧W.cell? ⟨wA.heap.size,1,none⟩=some (.string x1)∧W.cell? ⟨wA.heap.size,2,none⟩=some (.string x2)) (go_keep) (first | (go_at_call 42;refine(VW.out _ (by first | exact sH.out | exact uf.out | assumption)).mono ?_;rintro e wn ⟨rfl,ZJ,k0,k1,k2⟩) | (go_at_call 137;refine(Ta.out _ (by assumption)).mono ?_;rintro e wf ⟨rfl,hbf,f0,f1,f2⟩) | (go_at_call 78;refine(X9.out _ (by assumption)).mono ?_;rintro e w9 ⟨v2,n2,rfl,H9⟩;obtain⟨j0,j1,j2,_,_,_⟩:=H9.out.2.cells))
     all_goals
      (go_wp2_with fail
       go_meet
       exact⟨rfl,n2,H9⟩)
    case rest=>
     obtain⟨hiv,n2,H2⟩:=hcut
     subst hiv
     obtain⟨bd,bc,bL⟩:=ah H2.out.1.own
     subst bL
     obtain⟨c0,c1,c2,c3,crl,cpl⟩:=H2.out.2.cells
     have ahM:(Rc.aQ fn).length≤10:=iL (by omega)
     have aka:(Rc.aQ cj).length≤10:=iL DB
     have Bt:n2≤10000200000:=by
      have h1:=H2.out.1.len
      rw[List.length_append,Rc.bB]at h1
      omega
     have Fc:Below w0.heap.size w0 wc:=HB.out.trans H2.out.1.aZ
     have ahd:ug<wc.heap.size:=Nat.lt_of_lt_of_le HA.out.lt Fc.size
     have hsc:w0.heap.size≤wc.heap.size:=Fc.size
     have V6:Hid (Calls Tryz.prog 43 #[.pointer (some ⟨ug,0,none⟩),.agg #[.string x0,.string x1,.string x2]] wc fun e w4=>e=.returned (.int .i64 (cj:Nat))∧Hid (Below wc.heap.size wc w4)):=(PB.out wc Fc).mono (fun e w' ⟨a,b⟩=>⟨a,b⟩)
     have TY:Hid (∀W,Below wc.heap.size wc W→Calls Tryz.prog 78 #[.slice bd n2 bc,.int .i64 (cj:Nat)] W fun e w'=>∃v3 n3,e=.returned v3∧w'.cell? ⟨w.heap.size+1,1,none⟩=some (.int .i64 (pp:Nat))∧wA.heap.size<w'.heap.size∧w.heap.size+1<w'.heap.size∧Hid (qJ w0.heap.size w w' v3 n3 (base++Rc.bA (Rc.aQ fn)++Rc.bA (Rc.aQ cj))∧LR w0.heap.size wR w' wA.heap.size (w.heap.size+1) x0 x1 x2 pn pp)):=by
      intro W hW
      have Xr:w0.heap.size≤W.heap.size:=Nat.le_trans hsc hW.size
      have LO:Below w0.heap.size wc W:=hW.mono hsc
      refine(dH w0.heap.size W (.slice bd n2 bc) n2 _ cj (ae H2.out.1.own hW) Xr (by omega) (by omega)).mono ?_
      rintro e w' ⟨v3,n3,rfl,q1,q2,q3⟩
      have hAf:=(H2.out.2.next (bT hW) LO).next q3 q2
      obtain⟨_,_,_,y3,yr,yp⟩:=hAf.cells
      exact⟨v3,n3,rfl,y3,yr,yp,⟨q1,(H2.out.1.aZ.trans LO).trans q2,aP (aP H2.out.1.Eu (bT hW)) q3⟩,hAf⟩
     have b1:(0:Int)≤(pp:Int):=by omega
     have b2:(pp:Int)≤3:=by omega
     clear PB X9 VW Pu Ta Y6 uf sH s0 s1 s2 QQ
     go_wp2_with (first | (go_at_call 43;refine V6.out.mono ?_;rintro e w4 ⟨rfl,HB4⟩) | (go_at_call 78;refine(TY.out _ HB4.out).mono ?_;rintro e w5 ⟨v3,n3,rfl,d3,dr,dp,H5⟩))
     generalize GV:base++Rc.bA (Rc.aQ fn)++Rc.bA (Rc.aQ cj)=sA at H5
     have CU:Hid (base++Rc.bA (Rc.aQ fn)++Rc.bA (Rc.aQ cj)=sA):=GV
     have XM:sA.length≤10000300000:=by
      rw[←GV,List.length_append,List.length_append,Rc.bB,Rc.bB]
      omega
     clear V6 TY HB4 c0 c1 c2 c3 GV H2
     go_loopw [1,59] (fun b i w6=>∃(q m6:Nat),q≤pp∧i=.int .i64 q∧qJ w0.heap.size w w6 b m6 (sA++Rc.bA ((dl.take q).flatMap fun x=>Rc.aQ (Ex.place (En.ak (En.aj kl) gv) x)))∧LR w0.heap.size wR w6 wA.heap.size (w.heap.size+1) x0 x1 x2 pn pp) (fun _ i _=>pp-(intOf i).toNat)
     case atStart=>exact⟨0,n3,Nat.zero_le _,rfl,by simpa [Rc.bA]using H5.out.1,H5.out.2⟩
     case round=>
      obtain⟨q,m6,hq,rfl,M7,JS⟩:=hrel
      obtain⟨ed,ec,he0⟩:=ah M7.own
      subst he0
      have EC:Hid (qJ w0.heap.size w wr (.slice ed m6 ec) m6 (sA++Rc.bA ((dl.take q).flatMap fun x=>Rc.aQ (Ex.place (En.ak (En.aj kl) gv) x)))∧LR w0.heap.size wR wr wA.heap.size (w.heap.size+1) x0 x1 x2 pn pp):=⟨M7,JS⟩
      clear H5
      by_cases mL:q<pp
      · have hqd:q<dl.length:=by omega
        have ca:wr.cell? ⟨wA.heap.size,q,none⟩=some (.string dl[q]):=by
         rw[cell_of_row _ _ _ _ _ _ JS.row]
         have h9:=U4.out q (.string dl[q]) (by rw[strCells,List.getElem?_map,List.getElem?_eq_getElem hqd];rfl)
         simpa using h9
        have har:=lt_of_heap JS.row
        have hm6:m6≤10000400000:=by
         have h1:=M7.len
         have h2:=jV (fun x=>Rc.aQ (Ex.place (En.ak (En.aj kl) gv) x)) 10 (dl.take q) (fun x _=>iL (Nat.le_trans (wj _ _) (by decide)))
         rw[List.length_append,Rc.bB]at h1
         rw[List.length_take]at h2
         omega
        have HNY:Hid (sA++Rc.bA ((dl.take (q+1)).flatMap fun x=>Rc.aQ (Ex.place (En.ak (En.aj kl) gv) x))=sA++Rc.bA ((dl.take q).flatMap fun x=>Rc.aQ (Ex.place (En.ak (En.aj kl) gv) x))++Rc.bA (Rc.aQ (Ex.place (En.ak (En.aj kl) gv) dl[q]))):=by
         have e0:dl.take (q+1)=dl.take q++[dl[q]]:=by rw[List.take_add_one,List.getElem?_eq_getElem hqd];rfl
         have e1:sA++Rc.bA ((dl.take (q+1)).flatMap fun x=>Rc.aQ (Ex.place (En.ak (En.aj kl) gv) x))=sA++Rc.bA ((dl.take q).flatMap fun x=>Rc.aQ (Ex.place (En.ak (En.aj kl) gv) x))++Rc.bA (Rc.aQ (Ex.place (En.ak (En.aj kl) gv) dl[q])):=by
          rw[e0,List.flatMap_append]
          simp[Rc.eK]
         exact e1
        have Yd:=Gn.out _ (List.getElem_mem hqd)
        have JQ:=wj (En.ak (En.aj kl) gv) dl[q]
        have HBS:Hid (Calls Tryz.prog 138 #[.slice nd nl nc,.string dl[q]] wr fun e w7=>e=.returned (.tuple #[.int .i64 (Ex.place (En.ak (En.aj kl) gv) dl[q]:Nat),.bool true])∧Hid (Below wr.heap.size wr w7)):=(VI wr 0 nd nl nc _ dl[q] _ (bJ Cy.out JS.Eu (by decide)) WW (Ex.Fw _) Yd (by omega)).mono (fun e w' ⟨a,b⟩=>⟨a,b⟩)
        generalize Ex.place (En.ak (En.aj kl) gv) dl[q]=pk at HBS HNY JQ
        have HA7:Hid (∀W,Below wr.heap.size wr W→Calls Tryz.prog 78 #[.slice ed m6 ec,.int .i64 (pk:Nat)] W fun e w'=>∃v7 n7,e=.returned v7∧Hid (qJ w0.heap.size w w' v7 n7 (sA++Rc.bA ((dl.take (q+1)).flatMap fun x=>Rc.aQ (Ex.place (En.ak (En.aj kl) gv) x)))∧LR w0.heap.size wR w' wA.heap.size (w.heap.size+1) x0 x1 x2 pn pp)):=by
         intro W hW
         have WG:w0.heap.size≤wr.heap.size:=(HB.out.trans EC.out.1.aZ).size
         have Xr:w0.heap.size≤W.heap.size:=Nat.le_trans WG hW.size
         have LO:Below w0.heap.size wr W:=hW.mono WG
         refine(dH w0.heap.size W (.slice ed m6 ec) m6 _ pk (ae EC.out.1.own hW) Xr (by omega) (by omega)).mono ?_
         rintro e w' ⟨v7,n7,rfl,q1,q2,q3⟩
         rw[HNY.out]
         exact⟨v7,n7,rfl,⟨q1,(EC.out.1.aZ.trans LO).trans q2,aP (aP EC.out.1.Eu (bT hW)) q3⟩,(EC.out.2.next (bT hW) LO).next q3 q2⟩
        generalize dl[q]=y at ca HBS
        clear M7 JS Yd HNY
        go_wp2_with (first | (go_at_call 138;refine HBS.out.mono ?_;rintro e w7 ⟨rfl,HB7⟩) | (go_at_call 78;refine(HA7.out _ HB7.out).mono ?_;rintro e w8 ⟨v7,n7,rfl,H8⟩))
        go_roundw
        case rel=>exact⟨q+1,n7,mL,by go_num,H8.out.1,H8.out.2⟩
        case measure=>simp[intOf];omega
      · have HE:Hid (qJ w0.heap.size w wr (.slice ed m6 ec) m6 (xs++Rc.bA (Rc.aQ js.length++(js.take (k+1)).flatMap (Ex.fact kl gv)))∧Lib.OthersKept 5 none w3 wr):=by
         have h1:=EC.out.1
         have e0:dl.take q=dl:=List.take_of_length_le (by omega)
         rw[e0,←CU.out]at h1
         refine⟨?_,aP abP.out EC.out.2.Eu⟩
         rw[fR.out,HFJ.out,Rc.eK,Rc.eK,←List.append_assoc,←List.append_assoc]
         exact h1
        clear M7 JS EC
        go_wp2_with fail
        go_roundw
        case rel=>exact⟨k+1,m6,aE,by go_num,HE.out.1,HE.out.2⟩
        case measure=>simp[intOf];omega
  · have HE:Hid (qJ w0.heap.size w wA (.slice ad m ac) m (xs++Rc.bA (Ex.facts kl gv pn))):=by
     have h1:=pg.out
     have e0:js.take k=js:=List.take_of_length_le (by omega)
     rw[e0]at h1
     have e1:Ex.facts kl gv pn=Rc.aQ js.length++js.flatMap (Ex.fact kl gv):=by unfold Ex.facts;rw[HJS.out]
     rw[e1]
     exact h1
    clear pg HO
    go_wp2_with fail
    go_ret
    exact⟨_,m,rfl,HE.out⟩
end
end Go.Proofs.YtdmicblafmhflaaGreatDoor
