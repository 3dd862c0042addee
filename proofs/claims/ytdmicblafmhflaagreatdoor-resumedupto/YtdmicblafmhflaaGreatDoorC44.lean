/- state.State.appendFacts, walked. -/
import Derived.Test.YtdmicblafmhflaaGreatDoorC43
set_option linter.unusedSimpArgs false
set_option linter.unusedVariables false
set_option maxHeartbeats 4000000
set_option maxRecDepth 100000
namespace Go.Proofs.YtdmicblafmhflaaGreatDoor
section
open Go.Shelf Go.RowKit Go.Maps
theorem MP(r:En.bC)(H:Nat→Bool):(En.cB r H).length≤64:=by
 unfold En.cB En.BX En.vs
 rw[List.length_map]
 refine Nat.le_trans (List.length_filter_le _ _) (Nat.le_trans (List.length_filter_le _ _) (by simp))
theorem GL(kl:List Ax.aA)(gv:Nat→Bool)(i:Nat):lq kl gv i≤1000:=by
 have h1:∀R:List En.bC,(R.map fun r=>En.eA (En.cB r (En.al (En.af kl) gv)) i).sum≤64*R.length:=by
  intro R
  induction R with
  | nil=>simp
  | cons r R ih=>
   rw[List.map_cons,List.sum_cons,List.length_cons]
   have h2:En.eA (En.cB r (En.al (En.af kl) gv)) i≤64:=Nat.le_trans List.count_le_length (MP _ _)
   omega
 have h3:(En.af kl).length≤6:=by
  unfold En.af
  rw[List.length_map,List.length_take]
  omega
 have h4:=h1 (En.af kl)
 unfold lq
 split<;>split<;>omega
theorem xT(H:Nat→Bool)(p:ByteArray):(cW H p).length≤36:=by
 unfold cW
 exact Nat.le_trans (List.length_filter_le _ _) (by simp)
theorem vF(H:Nat→Bool)(x:ByteArray):Ex.place H x≤324:=Nat.le_trans List.findIdx_le_length (Ex.sa H)
theorem j6{α:Type}(f:α→List UInt8)(b:Nat):∀l:List α,(∀x,x∈l→(f x).length≤b)→(l.flatMap f).length≤b*l.length
 | [],_=>by simp
 | a::l,h=>by
  rw[List.flatMap_cons,List.length_append,List.length_cons,Nat.mul_succ]
  have h1:=h a (by simp)
  have h2:=j6 f b l (fun x hx=>h x (by simp[hx]))
  omega
theorem iO{n:Nat}(h:n≤1000):(Rc.aZ n).length≤10:=Rc.oL 10 n (by
 have:(128:Nat)^10=1180591620717411303424:=by decide
 omega) (by decide)
theorem vB(kl:List Ax.aA)(gv:Nat→Bool)(j:Nat):(Ex.fact kl gv j).length≤100:=by
 unfold Ex.fact
 rw[List.length_append,List.length_append]
 have h1:(Rc.aZ (if gv j=true then 1 else 0)).length≤10:=iO (by split<;>omega)
 have h2:=iO (GL kl gv j)
 have h3:=j6 (fun x=>Rc.aZ (Ex.place (En.al (En.af kl) gv) x)) 10 (bk j).2 (fun x _=>iO (Nat.le_trans (vF _ _) (by decide)))
 have h4:=lD j
 omega
structure LG(B:Nat)(wR w':World)(rb pb:Nat)(x0 x1 x2:ByteArray)(pn:ByteArray)(pp:Nat):Prop where
 row:w'.heap[rb]?=some (.cells #[.string x0,.string x1,.string x2] 119 (0,0))
 KV:w'.heap[pb]?=some (.cells #[.string pn,.int .i64 (pp:Nat)] 112 (0,0))
 Db:Lib.OthersKept 5 none wR w'
 aQ:Below B wR w'
theorem LG.next{B:Nat}{wR w1 w2:World}{rb pb:Nat}{x0 x1 x2 pn:ByteArray}{pp:Nat}(h:LG B wR w1 rb pb x0 x1 x2 pn pp)(ho:Lib.OthersKept 5 none w1 w2)(hb:Below B w1 w2):LG B wR w2 rb pb x0 x1 x2 pn pp:=
 ⟨ho _ _ h.row (by simp) (fun c fz e=>by simp at e),ho _ _ h.KV (by simp) (fun c fz e=>by simp at e),aO h.Db ho,h.aQ.trans hb⟩
theorem LG.cells{B:Nat}{wR w1:World}{rb pb:Nat}{x0 x1 x2 pn:ByteArray}{pp:Nat}(h:LG B wR w1 rb pb x0 x1 x2 pn pp):w1.cell? ⟨rb,0,none⟩=some (.string x0)∧w1.cell? ⟨rb,1,none⟩=some (.string x1)∧w1.cell? ⟨rb,2,none⟩=some (.string x2)∧w1.cell? ⟨pb,1,none⟩=some (.int .i64 (pp:Nat))∧rb<w1.heap.size∧pb<w1.heap.size:=
 ⟨by rw[cell_of_row _ _ _ _ _ _ h.row];rfl,by rw[cell_of_row _ _ _ _ _ _ h.row];rfl,by rw[cell_of_row _ _ _ _ _ _ h.row];rfl,by rw[cell_of_row _ _ _ _ _ _ h.KV];rfl,lt_of_heap h.row,lt_of_heap h.KV⟩
theorem FD(w0:World)(kl:List Ax.aA)(gv:Nat→Bool)(rd:Option Addr)(rn rc gm hm:Nat)(hd:List UInt8)(hS:Oe w0 kl gv (.slice rd rn rc) gm hm)(w:World)(hb:Below w0.heap.size w0 w)(v:Value)(n:Nat)(xs:List Value)(au:w.ownsRow w0.heap.size 5 1 v n xs)(hn:n≤10000000000)(pn:ByteArray)(pp:Nat)(hp:(pn,pp)∈gQ)(nd:Option Addr)(nl nc:Nat)(iJ:w.ownsRow 0 9 1 (.slice nd nl nc) nl (strCells (Ex.jH (En.al (En.af kl) gv)))):
 Calls Tryz.prog 79 #[.agg (aL (Ax.aC kl) (.slice rd rn rc) gm hm hd),v,.agg #[.string pn,.int .i64 (pp:Nat)],.slice nd nl nc] w fun e w'=>∃v' n',e=.returned v'∧qN w0.heap.size w w' v' n' (xs++Rc.bP (Ex.facts kl gv pn)):=by
 have oP:xs.length=n:=by have:=au.1;omega
 obtain⟨vd,vc,Rp⟩:=aj au
 subst Rp
 have Yd:(Ex.jH (En.al (En.af kl) gv)).length=nl:=by have:=iJ.1;simp[strCells]at this;omega
 have adk:nl≤324:=by rw[←Yd];exact Ex.sa _
 obtain⟨ug,hA⟩:=hS.U7 _ hp
 obtain⟨tg,hG⟩:=hS.NT _ hp
 simp only at hA hG
 have Gf:pp≤2∧1≤pp:=by
  have:∀q,q∈gQ→q.2≤2∧1≤q.2:=by unfold gQ;decide
  exact this _ hp
 obtain⟨cs,br⟩:∃cs,cs=aL (Ax.aC kl) (.slice rd rn rc) gm hm hd:=⟨_,rfl⟩
 obtain⟨wB,Pj⟩:∃wB,wB=(w.alloc (.cells cs 107)).alloc (.cells #[.string pn,.int .i64 (pp:Nat)] 112):=⟨_,rfl⟩
 have Gc:Below w.heap.size w wB:=by rw[Pj];exact((Below.refl _ _).alloc (Nat.le_refl _) _).alloc (by simp) _
 have hgA:wB.heap[w.heap.size]?=some (.cells cs 107 (0,0)):=by rw[Pj,Below.heap_alloc _ _ _ (by simp)];exact heap_alloc_new w _
 have F6:wB.heap[w.heap.size+1]?=some (.cells #[.string pn,.int .i64 (pp:Nat)] 112 (0,0)):=by rw[Pj];exact pM w _ _
 have t2:wB.cell? ⟨w.heap.size,2,none⟩=some (.map (some gm)):=by rw[cell_of_row _ _ _ _ _ _ hgA,br];rfl
 have t3:wB.cell? ⟨w.heap.size,3,none⟩=some (.map (some hm)):=by rw[cell_of_row _ _ _ _ _ _ hgA,br];rfl
 have t4:wB.cell? ⟨w.heap.size+1,0,none⟩=some (.string pn):=by rw[cell_of_row _ _ _ _ _ _ F6];rfl
 have Ym:w0.heap.size≤w.heap.size:=hb.size
 have kE:Below w0.heap.size w0 wB:=hb.trans (Gc.mono Ym)
 have l1:=hG.look wB.drew kE.drew
 have l2:=hA.look wB.drew kE.drew
 have l3:=hG.look wB kE
 have l4:=hA.look wB kE
 have HB:Hid (Below w0.heap.size w0 w):=hb
 have HGB:Hid (wB.heap[w.heap.size+1]?=some (.cells #[.string pn,.int .i64 (pp:Nat)] 112 (0,0))):=F6
 have xS:Hid (qN w0.heap.size w wB (.slice vd n vc) n xs):=⟨ah au Gc,Gc.mono Ym,bT Gc⟩
 have HA:Hid (Wx w0 kl gv hm pn ug):=hA
 have HG:Hid (Y7 w0 gv gm pn tg):=hG
 have Bp:Hid (wB.ownsRow 0 9 1 (.slice nd nl nc) nl (strCells (Ex.jH (En.al (En.af kl) gv)))):=ah iJ Gc
 have HP:Hid ((pn,pp)∈gQ):=hp
 have agR:ug<wB.heap.size:=Nat.lt_of_lt_of_le hA.lt kE.size
 have akG:tg<wB.heap.size:=Nat.lt_of_lt_of_le hG.lt kE.size
 rw[←br]
 clear br hS hgA au iJ hA hG hb Gc F6
 go_enter Tryz.func79,Tryz.ntmps79
 go_upto_region 1 with fail
 rw[←Pj]
 clear Pj
 go_region
 obtain⟨wC,hwC⟩:∃wC,wC=wB.drew:=⟨_,rfl⟩
 have Iu:Hid (Below wB.heap.size wB wC):=by rw[hwC];exact(Below.refl _ _).drew
 generalize Lv:cW (En.al (En.af kl) gv) pn=js
 have HJS:Hid (cW (En.al (En.af kl) gv) pn=js):=Lv
 have Hw:js.length≤36:=by rw[←Lv];exact xT _ _
 have SP:Hid (Calls Tryz.prog 136 #[.pointer (some ⟨ug,0,none⟩)] wC fun e w'=>e=.returned (.int .i64 js.length)∧w'=wC):=by
  rw[←Lv]
  exact HA.out.len wC (kE.trans (Iu.out.mono kE.size))
 have HAN:Hid (Calls Tryz.prog 78 #[.slice vd n vc,.int .i64 js.length] wC fun e w'=>∃v1 n1,e=.returned v1∧Hid (qN w0.heap.size w w' v1 n1 (xs++Rc.bP (Rc.aZ js.length))∧Lib.OthersKept 5 none wB w')):=by
  have hoC:Lib.OthersKept 5 none wB wC:=bT Iu.out
  have hsC:w0.heap.size≤wC.heap.size:=Nat.le_trans kE.size Iu.out.size
  refine(dP w0.heap.size wC (.slice vd n vc) n xs js.length (ah xS.out.own Iu.out) hsC (by omega) (by omega)).mono ?_
  rintro e w' ⟨v1,n1,rfl,q1,q2,q3⟩
  exact⟨v1,n1,rfl,⟨q1,(xS.out.aQ.trans (Iu.out.mono kE.size)).trans q2,aO (aO xS.out.Db hoC) q3⟩,aO hoC q3⟩
 rw[←hwC]
 clear hwC l1 l2 l3 l4 t2 t3 t4
 go_wp2_with (first | (go_at_call 136;refine SP.out.mono ?_;rintro e w' ⟨rfl,hw⟩;subst hw) | (go_at_call 78;refine HAN.out.mono ?_;rintro e w1 ⟨v1,n1,rfl,H1⟩;have bq:Below w0.heap.size w0 w1:=HB.out.trans H1.out.1.aQ;have aer:ug<w1.heap.size:=Nat.lt_of_lt_of_le HA.out.lt bq.size;have OL:Hid (Calls Tryz.prog 133 #[.pointer (some ⟨ug,0,none⟩)] w1 fun e w3=>∃xd xc,e=.returned (.slice xd js.length xc)∧Hid (w3.ownsRow w1.heap.size 119 3 (.slice xd js.length xc) js.length (aK (js.map fun j=>Tb.dw (bk j).2))∧Below w1.heap.size w1 w3)):=(by have h9:=HA.out.rows w1 bq;rw[HJS.out]at h9;exact h9.mono (fun e w' ⟨a,b,c,d⟩=>⟨a,b,c,d⟩))) | (go_at_call 133;refine OL.out.mono ?_;rintro e w3 ⟨xd,xc,rfl,H3⟩))
 have HPB:Hid (w3.heap[w.heap.size+1]?=some (.cells #[.string pn,.int .i64 (pp:Nat)] 112 (0,0))):=by
  have h8:=H1.out.2 _ _ HGB.out (by simp) (fun c fz e=>by simp at e)
  have h9:w3.heap[w.heap.size+1]?=some (.cells #[.string pn,.int .i64 (pp:Nat)] 112 (0,0)):=by rw[H3.out.2.block _ (lt_of_heap h8)];exact h8
  exact h9
 have Zq:Hid (w3.ownsRow 0 9 1 (.slice nd nl nc) nl (strCells (Ex.jH (En.al (En.af kl) gv)))):=ah (bJ Bp.out H1.out.2 (by decide)) H3.out.2
 have qA:Hid (qN w0.heap.size w w3 v1 n1 (xs++Rc.bP (Rc.aZ js.length++(js.take 0).flatMap (Ex.fact kl gv)))):=by
  have h1:=H1.out.1
  refine⟨by simpa using ah h1.own H3.out.2,h1.aQ.trans (H3.out.2.mono bq.size),aO h1.Db (bT H3.out.2)⟩
 have ag0:(Rc.aZ js.length).length≤10:=iO (by omega)
 have GG:Hid (w3.ownsRow 0 119 3 (.slice xd js.length xc) js.length (aK (js.map fun j=>Tb.dw (bk j).2))):=aE H3.out.1 (Nat.zero_le _)
 clear H1 OL SP HAN xS HGB Iu Bp H3 Lv kE bq
 go_loopw [1,38] (fun b i wr=>∃(k m:Nat),k≤js.length∧i=.int .i64 k∧qN w0.heap.size w wr b m (xs++Rc.bP (Rc.aZ js.length++(js.take k).flatMap (Ex.fact kl gv)))∧Lib.OthersKept 5 none w3 wr) (fun _ i _=>js.length-(intOf i).toNat)
 case atStart=>exact⟨0,n1,Nat.zero_le _,rfl,qA.out,Lib.OthersKept.refl _ _ _⟩
 case round=>
  obtain⟨k,m,hk,rfl,kI,tw⟩:=hrel
  obtain⟨ad,ac,Lt⟩:=aj kI.own
  subst Lt
  clear qA
  have P5:m≤10000100000:=by
   have h1:=kI.len
   have h2:=j6 (Ex.fact kl gv) 100 (js.take k) (fun x _=>vB kl gv x)
   rw[List.length_append,Rc.bN,List.length_append]at h1
   rw[List.length_take]at h2
   omega
  have qA:Hid (qN w0.heap.size w wr (.slice ad m ac) m (xs++Rc.bP (Rc.aZ js.length++(js.take k).flatMap (Ex.fact kl gv)))):=kI
  have HO:Hid (Lib.OthersKept 5 none w3 wr):=tw
  clear kI tw
  obtain⟨wA,rfl⟩:∃x,x=wr:=⟨_,rfl⟩
  by_cases aG:k<js.length
  · have bF:=bJ GG.out HO.out (by decide)
    obtain⟨g3,rfl,nN,qo,mg⟩:=aD bF (by omega)
    have h3:pS (js.map fun j=>Tb.dw (bk j).2):=fun r hr=>by
     obtain⟨j,_,rfl⟩:=List.mem_map.1 hr
     rfl
    obtain⟨r0,r1,r2⟩:=ke h3 (k:=k) (by simpa using aG) (a:=Tb.dZ (bk js[k]).2 0) (b:=Tb.dZ (bk js[k]).2 1) (c:=Tb.dZ (bk js[k]).2 2) (by rw[List.getElem_map];rfl)
    have z0:=mg _ _ r0
    have z1:=mg _ _ r1
    have z2:=mg _ _ r2
    have Tj:js[k]∈cW (En.al (En.af kl) gv) pn:=by rw[HJS.out];exact List.getElem_mem aG
    obtain⟨yW,hHj,Pu⟩:=gS.1 Tj
    have eX:Hid (xs++Rc.bP (Rc.aZ js.length++(js.take (k+1)).flatMap (Ex.fact kl gv))=xs++Rc.bP (Rc.aZ js.length++(js.take k).flatMap (Ex.fact kl gv))++Rc.bP (Ex.fact kl gv js[k])):=by
     have e0:js.take (k+1)=js.take k++[js[k]]:=by rw[List.take_add_one,List.getElem?_eq_getElem aG];rfl
     have e1:xs++Rc.bP (Rc.aZ js.length++(js.take (k+1)).flatMap (Ex.fact kl gv))=xs++Rc.bP (Rc.aZ js.length++(js.take k).flatMap (Ex.fact kl gv))++Rc.bP (Ex.fact kl gv js[k]):=by
      rw[e0,List.flatMap_append]
      simp[Rc.gz]
     exact e1
    have VW:(bk js[k]).2.length=pp:=by
     have h4:=kp yW
     rw[Pu]at h4
     exact xQ h4 (oK HP.out)
    have Lm:Hid (∀x,x∈(bk js[k]).2→(Ex.jH (En.al (En.af kl) gv))[Ex.place (En.al (En.af kl) gv) x]?=some x):=fun x hx=>Ex.CS _ HP.out Tj hx
    obtain⟨wR,ZB⟩:∃wR,wR=wA.alloc (.cells #[.string (Tb.dZ (bk js[k]).2 0),.string (Tb.dZ (bk js[k]).2 1),.string (Tb.dZ (bk js[k]).2 2)] 119):=⟨_,rfl⟩
    have Lw:Below wA.heap.size wA wR:=by rw[ZB];exact(Below.refl _ _).alloc (Nat.le_refl _) _
    have hgR:wR.heap[wA.heap.size]?=some (.cells #[.string (Tb.dZ (bk js[k]).2 0),.string (Tb.dZ (bk js[k]).2 1),.string (Tb.dZ (bk js[k]).2 2)] 119 (0,0)):=by rw[ZB];exact heap_alloc_new wA _
    have Xt:w0.heap.size≤wA.heap.size:=by have:=qA.out.aQ.size;have:=HB.out.size;omega
    have YF:Below w0.heap.size w0 wA:=HB.out.trans qA.out.aQ
    have HR0:Hid (∀W,Below wR.heap.size wR W→Below w0.heap.size w0 W):=fun W hW=>(YF.trans (Lw.mono Xt)).trans (hW.mono (Nat.le_trans Xt Lw.size))
    have HPA:wR.heap[w.heap.size+1]?=some (.cells #[.string pn,.int .i64 (pp:Nat)] 112 (0,0)):=by
     have h8:=HO.out _ _ HPB.out (by simp) (fun c fz e=>by simp at e)
     rw[Lw.block _ (lt_of_heap h8)]
     exact h8
    have SL:Hid (wR.ownsRow 0 9 1 (.slice nd nl nc) nl (strCells (Ex.jH (En.al (En.af kl) gv)))):=ah (bJ Zq.out HO.out (by decide)) Lw
    have QZ:Hid (qN w0.heap.size w wR (.slice ad m ac) m (xs++Rc.bP (Rc.aZ js.length++(js.take k).flatMap (Ex.fact kl gv)))∧Lib.OthersKept 5 none w3 wR):=⟨⟨ah qA.out.own Lw,qA.out.aQ.trans (Lw.mono Xt),aO qA.out.Db (bT Lw)⟩,aO HO.out (bT Lw)⟩
    have HFJ:Hid (Ex.fact kl gv js[k]=Rc.aZ (if gv js[k]=true then 1 else 0)++Rc.aZ (lq kl gv js[k])++(bk js[k]).2.flatMap fun x=>Rc.aZ (Ex.place (En.al (En.af kl) gv) x)):=(rfl:Ex.fact kl gv js[k]=_)
    have DN:=GL kl gv js[k]
    have HHS:Hid (∀W,Below wR.heap.size wR W→Calls Tryz.prog 42 #[.pointer (some ⟨tg,0,none⟩),.agg #[.string (Tb.dZ (bk js[k]).2 0),.string (Tb.dZ (bk js[k]).2 1),.string (Tb.dZ (bk js[k]).2 2)]] W fun e w'=>e=.returned (.bool (gv js[k]))∧Below wR.heap.size wR w'):=by
     intro W hW
     have h9:=HG.out.has W (HR0.out W hW) js[k] yW Pu
     rw[ow]at h9
     refine h9.mono ?_
     rintro e w' ⟨rfl,hb⟩
     exact⟨rfl,hW.trans (hb.mono hW.size)⟩
    have Hj:Hid (∀W,Below w0.heap.size w0 W→Calls Tryz.prog 43 #[.pointer (some ⟨ug,0,none⟩),.agg #[.string (Tb.dZ (bk js[k]).2 0),.string (Tb.dZ (bk js[k]).2 1),.string (Tb.dZ (bk js[k]).2 2)]] W fun e w'=>e=.returned (.int .i64 (lq kl gv js[k]:Nat))∧Below W.heap.size W w'):=by
     intro W hW
     have h9:=HA.out.count W hW js[k] Tj
     rw[ow]at h9
     exact h9
    have HRG:Hid (∀(x:Nat) u,(strCells (bk js[k]).2)[x]?=some u→[Value.string (Tb.dZ (bk js[k]).2 0),.string (Tb.dZ (bk js[k]).2 1),.string (Tb.dZ (bk js[k]).2 2)][x]?=some u):=fun x u hu=>Hs (by omega) hu
    generalize Ex.fact kl gv js[k]=fj at*
    generalize Tb.dZ (bk js[k]).2 0=x0 at*
    generalize Tb.dZ (bk js[k]).2 1=x1 at*
    generalize Tb.dZ (bk js[k]).2 2=x2 at*
    generalize (bk js[k]).2=dl at*
    generalize lq kl gv js[k]=cj at*
    generalize gv js[k]=gj at*
    generalize jw:xs++Rc.bP (Rc.aZ js.length++(js.take k).flatMap (Ex.fact kl gv))=base at QZ eX
    have ff:base.length=m:=QZ.out.1.len
    obtain⟨fn,Cj⟩:∃fn:Nat,fn=if gj=true then 1 else 0:=⟨_,rfl⟩
    rw[←Cj]at HFJ
    have ad9:fn≤1:=by rw[Cj];split<;>omega
    have R0:Hid (∀W,Calls Tryz.prog 137 #[.bool gj] W fun e w'=>e=.returned (.int .i64 (fn:Nat))∧w'=W):=by
     intro W
     refine(OT gj W).mono ?_
     rintro e w' ⟨rfl,rfl⟩
     refine⟨?_,rfl⟩
     rw[Cj]
     cases gj<;>rfl
    have XP:Hid (LG w0.heap.size wR wR wA.heap.size (w.heap.size+1) x0 x1 x2 pn pp):=⟨hgR,HPA,Lib.OthersKept.refl _ _ _,Below.refl _ _⟩
    have SE:Hid (∀W,Below wR.heap.size wR W→Calls Tryz.prog 78 #[.slice ad m ac,.int .i64 (fn:Nat)] W fun e w'=>∃v2 n2,e=.returned v2∧Hid (qN w0.heap.size w w' v2 n2 (base++Rc.bP (Rc.aZ fn))∧LG w0.heap.size wR w' wA.heap.size (w.heap.size+1) x0 x1 x2 pn pp)):=by
     intro W hW
     have Y4:w0.heap.size≤W.heap.size:=Nat.le_trans (Nat.le_trans Xt Lw.size) hW.size
     have Lr:Below w0.heap.size wR W:=hW.mono (Nat.le_trans Xt Lw.size)
     refine(dP w0.heap.size W (.slice ad m ac) m base fn (ah QZ.out.1.own hW) Y4 (by omega) (by omega)).mono ?_
     rintro e w' ⟨v2,n2,rfl,q1,q2,q3⟩
     exact⟨v2,n2,rfl,⟨q1,(QZ.out.1.aQ.trans Lr).trans q2,aO (aO QZ.out.1.Db (bT hW)) q3⟩,(XP.out.next (bT hW) Lr).next q3 q2⟩
    have s0:wR.cell? ⟨wA.heap.size,0,none⟩=some (.string x0):=XP.out.cells.1
    have s1:wR.cell? ⟨wA.heap.size,1,none⟩=some (.string x1):=XP.out.cells.2.1
    have s2:wR.cell? ⟨wA.heap.size,2,none⟩=some (.string x2):=XP.out.cells.2.2.1
    have aiW:tg<wR.heap.size:=Nat.lt_of_lt_of_le HG.out.lt (HR0.out wR (Below.refl _ _)).size
    have M3:Hid (∀W,Below wR.heap.size wR W→Calls Tryz.prog 42 #[.pointer (some ⟨tg,0,none⟩),.agg #[.string x0,.string x1,.string x2]] W fun e w'=>e=.returned (.bool gj)∧Below wR.heap.size wR w'∧w'.cell? ⟨wA.heap.size,0,none⟩=some (.string x0)∧w'.cell? ⟨wA.heap.size,1,none⟩=some (.string x1)∧w'.cell? ⟨wA.heap.size,2,none⟩=some (.string x2)):=by
     intro W hW
     refine(HHS.out W hW).mono ?_
     rintro e w' ⟨rfl,hb⟩
     exact⟨rfl,hb,by rw[hb.cell (block_lt_of_cell s0)];exact s0,by rw[hb.cell (block_lt_of_cell s1)];exact s1,by rw[hb.cell (block_lt_of_cell s2)];exact s2⟩
    have RY:Hid (∀W,Below wR.heap.size wR W→Calls Tryz.prog 137 #[.bool gj] W fun e w'=>e=.returned (.int .i64 (fn:Nat))∧Below wR.heap.size wR w'∧w'.cell? ⟨wA.heap.size,0,none⟩=some (.string x0)∧w'.cell? ⟨wA.heap.size,1,none⟩=some (.string x1)∧w'.cell? ⟨wA.heap.size,2,none⟩=some (.string x2)):=by
     intro W hb
     refine(R0.out W).mono ?_
     rintro e w' ⟨rfl,rfl⟩
     exact⟨rfl,hb,by rw[hb.cell (block_lt_of_cell s0)];exact s0,by rw[hb.cell (block_lt_of_cell s1)];exact s1,by rw[hb.cell (block_lt_of_cell s2)];exact s2⟩
    have sO:Hid (Below wR.heap.size wR wR):=Below.refl _ _
    have aa1:Hid (Lib.OthersKept 5 none w3 wR):=QZ.out.2
    have Oz:Hid (Below wR.heap.size wR wR.drew):=(Below.refl _ _).drew
    clear Cj
    clear bF mg h3 r0 r1 r2 HHS jw hgR Lw Tj hHj Pu yW qA HO YF
    go_upto_region 6 with fail
    rw[←ZB]
    clear ZB z0 z1 z2
    go_cut [1,38]from 38 to 73 (fun v2 iv wx=>iv=.int .i64 k∧∃n2,Hid (qN w0.heap.size w wx v2 n2 (base++Rc.bP (Rc.aZ fn))∧LG w0.heap.size wR wx wA.heap.size (w.heap.size+1) x0 x1 x2 pn pp))
    case first=>
     go_region_held3 (fun W=>W.cell? ⟨wA.heap.size,0,none⟩=some (.string x0)∧W.cell? ⟨wA.heap.size,1,none⟩=some (.string x1)∧W.cell? ⟨wA.heap.size,2,none⟩=some (.string x2)) (go_keep) (first | (go_at_call 42;refine(M3.out _ (by first | exact Oz.out | exact sO.out | assumption)).mono ?_;rintro e wn ⟨rfl,Ta,k0,k1,k2⟩) | (go_at_call 137;refine(RY.out _ (by assumption)).mono ?_;rintro e wf ⟨rfl,Zd,f0,f1,f2⟩) | (go_at_call 78;refine(SE.out _ (by assumption)).mono ?_;rintro e w9 ⟨v2,n2,rfl,H9⟩;obtain⟨j0,j1,j2,_,_,_⟩:=H9.out.2.cells))
     all_goals
      (go_wp2_with fail
       go_meet
       exact⟨rfl,n2,H9⟩)
    case rest=>
     obtain⟨hiv,n2,H2⟩:=hcut
     subst hiv
     obtain⟨bd,bc,bU⟩:=aj H2.out.1.own
     subst bU
     obtain⟨c0,c1,c2,c3,crl,cpl⟩:=H2.out.2.cells
     have akI:(Rc.aZ fn).length≤10:=iO (by omega)
     have aip:(Rc.aZ cj).length≤10:=iO DN
     have CL:n2≤10000200000:=by
      have h1:=H2.out.1.len
      rw[List.length_append,Rc.bN]at h1
      omega
     have F1:Below w0.heap.size w0 wc:=HB.out.trans H2.out.1.aQ
     have ahs:ug<wc.heap.size:=Nat.lt_of_lt_of_le HA.out.lt F1.size
     have hsc:w0.heap.size≤wc.heap.size:=F1.size
     have VX:Hid (Calls Tryz.prog 43 #[.pointer (some ⟨ug,0,none⟩),.agg #[.string x0,.string x1,.string x2]] wc fun e w4=>e=.returned (.int .i64 (cj:Nat))∧Hid (Below wc.heap.size wc w4)):=(Hj.out wc F1).mono (fun e w' ⟨a,b⟩=>⟨a,b⟩)
     have TV:Hid (∀W,Below wc.heap.size wc W→Calls Tryz.prog 78 #[.slice bd n2 bc,.int .i64 (cj:Nat)] W fun e w'=>∃v3 n3,e=.returned v3∧w'.cell? ⟨w.heap.size+1,1,none⟩=some (.int .i64 (pp:Nat))∧wA.heap.size<w'.heap.size∧w.heap.size+1<w'.heap.size∧Hid (qN w0.heap.size w w' v3 n3 (base++Rc.bP (Rc.aZ fn)++Rc.bP (Rc.aZ cj))∧LG w0.heap.size wR w' wA.heap.size (w.heap.size+1) x0 x1 x2 pn pp)):=by
      intro W hW
      have Y4:w0.heap.size≤W.heap.size:=Nat.le_trans hsc hW.size
      have Lr:Below w0.heap.size wc W:=hW.mono hsc
      refine(dP w0.heap.size W (.slice bd n2 bc) n2 _ cj (ah H2.out.1.own hW) Y4 (by omega) (by omega)).mono ?_
      rintro e w' ⟨v3,n3,rfl,q1,q2,q3⟩
      have hAf:=(H2.out.2.next (bT hW) Lr).next q3 q2
      obtain⟨_,_,_,y3,yr,yp⟩:=hAf.cells
      exact⟨v3,n3,rfl,y3,yr,yp,⟨q1,(H2.out.1.aQ.trans Lr).trans q2,aO (aO H2.out.1.Db (bT hW)) q3⟩,hAf⟩
     have b1:(0:Int)≤(pp:Int):=by omega
     have b2:(pp:Int)≤3:=by omega
     clear Hj SE M3 R0 RY XP sO Oz s0 s1 s2 QZ
     go_wp2_with (first | (go_at_call 43;refine VX.out.mono ?_;rintro e w4 ⟨rfl,Ve⟩) | (go_at_call 78;refine(TV.out _ Ve.out).mono ?_;rintro e w5 ⟨v3,n3,rfl,d3,dr,dp,H5⟩))
     generalize GF:base++Rc.bP (Rc.aZ fn)++Rc.bP (Rc.aZ cj)=sm at H5
     have pG:Hid (base++Rc.bP (Rc.aZ fn)++Rc.bP (Rc.aZ cj)=sm):=GF
     have Xq:sm.length≤10000300000:=by
      rw[←GF,List.length_append,List.length_append,Rc.bN,Rc.bN]
      omega
     clear VX TV Ve c0 c1 c2 c3 GF H2
     go_loopw [1,59] (fun b i w6=>∃(q m6:Nat),q≤pp∧i=.int .i64 q∧qN w0.heap.size w w6 b m6 (sm++Rc.bP ((dl.take q).flatMap fun x=>Rc.aZ (Ex.place (En.al (En.af kl) gv) x)))∧LG w0.heap.size wR w6 wA.heap.size (w.heap.size+1) x0 x1 x2 pn pp) (fun _ i _=>pp-(intOf i).toNat)
     case atStart=>exact⟨0,n3,Nat.zero_le _,rfl,by simpa [Rc.bP]using H5.out.1,H5.out.2⟩
     case round=>
      obtain⟨q,m6,hq,rfl,L2,IM⟩:=hrel
      obtain⟨ed,ec,he0⟩:=aj L2.own
      subst he0
      have Ev:Hid (qN w0.heap.size w wr (.slice ed m6 ec) m6 (sm++Rc.bP ((dl.take q).flatMap fun x=>Rc.aZ (Ex.place (En.al (En.af kl) gv) x)))∧LG w0.heap.size wR wr wA.heap.size (w.heap.size+1) x0 x1 x2 pn pp):=⟨L2,IM⟩
      clear H5
      by_cases mL:q<pp
      · have hqd:q<dl.length:=by omega
        have ca:wr.cell? ⟨wA.heap.size,q,none⟩=some (.string dl[q]):=by
         rw[cell_of_row _ _ _ _ _ _ IM.row]
         have h9:=HRG.out q (.string dl[q]) (by rw[strCells,List.getElem?_map,List.getElem?_eq_getElem hqd];rfl)
         simpa using h9
        have har:=lt_of_heap IM.row
        have hm6:m6≤10000400000:=by
         have h1:=L2.len
         have h2:=j6 (fun x=>Rc.aZ (Ex.place (En.al (En.af kl) gv) x)) 10 (dl.take q) (fun x _=>iO (Nat.le_trans (vF _ _) (by decide)))
         rw[List.length_append,Rc.bN]at h1
         rw[List.length_take]at h2
         omega
        have HNY:Hid (sm++Rc.bP ((dl.take (q+1)).flatMap fun x=>Rc.aZ (Ex.place (En.al (En.af kl) gv) x))=sm++Rc.bP ((dl.take q).flatMap fun x=>Rc.aZ (Ex.place (En.al (En.af kl) gv) x))++Rc.bP (Rc.aZ (Ex.place (En.al (En.af kl) gv) dl[q]))):=by
         have e0:dl.take (q+1)=dl.take q++[dl[q]]:=by rw[List.take_add_one,List.getElem?_eq_getElem hqd];rfl
         have e1:sm++Rc.bP ((dl.take (q+1)).flatMap fun x=>Rc.aZ (Ex.place (En.al (En.af kl) gv) x))=sm++Rc.bP ((dl.take q).flatMap fun x=>Rc.aZ (Ex.place (En.al (En.af kl) gv) x))++Rc.bP (Rc.aZ (Ex.place (En.al (En.af kl) gv) dl[q])):=by
          rw[e0,List.flatMap_append]
          simp[Rc.gz]
         exact e1
        have Yl:=Lm.out _ (List.getElem_mem hqd)
        have ED:=vF (En.al (En.af kl) gv) dl[q]
        have HBS:Hid (Calls Tryz.prog 138 #[.slice nd nl nc,.string dl[q]] wr fun e w7=>e=.returned (.tuple #[.int .i64 (Ex.place (En.al (En.af kl) gv) dl[q]:Nat),.bool true])∧Hid (Below wr.heap.size wr w7)):=(SY wr 0 nd nl nc _ dl[q] _ (bJ SL.out IM.Db (by decide)) Yd (Ex.FJ _) Yl (by omega)).mono (fun e w' ⟨a,b⟩=>⟨a,b⟩)
        generalize Ex.place (En.al (En.af kl) gv) dl[q]=pk at HBS HNY ED
        have HA7:Hid (∀W,Below wr.heap.size wr W→Calls Tryz.prog 78 #[.slice ed m6 ec,.int .i64 (pk:Nat)] W fun e w'=>∃v7 n7,e=.returned v7∧Hid (qN w0.heap.size w w' v7 n7 (sm++Rc.bP ((dl.take (q+1)).flatMap fun x=>Rc.aZ (Ex.place (En.al (En.af kl) gv) x)))∧LG w0.heap.size wR w' wA.heap.size (w.heap.size+1) x0 x1 x2 pn pp)):=by
         intro W hW
         have VY:w0.heap.size≤wr.heap.size:=(HB.out.trans Ev.out.1.aQ).size
         have Y4:w0.heap.size≤W.heap.size:=Nat.le_trans VY hW.size
         have Lr:Below w0.heap.size wr W:=hW.mono VY
         refine(dP w0.heap.size W (.slice ed m6 ec) m6 _ pk (ah Ev.out.1.own hW) Y4 (by omega) (by omega)).mono ?_
         rintro e w' ⟨v7,n7,rfl,q1,q2,q3⟩
         rw[HNY.out]
         exact⟨v7,n7,rfl,⟨q1,(Ev.out.1.aQ.trans Lr).trans q2,aO (aO Ev.out.1.Db (bT hW)) q3⟩,(Ev.out.2.next (bT hW) Lr).next q3 q2⟩
        generalize dl[q]=y at ca HBS
        clear L2 IM Yl HNY
        go_wp2_with (first | (go_at_call 138;refine HBS.out.mono ?_;rintro e w7 ⟨rfl,HB7⟩) | (go_at_call 78;refine(HA7.out _ HB7.out).mono ?_;rintro e w8 ⟨v7,n7,rfl,H8⟩))
        go_roundw
        case rel=>exact⟨q+1,n7,mL,by go_num,H8.out.1,H8.out.2⟩
        case measure=>simp[intOf];omega
      · have HE:Hid (qN w0.heap.size w wr (.slice ed m6 ec) m6 (xs++Rc.bP (Rc.aZ js.length++(js.take (k+1)).flatMap (Ex.fact kl gv)))∧Lib.OthersKept 5 none w3 wr):=by
         have h1:=Ev.out.1
         have e0:dl.take q=dl:=List.take_of_length_le (by omega)
         rw[e0,←pG.out]at h1
         refine⟨?_,aO aa1.out Ev.out.2.Db⟩
         rw[eX.out,HFJ.out,Rc.gz,Rc.gz,←List.append_assoc,←List.append_assoc]
         exact h1
        clear L2 IM Ev
        go_wp2_with fail
        go_roundw
        case rel=>exact⟨k+1,m6,aG,by go_num,HE.out.1,HE.out.2⟩
        case measure=>simp[intOf];omega
  · have HE:Hid (qN w0.heap.size w wA (.slice ad m ac) m (xs++Rc.bP (Ex.facts kl gv pn))):=by
     have h1:=qA.out
     have e0:js.take k=js:=List.take_of_length_le (by omega)
     rw[e0]at h1
     have e1:Ex.facts kl gv pn=Rc.aZ js.length++js.flatMap (Ex.fact kl gv):=by unfold Ex.facts;rw[HJS.out]
     rw[e1]
     exact h1
    clear qA HO
    go_wp2_with fail
    go_ret
    exact⟨_,m,rfl,HE.out⟩
end
end Go.Proofs.YtdmicblafmhflaaGreatDoor
