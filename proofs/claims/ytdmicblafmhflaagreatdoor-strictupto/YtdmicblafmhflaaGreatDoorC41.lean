/- state.State.appendFacts of any state, walked. -/
import Derived.Test.YtdmicblafmhflaaGreatDoorC40
set_option linter.unusedSimpArgs false
set_option linter.unusedVariables false
set_option maxHeartbeats 4000000
set_option maxRecDepth 100000
namespace Go.Proofs.YtdmicblafmhflaaGreatDoor
section
open Go.Shelf Go.RowKit Go.Maps
theorem Gs.kN{n:Nat}(h:n≤1000000):(Rc.aV n).length≤10:=Rc.mC 10 n (by
 have:(128:Nat)^10=1180591620717411303424:=by decide
 omega) (by decide)
theorem Gs.Jg{D:Gs.St}(h:Gs.Ok D){pn:ByteArray}{pp:Nat}(hp:(pn,pp)∈D.Q){j:List ByteArray×Nat}(hj:j∈D.hold pn):(Gs.fact D pn j).length≤100:=by
 unfold Gs.fact
 rw[List.length_append,List.length_append]
 have h1:(Rc.aV (if D.rA pn j.1=true then 1 else 0)).length≤10:=Gs.kN (by split<;>omega)
 have h2:=Gs.kN (h.jG _ hp j hj)
 have h3:=nb (fun x=>Rc.aV (Gs.place D x)) 10 j.1 (fun x _=>Gs.kN (Nat.le_trans (Gs.rW h x) (by decide)))
 have h4:j.1.length=pp:=h.len _ hp j hj
 have h5:pp≤3:=(h.TB _ hp).2
 omega
theorem Gs.Hk(w0:World)(D:Gs.St)(hD:Gs.Ok D)(rd:Option Addr)(rn rc gm hm:Nat)(hd:List UInt8)(hS:Gs.zW w0 D (.slice rd rn rc) gm hm)(w:World)(hb:Below w0.heap.size w0 w)(v:Value)(n:Nat)(xs:List Value)(aj:w.ownsRow w0.heap.size 5 1 v n xs)(hn:n≤10000000000)(pn:ByteArray)(pp:Nat)(hp:(pn,pp)∈D.Q)(nd:Option Addr)(nl nc:Nat)(iG:w.ownsRow 0 9 1 (.slice nd nl nc) nl (strCells (Gs.iJ D))):
 Calls Tryz.prog 79 #[.agg (aI D.pl (.slice rd rn rc) gm hm hd),v,.agg #[.string pn,.int .i64 (pp:Nat)],.slice nd nl nc] w fun e w'=>∃v' n',e=.returned v'∧qK w0.heap.size w w' v' n' (xs++Rc.bB (Gs.facts D pn)):=by
 have qb:xs.length=n:=by have:=aj.1;omega
 obtain⟨vd,vc,R7⟩:=ah aj
 subst R7
 have YQ:(Gs.iJ D).length=nl:=by have:=iG.1;simp[strCells]at this;omega
 have ac6:nl≤3600:=by rw[←YQ];exact Gs.px hD
 obtain⟨ug,hA⟩:=hS.Yv _ hp
 obtain⟨tg,hG⟩:=hS.rA _ hp
 simp only at hA hG
 have F4:pp≤3∧1≤pp:=⟨(hD.TB _ hp).2,(hD.TB _ hp).1⟩
 have HD:Hid (Gs.Ok D):=hD
 clear hD
 obtain⟨cs,bA⟩:∃cs,cs=aI D.pl (.slice rd rn rc) gm hm hd:=⟨_,rfl⟩
 obtain⟨wB,PM⟩:∃wB,wB=(w.alloc (.cells cs 107)).alloc (.cells #[.string pn,.int .i64 (pp:Nat)] 112):=⟨_,rfl⟩
 have GB:Below w.heap.size w wB:=by rw[PM];exact((Below.refl _ _).alloc (Nat.le_refl _) _).alloc (by simp) _
 have hgA:wB.heap[w.heap.size]?=some (.cells cs 107 (0,0)):=by rw[PM,Below.heap_alloc _ _ _ (by simp)];exact heap_alloc_new w _
 have Ia:wB.heap[w.heap.size+1]?=some (.cells #[.string pn,.int .i64 (pp:Nat)] 112 (0,0)):=by rw[PM];exact pN w _ _
 have t2:wB.cell? ⟨w.heap.size,2,none⟩=some (.map (some gm)):=by rw[cell_of_row _ _ _ _ _ _ hgA,bA];rfl
 have t3:wB.cell? ⟨w.heap.size,3,none⟩=some (.map (some hm)):=by rw[cell_of_row _ _ _ _ _ _ hgA,bA];rfl
 have t4:wB.cell? ⟨w.heap.size+1,0,none⟩=some (.string pn):=by rw[cell_of_row _ _ _ _ _ _ Ia];rfl
 have YY:w0.heap.size≤w.heap.size:=hb.size
 have oq:Below w0.heap.size w0 wB:=hb.trans (GB.mono YY)
 have l1:=hG.look wB.drew oq.drew
 have l2:=hA.look wB.drew oq.drew
 have l3:=hG.look wB oq
 have l4:=hA.look wB oq
 have HB:Hid (Below w0.heap.size w0 w):=hb
 have HGB:Hid (wB.heap[w.heap.size+1]?=some (.cells #[.string pn,.int .i64 (pp:Nat)] 112 (0,0))):=Ia
 have C2:Hid (qK w0.heap.size w wB (.slice vd n vc) n xs):=⟨af aj GB,GB.mono YY,bR GB⟩
 have HA:Hid (Gs.Sj w0 D hm pn ug):=hA
 have HG:Hid (Gs.Sg w0 D gm pn tg):=hG
 have BW:Hid (wB.ownsRow 0 9 1 (.slice nd nl nc) nl (strCells (Gs.iJ D))):=af iG GB
 have HP:Hid ((pn,pp)∈D.Q):=hp
 have aiI:ug<wB.heap.size:=Nat.lt_of_lt_of_le hA.lt oq.size
 have aiN:tg<wB.heap.size:=Nat.lt_of_lt_of_le hG.lt oq.size
 rw[←bA]
 clear bA hS hgA aj iG hA hG hb GB Ia
 go_enter Tryz.func79,Tryz.ntmps79
 go_upto_region 1 with fail
 rw[←PM]
 clear PM
 go_region
 obtain⟨wC,hwC⟩:∃wC,wC=wB.drew:=⟨_,rfl⟩
 have Jn:Hid (Below wB.heap.size wB wC):=by rw[hwC];exact(Below.refl _ _).drew
 generalize PF:D.hold pn=js
 have HJS:Hid (D.hold pn=js):=PF
 have Lh:js.length≤200:=by rw[←PF];exact HD.out.oo _ HP.out
 have HLE:Hid (Calls Tryz.prog 136 #[.pointer (some ⟨ug,0,none⟩)] wC fun e w'=>e=.returned (.int .i64 js.length)∧w'=wC):=by
  rw[←PF]
  exact HA.out.len wC (oq.trans (Jn.out.mono oq.size))
 have HAN:Hid (Calls Tryz.prog 78 #[.slice vd n vc,.int .i64 js.length] wC fun e w'=>∃v1 n1,e=.returned v1∧Hid (qK w0.heap.size w w' v1 n1 (xs++Rc.bB (Rc.aV js.length))∧Lib.OthersKept 5 none wB w')):=by
  have hoC:Lib.OthersKept 5 none wB wC:=bR Jn.out
  have hsC:w0.heap.size≤wC.heap.size:=Nat.le_trans oq.size Jn.out.size
  refine(dH w0.heap.size wC (.slice vd n vc) n xs js.length (af C2.out.own Jn.out) hsC (by omega) (by omega)).mono ?_
  rintro e w' ⟨v1,n1,rfl,q1,q2,q3⟩
  exact⟨v1,n1,rfl,⟨q1,(C2.out.be.trans (Jn.out.mono oq.size)).trans q2,aJ (aJ C2.out.Ft hoC) q3⟩,aJ hoC q3⟩
 rw[←hwC]
 clear hwC l1 l2 l3 l4 t2 t3 t4
 go_wp2_with (first | (go_at_call 136;refine HLE.out.mono ?_;rintro e w' ⟨rfl,hw⟩;subst hw) | (go_at_call 78;refine HAN.out.mono ?_;rintro e w1 ⟨v1,n1,rfl,H1⟩;have bk:Below w0.heap.size w0 w1:=HB.out.trans H1.out.1.be;have agB:ug<w1.heap.size:=Nat.lt_of_lt_of_le HA.out.lt bk.size;have MS:Hid (Calls Tryz.prog 133 #[.pointer (some ⟨ug,0,none⟩)] w1 fun e w3=>∃xd xc,e=.returned (.slice xd js.length xc)∧Hid (w3.ownsRow w1.heap.size 119 3 (.slice xd js.length xc) js.length (aF (js.map fun j=>Tb.dh j.1))∧Below w1.heap.size w1 w3)):=(by have h9:=HA.out.rows w1 bk;rw[HJS.out]at h9;exact h9.mono (fun e w' ⟨a,b,c,d⟩=>⟨a,b,c,d⟩))) | (go_at_call 133;refine MS.out.mono ?_;rintro e w3 ⟨xd,xc,rfl,H3⟩))
 have HPB:Hid (w3.heap[w.heap.size+1]?=some (.cells #[.string pn,.int .i64 (pp:Nat)] 112 (0,0))):=by
  have h8:=H1.out.2 _ _ HGB.out (by simp) (fun c fz e=>by simp at e)
  have h9:w3.heap[w.heap.size+1]?=some (.cells #[.string pn,.int .i64 (pp:Nat)] 112 (0,0)):=by rw[H3.out.2.block _ (lt_of_heap h8)];exact h8
  exact h9
 have HN3:Hid (w3.ownsRow 0 9 1 (.slice nd nl nc) nl (strCells (Gs.iJ D))):=af (bD BW.out H1.out.2 (by decide)) H3.out.2
 have mR:Hid (qK w0.heap.size w w3 v1 n1 (xs++Rc.bB (Rc.aV js.length++(js.take 0).flatMap (Gs.fact D pn)))):=by
  have h1:=H1.out.1
  refine⟨by simpa using af h1.own H3.out.2,h1.be.trans (H3.out.2.mono bk.size),aJ h1.Ft (bR H3.out.2)⟩
 have ajl:(Rc.aV js.length).length≤10:=kN (by omega)
 have FP:Hid (w3.ownsRow 0 119 3 (.slice xd js.length xc) js.length (aF (js.map fun j=>Tb.dh j.1))):=aN H3.out.1 (Nat.zero_le _)
 clear H1 MS HLE HAN C2 HGB Jn BW H3 PF oq bk
 go_loopw [1,38] (fun b i wr=>∃(k m:Nat),k≤js.length∧i=.int .i64 k∧qK w0.heap.size w wr b m (xs++Rc.bB (Rc.aV js.length++(js.take k).flatMap (Gs.fact D pn)))∧Lib.OthersKept 5 none w3 wr) (fun _ i _=>js.length-(intOf i).toNat)
 case atStart=>exact⟨0,n1,Nat.zero_le _,rfl,mR.out,Lib.OthersKept.refl _ _ _⟩
 case round=>
  obtain⟨k,m,hk,rfl,mK,sQ⟩:=hrel
  obtain⟨ad,ac,Jq⟩:=ah mK.own
  subst Jq
  clear mR
  have Sl:m≤10000100000:=by
   have h1:=mK.len
   have h2:=nb (Gs.fact D pn) 100 (js.take k) (fun x hx=>Gs.Jg HD.out HP.out (by rw[HJS.out];exact List.mem_of_mem_take hx))
   rw[List.length_append,Rc.bC,List.length_append]at h1
   rw[List.length_take]at h2
   omega
  have mR:Hid (qK w0.heap.size w wr (.slice ad m ac) m (xs++Rc.bB (Rc.aV js.length++(js.take k).flatMap (Gs.fact D pn)))):=mK
  have HO:Hid (Lib.OthersKept 5 none w3 wr):=sQ
  clear mK sQ
  obtain⟨wA,rfl⟩:∃x,x=wr:=⟨_,rfl⟩
  by_cases aC:k<js.length
  · have bV:=bD FP.out HO.out (by decide)
    obtain⟨g3,rfl,nB,uP,kk⟩:=ax bV (by omega)
    have h3:p9 (js.map fun j=>Tb.dh j.1):=fun r hr=>by
     obtain⟨j,_,rfl⟩:=List.mem_map.1 hr
     rfl
    obtain⟨r0,r1,r2⟩:=ko h3 (k:=k) (by simpa using aC) (a:=Tb.eh js[k].1 0) (b:=Tb.eh js[k].1 1) (c:=Tb.eh js[k].1 2) (by rw[List.getElem_map];rfl)
    have z0:=kk _ _ r0
    have z1:=kk _ _ r1
    have z2:=kk _ _ r2
    have Wl:js[k]∈D.hold pn:=by rw[HJS.out];exact List.getElem_mem aC
    have gG:Hid (xs++Rc.bB (Rc.aV js.length++(js.take (k+1)).flatMap (Gs.fact D pn))=xs++Rc.bB (Rc.aV js.length++(js.take k).flatMap (Gs.fact D pn))++Rc.bB (Gs.fact D pn js[k])):=by
     have e0:js.take (k+1)=js.take k++[js[k]]:=by rw[List.take_add_one,List.getElem?_eq_getElem aC];rfl
     have e1:xs++Rc.bB (Rc.aV js.length++(js.take (k+1)).flatMap (Gs.fact D pn))=xs++Rc.bB (Rc.aV js.length++(js.take k).flatMap (Gs.fact D pn))++Rc.bB (Gs.fact D pn js[k]):=by
      rw[e0,List.flatMap_append]
      simp[Rc.gq]
     exact e1
    have PU:js[k].1.length=pp:=HD.out.len _ HP.out js[k] Wl
    have LS:Hid (∀x,x∈js[k].1→(Gs.iJ D)[Gs.place D x]?=some x):=fun x hx=>Gs.Fh D HP.out Wl hx
    obtain⟨wR,Z6⟩:∃wR,wR=wA.alloc (.cells #[.string (Tb.eh js[k].1 0),.string (Tb.eh js[k].1 1),.string (Tb.eh js[k].1 2)] 119):=⟨_,rfl⟩
    have Ma:Below wA.heap.size wA wR:=by rw[Z6];exact(Below.refl _ _).alloc (Nat.le_refl _) _
    have hgR:wR.heap[wA.heap.size]?=some (.cells #[.string (Tb.eh js[k].1 0),.string (Tb.eh js[k].1 1),.string (Tb.eh js[k].1 2)] 119 (0,0)):=by rw[Z6];exact heap_alloc_new wA _
    have Xv:w0.heap.size≤wA.heap.size:=by have:=mR.out.be.size;have:=HB.out.size;omega
    have X7:Below w0.heap.size w0 wA:=HB.out.trans mR.out.be
    have HR0:Hid (∀W,Below wR.heap.size wR W→Below w0.heap.size w0 W):=fun W hW=>(X7.trans (Ma.mono Xv)).trans (hW.mono (Nat.le_trans Xv Ma.size))
    have HPA:wR.heap[w.heap.size+1]?=some (.cells #[.string pn,.int .i64 (pp:Nat)] 112 (0,0)):=by
     have h8:=HO.out _ _ HPB.out (by simp) (fun c fz e=>by simp at e)
     rw[Ma.block _ (lt_of_heap h8)]
     exact h8
    have PN:Hid (wR.ownsRow 0 9 1 (.slice nd nl nc) nl (strCells (Gs.iJ D))):=af (bD HN3.out HO.out (by decide)) Ma
    have QJ:Hid (qK w0.heap.size w wR (.slice ad m ac) m (xs++Rc.bB (Rc.aV js.length++(js.take k).flatMap (Gs.fact D pn)))∧Lib.OthersKept 5 none w3 wR):=⟨⟨af mR.out.own Ma,mR.out.be.trans (Ma.mono Xv),aJ mR.out.Ft (bR Ma)⟩,aJ HO.out (bR Ma)⟩
    have HFJ:Hid (Gs.fact D pn js[k]=Rc.aV (if D.rA pn js[k].1=true then 1 else 0)++Rc.aV (js[k].2)++js[k].1.flatMap fun x=>Rc.aV (Gs.place D x)):=(rfl:Gs.fact D pn js[k]=_)
    have IZ:=HD.out.jG _ HP.out js[k] Wl
    have HHS:Hid (∀W,Below wR.heap.size wR W→Calls Tryz.prog 42 #[.pointer (some ⟨tg,0,none⟩),.agg #[.string (Tb.eh js[k].1 0),.string (Tb.eh js[k].1 1),.string (Tb.eh js[k].1 2)]] W fun e w'=>e=.returned (.bool (D.rA pn js[k].1))∧Below wR.heap.size wR w'):=by
     intro W hW
     have h9:=HG.out.has W (HR0.out W hW) js[k] Wl
     rw[qL]at h9
     refine h9.mono ?_
     rintro e w' ⟨rfl,hb⟩
     exact⟨rfl,hW.trans (hb.mono hW.size)⟩
    have Mm:Hid (∀W,Below w0.heap.size w0 W→Calls Tryz.prog 43 #[.pointer (some ⟨ug,0,none⟩),.agg #[.string (Tb.eh js[k].1 0),.string (Tb.eh js[k].1 1),.string (Tb.eh js[k].1 2)]] W fun e w'=>e=.returned (.int .i64 (js[k].2:Nat))∧Below W.heap.size W w'):=by
     intro W hW
     have h9:=HA.out.count W hW js[k] Wl
     rw[qL]at h9
     exact h9
    have HRG:Hid (∀(x:Nat) u,(strCells js[k].1)[x]?=some u→[Value.string (Tb.eh js[k].1 0),.string (Tb.eh js[k].1 1),.string (Tb.eh js[k].1 2)][x]?=some u):=fun x u hu=>IF (by omega) hu
    generalize Gs.fact D pn js[k]=fj at*
    generalize D.rA pn js[k].1=gj at*
    generalize Tb.eh js[k].1 0=x0 at*
    generalize Tb.eh js[k].1 1=x1 at*
    generalize Tb.eh js[k].1 2=x2 at*
    generalize js[k].1=dl at*
    generalize js[k].2=cj at*
    generalize jy:xs++Rc.bB (Rc.aV js.length++(js.take k).flatMap (Gs.fact D pn))=base at QJ gG
    have fE:base.length=m:=QJ.out.1.len
    obtain⟨fn,JM⟩:∃fn:Nat,fn=if gj=true then 1 else 0:=⟨_,rfl⟩
    rw[←JM]at HFJ
    have ahK:fn≤1:=by rw[JM];split<;>omega
    have Tn:Hid (∀W,Calls Tryz.prog 137 #[.bool gj] W fun e w'=>e=.returned (.int .i64 (fn:Nat))∧w'=W):=by
     intro W
     refine(MM gj W).mono ?_
     rintro e w' ⟨rfl,rfl⟩
     refine⟨?_,rfl⟩
     rw[JM]
     cases gj<;>rfl
    have XL:Hid (LV w0.heap.size wR wR wA.heap.size (w.heap.size+1) x0 x1 x2 pn pp):=⟨hgR,HPA,Lib.OthersKept.refl _ _ _,Below.refl _ _⟩
    have Zs:Hid (∀W,Below wR.heap.size wR W→Calls Tryz.prog 78 #[.slice ad m ac,.int .i64 (fn:Nat)] W fun e w'=>∃v2 n2,e=.returned v2∧Hid (qK w0.heap.size w w' v2 n2 (base++Rc.bB (Rc.aV fn))∧LV w0.heap.size wR w' wA.heap.size (w.heap.size+1) x0 x1 x2 pn pp)):=by
     intro W hW
     have XQ:w0.heap.size≤W.heap.size:=Nat.le_trans (Nat.le_trans Xv Ma.size) hW.size
     have LZ:Below w0.heap.size wR W:=hW.mono (Nat.le_trans Xv Ma.size)
     refine(dH w0.heap.size W (.slice ad m ac) m base fn (af QJ.out.1.own hW) XQ (by omega) (by omega)).mono ?_
     rintro e w' ⟨v2,n2,rfl,q1,q2,q3⟩
     exact⟨v2,n2,rfl,⟨q1,(QJ.out.1.be.trans LZ).trans q2,aJ (aJ QJ.out.1.Ft (bR hW)) q3⟩,(XL.out.next (bR hW) LZ).next q3 q2⟩
    have s0:wR.cell? ⟨wA.heap.size,0,none⟩=some (.string x0):=XL.out.cells.1
    have s1:wR.cell? ⟨wA.heap.size,1,none⟩=some (.string x1):=XL.out.cells.2.1
    have s2:wR.cell? ⟨wA.heap.size,2,none⟩=some (.string x2):=XL.out.cells.2.2.1
    have ag5:tg<wR.heap.size:=Nat.lt_of_lt_of_le HG.out.lt (HR0.out wR (Below.refl _ _)).size
    have Wy:Hid (∀W,Below wR.heap.size wR W→Calls Tryz.prog 42 #[.pointer (some ⟨tg,0,none⟩),.agg #[.string x0,.string x1,.string x2]] W fun e w'=>e=.returned (.bool gj)∧Below wR.heap.size wR w'∧w'.cell? ⟨wA.heap.size,0,none⟩=some (.string x0)∧w'.cell? ⟨wA.heap.size,1,none⟩=some (.string x1)∧w'.cell? ⟨wA.heap.size,2,none⟩=some (.string x2)):=by
     intro W hW
     refine(HHS.out W hW).mono ?_
     rintro e w' ⟨rfl,hb⟩
     exact⟨rfl,hb,by rw[hb.cell (block_lt_of_cell s0)];exact s0,by rw[hb.cell (block_lt_of_cell s1)];exact s1,by rw[hb.cell (block_lt_of_cell s2)];exact s2⟩
    have Lp:Hid (∀W,Below wR.heap.size wR W→Calls Tryz.prog 137 #[.bool gj] W fun e w'=>e=.returned (.int .i64 (fn:Nat))∧Below wR.heap.size wR w'∧w'.cell? ⟨wA.heap.size,0,none⟩=some (.string x0)∧w'.cell? ⟨wA.heap.size,1,none⟩=some (.string x1)∧w'.cell? ⟨wA.heap.size,2,none⟩=some (.string x2)):=by
     intro W hb
     refine(Tn.out W).mono ?_
     rintro e w' ⟨rfl,rfl⟩
     exact⟨rfl,hb,by rw[hb.cell (block_lt_of_cell s0)];exact s0,by rw[hb.cell (block_lt_of_cell s1)];exact s1,by rw[hb.cell (block_lt_of_cell s2)];exact s2⟩
    have ud:Hid (Below wR.heap.size wR wR):=Below.refl _ _
    have adI:Hid (Lib.OthersKept 5 none w3 wR):=QJ.out.2
    have ET:Hid (Below wR.heap.size wR wR.drew):=(Below.refl _ _).drew
    clear JM
    clear bV kk h3 r0 r1 r2 HHS jy hgR Ma Wl mR HO X7
    go_upto_region 6 with fail
    rw[←Z6]
    clear Z6 z0 z1 z2
    go_cut [1,38]from 38 to 73 (fun v2 iv wx=>iv=.int .i64 k∧∃n2,Hid (qK w0.heap.size w wx v2 n2 (base++Rc.bB (Rc.aV fn))∧LV w0.heap.size wR wx wA.heap.size (w.heap.size+1) x0 x1 x2 pn pp))
    case first=>
     go_region_held3 (fun W=>W.cell? ⟨wA.heap.size,0,none⟩=some (.string x0)∧W.cell? ⟨wA.heap.size,1,none⟩=some (.string x1)∧W.cell? ⟨wA.heap.size,2,none⟩=some (.string x2)) (go_keep) (first | (go_at_call 42;refine(Wy.out _ (by first | exact ET.out | exact ud.out | assumption)).mono ?_;rintro e wn ⟨rfl,Z9,k0,k1,k2⟩) | (go_at_call 137;refine(Lp.out _ (by assumption)).mono ?_;rintro e wf ⟨rfl,hbf,f0,f1,f2⟩) | (go_at_call 78;refine(Zs.out _ (by assumption)).mono ?_;rintro e w9 ⟨v2,n2,rfl,H9⟩;obtain⟨j0,j1,j2,_,_,_⟩:=H9.out.2.cells))
     all_goals
      (go_wp2_with fail
       go_meet
       exact⟨rfl,n2,H9⟩)
    case rest=>
     obtain⟨hiv,n2,H2⟩:=hcut
     subst hiv
     obtain⟨bd,bc,bK⟩:=ah H2.out.1.own
     subst bK
     obtain⟨c0,c1,c2,c3,crl,cpl⟩:=H2.out.2.cells
     have aix:(Rc.aV fn).length≤10:=kN (by omega)
     have ai1:(Rc.aV cj).length≤10:=kN IZ
     have FK:n2≤10000200000:=by
      have h1:=H2.out.1.len
      rw[List.length_append,Rc.bC]at h1
      omega
     have zJ:Below w0.heap.size w0 wc:=HB.out.trans H2.out.1.be
     have ahZ:ug<wc.heap.size:=Nat.lt_of_lt_of_le HA.out.lt zJ.size
     have hsc:w0.heap.size≤wc.heap.size:=zJ.size
     have Wm:Hid (Calls Tryz.prog 43 #[.pointer (some ⟨ug,0,none⟩),.agg #[.string x0,.string x1,.string x2]] wc fun e w4=>e=.returned (.int .i64 (cj:Nat))∧Hid (Below wc.heap.size wc w4)):=(Mm.out wc zJ).mono (fun e w' ⟨a,b⟩=>⟨a,b⟩)
     have UD:Hid (∀W,Below wc.heap.size wc W→Calls Tryz.prog 78 #[.slice bd n2 bc,.int .i64 (cj:Nat)] W fun e w'=>∃v3 n3,e=.returned v3∧w'.cell? ⟨w.heap.size+1,1,none⟩=some (.int .i64 (pp:Nat))∧wA.heap.size<w'.heap.size∧w.heap.size+1<w'.heap.size∧Hid (qK w0.heap.size w w' v3 n3 (base++Rc.bB (Rc.aV fn)++Rc.bB (Rc.aV cj))∧LV w0.heap.size wR w' wA.heap.size (w.heap.size+1) x0 x1 x2 pn pp)):=by
      intro W hW
      have XQ:w0.heap.size≤W.heap.size:=Nat.le_trans hsc hW.size
      have LZ:Below w0.heap.size wc W:=hW.mono hsc
      refine(dH w0.heap.size W (.slice bd n2 bc) n2 _ cj (af H2.out.1.own hW) XQ (by omega) (by omega)).mono ?_
      rintro e w' ⟨v3,n3,rfl,q1,q2,q3⟩
      have hAf:=(H2.out.2.next (bR hW) LZ).next q3 q2
      obtain⟨_,_,_,y3,yr,yp⟩:=hAf.cells
      exact⟨v3,n3,rfl,y3,yr,yp,⟨q1,(H2.out.1.be.trans LZ).trans q2,aJ (aJ H2.out.1.Ft (bR hW)) q3⟩,hAf⟩
     have b1:(0:Int)≤(pp:Int):=by omega
     have b2:(pp:Int)≤3:=by omega
     clear Mm Zs Wy Tn Lp XL ud ET s0 s1 s2 QJ
     go_wp2_with (first | (go_at_call 43;refine Wm.out.mono ?_;rintro e w4 ⟨rfl,HB4⟩) | (go_at_call 78;refine(UD.out _ HB4.out).mono ?_;rintro e w5 ⟨v3,n3,rfl,d3,dr,dp,H5⟩))
     generalize Hu:base++Rc.bB (Rc.aV fn)++Rc.bB (Rc.aV cj)=rh at H5
     have Hg:Hid (base++Rc.bB (Rc.aV fn)++Rc.bB (Rc.aV cj)=rh):=Hu
     have X5:rh.length≤10000300000:=by
      rw[←Hu,List.length_append,List.length_append,Rc.bC,Rc.bC]
      omega
     clear Wm UD HB4 c0 c1 c2 c3 Hu H2
     go_loopw [1,59] (fun b i w6=>∃(q m6:Nat),q≤pp∧i=.int .i64 q∧qK w0.heap.size w w6 b m6 (rh++Rc.bB ((dl.take q).flatMap fun x=>Rc.aV (Gs.place D x)))∧LV w0.heap.size wR w6 wA.heap.size (w.heap.size+1) x0 x1 x2 pn pp) (fun _ i _=>pp-(intOf i).toNat)
     case atStart=>exact⟨0,n3,Nat.zero_le _,rfl,by simpa [Rc.bB]using H5.out.1,H5.out.2⟩
     case round=>
      obtain⟨q,m6,hq,rfl,Mw,KH⟩:=hrel
      obtain⟨ed,ec,he0⟩:=ah Mw.own
      subst he0
      have Db:Hid (qK w0.heap.size w wr (.slice ed m6 ec) m6 (rh++Rc.bB ((dl.take q).flatMap fun x=>Rc.aV (Gs.place D x)))∧LV w0.heap.size wR wr wA.heap.size (w.heap.size+1) x0 x1 x2 pn pp):=⟨Mw,KH⟩
      clear H5
      by_cases pw:q<pp
      · have hqd:q<dl.length:=by omega
        have ca:wr.cell? ⟨wA.heap.size,q,none⟩=some (.string dl[q]):=by
         rw[cell_of_row _ _ _ _ _ _ KH.row]
         have h9:=HRG.out q (.string dl[q]) (by rw[strCells,List.getElem?_map,List.getElem?_eq_getElem hqd];rfl)
         simpa using h9
        have har:=lt_of_heap KH.row
        have hm6:m6≤10000400000:=by
         have h1:=Mw.len
         have h2:=nb (fun x=>Rc.aV (Gs.place D x)) 10 (dl.take q) (fun x _=>Gs.kN (Nat.le_trans (Gs.rW HD.out _) (by decide)))
         rw[List.length_append,Rc.bC]at h1
         rw[List.length_take]at h2
         omega
        have HNY:Hid (rh++Rc.bB ((dl.take (q+1)).flatMap fun x=>Rc.aV (Gs.place D x))=rh++Rc.bB ((dl.take q).flatMap fun x=>Rc.aV (Gs.place D x))++Rc.bB (Rc.aV (Gs.place D dl[q]))):=by
         have e0:dl.take (q+1)=dl.take q++[dl[q]]:=by rw[List.take_add_one,List.getElem?_eq_getElem hqd];rfl
         have e1:rh++Rc.bB ((dl.take (q+1)).flatMap fun x=>Rc.aV (Gs.place D x))=rh++Rc.bB ((dl.take q).flatMap fun x=>Rc.aV (Gs.place D x))++Rc.bB (Rc.aV (Gs.place D dl[q])):=by
          rw[e0,List.flatMap_append]
          simp[Rc.gq]
         exact e1
        have Xk:=LS.out _ (List.getElem_mem hqd)
        have JF:=Gs.rW HD.out dl[q]
        have WN:Hid (Calls Tryz.prog 138 #[.slice nd nl nc,.string dl[q]] wr fun e w7=>e=.returned (.tuple #[.int .i64 (Gs.place D dl[q]:Nat),.bool true])∧Hid (Below wr.heap.size wr w7)):=(VE wr 0 nd nl nc _ dl[q] _ (bD PN.out KH.Ft (by decide)) YQ (Gs.Hy D) Xk (by omega)).mono (fun e w' ⟨a,b⟩=>⟨a,b⟩)
        generalize Gs.place D dl[q]=pk at WN HNY JF
        have HA7:Hid (∀W,Below wr.heap.size wr W→Calls Tryz.prog 78 #[.slice ed m6 ec,.int .i64 (pk:Nat)] W fun e w'=>∃v7 n7,e=.returned v7∧Hid (qK w0.heap.size w w' v7 n7 (rh++Rc.bB ((dl.take (q+1)).flatMap fun x=>Rc.aV (Gs.place D x)))∧LV w0.heap.size wR w' wA.heap.size (w.heap.size+1) x0 x1 x2 pn pp)):=by
         intro W hW
         have PD:w0.heap.size≤wr.heap.size:=(HB.out.trans Db.out.1.be).size
         have XQ:w0.heap.size≤W.heap.size:=Nat.le_trans PD hW.size
         have LZ:Below w0.heap.size wr W:=hW.mono PD
         refine(dH w0.heap.size W (.slice ed m6 ec) m6 _ pk (af Db.out.1.own hW) XQ (by omega) (by omega)).mono ?_
         rintro e w' ⟨v7,n7,rfl,q1,q2,q3⟩
         rw[HNY.out]
         exact⟨v7,n7,rfl,⟨q1,(Db.out.1.be.trans LZ).trans q2,aJ (aJ Db.out.1.Ft (bR hW)) q3⟩,(Db.out.2.next (bR hW) LZ).next q3 q2⟩
        generalize dl[q]=y at ca WN
        clear Mw KH Xk HNY
        go_wp2_with (first | (go_at_call 138;refine WN.out.mono ?_;rintro e w7 ⟨rfl,HB7⟩) | (go_at_call 78;refine(HA7.out _ HB7.out).mono ?_;rintro e w8 ⟨v7,n7,rfl,H8⟩))
        go_roundw
        case rel=>exact⟨q+1,n7,pw,by go_num,H8.out.1,H8.out.2⟩
        case measure=>simp[intOf];omega
      · have HE:Hid (qK w0.heap.size w wr (.slice ed m6 ec) m6 (xs++Rc.bB (Rc.aV js.length++(js.take (k+1)).flatMap (Gs.fact D pn)))∧Lib.OthersKept 5 none w3 wr):=by
         have h1:=Db.out.1
         have e0:dl.take q=dl:=List.take_of_length_le (by omega)
         rw[e0,←Hg.out]at h1
         refine⟨?_,aJ adI.out Db.out.2.Ft⟩
         rw[gG.out,HFJ.out,Rc.gq,Rc.gq,←List.append_assoc,←List.append_assoc]
         exact h1
        clear Mw KH Db
        go_wp2_with fail
        go_roundw
        case rel=>exact⟨k+1,m6,aC,by go_num,HE.out.1,HE.out.2⟩
        case measure=>simp[intOf];omega
  · have HE:Hid (qK w0.heap.size w wA (.slice ad m ac) m (xs++Rc.bB (Gs.facts D pn))):=by
     have h1:=mR.out
     have e0:js.take k=js:=List.take_of_length_le (by omega)
     rw[e0]at h1
     have e1:Gs.facts D pn=Rc.aV js.length++js.flatMap (Gs.fact D pn):=by unfold Gs.facts;rw[HJS.out]
     rw[e1]
     exact h1
    clear mR HO
    go_wp2_with fail
    go_ret
    exact⟨_,m,rfl,HE.out⟩
end
/- state.State.Bytes and Engine.Export, walked. -/
section
open Go.Shelf Go.RowKit Go.Maps
structure tz(w0:World)(cs:Array Value)(w':World)(nd:Option Addr)(nl nc:Nat)(nm:List ByteArray)(v:Value)(n:Nat)(xs:List Value):Prop where
 own:w'.ownsRow w0.heap.size 5 1 v n xs
 be:Below w0.heap.size w0 w'
 box:w'.heap[w0.heap.size]?=some (.cells cs 107 (0,0))
 WT:w'.ownsRow 0 9 1 (.slice nd nl nc) nl (strCells nm)
theorem tz.below{w0:World}{cs:Array Value}{w1 W:World}{nd:Option Addr}{nl nc:Nat}{nm:List ByteArray}{v:Value}{n:Nat}{xs:List Value}(h:tz w0 cs w1 nd nl nc nm v n xs)(hb:Below w1.heap.size w1 W):tz w0 cs W nd nl nc nm v n xs:=
 ⟨af h.own hb,h.be.trans (hb.mono h.be.size),by rw[hb.block _ (lt_of_heap h.box)];exact h.box,af h.WT hb⟩
theorem tz.step{w0:World}{cs:Array Value}{W w2:World}{nd:Option Addr}{nl nc:Nat}{nm:List ByteArray}{v v2:Value}{n n2:Nat}{xs ys:List Value}(h:tz w0 cs W nd nl nc nm v n xs)(q1:w2.ownsRow w0.heap.size 5 1 v2 n2 ys)(q2:Below w0.heap.size W w2)(q3:Lib.OthersKept 5 none W w2):tz w0 cs w2 nd nl nc nm v2 n2 ys:=
 ⟨q1,h.be.trans q2,q3 _ _ h.box (by simp) (fun c fz e=>by simp at e),bD h.WT q3 (by decide)⟩
theorem tz.len{w0:World}{cs:Array Value}{w':World}{nd:Option Addr}{nl nc:Nat}{nm:List ByteArray}{v:Value}{n:Nat}{xs:List Value}(h:tz w0 cs w' nd nl nc nm v n xs):xs.length=n:=by have:=h.own.1;omega
end
end Go.Proofs.YtdmicblafmhflaaGreatDoor
