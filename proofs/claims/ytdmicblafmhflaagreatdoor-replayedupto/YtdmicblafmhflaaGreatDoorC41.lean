/- state.State.appendFacts, walked. -/
import Derived.Test.YtdmicblafmhflaaGreatDoorC40
set_option linter.unusedSimpArgs false
set_option linter.unusedVariables false
set_option maxHeartbeats 4000000
set_option maxRecDepth 100000
namespace Go.Proofs.YtdmicblafmhflaaGreatDoor
section
open Go.Shelf Go.RowKit Go.Maps
theorem Mh(r:En.bO)(H:Nat→Bool):(En.fF r H).length≤64:=by
 unfold En.fF En.EU En.vs
 rw[List.length_map]
 refine Nat.le_trans (List.length_filter_le _ _) (Nat.le_trans (List.length_filter_le _ _) (by simp))
theorem G9(kl:List Ax.ay)(gv:Nat→Bool)(i:Nat):Gc kl gv i≤1000:=by
 have h1:∀R:List En.bO,(R.map fun r=>En.jG (En.fF r (En.ak (En.aj kl) gv)) i).sum≤64*R.length:=by
  intro R
  induction R with
  | nil=>simp
  | cons r R ih=>
   rw[List.map_cons,List.sum_cons,List.length_cons]
   have h2:En.jG (En.fF r (En.ak (En.aj kl) gv)) i≤64:=Nat.le_trans List.count_le_length (Mh _ _)
   omega
 have h3:(En.aj kl).length≤6:=by
  unfold En.aj
  rw[List.length_map,List.length_take]
  omega
 have h4:=h1 (En.aj kl)
 unfold Gc
 split<;>split<;>omega
theorem wW(H:Nat→Bool)(p:ByteArray):(cW H p).length≤36:=by
 unfold cW
 exact Nat.le_trans (List.length_filter_le _ _) (by simp)
theorem xu(H:Nat→Bool)(x:ByteArray):Ex.place H x≤324:=Nat.le_trans List.findIdx_le_length (Ex.sr H)
theorem jX{α:Type}(f:α→List UInt8)(b:Nat):∀l:List α,(∀x,x∈l→(f x).length≤b)→(l.flatMap f).length≤b*l.length
 | [],_=>by simp
 | a::l,h=>by
  rw[List.flatMap_cons,List.length_append,List.length_cons,Nat.mul_succ]
  have h1:=h a (by simp)
  have h2:=jX f b l (fun x hx=>h x (by simp[hx]))
  omega
theorem iD{n:Nat}(h:n≤1000):(Rc.aQ n).length≤10:=Rc.mn 10 n (by
 have:(128:Nat)^10=1180591620717411303424:=by decide
 omega) (by decide)
theorem vS(kl:List Ax.ay)(gv:Nat→Bool)(j:Nat):(Ex.fact kl gv j).length≤100:=by
 unfold Ex.fact
 rw[List.length_append,List.length_append]
 have h1:(Rc.aQ (if gv j=true then 1 else 0)).length≤10:=iD (by split<;>omega)
 have h2:=iD (G9 kl gv j)
 have h3:=jX (fun x=>Rc.aQ (Ex.place (En.ak (En.aj kl) gv) x)) 10 (be j).2 (fun x _=>iD (Nat.le_trans (xu _ _) (by decide)))
 have h4:=na j
 omega
structure LD(B:Nat)(wR w':World)(rb pb:Nat)(x0 x1 x2:ByteArray)(pn:ByteArray)(pp:Nat):Prop where
 row:w'.heap[rb]?=some (.cells #[.string x0,.string x1,.string x2] 119 (0,0))
 Lw:w'.heap[pb]?=some (.cells #[.string pn,.int .i64 (pp:Nat)] 112 (0,0))
 D5:Lib.OthersKept 5 none wR w'
 aZ:Below B wR w'
theorem LD.next{B:Nat}{wR w1 w2:World}{rb pb:Nat}{x0 x1 x2 pn:ByteArray}{pp:Nat}(h:LD B wR w1 rb pb x0 x1 x2 pn pp)(ho:Lib.OthersKept 5 none w1 w2)(hb:Below B w1 w2):LD B wR w2 rb pb x0 x1 x2 pn pp:=
 ⟨ho _ _ h.row (by simp) (fun c fz e=>by simp at e),ho _ _ h.Lw (by simp) (fun c fz e=>by simp at e),aP h.D5 ho,h.aZ.trans hb⟩
theorem LD.cells{B:Nat}{wR w1:World}{rb pb:Nat}{x0 x1 x2 pn:ByteArray}{pp:Nat}(h:LD B wR w1 rb pb x0 x1 x2 pn pp):w1.cell? ⟨rb,0,none⟩=some (.string x0)∧w1.cell? ⟨rb,1,none⟩=some (.string x1)∧w1.cell? ⟨rb,2,none⟩=some (.string x2)∧w1.cell? ⟨pb,1,none⟩=some (.int .i64 (pp:Nat))∧rb<w1.heap.size∧pb<w1.heap.size:=
 ⟨by rw[cell_of_row _ _ _ _ _ _ h.row];rfl,by rw[cell_of_row _ _ _ _ _ _ h.row];rfl,by rw[cell_of_row _ _ _ _ _ _ h.row];rfl,by rw[cell_of_row _ _ _ _ _ _ h.Lw];rfl,lt_of_heap h.row,lt_of_heap h.Lw⟩
theorem FR(w0:World)(kl:List Ax.ay)(gv:Nat→Bool)(rd:Option Addr)(rn rc gm hm:Nat)(hd:List UInt8)(hS:Nx w0 kl gv (.slice rd rn rc) gm hm)(w:World)(hb:Below w0.heap.size w0 w)(v:Value)(n:Nat)(xs:List Value)(al:w.ownsRow w0.heap.size 5 1 v n xs)(hn:n≤10000000000)(pn:ByteArray)(pp:Nat)(hp:(pn,pp)∈gQ)(nd:Option Addr)(nl nc:Nat)(gh:w.ownsRow 0 9 1 (.slice nd nl nc) nl (strCells (Ex.jC (En.ak (En.aj kl) gv)))):
 Calls Tryz.prog 79 #[.agg (aO (Ax.au kl) (.slice rd rn rc) gm hm hd),v,.agg #[.string pn,.int .i64 (pp:Nat)],.slice nd nl nc] w fun e w'=>∃v' n',e=.returned v'∧qK w0.heap.size w w' v' n' (xs++Rc.bA (Ex.facts kl gv pn)):=by
 have nT:xs.length=n:=by have:=al.1;omega
 obtain⟨vd,vc,Nt⟩:=ah al
 subst Nt
 have X7:(Ex.jC (En.ak (En.aj kl) gv)).length=nl:=by have:=gh.1;simp[strCells]at this;omega
 have aco:nl≤324:=by rw[←X7];exact Ex.sr _
 obtain⟨ug,hA⟩:=hS.Uq _ hp
 obtain⟨tg,hG⟩:=hS.Oz _ hp
 simp only at hA hG
 have FU:pp≤2∧1≤pp:=by
  have:∀q,q∈gQ→q.2≤2∧1≤q.2:=by unfold gQ;decide
  exact this _ hp
 obtain⟨cs,bH⟩:∃cs,cs=aO (Ax.au kl) (.slice rd rn rc) gm hm hd:=⟨_,rfl⟩
 obtain⟨wB,PA⟩:∃wB,wB=(w.alloc (.cells cs 107)).alloc (.cells #[.string pn,.int .i64 (pp:Nat)] 112):=⟨_,rfl⟩
 have GI:Below w.heap.size w wB:=by rw[PA];exact((Below.refl _ _).alloc (Nat.le_refl _) _).alloc (by simp) _
 have hgA:wB.heap[w.heap.size]?=some (.cells cs 107 (0,0)):=by rw[PA,Below.heap_alloc _ _ _ (by simp)];exact heap_alloc_new w _
 have Gq:wB.heap[w.heap.size+1]?=some (.cells #[.string pn,.int .i64 (pp:Nat)] 112 (0,0)):=by rw[PA];exact qI w _ _
 have t2:wB.cell? ⟨w.heap.size,2,none⟩=some (.map (some gm)):=by rw[cell_of_row _ _ _ _ _ _ hgA,bH];rfl
 have t3:wB.cell? ⟨w.heap.size,3,none⟩=some (.map (some hm)):=by rw[cell_of_row _ _ _ _ _ _ hgA,bH];rfl
 have t4:wB.cell? ⟨w.heap.size+1,0,none⟩=some (.string pn):=by rw[cell_of_row _ _ _ _ _ _ Gq];rfl
 have Ye:w0.heap.size≤w.heap.size:=hb.size
 have mw:Below w0.heap.size w0 wB:=hb.trans (GI.mono Ye)
 have l1:=hG.look wB.drew mw.drew
 have l2:=hA.look wB.drew mw.drew
 have l3:=hG.look wB mw
 have l4:=hA.look wB mw
 have HB:Hid (Below w0.heap.size w0 w):=hb
 have HGB:Hid (wB.heap[w.heap.size+1]?=some (.cells #[.string pn,.int .i64 (pp:Nat)] 112 (0,0))):=Gq
 have CE:Hid (qK w0.heap.size w wB (.slice vd n vc) n xs):=⟨ae al GI,GI.mono Ye,bS GI⟩
 have HA:Hid (Yn w0 kl gv hm pn ug):=hA
 have HG:Hid (YE w0 gv gm pn tg):=hG
 have ze:Hid (wB.ownsRow 0 9 1 (.slice nd nl nc) nl (strCells (Ex.jC (En.ak (En.aj kl) gv)))):=ae gh GI
 have HP:Hid ((pn,pp)∈gQ):=hp
 have ag3:ug<wB.heap.size:=Nat.lt_of_lt_of_le hA.lt mw.size
 have ahZ:tg<wB.heap.size:=Nat.lt_of_lt_of_le hG.lt mw.size
 rw[←bH]
 clear bH hS hgA al gh hA hG hb GI Gq
 go_enter Tryz.func79,Tryz.ntmps79
 go_upto_region 1 with fail
 rw[←PA]
 clear PA
 go_region
 obtain⟨wC,hwC⟩:∃wC,wC=wB.drew:=⟨_,rfl⟩
 have Hv:Hid (Below wB.heap.size wB wC):=by rw[hwC];exact(Below.refl _ _).drew
 generalize LG:cW (En.ak (En.aj kl) gv) pn=js
 have HJS:Hid (cW (En.ak (En.aj kl) gv) pn=js):=LG
 have E5:js.length≤36:=by rw[←LG];exact wW _ _
 have TL:Hid (Calls Tryz.prog 136 #[.pointer (some ⟨ug,0,none⟩)] wC fun e w'=>e=.returned (.int .i64 js.length)∧w'=wC):=by
  rw[←LG]
  exact HA.out.len wC (mw.trans (Hv.out.mono mw.size))
 have HAN:Hid (Calls Tryz.prog 78 #[.slice vd n vc,.int .i64 js.length] wC fun e w'=>∃v1 n1,e=.returned v1∧Hid (qK w0.heap.size w w' v1 n1 (xs++Rc.bA (Rc.aQ js.length))∧Lib.OthersKept 5 none wB w')):=by
  have hoC:Lib.OthersKept 5 none wB wC:=bS Hv.out
  have hsC:w0.heap.size≤wC.heap.size:=Nat.le_trans mw.size Hv.out.size
  refine(dH w0.heap.size wC (.slice vd n vc) n xs js.length (ae CE.out.own Hv.out) hsC (by omega) (by omega)).mono ?_
  rintro e w' ⟨v1,n1,rfl,q1,q2,q3⟩
  exact⟨v1,n1,rfl,⟨q1,(CE.out.aZ.trans (Hv.out.mono mw.size)).trans q2,aP (aP CE.out.D5 hoC) q3⟩,aP hoC q3⟩
 rw[←hwC]
 clear hwC l1 l2 l3 l4 t2 t3 t4
 go_wp2_with (first | (go_at_call 136;refine TL.out.mono ?_;rintro e w' ⟨rfl,hw⟩;subst hw) | (go_at_call 78;refine HAN.out.mono ?_;rintro e w1 ⟨v1,n1,rfl,H1⟩;have a8:Below w0.heap.size w0 w1:=HB.out.trans H1.out.1.aZ;have af0:ug<w1.heap.size:=Nat.lt_of_lt_of_le HA.out.lt a8.size;have vv:Hid (Calls Tryz.prog 133 #[.pointer (some ⟨ug,0,none⟩)] w1 fun e w3=>∃xd xc,e=.returned (.slice xd js.length xc)∧Hid (w3.ownsRow w1.heap.size 119 3 (.slice xd js.length xc) js.length (aM (js.map fun j=>Tb.ev (be j).2))∧Below w1.heap.size w1 w3)):=(by have h9:=HA.out.rows w1 a8;rw[HJS.out]at h9;exact h9.mono (fun e w' ⟨a,b,c,d⟩=>⟨a,b,c,d⟩))) | (go_at_call 133;refine vv.out.mono ?_;rintro e w3 ⟨xd,xc,rfl,H3⟩))
 have HPB:Hid (w3.heap[w.heap.size+1]?=some (.cells #[.string pn,.int .i64 (pp:Nat)] 112 (0,0))):=by
  have h8:=H1.out.2 _ _ HGB.out (by simp) (fun c fz e=>by simp at e)
  have h9:w3.heap[w.heap.size+1]?=some (.cells #[.string pn,.int .i64 (pp:Nat)] 112 (0,0)):=by rw[H3.out.2.block _ (lt_of_heap h8)];exact h8
  exact h9
 have ZH:Hid (w3.ownsRow 0 9 1 (.slice nd nl nc) nl (strCells (Ex.jC (En.ak (En.aj kl) gv)))):=ae (bJ ze.out H1.out.2 (by decide)) H3.out.2
 have o8:Hid (qK w0.heap.size w w3 v1 n1 (xs++Rc.bA (Rc.aQ js.length++(js.take 0).flatMap (Ex.fact kl gv)))):=by
  have h1:=H1.out.1
  refine⟨by simpa using ae h1.own H3.out.2,h1.aZ.trans (H3.out.2.mono a8.size),aP h1.D5 (bS H3.out.2)⟩
 have ah8:(Rc.aQ js.length).length≤10:=iD (by omega)
 have F3:Hid (w3.ownsRow 0 119 3 (.slice xd js.length xc) js.length (aM (js.map fun j=>Tb.ev (be j).2))):=aG H3.out.1 (Nat.zero_le _)
 clear H1 vv TL HAN CE HGB Hv ze H3 LG mw a8
 go_loopw [1,38] (fun b i wr=>∃(k m:Nat),k≤js.length∧i=.int .i64 k∧qK w0.heap.size w wr b m (xs++Rc.bA (Rc.aQ js.length++(js.take k).flatMap (Ex.fact kl gv)))∧Lib.OthersKept 5 none w3 wr) (fun _ i _=>js.length-(intOf i).toNat)
 case atStart=>exact⟨0,n1,Nat.zero_le _,rfl,o8.out,Lib.OthersKept.refl _ _ _⟩
 case round=>
  obtain⟨k,m,hk,rfl,l8,sU⟩:=hrel
  obtain⟨ad,ac,LO⟩:=ah l8.own
  subst LO
  clear o8
  have Qr:m≤10000100000:=by
   have h1:=l8.len
   have h2:=jX (Ex.fact kl gv) 100 (js.take k) (fun x _=>vS kl gv x)
   rw[List.length_append,Rc.bB,List.length_append]at h1
   rw[List.length_take]at h2
   omega
  have o8:Hid (qK w0.heap.size w wr (.slice ad m ac) m (xs++Rc.bA (Rc.aQ js.length++(js.take k).flatMap (Ex.fact kl gv)))):=l8
  have HO:Hid (Lib.OthersKept 5 none w3 wr):=sU
  clear l8 sU
  obtain⟨wA,rfl⟩:∃x,x=wr:=⟨_,rfl⟩
  by_cases aE:k<js.length
  · have bQ:=bJ F3.out HO.out (by decide)
    obtain⟨g3,rfl,nL,uY,mA⟩:=aD bQ (by omega)
    have h3:pZ (js.map fun j=>Tb.ev (be j).2):=fun r hr=>by
     obtain⟨j,_,rfl⟩:=List.mem_map.1 hr
     rfl
    obtain⟨r0,r1,r2⟩:=jZ h3 (k:=k) (by simpa using aE) (a:=Tb.eh (be js[k]).2 0) (b:=Tb.eh (be js[k]).2 1) (c:=Tb.eh (be js[k]).2 2) (by rw[List.getElem_map];rfl)
    have z0:=mA _ _ r0
    have z1:=mA _ _ r1
    have z2:=mA _ _ r2
    have Um:js[k]∈cW (En.ak (En.aj kl) gv) pn:=by rw[HJS.out];exact List.getElem_mem aE
    obtain⟨yP,hHj,PM⟩:=gJ.1 Um
    have fS:Hid (xs++Rc.bA (Rc.aQ js.length++(js.take (k+1)).flatMap (Ex.fact kl gv))=xs++Rc.bA (Rc.aQ js.length++(js.take k).flatMap (Ex.fact kl gv))++Rc.bA (Ex.fact kl gv js[k])):=by
     have e0:js.take (k+1)=js.take k++[js[k]]:=by rw[List.take_add_one,List.getElem?_eq_getElem aE];rfl
     have e1:xs++Rc.bA (Rc.aQ js.length++(js.take (k+1)).flatMap (Ex.fact kl gv))=xs++Rc.bA (Rc.aQ js.length++(js.take k).flatMap (Ex.fact kl gv))++Rc.bA (Ex.fact kl gv js[k]):=by
      rw[e0,List.flatMap_append]
      simp[Rc.eU]
     exact e1
    have WD:(be js[k]).2.length=pp:=by
     have h4:=kL yP
     rw[PM]at h4
     exact tZ h4 (oH HP.out)
    have Gr:Hid (∀x,x∈(be js[k]).2→(Ex.jC (En.ak (En.aj kl) gv))[Ex.place (En.ak (En.aj kl) gv) x]?=some x):=fun x hx=>Ex.Dp _ HP.out Um hx
    obtain⟨wR,ZM⟩:∃wR,wR=wA.alloc (.cells #[.string (Tb.eh (be js[k]).2 0),.string (Tb.eh (be js[k]).2 1),.string (Tb.eh (be js[k]).2 2)] 119):=⟨_,rfl⟩
    have Pk:Below wA.heap.size wA wR:=by rw[ZM];exact(Below.refl _ _).alloc (Nat.le_refl _) _
    have hgR:wR.heap[wA.heap.size]?=some (.cells #[.string (Tb.eh (be js[k]).2 0),.string (Tb.eh (be js[k]).2 1),.string (Tb.eh (be js[k]).2 2)] 119 (0,0)):=by rw[ZM];exact heap_alloc_new wA _
    have W5:w0.heap.size≤wA.heap.size:=by have:=o8.out.aZ.size;have:=HB.out.size;omega
    have Yy:Below w0.heap.size w0 wA:=HB.out.trans o8.out.aZ
    have HR0:Hid (∀W,Below wR.heap.size wR W→Below w0.heap.size w0 W):=fun W hW=>(Yy.trans (Pk.mono W5)).trans (hW.mono (Nat.le_trans W5 Pk.size))
    have HPA:wR.heap[w.heap.size+1]?=some (.cells #[.string pn,.int .i64 (pp:Nat)] 112 (0,0)):=by
     have h8:=HO.out _ _ HPB.out (by simp) (fun c fz e=>by simp at e)
     rw[Pk.block _ (lt_of_heap h8)]
     exact h8
    have Cu:Hid (wR.ownsRow 0 9 1 (.slice nd nl nc) nl (strCells (Ex.jC (En.ak (En.aj kl) gv)))):=ae (bJ ZH.out HO.out (by decide)) Pk
    have Qh:Hid (qK w0.heap.size w wR (.slice ad m ac) m (xs++Rc.bA (Rc.aQ js.length++(js.take k).flatMap (Ex.fact kl gv)))∧Lib.OthersKept 5 none w3 wR):=⟨⟨ae o8.out.own Pk,o8.out.aZ.trans (Pk.mono W5),aP o8.out.D5 (bS Pk)⟩,aP HO.out (bS Pk)⟩
    have HFJ:Hid (Ex.fact kl gv js[k]=Rc.aQ (if gv js[k]=true then 1 else 0)++Rc.aQ (Gc kl gv js[k])++(be js[k]).2.flatMap fun x=>Rc.aQ (Ex.place (En.ak (En.aj kl) gv) x)):=(rfl:Ex.fact kl gv js[k]=_)
    have EC:=G9 kl gv js[k]
    have HHS:Hid (∀W,Below wR.heap.size wR W→Calls Tryz.prog 42 #[.pointer (some ⟨tg,0,none⟩),.agg #[.string (Tb.eh (be js[k]).2 0),.string (Tb.eh (be js[k]).2 1),.string (Tb.eh (be js[k]).2 2)]] W fun e w'=>e=.returned (.bool (gv js[k]))∧Below wR.heap.size wR w'):=by
     intro W hW
     have h9:=HG.out.has W (HR0.out W hW) js[k] yP PM
     rw[oO]at h9
     refine h9.mono ?_
     rintro e w' ⟨rfl,hb⟩
     exact⟨rfl,hW.trans (hb.mono hW.size)⟩
    have PV:Hid (∀W,Below w0.heap.size w0 W→Calls Tryz.prog 43 #[.pointer (some ⟨ug,0,none⟩),.agg #[.string (Tb.eh (be js[k]).2 0),.string (Tb.eh (be js[k]).2 1),.string (Tb.eh (be js[k]).2 2)]] W fun e w'=>e=.returned (.int .i64 (Gc kl gv js[k]:Nat))∧Below W.heap.size W w'):=by
     intro W hW
     have h9:=HA.out.count W hW js[k] Um
     rw[oO]at h9
     exact h9
    have TQ:Hid (∀(x:Nat) u,(strCells (be js[k]).2)[x]?=some u→[Value.string (Tb.eh (be js[k]).2 0),.string (Tb.eh (be js[k]).2 1),.string (Tb.eh (be js[k]).2 2)][x]?=some u):=fun x u hu=>Hu (by omega) hu
    generalize Ex.fact kl gv js[k]=fj at*
    generalize Tb.eh (be js[k]).2 0=x0 at*
    generalize Tb.eh (be js[k]).2 1=x1 at*
    generalize Tb.eh (be js[k]).2 2=x2 at*
    generalize (be js[k]).2=dl at*
    generalize Gc kl gv js[k]=cj at*
    generalize gv js[k]=gj at*
    generalize jj:xs++Rc.bA (Rc.aQ js.length++(js.take k).flatMap (Ex.fact kl gv))=base at Qh fS
    have fl:base.length=m:=Qh.out.1.len
    obtain⟨fn,Cv⟩:∃fn:Nat,fn=if gj=true then 1 else 0:=⟨_,rfl⟩
    rw[←Cv]at HFJ
    have acL:fn≤1:=by rw[Cv];split<;>omega
    have PF:Hid (∀W,Calls Tryz.prog 137 #[.bool gj] W fun e w'=>e=.returned (.int .i64 (fn:Nat))∧w'=W):=by
     intro W
     refine(O6 gj W).mono ?_
     rintro e w' ⟨rfl,rfl⟩
     refine⟨?_,rfl⟩
     rw[Cv]
     cases gj<;>rfl
    have YH:Hid (LD w0.heap.size wR wR wA.heap.size (w.heap.size+1) x0 x1 x2 pn pp):=⟨hgR,HPA,Lib.OthersKept.refl _ _ _,Below.refl _ _⟩
    have WS:Hid (∀W,Below wR.heap.size wR W→Calls Tryz.prog 78 #[.slice ad m ac,.int .i64 (fn:Nat)] W fun e w'=>∃v2 n2,e=.returned v2∧Hid (qK w0.heap.size w w' v2 n2 (base++Rc.bA (Rc.aQ fn))∧LD w0.heap.size wR w' wA.heap.size (w.heap.size+1) x0 x1 x2 pn pp)):=by
     intro W hW
     have YG:w0.heap.size≤W.heap.size:=Nat.le_trans (Nat.le_trans W5 Pk.size) hW.size
     have LH:Below w0.heap.size wR W:=hW.mono (Nat.le_trans W5 Pk.size)
     refine(dH w0.heap.size W (.slice ad m ac) m base fn (ae Qh.out.1.own hW) YG (by omega) (by omega)).mono ?_
     rintro e w' ⟨v2,n2,rfl,q1,q2,q3⟩
     exact⟨v2,n2,rfl,⟨q1,(Qh.out.1.aZ.trans LH).trans q2,aP (aP Qh.out.1.D5 (bS hW)) q3⟩,(YH.out.next (bS hW) LH).next q3 q2⟩
    have s0:wR.cell? ⟨wA.heap.size,0,none⟩=some (.string x0):=YH.out.cells.1
    have s1:wR.cell? ⟨wA.heap.size,1,none⟩=some (.string x1):=YH.out.cells.2.1
    have s2:wR.cell? ⟨wA.heap.size,2,none⟩=some (.string x2):=YH.out.cells.2.2.1
    have ajQ:tg<wR.heap.size:=Nat.lt_of_lt_of_le HG.out.lt (HR0.out wR (Below.refl _ _)).size
    have WI:Hid (∀W,Below wR.heap.size wR W→Calls Tryz.prog 42 #[.pointer (some ⟨tg,0,none⟩),.agg #[.string x0,.string x1,.string x2]] W fun e w'=>e=.returned (.bool gj)∧Below wR.heap.size wR w'∧w'.cell? ⟨wA.heap.size,0,none⟩=some (.string x0)∧w'.cell? ⟨wA.heap.size,1,none⟩=some (.string x1)∧w'.cell? ⟨wA.heap.size,2,none⟩=some (.string x2)):=by
     intro W hW
     refine(HHS.out W hW).mono ?_
     rintro e w' ⟨rfl,hb⟩
     exact⟨rfl,hb,by rw[hb.cell (block_lt_of_cell s0)];exact s0,by rw[hb.cell (block_lt_of_cell s1)];exact s1,by rw[hb.cell (block_lt_of_cell s2)];exact s2⟩
    have Tf:Hid (∀W,Below wR.heap.size wR W→Calls Tryz.prog 137 #[.bool gj] W fun e w'=>e=.returned (.int .i64 (fn:Nat))∧Below wR.heap.size wR w'∧w'.cell? ⟨wA.heap.size,0,none⟩=some (.string x0)∧w'.cell? ⟨wA.heap.size,1,none⟩=some (.string x1)∧w'.cell? ⟨wA.heap.size,2,none⟩=some (.string x2)):=by
     intro W hb
     refine(PF.out W).mono ?_
     rintro e w' ⟨rfl,rfl⟩
     exact⟨rfl,hb,by rw[hb.cell (block_lt_of_cell s0)];exact s0,by rw[hb.cell (block_lt_of_cell s1)];exact s1,by rw[hb.cell (block_lt_of_cell s2)];exact s2⟩
    have uV:Hid (Below wR.heap.size wR wR):=Below.refl _ _
    have acZ:Hid (Lib.OthersKept 5 none w3 wR):=Qh.out.2
    have sM:Hid (Below wR.heap.size wR wR.drew):=(Below.refl _ _).drew
    clear Cv
    clear bQ mA h3 r0 r1 r2 HHS jj hgR Pk Um hHj PM yP o8 HO Yy
    go_upto_region 6 with fail
    rw[←ZM]
    clear ZM z0 z1 z2
    go_cut [1,38]from 38 to 73 (fun v2 iv wx=>iv=.int .i64 k∧∃n2,Hid (qK w0.heap.size w wx v2 n2 (base++Rc.bA (Rc.aQ fn))∧LD w0.heap.size wR wx wA.heap.size (w.heap.size+1) x0 x1 x2 pn pp))
    case first=>
     go_region_held3 (fun W=>W.cell? ⟨wA.heap.size,0,none⟩=some (.string x0)∧W.cell? ⟨wA.heap.size,1,none⟩=some (.string x1)∧W.cell? ⟨wA.heap.size,2,none⟩=some (.string x2)) (go_keep) (first | (go_at_call 42;refine(WI.out _ (by first | exact sM.out | exact uV.out | assumption)).mono ?_;rintro e wn ⟨rfl,Z7,k0,k1,k2⟩) | (go_at_call 137;refine(Tf.out _ (by assumption)).mono ?_;rintro e wf ⟨rfl,hbf,f0,f1,f2⟩) | (go_at_call 78;refine(WS.out _ (by assumption)).mono ?_;rintro e w9 ⟨v2,n2,rfl,H9⟩;obtain⟨j0,j1,j2,_,_,_⟩:=H9.out.2.cells))
     all_goals
      (go_wp2_with fail
       go_meet
       exact⟨rfl,n2,H9⟩)
    case rest=>
     obtain⟨hiv,n2,H2⟩:=ko
     subst hiv
     obtain⟨bd,bc,bL⟩:=ah H2.out.1.own
     subst bL
     obtain⟨c0,c1,c2,c3,crl,cpl⟩:=H2.out.2.cells
     have aiU:(Rc.aQ fn).length≤10:=iD (by omega)
     have ahp:(Rc.aQ cj).length≤10:=iD EC
     have BI:n2≤10000200000:=by
      have h1:=H2.out.1.len
      rw[List.length_append,Rc.bB]at h1
      omega
     have Gu:Below w0.heap.size w0 wc:=HB.out.trans H2.out.1.aZ
     have ahT:ug<wc.heap.size:=Nat.lt_of_lt_of_le HA.out.lt Gu.size
     have hsc:w0.heap.size≤wc.heap.size:=Gu.size
     have Wk:Hid (Calls Tryz.prog 43 #[.pointer (some ⟨ug,0,none⟩),.agg #[.string x0,.string x1,.string x2]] wc fun e w4=>e=.returned (.int .i64 (cj:Nat))∧Hid (Below wc.heap.size wc w4)):=(PV.out wc Gu).mono (fun e w' ⟨a,b⟩=>⟨a,b⟩)
     have Tu:Hid (∀W,Below wc.heap.size wc W→Calls Tryz.prog 78 #[.slice bd n2 bc,.int .i64 (cj:Nat)] W fun e w'=>∃v3 n3,e=.returned v3∧w'.cell? ⟨w.heap.size+1,1,none⟩=some (.int .i64 (pp:Nat))∧wA.heap.size<w'.heap.size∧w.heap.size+1<w'.heap.size∧Hid (qK w0.heap.size w w' v3 n3 (base++Rc.bA (Rc.aQ fn)++Rc.bA (Rc.aQ cj))∧LD w0.heap.size wR w' wA.heap.size (w.heap.size+1) x0 x1 x2 pn pp)):=by
      intro W hW
      have YG:w0.heap.size≤W.heap.size:=Nat.le_trans hsc hW.size
      have LH:Below w0.heap.size wc W:=hW.mono hsc
      refine(dH w0.heap.size W (.slice bd n2 bc) n2 _ cj (ae H2.out.1.own hW) YG (by omega) (by omega)).mono ?_
      rintro e w' ⟨v3,n3,rfl,q1,q2,q3⟩
      have hAf:=(H2.out.2.next (bS hW) LH).next q3 q2
      obtain⟨_,_,_,y3,yr,yp⟩:=hAf.cells
      exact⟨v3,n3,rfl,y3,yr,yp,⟨q1,(H2.out.1.aZ.trans LH).trans q2,aP (aP H2.out.1.D5 (bS hW)) q3⟩,hAf⟩
     have b1:(0:Int)≤(pp:Int):=by omega
     have b2:(pp:Int)≤3:=by omega
     clear PV WS WI PF Tf YH uV sM s0 s1 s2 Qh
     go_wp2_with (first | (go_at_call 43;refine Wk.out.mono ?_;rintro e w4 ⟨rfl,HB4⟩) | (go_at_call 78;refine(Tu.out _ HB4.out).mono ?_;rintro e w5 ⟨v3,n3,rfl,d3,dr,dp,H5⟩))
     generalize G7:base++Rc.bA (Rc.aQ fn)++Rc.bA (Rc.aQ cj)=qV at H5
     have D3:Hid (base++Rc.bA (Rc.aQ fn)++Rc.bA (Rc.aQ cj)=qV):=G7
     have YZ:qV.length≤10000300000:=by
      rw[←G7,List.length_append,List.length_append,Rc.bB,Rc.bB]
      omega
     clear Wk Tu HB4 c0 c1 c2 c3 G7 H2
     go_loopw [1,59] (fun b i w6=>∃(q m6:Nat),q≤pp∧i=.int .i64 q∧qK w0.heap.size w w6 b m6 (qV++Rc.bA ((dl.take q).flatMap fun x=>Rc.aQ (Ex.place (En.ak (En.aj kl) gv) x)))∧LD w0.heap.size wR w6 wA.heap.size (w.heap.size+1) x0 x1 x2 pn pp) (fun _ i _=>pp-(intOf i).toNat)
     case atStart=>exact⟨0,n3,Nat.zero_le _,rfl,by simpa [Rc.bA]using H5.out.1,H5.out.2⟩
     case round=>
      obtain⟨q,m6,hq,rfl,Pf,JO⟩:=hrel
      obtain⟨ed,ec,he0⟩:=ah Pf.own
      subst he0
      have EK:Hid (qK w0.heap.size w wr (.slice ed m6 ec) m6 (qV++Rc.bA ((dl.take q).flatMap fun x=>Rc.aQ (Ex.place (En.ak (En.aj kl) gv) x)))∧LD w0.heap.size wR wr wA.heap.size (w.heap.size+1) x0 x1 x2 pn pp):=⟨Pf,JO⟩
      clear H5
      by_cases mP:q<pp
      · have hqd:q<dl.length:=by omega
        have ca:wr.cell? ⟨wA.heap.size,q,none⟩=some (.string dl[q]):=by
         rw[cell_of_row _ _ _ _ _ _ JO.row]
         have h9:=TQ.out q (.string dl[q]) (by rw[strCells,List.getElem?_map,List.getElem?_eq_getElem hqd];rfl)
         simpa using h9
        have har:=lt_of_heap JO.row
        have hm6:m6≤10000400000:=by
         have h1:=Pf.len
         have h2:=jX (fun x=>Rc.aQ (Ex.place (En.ak (En.aj kl) gv) x)) 10 (dl.take q) (fun x _=>iD (Nat.le_trans (xu _ _) (by decide)))
         rw[List.length_append,Rc.bB]at h1
         rw[List.length_take]at h2
         omega
        have HNY:Hid (qV++Rc.bA ((dl.take (q+1)).flatMap fun x=>Rc.aQ (Ex.place (En.ak (En.aj kl) gv) x))=qV++Rc.bA ((dl.take q).flatMap fun x=>Rc.aQ (Ex.place (En.ak (En.aj kl) gv) x))++Rc.bA (Rc.aQ (Ex.place (En.ak (En.aj kl) gv) dl[q]))):=by
         have e0:dl.take (q+1)=dl.take q++[dl[q]]:=by rw[List.take_add_one,List.getElem?_eq_getElem hqd];rfl
         have e1:qV++Rc.bA ((dl.take (q+1)).flatMap fun x=>Rc.aQ (Ex.place (En.ak (En.aj kl) gv) x))=qV++Rc.bA ((dl.take q).flatMap fun x=>Rc.aQ (Ex.place (En.ak (En.aj kl) gv) x))++Rc.bA (Rc.aQ (Ex.place (En.ak (En.aj kl) gv) dl[q])):=by
          rw[e0,List.flatMap_append]
          simp[Rc.eU]
         exact e1
        have Zu:=Gr.out _ (List.getElem_mem hqd)
        have Km:=xu (En.ak (En.aj kl) gv) dl[q]
        have HBS:Hid (Calls Tryz.prog 138 #[.slice nd nl nc,.string dl[q]] wr fun e w7=>e=.returned (.tuple #[.int .i64 (Ex.place (En.ak (En.aj kl) gv) dl[q]:Nat),.bool true])∧Hid (Below wr.heap.size wr w7)):=(UC wr 0 nd nl nc _ dl[q] _ (bJ Cu.out JO.D5 (by decide)) X7 (Ex.GU _) Zu (by omega)).mono (fun e w' ⟨a,b⟩=>⟨a,b⟩)
        generalize Ex.place (En.ak (En.aj kl) gv) dl[q]=pk at HBS HNY Km
        have HA7:Hid (∀W,Below wr.heap.size wr W→Calls Tryz.prog 78 #[.slice ed m6 ec,.int .i64 (pk:Nat)] W fun e w'=>∃v7 n7,e=.returned v7∧Hid (qK w0.heap.size w w' v7 n7 (qV++Rc.bA ((dl.take (q+1)).flatMap fun x=>Rc.aQ (Ex.place (En.ak (En.aj kl) gv) x)))∧LD w0.heap.size wR w' wA.heap.size (w.heap.size+1) x0 x1 x2 pn pp)):=by
         intro W hW
         have Wx:w0.heap.size≤wr.heap.size:=(HB.out.trans EK.out.1.aZ).size
         have YG:w0.heap.size≤W.heap.size:=Nat.le_trans Wx hW.size
         have LH:Below w0.heap.size wr W:=hW.mono Wx
         refine(dH w0.heap.size W (.slice ed m6 ec) m6 _ pk (ae EK.out.1.own hW) YG (by omega) (by omega)).mono ?_
         rintro e w' ⟨v7,n7,rfl,q1,q2,q3⟩
         rw[HNY.out]
         exact⟨v7,n7,rfl,⟨q1,(EK.out.1.aZ.trans LH).trans q2,aP (aP EK.out.1.D5 (bS hW)) q3⟩,(EK.out.2.next (bS hW) LH).next q3 q2⟩
        generalize dl[q]=y at ca HBS
        clear Pf JO Zu HNY
        go_wp2_with (first | (go_at_call 138;refine HBS.out.mono ?_;rintro e w7 ⟨rfl,HB7⟩) | (go_at_call 78;refine(HA7.out _ HB7.out).mono ?_;rintro e w8 ⟨v7,n7,rfl,H8⟩))
        go_roundw
        case rel=>exact⟨q+1,n7,mP,by go_num,H8.out.1,H8.out.2⟩
        case measure=>simp[intOf];omega
      · have HE:Hid (qK w0.heap.size w wr (.slice ed m6 ec) m6 (xs++Rc.bA (Rc.aQ js.length++(js.take (k+1)).flatMap (Ex.fact kl gv)))∧Lib.OthersKept 5 none w3 wr):=by
         have h1:=EK.out.1
         have e0:dl.take q=dl:=List.take_of_length_le (by omega)
         rw[e0,←D3.out]at h1
         refine⟨?_,aP acZ.out EK.out.2.D5⟩
         rw[fS.out,HFJ.out,Rc.eU,Rc.eU,←List.append_assoc,←List.append_assoc]
         exact h1
        clear Pf JO EK
        go_wp2_with fail
        go_roundw
        case rel=>exact⟨k+1,m6,aE,by go_num,HE.out.1,HE.out.2⟩
        case measure=>simp[intOf];omega
  · have HE:Hid (qK w0.heap.size w wA (.slice ad m ac) m (xs++Rc.bA (Ex.facts kl gv pn))):=by
     have h1:=o8.out
     have e0:js.take k=js:=List.take_of_length_le (by omega)
     rw[e0]at h1
     have e1:Ex.facts kl gv pn=Rc.aQ js.length++js.flatMap (Ex.fact kl gv):=by unfold Ex.facts;rw[HJS.out]
     rw[e1]
     exact h1
    clear o8 HO
    go_wp2_with fail
    go_ret
    exact⟨_,m,rfl,HE.out⟩
end
end Go.Proofs.YtdmicblafmhflaaGreatDoor
