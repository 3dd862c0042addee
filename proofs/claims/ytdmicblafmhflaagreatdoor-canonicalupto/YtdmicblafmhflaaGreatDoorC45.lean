/- state.State.appendFacts, walked. -/
import Derived.Test.YtdmicblafmhflaaGreatDoorC44
set_option linter.unusedSimpArgs false
set_option linter.unusedVariables false
namespace Go.Proofs.YtdmicblafmhflaaGreatDoor
open Go.Shelf Go.RowKit Go.Maps
theorem instN_le (r : En.NRule) (H : Nat → Bool) : (En.instN r H).length ≤ 64 := by
 unfold En.instN En.okH En.vs
 rw [List.length_map]
 refine Nat.le_trans (List.length_filter_le _ _) (Nat.le_trans (List.length_filter_le _ _) (by simp))
theorem cnN_le (kl : List Ax.KRule) (gv : Nat → Bool) (i : Nat) : cnN kl gv i ≤ 1000 := by
 have h1 : ∀ R : List En.NRule, (R.map fun r => En.countN (En.instN r (En.leastN (En.nRules kl) gv)) i).sum ≤ 64 * R.length := by
  intro R
  induction R with
  | nil => simp
  | cons r R ih =>
   rw [List.map_cons, List.sum_cons, List.length_cons]
   have h2 : En.countN (En.instN r (En.leastN (En.nRules kl) gv)) i ≤ 64 := Nat.le_trans List.count_le_length (instN_le _ _)
   omega
 have h3 : (En.nRules kl).length ≤ 6 := by
  unfold En.nRules
  rw [List.length_map, List.length_take]
  omega
 have h4 := h1 (En.nRules kl)
 unfold cnN
 split <;> split <;> omega
theorem holdP_le (H : Nat → Bool) (p : ByteArray) : (holdP H p).length ≤ 36 := by
 unfold holdP
 exact Nat.le_trans (List.length_filter_le _ _) (by simp)
theorem place_le (H : Nat → Bool) (x : ByteArray) : Ex.place H x ≤ 324 := Nat.le_trans List.findIdx_le_length (Ex.nms_len H)
theorem flat_le {α : Type} (f : α → List UInt8) (b : Nat) : ∀ l : List α, (∀ x, x ∈ l → (f x).length ≤ b) → (l.flatMap f).length ≤ b * l.length
 | [], _ => by simp
 | a :: l, h => by
  rw [List.flatMap_cons, List.length_append, List.length_cons, Nat.mul_succ]
  have h1 := h a (by simp)
  have h2 := flat_le f b l (fun x hx => h x (by simp [hx]))
  omega
theorem num_le {n : Nat} (h : n ≤ 1000) : (Rc.numB n).length ≤ 10 := Rc.numB_len 10 n (by
 have : (128 : Nat) ^ 10 = 1180591620717411303424 := by decide
 omega) (by decide)
theorem fact_le (kl : List Ax.KRule) (gv : Nat → Bool) (j : Nat) : (Ex.fact kl gv j).length ≤ 100 := by
 unfold Ex.fact
 rw [List.length_append, List.length_append]
 have h1 : (Rc.numB (if gv j = true then 1 else 0)).length ≤ 10 := num_le (by split <;> omega)
 have h2 := num_le (cnN_le kl gv j)
 have h3 := flat_le (fun x => Rc.numB (Ex.place (En.leastN (En.nRules kl) gv) x)) 10 (dat j).2 (fun x _ => num_le (Nat.le_trans (place_le _ _) (by decide)))
 have h4 := dat_len j
 omega
structure AfW (B : Nat) (wR w' : World) (rb pb : Nat) (x0 x1 x2 : ByteArray) (pn : ByteArray) (pp : Nat) : Prop where
 row : w'.heap[rb]? = some (.cells #[.string x0, .string x1, .string x2] 119 (0, 0))
 prd : w'.heap[pb]? = some (.cells #[.string pn, .int .i64 (pp : Nat)] 112 (0, 0))
 oth : Lib.OthersKept 5 none wR w'
 bel : Below B wR w'
theorem AfW.next {B : Nat} {wR w1 w2 : World} {rb pb : Nat} {x0 x1 x2 pn : ByteArray} {pp : Nat} (h : AfW B wR w1 rb pb x0 x1 x2 pn pp) (ho : Lib.OthersKept 5 none w1 w2) (hb : Below B w1 w2) : AfW B wR w2 rb pb x0 x1 x2 pn pp :=
 ⟨ho _ _ h.row (by simp) (fun c fz e => by simp at e), ho _ _ h.prd (by simp) (fun c fz e => by simp at e), OthersKept_trans h.oth ho, h.bel.trans hb⟩
theorem AfW.cells {B : Nat} {wR w1 : World} {rb pb : Nat} {x0 x1 x2 pn : ByteArray} {pp : Nat} (h : AfW B wR w1 rb pb x0 x1 x2 pn pp) : w1.cell? ⟨rb, 0, none⟩ = some (.string x0) ∧ w1.cell? ⟨rb, 1, none⟩ = some (.string x1) ∧ w1.cell? ⟨rb, 2, none⟩ = some (.string x2) ∧ w1.cell? ⟨pb, 1, none⟩ = some (.int .i64 (pp : Nat)) ∧ rb < w1.heap.size ∧ pb < w1.heap.size :=
 ⟨by rw [cell_of_row _ _ _ _ _ _ h.row]; rfl, by rw [cell_of_row _ _ _ _ _ _ h.row]; rfl, by rw [cell_of_row _ _ _ _ _ _ h.row]; rfl, by rw [cell_of_row _ _ _ _ _ _ h.prd]; rfl, lt_of_heap h.row, lt_of_heap h.prd⟩
set_option maxRecDepth 100000 in
set_option maxHeartbeats 4000000 in
theorem sFacts_any (w0 : World) (kl : List Ax.KRule) (gv : Nat → Bool) (rd : Option Addr) (rn rc gm hm : Nat) (hd : List UInt8) (hS : StA w0 kl gv (.slice rd rn rc) gm hm) (w : World) (hb : Below w0.heap.size w0 w) (v : Value) (n : Nat) (xs : List Value) (hown : w.ownsRow w0.heap.size 5 1 v n xs) (hn : n ≤ 10000000000) (pn : ByteArray) (pp : Nat) (hp : (pn, pp) ∈ gQ) (nd : Option Addr) (nl nc : Nat) (hnm : w.ownsRow 0 9 1 (.slice nd nl nc) nl (strCells (Ex.nms (En.leastN (En.nRules kl) gv)))) :
 Calls Tryz.prog 79 #[.agg (stCells (Ax.gtext kl) (.slice rd rn rc) gm hm hd), v, .agg #[.string pn, .int .i64 (pp : Nat)], .slice nd nl nc] w fun e w' => ∃ v' n', e = .returned v' ∧ BOn w0.heap.size w w' v' n' (xs ++ Rc.u8s (Ex.facts kl gv pn)) := by
 have hxl : xs.length = n := by have := hown.1; omega
 obtain ⟨vd, vc, hv0⟩ := ownsRow_shape hown
 subst hv0
 have hnll : (Ex.nms (En.leastN (En.nRules kl) gv)).length = nl := by have := hnm.1; simp [strCells] at this; omega
 have hnl9 : nl ≤ 324 := by rw [← hnll]; exact Ex.nms_len _
 obtain ⟨ug, hA⟩ := hS.hol _ hp
 obtain ⟨tg, hG⟩ := hS.giv _ hp
 simp only at hA hG
 have hpp : pp ≤ 2 ∧ 1 ≤ pp := by
  have : ∀ q, q ∈ gQ → q.2 ≤ 2 ∧ 1 ≤ q.2 := by unfold gQ; decide
  exact this _ hp
 obtain ⟨cs, hcs⟩ : ∃ cs, cs = stCells (Ax.gtext kl) (.slice rd rn rc) gm hm hd := ⟨_, rfl⟩
 obtain ⟨wB, hwB⟩ : ∃ wB, wB = (w.alloc (.cells cs 107)).alloc (.cells #[.string pn, .int .i64 (pp : Nat)] 112) := ⟨_, rfl⟩
 have hbB : Below w.heap.size w wB := by rw [hwB]; exact ((Below.refl _ _).alloc (Nat.le_refl _) _).alloc (by simp) _
 have hgA : wB.heap[w.heap.size]? = some (.cells cs 107 (0, 0)) := by rw [hwB, Below.heap_alloc _ _ _ (by simp)]; exact heap_alloc_new w _
 have hgB : wB.heap[w.heap.size + 1]? = some (.cells #[.string pn, .int .i64 (pp : Nat)] 112 (0, 0)) := by rw [hwB]; exact new2 w _ _
 have t2 : wB.cell? ⟨w.heap.size, 2, none⟩ = some (.map (some gm)) := by rw [cell_of_row _ _ _ _ _ _ hgA, hcs]; rfl
 have t3 : wB.cell? ⟨w.heap.size, 3, none⟩ = some (.map (some hm)) := by rw [cell_of_row _ _ _ _ _ _ hgA, hcs]; rfl
 have t4 : wB.cell? ⟨w.heap.size + 1, 0, none⟩ = some (.string pn) := by rw [cell_of_row _ _ _ _ _ _ hgB]; rfl
 have hB0 : w0.heap.size ≤ w.heap.size := hb.size
 have hbw : Below w0.heap.size w0 wB := hb.trans (hbB.mono hB0)
 have l1 := hG.look wB.drew hbw.drew
 have l2 := hA.look wB.drew hbw.drew
 have l3 := hG.look wB hbw
 have l4 := hA.look wB hbw
 have HB : Hid (Below w0.heap.size w0 w) := hb
 have HGB : Hid (wB.heap[w.heap.size + 1]? = some (.cells #[.string pn, .int .i64 (pp : Nat)] 112 (0, 0))) := hgB
 have HBW : Hid (BOn w0.heap.size w wB (.slice vd n vc) n xs) := ⟨ownsRow_below hown hbB, hbB.mono hB0, others_below hbB⟩
 have HA : Hid (HolA w0 kl gv hm pn ug) := hA
 have HG : Hid (GivA w0 gv gm pn tg) := hG
 have HNM : Hid (wB.ownsRow 0 9 1 (.slice nd nl nc) nl (strCells (Ex.nms (En.leastN (En.nRules kl) gv)))) := ownsRow_below hnm hbB
 have HP : Hid ((pn, pp) ∈ gQ) := hp
 have hugl : ug < wB.heap.size := Nat.lt_of_lt_of_le hA.lt hbw.size
 have htgl : tg < wB.heap.size := Nat.lt_of_lt_of_le hG.lt hbw.size
 rw [← hcs]
 clear hcs hS hgA hown hnm hA hG hb hbB hgB
 go_enter Tryz.func79, Tryz.ntmps79
 go_upto_region 1 with fail
 rw [← hwB]
 clear hwB
 go_region
 obtain ⟨wC, hwC⟩ : ∃ wC, wC = wB.drew := ⟨_, rfl⟩
 have HBC : Hid (Below wB.heap.size wB wC) := by rw [hwC]; exact (Below.refl _ _).drew
 generalize hjs : holdP (En.leastN (En.nRules kl) gv) pn = js
 have HJS : Hid (holdP (En.leastN (En.nRules kl) gv) pn = js) := hjs
 have hjl : js.length ≤ 36 := by rw [← hjs]; exact holdP_le _ _
 have HLE : Hid (Calls Tryz.prog 136 #[.pointer (some ⟨ug, 0, none⟩)] wC fun e w' => e = .returned (.int .i64 js.length) ∧ w' = wC) := by
  rw [← hjs]
  exact HA.out.len wC (hbw.trans (HBC.out.mono hbw.size))
 have HAN : Hid (Calls Tryz.prog 78 #[.slice vd n vc, .int .i64 js.length] wC fun e w' => ∃ v1 n1, e = .returned v1 ∧ Hid (BOn w0.heap.size w w' v1 n1 (xs ++ Rc.u8s (Rc.numB js.length)) ∧ Lib.OthersKept 5 none wB w')) := by
  have hoC : Lib.OthersKept 5 none wB wC := others_below HBC.out
  have hsC : w0.heap.size ≤ wC.heap.size := Nat.le_trans hbw.size HBC.out.size
  refine (appendNumber_any w0.heap.size wC (.slice vd n vc) n xs js.length (ownsRow_below HBW.out.own HBC.out) hsC (by omega) (by omega)).mono ?_
  rintro e w' ⟨v1, n1, rfl, q1, q2, q3⟩
  exact ⟨v1, n1, rfl, ⟨q1, (HBW.out.bel.trans (HBC.out.mono hbw.size)).trans q2, OthersKept_trans (OthersKept_trans HBW.out.oth hoC) q3⟩, OthersKept_trans hoC q3⟩
 rw [← hwC]
 clear hwC l1 l2 l3 l4 t2 t3 t4
 go_wp2_with (first | (go_at_call 136; refine HLE.out.mono ?_; rintro e w' ⟨rfl, hw⟩; subst hw) | (go_at_call 78; refine HAN.out.mono ?_; rintro e w1 ⟨v1, n1, rfl, H1⟩; have hb1 : Below w0.heap.size w0 w1 := HB.out.trans H1.out.1.bel; have hugl1 : ug < w1.heap.size := Nat.lt_of_lt_of_le HA.out.lt hb1.size; have HRW : Hid (Calls Tryz.prog 133 #[.pointer (some ⟨ug, 0, none⟩)] w1 fun e w3 => ∃ xd xc, e = .returned (.slice xd js.length xc) ∧ Hid (w3.ownsRow w1.heap.size 119 3 (.slice xd js.length xc) js.length (rowCells (js.map fun j => Tb.row3 (dat j).2)) ∧ Below w1.heap.size w1 w3)) := (by have h9 := HA.out.rows w1 hb1; rw [HJS.out] at h9; exact h9.mono (fun e w' ⟨a, b, c, d⟩ => ⟨a, b, c, d⟩))) | (go_at_call 133; refine HRW.out.mono ?_; rintro e w3 ⟨xd, xc, rfl, H3⟩))
 have HPB : Hid (w3.heap[w.heap.size + 1]? = some (.cells #[.string pn, .int .i64 (pp : Nat)] 112 (0, 0))) := by
  have h8 := H1.out.2 _ _ HGB.out (by simp) (fun c fz e => by simp at e)
  have h9 : w3.heap[w.heap.size + 1]? = some (.cells #[.string pn, .int .i64 (pp : Nat)] 112 (0, 0)) := by rw [H3.out.2.block _ (lt_of_heap h8)]; exact h8
  exact h9
 have HN3 : Hid (w3.ownsRow 0 9 1 (.slice nd nl nc) nl (strCells (Ex.nms (En.leastN (En.nRules kl) gv)))) := ownsRow_below (ownsRow_others HNM.out H1.out.2 (by decide)) H3.out.2
 have HON : Hid (BOn w0.heap.size w w3 v1 n1 (xs ++ Rc.u8s (Rc.numB js.length ++ (js.take 0).flatMap (Ex.fact kl gv)))) := by
  have h1 := H1.out.1
  refine ⟨by simpa using ownsRow_below h1.own H3.out.2, h1.bel.trans (H3.out.2.mono hb1.size), OthersKept_trans h1.oth (others_below H3.out.2)⟩
 have hnl1 : (Rc.numB js.length).length ≤ 10 := num_le (by omega)
 have HROW : Hid (w3.ownsRow 0 119 3 (.slice xd js.length xc) js.length (rowCells (js.map fun j => Tb.row3 (dat j).2))) := ownsRow_base H3.out.1 (Nat.zero_le _)
 clear H1 HRW HLE HAN HBW HGB HBC HNM H3 hjs hbw hb1
 go_loopw [1, 38] (fun b i wr => ∃ (k m : Nat), k ≤ js.length ∧ i = .int .i64 k ∧ BOn w0.heap.size w wr b m (xs ++ Rc.u8s (Rc.numB js.length ++ (js.take k).flatMap (Ex.fact kl gv))) ∧ Lib.OthersKept 5 none w3 wr) (fun _ i _ => js.length - (intOf i).toNat)
 case atStart => exact ⟨0, n1, Nat.zero_le _, rfl, HON.out, Lib.OthersKept.refl _ _ _⟩
 case round =>
  obtain ⟨k, m, hk, rfl, hon, hoth⟩ := hrel
  obtain ⟨ad, ac, ha0⟩ := ownsRow_shape hon.own
  subst ha0
  clear HON
  have hml : m ≤ 10000100000 := by
   have h1 := hon.len
   have h2 := flat_le (Ex.fact kl gv) 100 (js.take k) (fun x _ => fact_le kl gv x)
   rw [List.length_append, Rc.u8s_len, List.length_append] at h1
   rw [List.length_take] at h2
   omega
  have HON : Hid (BOn w0.heap.size w wr (.slice ad m ac) m (xs ++ Rc.u8s (Rc.numB js.length ++ (js.take k).flatMap (Ex.fact kl gv)))) := hon
  have HO : Hid (Lib.OthersKept 5 none w3 wr) := hoth
  clear hon hoth
  obtain ⟨wA, rfl⟩ : ∃ x, x = wr := ⟨_, rfl⟩
  by_cases hlt : k < js.length
  · have hrow := ownsRow_others HROW.out HO.out (by decide)
    obtain ⟨g3, rfl, hg3, hc3, hcs3⟩ := row_cells hrow (by omega)
    have h3 : Three (js.map fun j => Tb.row3 (dat j).2) := fun r hr => by
     obtain ⟨j, _, rfl⟩ := List.mem_map.1 hr
     rfl
    obtain ⟨r0, r1, r2⟩ := rowCells_get h3 (k := k) (by simpa using hlt) (a := Tb.at0 (dat js[k]).2 0) (b := Tb.at0 (dat js[k]).2 1) (c := Tb.at0 (dat js[k]).2 2) (by rw [List.getElem_map]; rfl)
    have z0 := hcs3 _ _ r0
    have z1 := hcs3 _ _ r1
    have z2 := hcs3 _ _ r2
    have hjm : js[k] ∈ holdP (En.leastN (En.nRules kl) gv) pn := by rw [HJS.out]; exact List.getElem_mem hlt
    obtain ⟨hj36, hHj, hjp⟩ := mem_holdP.1 hjm
    have HNX : Hid (xs ++ Rc.u8s (Rc.numB js.length ++ (js.take (k + 1)).flatMap (Ex.fact kl gv)) = xs ++ Rc.u8s (Rc.numB js.length ++ (js.take k).flatMap (Ex.fact kl gv)) ++ Rc.u8s (Ex.fact kl gv js[k])) := by
     have e0 : js.take (k + 1) = js.take k ++ [js[k]] := by rw [List.take_add_one, List.getElem?_eq_getElem hlt]; rfl
     have e1 : xs ++ Rc.u8s (Rc.numB js.length ++ (js.take (k + 1)).flatMap (Ex.fact kl gv)) = xs ++ Rc.u8s (Rc.numB js.length ++ (js.take k).flatMap (Ex.fact kl gv)) ++ Rc.u8s (Ex.fact kl gv js[k]) := by
      rw [e0, List.flatMap_append]
      simp [Rc.u8s_app]
     exact e1
    have hdl : (dat js[k]).2.length = pp := by
     have h4 := dat_pr hj36
     rw [hjp] at h4
     exact gPr_pl h4 (gQ_mem HP.out)
    have HPL : Hid (∀ x, x ∈ (dat js[k]).2 → (Ex.nms (En.leastN (En.nRules kl) gv))[Ex.place (En.leastN (En.nRules kl) gv) x]? = some x) := fun x hx => Ex.place_at _ HP.out hjm hx
    obtain ⟨wR, hwR⟩ : ∃ wR, wR = wA.alloc (.cells #[.string (Tb.at0 (dat js[k]).2 0), .string (Tb.at0 (dat js[k]).2 1), .string (Tb.at0 (dat js[k]).2 2)] 119) := ⟨_, rfl⟩
    have hbR : Below wA.heap.size wA wR := by rw [hwR]; exact (Below.refl _ _).alloc (Nat.le_refl _) _
    have hgR : wR.heap[wA.heap.size]? = some (.cells #[.string (Tb.at0 (dat js[k]).2 0), .string (Tb.at0 (dat js[k]).2 1), .string (Tb.at0 (dat js[k]).2 2)] 119 (0, 0)) := by rw [hwR]; exact heap_alloc_new wA _
    have hBA : w0.heap.size ≤ wA.heap.size := by have := HON.out.bel.size; have := HB.out.size; omega
    have hbA0 : Below w0.heap.size w0 wA := HB.out.trans HON.out.bel
    have HR0 : Hid (∀ W, Below wR.heap.size wR W → Below w0.heap.size w0 W) := fun W hW => (hbA0.trans (hbR.mono hBA)).trans (hW.mono (Nat.le_trans hBA hbR.size))
    have HPA : wR.heap[w.heap.size + 1]? = some (.cells #[.string pn, .int .i64 (pp : Nat)] 112 (0, 0)) := by
     have h8 := HO.out _ _ HPB.out (by simp) (fun c fz e => by simp at e)
     rw [hbR.block _ (lt_of_heap h8)]
     exact h8
    have HNR : Hid (wR.ownsRow 0 9 1 (.slice nd nl nc) nl (strCells (Ex.nms (En.leastN (En.nRules kl) gv)))) := ownsRow_below (ownsRow_others HN3.out HO.out (by decide)) hbR
    have HOR : Hid (BOn w0.heap.size w wR (.slice ad m ac) m (xs ++ Rc.u8s (Rc.numB js.length ++ (js.take k).flatMap (Ex.fact kl gv))) ∧ Lib.OthersKept 5 none w3 wR) := ⟨⟨ownsRow_below HON.out.own hbR, HON.out.bel.trans (hbR.mono hBA), OthersKept_trans HON.out.oth (others_below hbR)⟩, OthersKept_trans HO.out (others_below hbR)⟩
    have HFJ : Hid (Ex.fact kl gv js[k] = Rc.numB (if gv js[k] = true then 1 else 0) ++ Rc.numB (cnN kl gv js[k]) ++ (dat js[k]).2.flatMap fun x => Rc.numB (Ex.place (En.leastN (En.nRules kl) gv) x)) := (rfl : Ex.fact kl gv js[k] = _)
    have hcn := cnN_le kl gv js[k]
    have HHS : Hid (∀ W, Below wR.heap.size wR W → Calls Tryz.prog 42 #[.pointer (some ⟨tg, 0, none⟩), .agg #[.string (Tb.at0 (dat js[k]).2 0), .string (Tb.at0 (dat js[k]).2 1), .string (Tb.at0 (dat js[k]).2 2)]] W fun e w' => e = .returned (.bool (gv js[k])) ∧ Below wR.heap.size wR w') := by
     intro W hW
     have h9 := HG.out.has W (HR0.out W hW) js[k] hj36 hjp
     rw [row3V_eq] at h9
     refine h9.mono ?_
     rintro e w' ⟨rfl, hb⟩
     exact ⟨rfl, hW.trans (hb.mono hW.size)⟩
    have HCO : Hid (∀ W, Below w0.heap.size w0 W → Calls Tryz.prog 43 #[.pointer (some ⟨ug, 0, none⟩), .agg #[.string (Tb.at0 (dat js[k]).2 0), .string (Tb.at0 (dat js[k]).2 1), .string (Tb.at0 (dat js[k]).2 2)]] W fun e w' => e = .returned (.int .i64 (cnN kl gv js[k] : Nat)) ∧ Below W.heap.size W w') := by
     intro W hW
     have h9 := HA.out.count W hW js[k] hjm
     rw [row3V_eq] at h9
     exact h9
    have HRG : Hid (∀ (x : Nat) u, (strCells (dat js[k]).2)[x]? = some u → [Value.string (Tb.at0 (dat js[k]).2 0), .string (Tb.at0 (dat js[k]).2 1), .string (Tb.at0 (dat js[k]).2 2)][x]? = some u) := fun x u hu => row_get (by omega) hu
    generalize Ex.fact kl gv js[k] = fj at *
    generalize Tb.at0 (dat js[k]).2 0 = x0 at *
    generalize Tb.at0 (dat js[k]).2 1 = x1 at *
    generalize Tb.at0 (dat js[k]).2 2 = x2 at *
    generalize (dat js[k]).2 = dl at *
    generalize cnN kl gv js[k] = cj at *
    generalize gv js[k] = gj at *
    generalize hbase : xs ++ Rc.u8s (Rc.numB js.length ++ (js.take k).flatMap (Ex.fact kl gv)) = base at HOR HNX
    have hbl : base.length = m := HOR.out.1.len
    obtain ⟨fn, hfn⟩ : ∃ fn : Nat, fn = if gj = true then 1 else 0 := ⟨_, rfl⟩
    rw [← hfn] at HFJ
    have hfn1 : fn ≤ 1 := by rw [hfn]; split <;> omega
    have HFL : Hid (∀ W, Calls Tryz.prog 137 #[.bool gj] W fun e w' => e = .returned (.int .i64 (fn : Nat)) ∧ w' = W) := by
     intro W
     refine (flag_any gj W).mono ?_
     rintro e w' ⟨rfl, rfl⟩
     refine ⟨?_, rfl⟩
     rw [hfn]
     cases gj <;> rfl
    have HAW : Hid (AfW w0.heap.size wR wR wA.heap.size (w.heap.size + 1) x0 x1 x2 pn pp) := ⟨hgR, HPA, Lib.OthersKept.refl _ _ _, Below.refl _ _⟩
    have HA2 : Hid (∀ W, Below wR.heap.size wR W → Calls Tryz.prog 78 #[.slice ad m ac, .int .i64 (fn : Nat)] W fun e w' => ∃ v2 n2, e = .returned v2 ∧ Hid (BOn w0.heap.size w w' v2 n2 (base ++ Rc.u8s (Rc.numB fn)) ∧ AfW w0.heap.size wR w' wA.heap.size (w.heap.size + 1) x0 x1 x2 pn pp)) := by
     intro W hW
     have hsW : w0.heap.size ≤ W.heap.size := Nat.le_trans (Nat.le_trans hBA hbR.size) hW.size
     have hWB : Below w0.heap.size wR W := hW.mono (Nat.le_trans hBA hbR.size)
     refine (appendNumber_any w0.heap.size W (.slice ad m ac) m base fn (ownsRow_below HOR.out.1.own hW) hsW (by omega) (by omega)).mono ?_
     rintro e w' ⟨v2, n2, rfl, q1, q2, q3⟩
     exact ⟨v2, n2, rfl, ⟨q1, (HOR.out.1.bel.trans hWB).trans q2, OthersKept_trans (OthersKept_trans HOR.out.1.oth (others_below hW)) q3⟩, (HAW.out.next (others_below hW) hWB).next q3 q2⟩
    have s0 : wR.cell? ⟨wA.heap.size, 0, none⟩ = some (.string x0) := HAW.out.cells.1
    have s1 : wR.cell? ⟨wA.heap.size, 1, none⟩ = some (.string x1) := HAW.out.cells.2.1
    have s2 : wR.cell? ⟨wA.heap.size, 2, none⟩ = some (.string x2) := HAW.out.cells.2.2.1
    have htgR : tg < wR.heap.size := Nat.lt_of_lt_of_le HG.out.lt (HR0.out wR (Below.refl _ _)).size
    have HH2 : Hid (∀ W, Below wR.heap.size wR W → Calls Tryz.prog 42 #[.pointer (some ⟨tg, 0, none⟩), .agg #[.string x0, .string x1, .string x2]] W fun e w' => e = .returned (.bool gj) ∧ Below wR.heap.size wR w' ∧ w'.cell? ⟨wA.heap.size, 0, none⟩ = some (.string x0) ∧ w'.cell? ⟨wA.heap.size, 1, none⟩ = some (.string x1) ∧ w'.cell? ⟨wA.heap.size, 2, none⟩ = some (.string x2)) := by
     intro W hW
     refine (HHS.out W hW).mono ?_
     rintro e w' ⟨rfl, hb⟩
     exact ⟨rfl, hb, by rw [hb.cell (block_lt_of_cell s0)]; exact s0, by rw [hb.cell (block_lt_of_cell s1)]; exact s1, by rw [hb.cell (block_lt_of_cell s2)]; exact s2⟩
    have HF2 : Hid (∀ W, Below wR.heap.size wR W → Calls Tryz.prog 137 #[.bool gj] W fun e w' => e = .returned (.int .i64 (fn : Nat)) ∧ Below wR.heap.size wR w' ∧ w'.cell? ⟨wA.heap.size, 0, none⟩ = some (.string x0) ∧ w'.cell? ⟨wA.heap.size, 1, none⟩ = some (.string x1) ∧ w'.cell? ⟨wA.heap.size, 2, none⟩ = some (.string x2)) := by
     intro W hb
     refine (HFL.out W).mono ?_
     rintro e w' ⟨rfl, rfl⟩
     exact ⟨rfl, hb, by rw [hb.cell (block_lt_of_cell s0)]; exact s0, by rw [hb.cell (block_lt_of_cell s1)]; exact s1, by rw [hb.cell (block_lt_of_cell s2)]; exact s2⟩
    have HRR : Hid (Below wR.heap.size wR wR) := Below.refl _ _
    have HO3R : Hid (Lib.OthersKept 5 none w3 wR) := HOR.out.2
    have HRD : Hid (Below wR.heap.size wR wR.drew) := (Below.refl _ _).drew
    clear hfn
    clear hrow hcs3 h3 r0 r1 r2 HHS hbase hgR hbR hjm hHj hjp hj36 HON HO hbA0
    go_upto_region 6 with fail
    rw [← hwR]
    clear hwR z0 z1 z2
    go_cut [1, 38] from 38 to 73 (fun v2 iv wx => iv = .int .i64 k ∧ ∃ n2, Hid (BOn w0.heap.size w wx v2 n2 (base ++ Rc.u8s (Rc.numB fn)) ∧ AfW w0.heap.size wR wx wA.heap.size (w.heap.size + 1) x0 x1 x2 pn pp))
    case first =>
     go_region_held3 (fun W => W.cell? ⟨wA.heap.size, 0, none⟩ = some (.string x0) ∧ W.cell? ⟨wA.heap.size, 1, none⟩ = some (.string x1) ∧ W.cell? ⟨wA.heap.size, 2, none⟩ = some (.string x2)) (go_keep) (first | (go_at_call 42; refine (HH2.out _ (by first | exact HRD.out | exact HRR.out | assumption)).mono ?_; rintro e wn ⟨rfl, hbn, k0, k1, k2⟩) | (go_at_call 137; refine (HF2.out _ (by assumption)).mono ?_; rintro e wf ⟨rfl, hbf, f0, f1, f2⟩) | (go_at_call 78; refine (HA2.out _ (by assumption)).mono ?_; rintro e w9 ⟨v2, n2, rfl, H9⟩; obtain ⟨j0, j1, j2, _, _, _⟩ := H9.out.2.cells))
     all_goals
      (go_wp2_with fail
       go_meet
       exact ⟨rfl, n2, H9⟩)
    case rest =>
     obtain ⟨hiv, n2, H2⟩ := hcut
     subst hiv
     obtain ⟨bd, bc, hb0⟩ := ownsRow_shape H2.out.1.own
     subst hb0
     obtain ⟨c0, c1, c2, c3, crl, cpl⟩ := H2.out.2.cells
     have hf10 : (Rc.numB fn).length ≤ 10 := num_le (by omega)
     have hc10 : (Rc.numB cj).length ≤ 10 := num_le hcn
     have hn2 : n2 ≤ 10000200000 := by
      have h1 := H2.out.1.len
      rw [List.length_append, Rc.u8s_len] at h1
      omega
     have hb0c : Below w0.heap.size w0 wc := HB.out.trans H2.out.1.bel
     have hugc : ug < wc.heap.size := Nat.lt_of_lt_of_le HA.out.lt hb0c.size
     have hsc : w0.heap.size ≤ wc.heap.size := hb0c.size
     have HC2 : Hid (Calls Tryz.prog 43 #[.pointer (some ⟨ug, 0, none⟩), .agg #[.string x0, .string x1, .string x2]] wc fun e w4 => e = .returned (.int .i64 (cj : Nat)) ∧ Hid (Below wc.heap.size wc w4)) := (HCO.out wc hb0c).mono (fun e w' ⟨a, b⟩ => ⟨a, b⟩)
     have HA3 : Hid (∀ W, Below wc.heap.size wc W → Calls Tryz.prog 78 #[.slice bd n2 bc, .int .i64 (cj : Nat)] W fun e w' => ∃ v3 n3, e = .returned v3 ∧ w'.cell? ⟨w.heap.size + 1, 1, none⟩ = some (.int .i64 (pp : Nat)) ∧ wA.heap.size < w'.heap.size ∧ w.heap.size + 1 < w'.heap.size ∧ Hid (BOn w0.heap.size w w' v3 n3 (base ++ Rc.u8s (Rc.numB fn) ++ Rc.u8s (Rc.numB cj)) ∧ AfW w0.heap.size wR w' wA.heap.size (w.heap.size + 1) x0 x1 x2 pn pp)) := by
      intro W hW
      have hsW : w0.heap.size ≤ W.heap.size := Nat.le_trans hsc hW.size
      have hWB : Below w0.heap.size wc W := hW.mono hsc
      refine (appendNumber_any w0.heap.size W (.slice bd n2 bc) n2 _ cj (ownsRow_below H2.out.1.own hW) hsW (by omega) (by omega)).mono ?_
      rintro e w' ⟨v3, n3, rfl, q1, q2, q3⟩
      have hAf := (H2.out.2.next (others_below hW) hWB).next q3 q2
      obtain ⟨_, _, _, y3, yr, yp⟩ := hAf.cells
      exact ⟨v3, n3, rfl, y3, yr, yp, ⟨q1, (H2.out.1.bel.trans hWB).trans q2, OthersKept_trans (OthersKept_trans H2.out.1.oth (others_below hW)) q3⟩, hAf⟩
     have b1 : (0 : Int) ≤ (pp : Int) := by omega
     have b2 : (pp : Int) ≤ 3 := by omega
     clear HCO HA2 HH2 HFL HF2 HAW HRR HRD s0 s1 s2 HOR
     go_wp2_with (first | (go_at_call 43; refine HC2.out.mono ?_; rintro e w4 ⟨rfl, HB4⟩) | (go_at_call 78; refine (HA3.out _ HB4.out).mono ?_; rintro e w5 ⟨v3, n3, rfl, d3, dr, dp, H5⟩))
     generalize hbase2 : base ++ Rc.u8s (Rc.numB fn) ++ Rc.u8s (Rc.numB cj) = base2 at H5
     have HB2 : Hid (base ++ Rc.u8s (Rc.numB fn) ++ Rc.u8s (Rc.numB cj) = base2) := hbase2
     have hbl2 : base2.length ≤ 10000300000 := by
      rw [← hbase2, List.length_append, List.length_append, Rc.u8s_len, Rc.u8s_len]
      omega
     clear HC2 HA3 HB4 c0 c1 c2 c3 hbase2 H2
     go_loopw [1, 59] (fun b i w6 => ∃ (q m6 : Nat), q ≤ pp ∧ i = .int .i64 q ∧ BOn w0.heap.size w w6 b m6 (base2 ++ Rc.u8s ((dl.take q).flatMap fun x => Rc.numB (Ex.place (En.leastN (En.nRules kl) gv) x))) ∧ AfW w0.heap.size wR w6 wA.heap.size (w.heap.size + 1) x0 x1 x2 pn pp) (fun _ i _ => pp - (intOf i).toNat)
     case atStart => exact ⟨0, n3, Nat.zero_le _, rfl, by simpa [Rc.u8s] using H5.out.1, H5.out.2⟩
     case round =>
      obtain ⟨q, m6, hq, rfl, hon6, haf6⟩ := hrel
      obtain ⟨ed, ec, he0⟩ := ownsRow_shape hon6.own
      subst he0
      have HON6 : Hid (BOn w0.heap.size w wr (.slice ed m6 ec) m6 (base2 ++ Rc.u8s ((dl.take q).flatMap fun x => Rc.numB (Ex.place (En.leastN (En.nRules kl) gv) x))) ∧ AfW w0.heap.size wR wr wA.heap.size (w.heap.size + 1) x0 x1 x2 pn pp) := ⟨hon6, haf6⟩
      clear H5
      by_cases hlq : q < pp
      · have hqd : q < dl.length := by omega
        have ca : wr.cell? ⟨wA.heap.size, q, none⟩ = some (.string dl[q]) := by
         rw [cell_of_row _ _ _ _ _ _ haf6.row]
         have h9 := HRG.out q (.string dl[q]) (by rw [strCells, List.getElem?_map, List.getElem?_eq_getElem hqd]; rfl)
         simpa using h9
        have har := lt_of_heap haf6.row
        have hm6 : m6 ≤ 10000400000 := by
         have h1 := hon6.len
         have h2 := flat_le (fun x => Rc.numB (Ex.place (En.leastN (En.nRules kl) gv) x)) 10 (dl.take q) (fun x _ => num_le (Nat.le_trans (place_le _ _) (by decide)))
         rw [List.length_append, Rc.u8s_len] at h1
         rw [List.length_take] at h2
         omega
        have HNY : Hid (base2 ++ Rc.u8s ((dl.take (q + 1)).flatMap fun x => Rc.numB (Ex.place (En.leastN (En.nRules kl) gv) x)) = base2 ++ Rc.u8s ((dl.take q).flatMap fun x => Rc.numB (Ex.place (En.leastN (En.nRules kl) gv) x)) ++ Rc.u8s (Rc.numB (Ex.place (En.leastN (En.nRules kl) gv) dl[q]))) := by
         have e0 : dl.take (q + 1) = dl.take q ++ [dl[q]] := by rw [List.take_add_one, List.getElem?_eq_getElem hqd]; rfl
         have e1 : base2 ++ Rc.u8s ((dl.take (q + 1)).flatMap fun x => Rc.numB (Ex.place (En.leastN (En.nRules kl) gv) x)) = base2 ++ Rc.u8s ((dl.take q).flatMap fun x => Rc.numB (Ex.place (En.leastN (En.nRules kl) gv) x)) ++ Rc.u8s (Rc.numB (Ex.place (En.leastN (En.nRules kl) gv) dl[q])) := by
          rw [e0, List.flatMap_append]
          simp [Rc.u8s_app]
         exact e1
        have hplq := HPL.out _ (List.getElem_mem hqd)
        have hpk := place_le (En.leastN (En.nRules kl) gv) dl[q]
        have HBS : Hid (Calls Tryz.prog 138 #[.slice nd nl nc, .string dl[q]] wr fun e w7 => e = .returned (.tuple #[.int .i64 (Ex.place (En.leastN (En.nRules kl) gv) dl[q] : Nat), .bool true]) ∧ Hid (Below wr.heap.size wr w7)) := (bs_any wr 0 nd nl nc _ dl[q] _ (ownsRow_others HNR.out haf6.oth (by decide)) hnll (Ex.nms_sorted _) hplq (by omega)).mono (fun e w' ⟨a, b⟩ => ⟨a, b⟩)
        generalize Ex.place (En.leastN (En.nRules kl) gv) dl[q] = pk at HBS HNY hpk
        have HA7 : Hid (∀ W, Below wr.heap.size wr W → Calls Tryz.prog 78 #[.slice ed m6 ec, .int .i64 (pk : Nat)] W fun e w' => ∃ v7 n7, e = .returned v7 ∧ Hid (BOn w0.heap.size w w' v7 n7 (base2 ++ Rc.u8s ((dl.take (q + 1)).flatMap fun x => Rc.numB (Ex.place (En.leastN (En.nRules kl) gv) x))) ∧ AfW w0.heap.size wR w' wA.heap.size (w.heap.size + 1) x0 x1 x2 pn pp)) := by
         intro W hW
         have hsr : w0.heap.size ≤ wr.heap.size := (HB.out.trans HON6.out.1.bel).size
         have hsW : w0.heap.size ≤ W.heap.size := Nat.le_trans hsr hW.size
         have hWB : Below w0.heap.size wr W := hW.mono hsr
         refine (appendNumber_any w0.heap.size W (.slice ed m6 ec) m6 _ pk (ownsRow_below HON6.out.1.own hW) hsW (by omega) (by omega)).mono ?_
         rintro e w' ⟨v7, n7, rfl, q1, q2, q3⟩
         rw [HNY.out]
         exact ⟨v7, n7, rfl, ⟨q1, (HON6.out.1.bel.trans hWB).trans q2, OthersKept_trans (OthersKept_trans HON6.out.1.oth (others_below hW)) q3⟩, (HON6.out.2.next (others_below hW) hWB).next q3 q2⟩
        generalize dl[q] = y at ca HBS
        clear hon6 haf6 hplq HNY
        go_wp2_with (first | (go_at_call 138; refine HBS.out.mono ?_; rintro e w7 ⟨rfl, HB7⟩) | (go_at_call 78; refine (HA7.out _ HB7.out).mono ?_; rintro e w8 ⟨v7, n7, rfl, H8⟩))
        go_roundw
        case rel => exact ⟨q + 1, n7, hlq, by go_num, H8.out.1, H8.out.2⟩
        case measure => simp [intOf]; omega
      · have HE : Hid (BOn w0.heap.size w wr (.slice ed m6 ec) m6 (xs ++ Rc.u8s (Rc.numB js.length ++ (js.take (k + 1)).flatMap (Ex.fact kl gv))) ∧ Lib.OthersKept 5 none w3 wr) := by
         have h1 := HON6.out.1
         have e0 : dl.take q = dl := List.take_of_length_le (by omega)
         rw [e0, ← HB2.out] at h1
         refine ⟨?_, OthersKept_trans HO3R.out HON6.out.2.oth⟩
         rw [HNX.out, HFJ.out, Rc.u8s_app, Rc.u8s_app, ← List.append_assoc, ← List.append_assoc]
         exact h1
        clear hon6 haf6 HON6
        go_wp2_with fail
        go_roundw
        case rel => exact ⟨k + 1, m6, hlt, by go_num, HE.out.1, HE.out.2⟩
        case measure => simp [intOf]; omega
  · have HE : Hid (BOn w0.heap.size w wA (.slice ad m ac) m (xs ++ Rc.u8s (Ex.facts kl gv pn))) := by
     have h1 := HON.out
     have e0 : js.take k = js := List.take_of_length_le (by omega)
     rw [e0] at h1
     have e1 : Ex.facts kl gv pn = Rc.numB js.length ++ js.flatMap (Ex.fact kl gv) := by unfold Ex.facts; rw [HJS.out]
     rw [e1]
     exact h1
    clear HON HO
    go_wp2_with fail
    go_ret
    exact ⟨_, m, rfl, HE.out⟩
end Go.Proofs.YtdmicblafmhflaaGreatDoor
