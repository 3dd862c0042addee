/- axiomkeep.Listed, walked. -/
import Derived.Test.YtdmicblafmhflaaGreatDoorC43
import Derived.Test.YtdmicblafmhflaaGreatDoorC45
set_option linter.unusedSimpArgs false
set_option linter.unusedVariables false
namespace Go.Proofs.YtdmicblafmhflaaGreatDoor
open Go.RowKit Go.Maps
set_option maxRecDepth 100000 in
set_option maxHeartbeats 4000000 in
theorem listed_walk (K : Nat → Int) (w : World) (ad : Option Addr) (m c : Nat) (kl : List Ax.KRule) (hR : RulesAt w ad m c kl) (sd : Option Addr) (sn sc : Nat) (sl : List (List Int × List Int)) (hS : StepsA w sd sn sc sl) (hs : sl.length ≤ 2000000) (hK : Dg.Tab w K) (hU : UTabs w) :
 Calls Tryz.prog 5 #[.slice ad m c, .slice sd sn sc] w fun e w' => e = .returned (.bool true) ∧ Below w.heap.size w w' := by
 have hln := hS.len
 subst hln
 have hcap := hS.cap
 have hmx : sc ≤ 9223372036854775807 := hS.max
 have HSH : Hid (Calls Tryz.prog 13 #[.slice ad m c] w fun e w' => ∃ sb eg, e = .returned (.pointer (some ⟨sb, 0, none⟩)) ∧ Hid (ShW w.heap.size w' sb eg (.slice ad (min m 6) c) kl (gvAll (sl.take 0)) (gvAll (sl.take 0)) 0 ∧ Below w.heap.size w w')) := (shop_any K w ad m c kl hR hK).mono (fun e w' ⟨sb, eg, a, b⟩ => ⟨sb, eg, a, b⟩)
 have HLE : Hid (∀ W sb eg gv n, ShW w.heap.size W sb eg (.slice ad (min m 6) c) kl gv gv n → Below w.heap.size w W → Calls Tryz.prog 16 #[.pointer (some ⟨sb, 0, none⟩)] W fun e w' => ∃ hb, e = .returned (.slice (some ⟨hb, 0, none⟩) 36 36) ∧ Hid (HoldIs w' hb (En.leastN (En.nRules kl) gv) ∧ ShW w.heap.size w' sb eg (.slice ad (min m 6) c) kl gv gv n ∧ Below w.heap.size w w')) := by
  intro W sb eg gv n hW hb
  refine (kleast_any W sb eg ad (min m 6) c kl gv hW.shop (hR.below hb).six).mono ?_
  rintro e w' ⟨h9, rfl, q1, q2⟩
  exact ⟨h9, rfl, q1, hW.below q2, hb.trans (q2.mono hb.size)⟩
 have HAP : Hid (∀ W sb eg gv n k (hk : k < sl.length) g o, n ≤ 2000000 → sd = some ⟨g, o, none⟩ → ShW w.heap.size W sb eg (.slice ad (min m 6) c) kl gv gv n → Below w.heap.size w W → ∃ a1 n1 c1 a2 n2 c2, W.cell? ⟨g, o + k * 2, none⟩ = some (.slice a1 n1 c1) ∧ W.cell? ⟨g, o + k * 2 + 1, none⟩ = some (.slice a2 n2 c2) ∧ Calls Tryz.prog 15 #[.pointer (some ⟨sb, 0, none⟩), .agg #[.slice a1 n1 c1, .slice a2 n2 c2]] W fun e w' => e = .returned (.bool true) ∧ ShW w.heap.size w' sb eg (.slice ad (min m 6) c) kl (gvStep gv sl[k]) (gvStep gv sl[k]) (n + 1) ∧ Below w.heap.size w w') := by
  intro W sb eg gv n k hk g o hn hsd hW hb
  obtain ⟨g', o', e, a1, n1, c1, a2, n2, c2, q1, q2, i1, i2⟩ := hS.at_ k hk
  rw [hsd] at e
  simp only [Option.some.injEq, Addr.mk.injEq, and_true] at e
  obtain ⟨rfl, rfl⟩ := e
  have hbb : ∀ W', Below w.heap.size W W' → Below w.heap.size w W' := fun W' h => hb.trans h
  refine ⟨a1, n1, c1, a2, n2, c2, cell_below hb q1, cell_below hb q2, ?_⟩
  refine (kapply_any K w.heap.size W sb eg _ kl gv n hW hn (fun W' h => ⟨hK.below (hbb W' h), Utf8Tabs_below hU (hbb W' h)⟩) a1 n1 c1 _ (fun W' h => i1.below (hbb W' h)) i1.lt a2 n2 c2 _ (fun W' h => i2.below (hbb W' h)) i2.lt).mono ?_
  rintro e w' ⟨rfl, r1, r2⟩
  exact ⟨rfl, r1, hb.trans r2⟩
 have HSD : Hid (∀ k, k < sl.length → ∃ g o, sd = some ⟨g, o, none⟩) := fun k hk => by
  obtain ⟨g, o, e, _⟩ := hS.at_ k hk
  exact ⟨g, o, e⟩
 have HUT : Hid (∀ W, Below w.heap.size w W → UTabs W) := fun W hW => Utf8Tabs_below hU hW
 clear hR hS hK hU
 go_enter Tryz.func5, Tryz.ntmps5
 go_wp2_with (go_at_call 13; refine HSH.out.mono ?_; rintro e w1 ⟨sb, eg, rfl, HS1⟩)
 clear HSH
 go_loopw [6] (fun i wr => ∃ (k : Nat), k ≤ sl.length ∧ i = .int .i64 k ∧ ShW w.heap.size wr sb eg (.slice ad (min m 6) c) kl (gvAll (sl.take k)) (gvAll (sl.take k)) k ∧ Below w.heap.size w wr) (fun i _ => sl.length - (intOf i).toNat)
 case atStart => exact ⟨0, Nat.zero_le _, rfl, HS1.out.1, HS1.out.2⟩
 case round =>
  obtain ⟨k, hk, rfl, hW, hb⟩ := hrel
  clear HS1
  by_cases hlt : k < sl.length
  · have hdk : decide ((k : Int) < (sl.length : Int)) = true := decide_eq_true (by omega)
    obtain ⟨g, o, had⟩ := HSD.out k hlt
    obtain ⟨a1, n1, c1, a2, n2, c2, q1, q2, hap⟩ := HAP.out wr sb eg _ k k hlt g o (by omega) had hW hb
    have HNX : Hid (gvAll (sl.take (k + 1)) = gvStep (gvAll (sl.take k)) sl[k]) := by
     have e0 : sl.take (k + 1) = sl.take k ++ [sl[k]] := by rw [List.take_add_one, List.getElem?_eq_getElem hlt]; rfl
     have e1 : gvAll (sl.take (k + 1)) = gvStep (gvAll (sl.take k)) sl[k] := by rw [e0, gvAll_snoc]
     exact e1
    rw [← HNX.out] at hap
    have HAK : Hid _ := hap
    subst had
    clear hap hW hb HAP
    go_wp2_with (go_at_call 15; refine (show Calls Tryz.prog 15 _ _ _ from HAK.out).mono ?_; rintro e w5 ⟨rfl, hS5, hB5⟩)
    go_roundw
    case rel => exact ⟨k + 1, hlt, by go_num, hS5, hB5⟩
    case measure => simp [intOf]; omega
  · have hdk : decide ((k : Int) < (sl.length : Int)) = false := decide_eq_false (by omega)
    have HW : Hid (ShW w.heap.size wr sb eg (.slice ad (min m 6) c) kl (gvAll (sl.take k)) (gvAll (sl.take k)) k ∧ Below w.heap.size w wr) := ⟨hW, hb⟩
    have HGO : Hid (GvOk (gvAll (sl.take k))) := gvAll_ok _
    clear hW hb HAP HSD
    generalize gvAll (sl.take k) = gv at *
    go_wp2_with (go_at_call 16; refine (HLE.out _ _ _ _ _ HW.out.1 HW.out.2).mono ?_; rintro e w2 ⟨hb, rfl, HL2⟩)
    have HB2 : Hid (Below w.heap.size w w2) := HL2.out.2.2
    have HHO : Hid (∀ W, Below w2.heap.size w2 W → HoldIs W hb (En.leastN (En.nRules kl) gv)) := fun W hW => HL2.out.1.below hW
    have HSW : Hid (∀ W, Below w2.heap.size w2 W → ShW w.heap.size W sb eg (.slice ad (min m 6) c) kl gv gv k ∧ UTabs W) := fun W hW => ⟨HL2.out.2.1.below hW, HUT.out W (HB2.out.trans (hW.mono HB2.out.size))⟩
    have hsb2 : sb < w2.heap.size := (HL2.out.2.1.cell (i := 0) (by omega)).2.2
    have HS3 : Hid (sumP (En.leastN (En.nRules kl) gv) 3 = tal (En.leastN (En.nRules kl) gv) 36) := sumP_3 _
    have HAE : Hid (∀ W p pl, Below w2.heap.size w2 W → (p, pl) ∈ gPr → Calls Tryz.prog 17 #[.pointer (some ⟨eg, 0, none⟩), .string p] W fun e w' => ∃ lb F, e = .returned (.tuple #[.slice (some ⟨lb, 0, none⟩) (List.length F) (List.length F), .int .i64 0]) ∧ Below w2.heap.size w2 w' ∧ Hid (∃ js, FactsIn w' (some ⟨lb, 0, none⟩) F.length F ∧ F.map (fun f => (f.pred, f.args)) = js.map dat ∧ Lst (En.leastN (En.nRules kl) gv) p js)) := by
     intro W p pl hW hp
     refine (all_eng (HSW.out W hW).1.eng HGO.out hp).mono ?_
     rintro e w' ⟨lb, F, js, rfl, q1, q2, q3, q4⟩
     exact ⟨lb, F, rfl, hW.trans (q4.mono hW.size), js, q1, q2, q3⟩
    have HZZ : Hid (∀ W, Below w2.heap.size w2 W → Calls Tryz.prog 17 #[.pointer (some ⟨eg, 0, none⟩), .string ⟨#[122, 122]⟩] W fun e w' => e = .returned (.tuple #[.slice none 0 0, .int .i64 6]) ∧ Below w2.heap.size w2 w') := by
     intro W hW
     refine (all_zz (HSW.out W hW).1.eng).mono ?_
     rintro e w' ⟨rfl, q⟩
     exact ⟨rfl, hW.trans (q.mono hW.size)⟩
    have HASK : Hid (∀ wr i av b W, Below w2.heap.size w2 wr → i < 36 → wr.ownsRow 0 9 1 av (dat i).2.length (strCells (dat i).2) → TI wr b W → Calls Tryz.prog 21 #[.pointer (some ⟨eg, 0, none⟩), .agg #[.string (dat i).1, av]] W fun e w' => e = .returned (.tuple #[.agg #[.bool (gv i), .bool (En.leastN (En.nRules kl) gv i), .int .i64 (cnN kl gv i : Nat)], .int .i64 0]) ∧ TI wr b w') := by
     intro wr i av b W hwr hi hav hW
     have hbb := hwr.trans (hW.bel.mono hwr.size)
     refine (ask_eng (HSW.out W hbb).1.eng HGO.out (HSW.out W hbb).2 hi (ownsRow_below hav hW.bel)).mono ?_
     rintro e w' ⟨rfl, hb'⟩
     exact ⟨rfl, hW.below hb'⟩
    have HCS : Hid (∀ W, Below w2.heap.size w2 W → W.cell? ⟨sb, 0, none⟩ = some (.pointer (some ⟨eg, 0, none⟩))) := fun W hW => (HSW.out W hW).1.shop.cells.1
    clear HLE HL2 HW HUT HSW
    generalize En.leastN (En.nRules kl) gv = H at *
    go_loopw [9, 10] (fun v9 i wr => ∃ (p : Nat), p ≤ 3 ∧ i = .int .i64 p ∧ v9 = .int .i64 (sumP H p : Nat) ∧ Below w2.heap.size w2 wr) (fun _ i _ => 3 - (intOf i).toNat)
    case atStart => exact ⟨0, by omega, rfl, rfl, Below.refl _ _⟩
    case round =>
     obtain ⟨p, hp, rfl, rfl, hbp⟩ := hrel
     have HSB : Hid (sumP H p ≤ 108) := sumP_le H hp
     by_cases hp3 : p < 3
     · have hdp : decide ((p : Int) < 3) = true := decide_eq_true (by omega)
       have hgp : (Ax.gpred p, (if p = 0 then 1 else 2)) ∈ gPr := gpred_pr hp3
       have HPD : Hid (∀ W, Below w2.heap.size w2 W → Calls Tryz.prog 18 #[.int .i64 (p : Nat)] W fun e w' => e = .returned (.string (Ax.gpred p)) ∧ Below w2.heap.size w2 w') := by
        intro W hW
        have h9 := gen_pred (p : Int) W (fit_small (by omega))
        rw [gpick_small hp3] at h9
        refine h9.mono ?_
        rintro e w' ⟨rfl, q⟩
        exact ⟨rfl, hW.trans (q.mono hW.size)⟩
       have HPL : Hid (∀ W, Calls Tryz.prog 19 #[.int .i64 (p : Nat)] W fun e w' => e = .returned (.int .i64 ((if p = 0 then 1 else 2 : Nat) : Int)) ∧ w' = W) := by
        intro W
        have h9 := places_any (p : Int) W (fit_small (by omega))
        rw [gpick_small hp3] at h9
        refine h9.mono ?_
        rintro e w' ⟨rfl, q⟩
        refine ⟨?_, q⟩
        by_cases h0 : p = 0 <;> simp [h0]
       have hc0 := HCS.out wr hbp
       go_wp2_with fail
       go_region_held3 (fun W => W.cell? ⟨sb, 0, none⟩ = some (.pointer (some ⟨eg, 0, none⟩))) (first | (exact HCS.out _ (by assumption)) | (exact HCS.out _ (Below.drew (by assumption)))) (first | (go_at_call 18; refine (HPD.out _ (by first | assumption | exact Below.drew (by assumption))).mono ?_; rintro e w3 ⟨rfl, hb3⟩) | (go_at_call 17; refine (HAE.out _ _ _ (by assumption) hgp).mono ?_; rintro e w4 ⟨lb, F, rfl, hb4, HJS⟩))
       obtain ⟨js, hFI, hFd, hLs⟩ := HJS.out
       have hjl : js.length = F.length := by
        have h9 := congrArg List.length hFd
        simpa using h9.symm
       have HSP : Hid (sumP H (p + 1) = sumP H p + F.length) := by
        have e : sumP H (p + 1) = sumP H p + F.length := by
         show sumP H p + (holdP H (Ax.gpred p)).length = _
         rw [← hLs.len, hjl]
        exact e
       have hFl : F.length ≤ 36 := by rw [← hjl, hLs.len]; exact holdP_le _ _
       have hsp := HSB.out
       have HFI : Hid (FactsIn w4 (some ⟨lb, 0, none⟩) F.length F) := hFI
       have HFK : Hid (∀ W k (hk : k < F.length), Below w4.heap.size w4 W → ∃ (j : Nat) (xd : Option Addr) (xc : Nat), js[k]? = some j ∧ j < 36 ∧ H j = true ∧ (dat j).1 = Ax.gpred p ∧ (dat j).2.length = (if p = 0 then 1 else 2) ∧ W.cell? ⟨lb, k * 2, none⟩ = some (.string (Ax.gpred p)) ∧ W.cell? ⟨lb, k * 2 + 1, none⟩ = some (.slice xd (if p = 0 then 1 else 2) xc) ∧ W.ownsRow 0 9 1 (.slice xd (if p = 0 then 1 else 2) xc) (dat j).2.length (strCells (dat j).2)) := by
        intro W k hk hW
        have hkj : k < js.length := by rw [hjl]; exact hk
        obtain ⟨m1, m2, m3⟩ := (hLs.mem js[k]).1 (List.getElem_mem _)
        have hd := congrArg (fun x => x[k]?) hFd
        simp only [List.getElem?_map, List.getElem?_eq_getElem hk, List.getElem?_eq_getElem hkj, Option.map_some, Option.some.injEq] at hd
        have e1 : (F[k]).pred = (dat js[k]).1 := congrArg Prod.fst hd
        have e2 : (F[k]).args = (dat js[k]).2 := congrArg Prod.snd hd
        have hlen : (dat js[k]).2.length = (if p = 0 then 1 else 2) := gPr_pl (p := Ax.gpred p) (by rw [← m3]; exact dat_pr m1) hgp
        obtain ⟨g, eg9, _, _, hcs⟩ := row_cells (hFI.below hW).row (by omega)
        have eg8 : g = lb := by simp at eg9; exact eg9.symm
        subst eg8
        have c0 := hcs _ _ (fiCells_get F k hk).1
        have c1 := hcs _ _ (fiCells_get F k hk).2
        have hav := (hFI.below hW).each _ (List.getElem_mem hk)
        unfold FI.ok at hav
        rw [e2] at hav
        obtain ⟨xd, xc, hxv⟩ := ownsRow_shape hav
        rw [hlen] at hxv
        rw [hxv] at c1 hav
        rw [e1, m3] at c0
        exact ⟨js[k], xd, xc, List.getElem?_eq_getElem hkj, m1, m2, m3, hlen, c0, c1, hav⟩
       have HAD : Hid (∀ k j1 j2, js[k]? = some j1 → js[k + 1]? = some j2 → aheadB (dat j1).2 (dat j2).2 = true) := by
        intro k j1 j2 h1 h2
        have hk2 : k + 1 < js.length := (List.getElem?_eq_some_iff.1 h2).1
        have h3 := hLs.ahead hk2
        rw [List.getElem?_eq_getElem (by omega)] at h1
        rw [List.getElem?_eq_getElem hk2] at h2
        rw [← Option.some.inj h1, ← Option.some.inj h2]
        exact h3
       have HB4 : Hid (Below w2.heap.size w2 w4) := hb4
       clear HJS hFI hFd hLs hjl hb3 hbp hc0
       go_wp2_with fail
       go_loopw [13] (fun i wr => ∃ (k : Nat), k ≤ F.length ∧ i = .int .i64 k ∧ Below w4.heap.size w4 wr) (fun i _ => F.length - (intOf i).toNat)
       case atStart => exact ⟨0, Nat.zero_le _, rfl, Below.refl _ _⟩
       case round =>
        obtain ⟨k9, hk9, rfl, hbk⟩ := hrel
        have HBK : Hid (Below w4.heap.size w4 wr) := hbk
        have HBW : Hid (Below w2.heap.size w2 wr) := HB4.out.trans (hbk.mono HB4.out.size)
        by_cases hkt : k9 < F.length
        · -- INNER
          obtain ⟨j, xd, xc, ej, hj36, hHj, hjp, hjl2, c0, c1, hrow⟩ := HFK.out wr k9 hkt hbk
          have HAK : Hid (∀ b W, TI wr b W → Calls Tryz.prog 21 #[.pointer (some ⟨eg, 0, none⟩), .agg #[.string (Ax.gpred p), .slice xd (if p = 0 then 1 else 2) xc]] W fun e w' => e = .returned (.tuple #[.agg #[.bool (gv j), .bool true, .int .i64 (cnN kl gv j : Nat)], .int .i64 0]) ∧ TI wr b w') := by
           intro b W hW
           have h9 := HASK.out wr j _ b W HBW.out hj36 hrow hW
           rw [hjp, hHj] at h9
           exact h9
          have HPG : Hid (∀ W, Below wr.heap.size wr W → Calls Tryz.prog 18 #[.int .i64 (p : Nat)] W fun e w' => e = .returned (.string (Ax.gpred p)) ∧ Below wr.heap.size wr w') := by
           intro W hW
           have h9 := gen_pred (p : Int) W (fit_small (by omega))
           rw [gpick_small hp3] at h9
           refine h9.mono ?_
           rintro e w' ⟨rfl, q⟩
           exact ⟨rfl, hW.trans (q.mono hW.size)⟩
          generalize gv j = gj at *
          generalize cnN kl gv j = cj at *
          clear hHj hjp hjl2 HASK HAE HZZ HPD
          by_cases hk0 : 0 < k9
          · skip
            obtain ⟨q, rfl⟩ : ∃ q, k9 = q + 1 := ⟨k9 - 1, by omega⟩
            obtain ⟨jq, yd, yc, ejq, hjq36, hHjq, hjpq, hjlq, _, cq, hrowq⟩ := HFK.out wr q (by omega) hbk
            have hadv := HAD.out q jq j ejq ej
            have HAH : Hid (∀ W, Below wr.heap.size wr W → Calls Tryz.prog 20 #[.slice yd (if p = 0 then 1 else 2) yc, .slice xd (if p = 0 then 1 else 2) xc] W fun e w' => e = .returned (.bool true) ∧ Below wr.heap.size wr w') := by
             intro W hW
             refine (ahead_any W _ _ (dat jq).2 (dat j).2 (ownsRow_below hrowq hW) (ownsRow_below hrow hW)).mono ?_
             rintro e w' ⟨rfl, q9⟩
             exact ⟨by rw [hadv], hW.trans (q9.mono hW.size)⟩
            have hgt : decide ((0 : Int) < ((q + 1 : Nat) : Int)) = true := decide_eq_true (by omega)
            have hsub : ((q + 1 : Nat) : Int) - 1 = (q : Int) := by omega
            have b3 : (0 : Int) ≤ (q : Int) := by omega
            have b4 : (q : Int) < (F.length : Int) := by omega
            have b8 : IntKind.i64.wrap ((q : Int) + 1 - 1) = (q : Int) := by rw [IntKind.wrap_i64]; omega
            have b9 : IntKind.i64.wrap (q : Int) = (q : Int) := by rw [IntKind.wrap_i64]; omega
            have b5 : (0 : Int) ≤ (q : Int) + 1 := by omega
            have b6 : (q : Int) + 1 < (F.length : Int) := by omega
            have b7 : decide ((0 : Int) < (q : Int) + 1) = true := decide_eq_true (by omega)
            clear hadv hrowq hjlq
            generalize hpl9 : (if p = 0 then 1 else 2) = pl9 at *
            have HCE : Hid (∀ W, Below wr.heap.size wr W → W.cell? ⟨lb, (q + 1) * 2, none⟩ = some (.string (Ax.gpred p)) ∧ W.cell? ⟨lb, (q + 1) * 2 + 1, none⟩ = some (.slice xd pl9 xc) ∧ W.cell? ⟨lb, q * 2 + 1, none⟩ = some (.slice yd pl9 yc)) := fun W hW => ⟨by rw [hW.cell (block_lt_of_cell c0)]; exact c0, by rw [hW.cell (block_lt_of_cell c1)]; exact c1, by rw [hW.cell (block_lt_of_cell cq)]; exact cq⟩
            have HC3 : Hid (∀ W, Below wr.heap.size wr W → W.cell? ⟨sb, 0, none⟩ = some (.pointer (some ⟨eg, 0, none⟩)) ∧ W.cell? ⟨lb, (q + 1) * 2, none⟩ = some (.string (Ax.gpred p)) ∧ W.cell? ⟨lb, (q + 1) * 2 + 1, none⟩ = some (.slice xd pl9 xc)) := fun W hW => ⟨HCS.out W (HBW.out.trans (hW.mono HBW.out.size)), (HCE.out W hW).1, (HCE.out W hW).2.1⟩
            have hB0 : Below wr.heap.size wr wr := Below.refl _ _
            clear hpl9
            go_upto_region 21 with fail
            go_region_held3 (fun W => W.cell? ⟨lb, (q + 1) * 2, none⟩ = some (.string (Ax.gpred p)) ∧ W.cell? ⟨lb, (q + 1) * 2 + 1, none⟩ = some (.slice xd pl9 xc) ∧ W.cell? ⟨lb, q * 2 + 1, none⟩ = some (.slice yd pl9 yc)) (first | (exact HCE.out _ (by assumption)) | (exact HCE.out _ (Below.drew (by assumption)))) (first | (go_at_call 18; refine (HPG.out _ (by first | assumption | exact Below.drew (by assumption))).mono ?_; rintro e wn ⟨rfl, hbn⟩) | (go_at_call 19; refine (HPL.out _).mono ?_; rintro e wp ⟨rfl, hwp⟩; subst hwp) | (go_at_call 20; refine (HAH.out _ (by first | assumption | exact Below.drew (by assumption))).mono ?_; rintro e wn ⟨rfl, hbn⟩))
            all_goals
             (have hI1 : TI wr none _ := ⟨hbn, fun x h => by cases h⟩
              go_upto_region 23 with fail
              go_cut [14, 15] from 55 to 117 (fun v7 v8 wx => Hid (TCut wr gj true cj v7 v8 wx))
              case first =>
               go_region_held3 (fun W => W.cell? ⟨sb, 0, none⟩ = some (.pointer (some ⟨eg, 0, none⟩)) ∧ W.cell? ⟨lb, (q + 1) * 2, none⟩ = some (.string (Ax.gpred p)) ∧ W.cell? ⟨lb, (q + 1) * 2 + 1, none⟩ = some (.slice xd pl9 xc)) (first | (exact HC3.out _ (TI.bel (by assumption))) | (exact HC3.out _ (TI.bel (TI.drew (by assumption)))) | (exact HC3.out _ (TI.bel (TI.alloc (by assumption)))) | (exact HC3.out _ (TI.bel (TI.alloc (TI.drew (by assumption))))) | (exact HC3.out _ (by obtain ⟨_, _, _, _, hbb⟩ := TI.cut_a (by assumption) gj true cj; exact hbb)) | (exact HC3.out _ (by obtain ⟨_, _, _, _, hbb⟩ := TI.cut_b (by assumption) gj true cj; exact hbb))) ((go_at_call 21; refine (HAK.out _ _ (by first | assumption | exact TI.drew (by assumption) | exact TI.alloc (by assumption) | exact TI.alloc (TI.drew (by assumption)))).mono ?_; rintro e wq ⟨rfl, hTn⟩; (try (obtain ⟨z0, z1, z2, f0, f1, f2, zl⟩ := TI.cells hTn; (try simp only [World.size_drew] at z0 z1 z2 f0 f1 f2 zl)))))
               all_goals
                (go_wp2_with fail
                 go_meet
                 first
                 | exact TI.cut_a (by assumption) _ _ _
                 | exact TI.cut_b (by assumption) _ _ _)
              case rest =>
               obtain ⟨hv8, tb, hv7, htb, hbx⟩ := hcut.out
               subst hv8
               subst hv7
               have d1 : wc.cell? ⟨tb, 1, none⟩ = some (.bool true) := by rw [cell_of_row _ _ _ _ _ _ htb]; rfl
               have HBC : Hid (Below w4.heap.size w4 wc) := HBK.out.trans (hbx.mono HBK.out.size)
               clear hcut htb hbx HCE HC3 HAK
               go_wp2_with fail
               all_goals
                (go_roundw
                 case rel => exact ⟨q + 1 + 1, hkt, by go_num, HBC.out⟩
                 case measure => (simp [intOf]; omega)))
          · skip
            obtain rfl : k9 = 0 := by omega
            simp only [Nat.zero_mul, Nat.zero_add] at c0 c1
            have b3 : (0 : Int) < (F.length : Int) := by omega
            generalize hpl9 : (if p = 0 then 1 else 2) = pl9 at *
            have HCE : Hid (∀ W, Below wr.heap.size wr W → W.cell? ⟨lb, 0, none⟩ = some (.string (Ax.gpred p)) ∧ W.cell? ⟨lb, 1, none⟩ = some (.slice xd pl9 xc)) := fun W hW => ⟨by rw [hW.cell (block_lt_of_cell c0)]; exact c0, by rw [hW.cell (block_lt_of_cell c1)]; exact c1⟩
            have HC3 : Hid (∀ W, Below wr.heap.size wr W → W.cell? ⟨sb, 0, none⟩ = some (.pointer (some ⟨eg, 0, none⟩)) ∧ W.cell? ⟨lb, 0, none⟩ = some (.string (Ax.gpred p)) ∧ W.cell? ⟨lb, 1, none⟩ = some (.slice xd pl9 xc)) := fun W hW => ⟨HCS.out W (HBW.out.trans (hW.mono HBW.out.size)), (HCE.out W hW).1, (HCE.out W hW).2⟩
            have hB0 : Below wr.heap.size wr wr := Below.refl _ _
            clear hpl9
            go_upto_region 21 with fail
            refine wp_region_held_drew (S := fun W => W.cell? ⟨lb, 0, none⟩ = some (.string (Ax.gpred p)) ∧ W.cell? ⟨lb, 1, none⟩ = some (.slice xd pl9 xc)) (by kernel_rfl) ?_ (fun hHeld => ?_)
            · exact HCE.out _ (Below.drew hB0)
            refine wpAnyH_take (i := 0) (oi := ⟨some 61, .move (.tmp 11), 37, "keep.go:350", #[], none⟩) (v := ?_) rfl (by kernel_rfl) (by kernel_rfl) (by kernel_rfl) (fun _ _ _ h => h) (Or.inl ⟨by rfl, ?_⟩) (by assumption) ?_
            rotate_left
            · intro w hSw; (try dsimp only at hSw); go_simp; (try with_reducible rfl)
            try simp only [Act.put, List.setIfInBounds_toArray, List.set_cons_zero, List.set_cons_succ]
            refine wpAnyH_take (i := 1) (oi := ⟨some 62, .move (.tmp 13), 3, "keep.go:350", #[], none⟩) (v := ?_) rfl (by kernel_rfl) (by kernel_rfl) (by kernel_rfl) (fun _ _ _ h => h) (Or.inl ⟨by rfl, ?_⟩) (by assumption) ?_
            rotate_left
            · intro w hSw; (try dsimp only at hSw); go_simp; (try with_reducible rfl)
            try simp only [Act.put, List.setIfInBounds_toArray, List.set_cons_zero, List.set_cons_succ]
            refine wpAnyH_take (i := 2) (oi := ⟨some 63, .indexAddr 37 (.tmp 61) (.tmp 62), 0, "keep.go:350", #[⟨0, .data⟩, ⟨1, .data⟩], none⟩) (v := ?_) rfl (by kernel_rfl) (by kernel_rfl) (by kernel_rfl) (fun _ _ _ h => h) (Or.inl ⟨by rfl, ?_⟩) (by assumption) ?_
            rotate_left
            · intro w hSw; (try dsimp only at hSw); go_simp; (try with_reducible rfl)
            try simp only [Act.put, List.setIfInBounds_toArray, List.set_cons_zero, List.set_cons_succ]
            refine wpAnyH_take (i := 3) (oi := ⟨some 64, .fieldAddr 48 (.tmp 63) 0, 0, "keep.go:350", #[⟨2, .data⟩], none⟩) (v := ?_) rfl (by kernel_rfl) (by kernel_rfl) (by kernel_rfl) (fun _ _ _ h => h) (Or.inl ⟨by rfl, ?_⟩) (by assumption) ?_
            rotate_left
            · intro w hSw; (try dsimp only at hSw); go_simp; (try with_reducible rfl)
            try simp only [Act.put, List.setIfInBounds_toArray, List.set_cons_zero, List.set_cons_succ]
            refine wpAnyH_take (i := 4) (oi := ⟨some 65, .load 9 (.tmp 64), 9, "keep.go:350", #[⟨3, .data⟩], none⟩) (v := ?_) rfl (by kernel_rfl) (by kernel_rfl) (by kernel_rfl) (fun _ _ _ h => h) (Or.inl ⟨by rfl, ?_⟩) (by assumption) ?_
            rotate_left
            · intro w hSw; (try dsimp only at hSw); go_simp; (try with_reducible rfl)
            try simp only [Act.put, List.setIfInBounds_toArray, List.set_cons_zero, List.set_cons_succ]
            refine wpAnyH_take (i := 5) (oi := ⟨some 66, .move (.tmp 10), 3, "keep.go:350", #[], none⟩) (v := ?_) rfl (by kernel_rfl) (by kernel_rfl) (by kernel_rfl) (fun _ _ _ h => h) (Or.inl ⟨by rfl, ?_⟩) (by assumption) ?_
            rotate_left
            · intro w hSw; (try dsimp only at hSw); go_simp; (try with_reducible rfl)
            try simp only [Act.put, List.setIfInBounds_toArray, List.set_cons_zero, List.set_cons_succ]
            refine wpAnyH_ready (rs := [6]) (by kernel_rfl) (by simp) ?_
            refine AllReadyH.cons (o := ⟨some 67, .call ⟨.value (.func 18), #[.tmp 66], #[3]⟩, 9, "keep.go:350", #[⟨5, .data⟩], none⟩) rfl (fun K hK => ?_) AllReadyH.nil
            go_simp
            go_at_call 18
            refine (HPG.out _ (Below.drew hB0)).mono ?_
            rintro e wn ⟨rfl, hbn⟩
            go_wp2_with fail
            refine hK.out _ _ ?_ (fun hHeld => ?_)
            · exact HCE.out _ hbn
            clear hK K
            try simp only [Act.put, List.setIfInBounds_toArray, List.set_cons_zero, List.set_cons_succ]
            refine wpAnyH_take (i := 7) (oi := ⟨some 68, .binOp .neq 9 (.tmp 65) (.tmp 67) 9, 4, "keep.go:350", #[⟨4, .data⟩, ⟨6, .data⟩], none⟩) (v := ?_) rfl (by kernel_rfl) (by kernel_rfl) (by kernel_rfl) (fun _ _ _ h => h) (Or.inl ⟨by rfl, ?_⟩) (by assumption) ?_
            rotate_left
            · intro w hSw; (try dsimp only at hSw); go_simp; (try with_reducible rfl)
            try simp only [Act.put, List.setIfInBounds_toArray, List.set_cons_zero, List.set_cons_succ]
            refine wpAnyH_take (i := 8) (oi := ⟨some 69, .move (.tmp 68), 4, "keep.go:350", #[⟨7, .data⟩, ⟨6, .chain⟩], none⟩) (v := ?_) rfl (by kernel_rfl) (by kernel_rfl) (by kernel_rfl) (fun _ _ _ h => h) (Or.inl ⟨by rfl, ?_⟩) (by assumption) ?_
            rotate_left
            · intro w hSw; (try dsimp only at hSw); go_simp; (try with_reducible rfl)
            try simp only [Act.put, List.setIfInBounds_toArray, List.set_cons_zero, List.set_cons_succ]
            refine wpAnyH_take (i := 9) (oi := ⟨some 70, .move (.tmp 11), 37, "keep.go:350", #[⟨8, .guard⟩], some (8, false)⟩) (v := ?_) rfl (by kernel_rfl) (by kernel_rfl) (by kernel_rfl) (fun _ _ _ h => h) (Or.inl ⟨by rfl, ?_⟩) (by assumption) ?_
            rotate_left
            · intro w hSw; (try dsimp only at hSw); go_simp; (try with_reducible rfl)
            try simp only [Act.put, List.setIfInBounds_toArray, List.set_cons_zero, List.set_cons_succ]
            refine wpAnyH_take (i := 10) (oi := ⟨some 71, .move (.tmp 13), 3, "keep.go:350", #[⟨8, .guard⟩], some (8, false)⟩) (v := ?_) rfl (by kernel_rfl) (by kernel_rfl) (by kernel_rfl) (fun _ _ _ h => h) (Or.inl ⟨by rfl, ?_⟩) (by assumption) ?_
            rotate_left
            · intro w hSw; (try dsimp only at hSw); go_simp; (try with_reducible rfl)
            try simp only [Act.put, List.setIfInBounds_toArray, List.set_cons_zero, List.set_cons_succ]
            refine wpAnyH_take (i := 11) (oi := ⟨some 72, .indexAddr 37 (.tmp 70) (.tmp 71), 0, "keep.go:350", #[⟨9, .data⟩, ⟨10, .data⟩, ⟨8, .guard⟩], some (8, false)⟩) (v := ?_) rfl (by kernel_rfl) (by kernel_rfl) (by kernel_rfl) (fun _ _ _ h => h) (Or.inl ⟨by rfl, ?_⟩) (by assumption) ?_
            rotate_left
            · intro w hSw; (try dsimp only at hSw); go_simp; (try with_reducible rfl)
            try simp only [Act.put, List.setIfInBounds_toArray, List.set_cons_zero, List.set_cons_succ]
            refine wpAnyH_take (i := 12) (oi := ⟨some 73, .fieldAddr 48 (.tmp 72) 1, 0, "keep.go:350", #[⟨11, .data⟩, ⟨8, .guard⟩], some (8, false)⟩) (v := ?_) rfl (by kernel_rfl) (by kernel_rfl) (by kernel_rfl) (fun _ _ _ h => h) (Or.inl ⟨by rfl, ?_⟩) (by assumption) ?_
            rotate_left
            · intro w hSw; (try dsimp only at hSw); go_simp; (try with_reducible rfl)
            try simp only [Act.put, List.setIfInBounds_toArray, List.set_cons_zero, List.set_cons_succ]
            refine wpAnyH_take (i := 13) (oi := ⟨some 74, .load 46 (.tmp 73), 46, "keep.go:350", #[⟨12, .data⟩, ⟨8, .guard⟩], some (8, false)⟩) (v := ?_) rfl (by kernel_rfl) (by kernel_rfl) (by kernel_rfl) (fun _ _ _ h => h) (Or.inl ⟨by rfl, ?_⟩) (by assumption) ?_
            rotate_left
            · intro w hSw; (try dsimp only at hSw); go_simp; (try with_reducible rfl)
            try simp only [Act.put, List.setIfInBounds_toArray, List.set_cons_zero, List.set_cons_succ]
            refine wpAnyH_take (i := 14) (oi := ⟨some 75, .call ⟨.builtin .len, #[.tmp 74], #[46]⟩, 3, "keep.go:350", #[⟨13, .data⟩, ⟨8, .guard⟩], some (8, false)⟩) (v := ?_) rfl (by kernel_rfl) (by kernel_rfl) (by kernel_rfl) (fun _ _ _ h => h) (Or.inl ⟨by rfl, ?_⟩) (by assumption) ?_
            rotate_left
            · intro w hSw; (try dsimp only at hSw); go_simp; (try with_reducible rfl)
            try simp only [Act.put, List.setIfInBounds_toArray, List.set_cons_zero, List.set_cons_succ]
            refine wpAnyH_take (i := 15) (oi := ⟨some 76, .move (.tmp 10), 3, "keep.go:350", #[⟨8, .guard⟩], some (8, false)⟩) (v := ?_) rfl (by kernel_rfl) (by kernel_rfl) (by kernel_rfl) (fun _ _ _ h => h) (Or.inl ⟨by rfl, ?_⟩) (by assumption) ?_
            rotate_left
            · intro w hSw; (try dsimp only at hSw); go_simp; (try with_reducible rfl)
            try simp only [Act.put, List.setIfInBounds_toArray, List.set_cons_zero, List.set_cons_succ]
            refine wpAnyH_ready (rs := [16]) (by kernel_rfl) (by simp) ?_
            refine AllReadyH.cons (o := ⟨some 77, .call ⟨.value (.func 19), #[.tmp 76], #[3]⟩, 3, "keep.go:350", #[⟨15, .data⟩, ⟨8, .chain⟩, ⟨8, .guard⟩], some (8, false)⟩) rfl (fun K hK => ?_) AllReadyH.nil
            go_simp
            go_at_call 19
            refine (HPL.out _).mono ?_
            rintro e wp ⟨rfl, hwp⟩
            subst hwp
            go_wp2_with fail
            refine hK.out _ _ ?_ (fun hHeld => ?_)
            · exact HCE.out _ hbn
            clear hK K
            try simp only [Act.put, List.setIfInBounds_toArray, List.set_cons_zero, List.set_cons_succ]
            refine wpAnyH_take (i := 17) (oi := ⟨some 78, .binOp .neq 3 (.tmp 75) (.tmp 77) 3, 4, "keep.go:350", #[⟨14, .data⟩, ⟨16, .data⟩, ⟨8, .guard⟩], some (8, false)⟩) (v := ?_) rfl (by kernel_rfl) (by kernel_rfl) (by kernel_rfl) (fun _ _ _ h => h) (Or.inl ⟨by rfl, ?_⟩) (by assumption) ?_
            rotate_left
            · intro w hSw; (try dsimp only at hSw); go_simp; (try with_reducible rfl)
            try simp only [Act.put, List.setIfInBounds_toArray, List.set_cons_zero, List.set_cons_succ]
            refine wpAnyH_take (i := 18) (oi := ⟨some 79, .pick (.tmp 69) (.const (.bool true)) (.tmp 78), 4, "keep.go:350", #[⟨8, .data⟩, ⟨17, .data⟩], none⟩) (v := ?_) rfl (by kernel_rfl) (by kernel_rfl) (by kernel_rfl) (fun _ _ _ h => h) (Or.inl ⟨by rfl, ?_⟩) (by assumption) ?_
            rotate_left
            · intro w hSw; (try dsimp only at hSw); go_simp; (try with_reducible rfl)
            try simp only [Act.put, List.setIfInBounds_toArray, List.set_cons_zero, List.set_cons_succ]
            refine wpAnyH_take (i := 19) (oi := ⟨some 80, .move (.tmp 79), 4, "keep.go:350", #[⟨18, .data⟩, ⟨16, .chain⟩], none⟩) (v := ?_) rfl (by kernel_rfl) (by kernel_rfl) (by kernel_rfl) (fun _ _ _ h => h) (Or.inl ⟨by rfl, ?_⟩) (by assumption) ?_
            rotate_left
            · intro w hSw; (try dsimp only at hSw); go_simp; (try with_reducible rfl)
            try simp only [Act.put, List.setIfInBounds_toArray, List.set_cons_zero, List.set_cons_succ]
            refine wpAnyH_take (i := 20) (oi := ⟨some 81, .move (.tmp 13), 3, "keep.go:350", #[⟨19, .guard⟩], some (19, false)⟩) (v := ?_) rfl (by kernel_rfl) (by kernel_rfl) (by kernel_rfl) (fun _ _ _ h => h) (Or.inl ⟨by rfl, ?_⟩) (by assumption) ?_
            rotate_left
            · intro w hSw; (try dsimp only at hSw); go_simp; (try with_reducible rfl)
            try simp only [Act.put, List.setIfInBounds_toArray, List.set_cons_zero, List.set_cons_succ]
            refine wpAnyH_take (i := 21) (oi := ⟨some 82, .binOp .gtr 3 (.tmp 81) (.const (.int .i64 0)) 3, 4, "keep.go:350", #[⟨20, .data⟩, ⟨19, .guard⟩], some (19, false)⟩) (v := ?_) rfl (by kernel_rfl) (by kernel_rfl) (by kernel_rfl) (fun _ _ _ h => h) (Or.inl ⟨by rfl, ?_⟩) (by assumption) ?_
            rotate_left
            · intro w hSw; (try dsimp only at hSw); go_simp; (try with_reducible rfl)
            try simp only [Act.put, List.setIfInBounds_toArray, List.set_cons_zero, List.set_cons_succ]
            refine wpAnyH_take (i := 22) (oi := ⟨some 83, .move (.tmp 82), 4, "keep.go:350", #[⟨21, .data⟩, ⟨19, .chain⟩, ⟨19, .guard⟩], some (19, false)⟩) (v := ?_) rfl (by kernel_rfl) (by kernel_rfl) (by kernel_rfl) (fun _ _ _ h => h) (Or.inl ⟨by rfl, ?_⟩) (by assumption) ?_
            rotate_left
            · intro w hSw; (try dsimp only at hSw); go_simp; (try with_reducible rfl)
            try simp only [Act.put, List.setIfInBounds_toArray, List.set_cons_zero, List.set_cons_succ]
            refine wpAnyH_take (i := 23) (oi := ⟨some 84, .move (.tmp 11), 37, "keep.go:350", #[⟨22, .guard⟩], some (22, true)⟩) (v := undef) rfl (by kernel_rfl) (by kernel_rfl) (by kernel_rfl) (fun _ _ _ h => h) (Or.inr ⟨by rfl, rfl⟩) (by assumption) ?_
            try simp only [Act.put, List.setIfInBounds_toArray, List.set_cons_zero, List.set_cons_succ]
            refine wpAnyH_take (i := 24) (oi := ⟨some 85, .move (.tmp 13), 3, "keep.go:350", #[⟨22, .guard⟩], some (22, true)⟩) (v := undef) rfl (by kernel_rfl) (by kernel_rfl) (by kernel_rfl) (fun _ _ _ h => h) (Or.inr ⟨by rfl, rfl⟩) (by assumption) ?_
            try simp only [Act.put, List.setIfInBounds_toArray, List.set_cons_zero, List.set_cons_succ]
            refine wpAnyH_take (i := 25) (oi := ⟨some 86, .binOp .sub 3 (.tmp 85) (.const (.int .i64 1)) 3, 3, "keep.go:350", #[⟨24, .data⟩, ⟨22, .guard⟩], some (22, true)⟩) (v := undef) rfl (by kernel_rfl) (by kernel_rfl) (by kernel_rfl) (fun _ _ _ h => h) (Or.inr ⟨by rfl, rfl⟩) (by assumption) ?_
            try simp only [Act.put, List.setIfInBounds_toArray, List.set_cons_zero, List.set_cons_succ]
            refine wpAnyH_take (i := 26) (oi := ⟨some 87, .indexAddr 37 (.tmp 84) (.tmp 86), 0, "keep.go:350", #[⟨23, .data⟩, ⟨25, .data⟩, ⟨22, .guard⟩], some (22, true)⟩) (v := undef) rfl (by kernel_rfl) (by kernel_rfl) (by kernel_rfl) (fun _ _ _ h => h) (Or.inr ⟨by rfl, rfl⟩) (by assumption) ?_
            try simp only [Act.put, List.setIfInBounds_toArray, List.set_cons_zero, List.set_cons_succ]
            refine wpAnyH_take (i := 27) (oi := ⟨some 88, .fieldAddr 48 (.tmp 87) 1, 0, "keep.go:350", #[⟨26, .data⟩, ⟨22, .guard⟩], some (22, true)⟩) (v := undef) rfl (by kernel_rfl) (by kernel_rfl) (by kernel_rfl) (fun _ _ _ h => h) (Or.inr ⟨by rfl, rfl⟩) (by assumption) ?_
            try simp only [Act.put, List.setIfInBounds_toArray, List.set_cons_zero, List.set_cons_succ]
            refine wpAnyH_take (i := 28) (oi := ⟨some 89, .load 46 (.tmp 88), 46, "keep.go:350", #[⟨27, .data⟩, ⟨22, .guard⟩], some (22, true)⟩) (v := undef) rfl (by kernel_rfl) (by kernel_rfl) (by kernel_rfl) (fun _ _ _ h => h) (Or.inr ⟨by rfl, rfl⟩) (by assumption) ?_
            try simp only [Act.put, List.setIfInBounds_toArray, List.set_cons_zero, List.set_cons_succ]
            refine wpAnyH_take (i := 29) (oi := ⟨some 90, .move (.tmp 11), 37, "keep.go:350", #[⟨22, .guard⟩], some (22, true)⟩) (v := undef) rfl (by kernel_rfl) (by kernel_rfl) (by kernel_rfl) (fun _ _ _ h => h) (Or.inr ⟨by rfl, rfl⟩) (by assumption) ?_
            try simp only [Act.put, List.setIfInBounds_toArray, List.set_cons_zero, List.set_cons_succ]
            refine wpAnyH_take (i := 30) (oi := ⟨some 91, .move (.tmp 13), 3, "keep.go:350", #[⟨22, .guard⟩], some (22, true)⟩) (v := undef) rfl (by kernel_rfl) (by kernel_rfl) (by kernel_rfl) (fun _ _ _ h => h) (Or.inr ⟨by rfl, rfl⟩) (by assumption) ?_
            try simp only [Act.put, List.setIfInBounds_toArray, List.set_cons_zero, List.set_cons_succ]
            refine wpAnyH_take (i := 31) (oi := ⟨some 92, .indexAddr 37 (.tmp 90) (.tmp 91), 0, "keep.go:350", #[⟨29, .data⟩, ⟨30, .data⟩, ⟨22, .guard⟩], some (22, true)⟩) (v := undef) rfl (by kernel_rfl) (by kernel_rfl) (by kernel_rfl) (fun _ _ _ h => h) (Or.inr ⟨by rfl, rfl⟩) (by assumption) ?_
            try simp only [Act.put, List.setIfInBounds_toArray, List.set_cons_zero, List.set_cons_succ]
            refine wpAnyH_take (i := 32) (oi := ⟨some 93, .fieldAddr 48 (.tmp 92) 1, 0, "keep.go:350", #[⟨31, .data⟩, ⟨22, .guard⟩], some (22, true)⟩) (v := undef) rfl (by kernel_rfl) (by kernel_rfl) (by kernel_rfl) (fun _ _ _ h => h) (Or.inr ⟨by rfl, rfl⟩) (by assumption) ?_
            try simp only [Act.put, List.setIfInBounds_toArray, List.set_cons_zero, List.set_cons_succ]
            refine wpAnyH_take (i := 33) (oi := ⟨some 94, .load 46 (.tmp 93), 46, "keep.go:350", #[⟨32, .data⟩, ⟨22, .guard⟩], some (22, true)⟩) (v := undef) rfl (by kernel_rfl) (by kernel_rfl) (by kernel_rfl) (fun _ _ _ h => h) (Or.inr ⟨by rfl, rfl⟩) (by assumption) ?_
            try simp only [Act.put, List.setIfInBounds_toArray, List.set_cons_zero, List.set_cons_succ]
            refine wpAnyH_take (i := 34) (oi := ⟨some 95, .call ⟨.value (.func 20), #[.tmp 89, .tmp 94], #[46, 46]⟩, 4, "keep.go:350", #[⟨28, .data⟩, ⟨33, .data⟩, ⟨22, .chain⟩, ⟨22, .guard⟩], some (22, true)⟩) (v := undef) rfl (by kernel_rfl) (by kernel_rfl) (by kernel_rfl) (fun _ _ _ h => h) (Or.inr ⟨by rfl, rfl⟩) (by assumption) ?_
            try simp only [Act.put, List.setIfInBounds_toArray, List.set_cons_zero, List.set_cons_succ]
            refine wpAnyH_take (i := 35) (oi := ⟨some 96, .unOp .not 4 (.tmp 95), 4, "keep.go:350", #[⟨34, .data⟩, ⟨22, .guard⟩], some (22, true)⟩) (v := undef) rfl (by kernel_rfl) (by kernel_rfl) (by kernel_rfl) (fun _ _ _ h => h) (Or.inr ⟨by rfl, rfl⟩) (by assumption) ?_
            try simp only [Act.put, List.setIfInBounds_toArray, List.set_cons_zero, List.set_cons_succ]
            refine wpAnyH_take (i := 36) (oi := ⟨some 97, .pick (.tmp 83) (.tmp 96) (.const (.bool false)), 4, "keep.go:350", #[⟨22, .data⟩, ⟨35, .data⟩, ⟨19, .guard⟩], some (19, false)⟩) (v := ?_) rfl (by kernel_rfl) (by kernel_rfl) (by kernel_rfl) (fun _ _ _ h => h) (Or.inl ⟨by rfl, ?_⟩) (by assumption) ?_
            rotate_left
            · intro w hSw; (try dsimp only at hSw); go_simp; (try with_reducible rfl)
            try simp only [Act.put, List.setIfInBounds_toArray, List.set_cons_zero, List.set_cons_succ]
            refine wpAnyH_take (i := 37) (oi := ⟨some 98, .pick (.tmp 80) (.const (.bool true)) (.tmp 97), 4, "keep.go:350", #[⟨19, .data⟩, ⟨36, .data⟩], none⟩) (v := ?_) rfl (by kernel_rfl) (by kernel_rfl) (by kernel_rfl) (fun _ _ _ h => h) (Or.inl ⟨by rfl, ?_⟩) (by assumption) ?_
            rotate_left
            · intro w hSw; (try dsimp only at hSw); go_simp; (try with_reducible rfl)
            try simp only [Act.put, List.setIfInBounds_toArray, List.set_cons_zero, List.set_cons_succ]
            refine wpAnyH_done (by kernel_rfl) ?_ _
            all_goals
             (have hI1 : TI wr none _ := ⟨hbn, fun x h => by cases h⟩
              go_upto_region 23 with fail
              go_cut [14, 15] from 55 to 117 (fun v7 v8 wx => Hid (TCut wr gj true cj v7 v8 wx))
              case first =>
               go_region_held3 (fun W => W.cell? ⟨sb, 0, none⟩ = some (.pointer (some ⟨eg, 0, none⟩)) ∧ W.cell? ⟨lb, 0, none⟩ = some (.string (Ax.gpred p)) ∧ W.cell? ⟨lb, 1, none⟩ = some (.slice xd pl9 xc)) (first | (exact HC3.out _ (TI.bel (by assumption))) | (exact HC3.out _ (TI.bel (TI.drew (by assumption)))) | (exact HC3.out _ (TI.bel (TI.alloc (by assumption)))) | (exact HC3.out _ (TI.bel (TI.alloc (TI.drew (by assumption))))) | (exact HC3.out _ (by obtain ⟨_, _, _, _, hbb⟩ := TI.cut_a (by assumption) gj true cj; exact hbb)) | (exact HC3.out _ (by obtain ⟨_, _, _, _, hbb⟩ := TI.cut_b (by assumption) gj true cj; exact hbb))) ((go_at_call 21; refine (HAK.out _ _ (by first | assumption | exact TI.drew (by assumption) | exact TI.alloc (by assumption) | exact TI.alloc (TI.drew (by assumption)))).mono ?_; rintro e wq ⟨rfl, hTn⟩; (try (obtain ⟨z0, z1, z2, f0, f1, f2, zl⟩ := TI.cells hTn; (try simp only [World.size_drew] at z0 z1 z2 f0 f1 f2 zl)))))
               all_goals
                (go_wp2_with fail
                 go_meet
                 first
                 | exact TI.cut_a (by assumption) _ _ _
                 | exact TI.cut_b (by assumption) _ _ _)
              case rest =>
               obtain ⟨hv8, tb, hv7, htb, hbx⟩ := hcut.out
               subst hv8
               subst hv7
               have d1 : wc.cell? ⟨tb, 1, none⟩ = some (.bool true) := by rw [cell_of_row _ _ _ _ _ _ htb]; rfl
               have HBC : Hid (Below w4.heap.size w4 wc) := HBK.out.trans (hbx.mono HBK.out.size)
               clear hcut htb hbx HCE HC3 HAK
               go_wp2_with fail
               all_goals
                (go_roundw
                 case rel => exact ⟨0 + 1, hkt, by go_num, HBC.out⟩
                 case measure => (simp [intOf]; omega)))
        · have HXE : Hid (Below w2.heap.size w2 wr) := HBW.out
          clear hbk
          go_wp2_with fail
          all_goals
           (go_roundw
            case rel => exact ⟨p + 1, by omega, by go_num, by rw [HSP.out]; simp, HXE.out⟩
            case measure => (simp [intOf]; omega))
     · have HSE : Hid (sumP H p = tal H 36) := by
        have e : p = 3 := by omega
        rw [e]
        exact HS3.out
       have htl : tal H 36 ≤ 36 := tal_le H 36
       rw [HSE.out]
       clear HSB HSE
       go_wp2_with fail
       go_loopw [9, 16] (fun v9 i wr => ∃ (q : Nat), q ≤ 36 ∧ i = .int .i64 q ∧ v9 = .int .i64 ((tal H 36 : Nat) - (tal H q : Nat)) ∧ Below w2.heap.size w2 wr) (fun _ i _ => 36 - (intOf i).toNat)
       case atStart => exact ⟨0, by omega, rfl, by simp [tal], hbp⟩
       case round =>
        obtain ⟨q, hq, rfl, rfl, hbq⟩ := hrel
        have hH := HHO.out wr hbq
        have hbl : hb < wr.heap.size := lt_of_heap hH
        have htq : tal H q ≤ q := tal_le H q
        have HBQ : Hid (Below w2.heap.size w2 wr) := hbq
        by_cases hqt : q < 36
        · have h1 := hH.cell (i := q) hqt
          have HTS : Hid (tal H (q + 1) = tal H q + if H q = true then 1 else 0) := tal_succ H q
          clear hH hbq hbp
          cases hx : H q with
          | true =>
           rw [hx] at h1 HTS
           have HVE : Hid (((tal H 36 : Nat) : Int) - (tal H q : Nat) - 1 = ((tal H 36 : Nat) : Int) - (tal H (q + 1) : Nat)) := by
            have e : ((tal H 36 : Nat) : Int) - (tal H q : Nat) - 1 = ((tal H 36 : Nat) : Int) - (tal H (q + 1) : Nat) := by rw [HTS.out]; simp; omega
            exact e
           generalize tal H q = tq at *
           generalize tal H 36 = tt at *
           go_wp2_with fail
           all_goals
            (go_roundw
             case rel => exact ⟨q + 1, hqt, by go_num, by rw [HVE.out], HBQ.out⟩
             case measure => (simp [intOf]; omega))
          | false =>
           rw [hx] at h1 HTS
           have HVE : Hid (((tal H 36 : Nat) : Int) - (tal H q : Nat) = ((tal H 36 : Nat) : Int) - (tal H (q + 1) : Nat)) := by
            have e : ((tal H 36 : Nat) : Int) - (tal H q : Nat) = ((tal H 36 : Nat) : Int) - (tal H (q + 1) : Nat) := by rw [HTS.out]; simp
            exact e
           generalize tal H q = tq at *
           generalize tal H 36 = tt at *
           go_wp2_with fail
           all_goals
            (go_roundw
             case rel => exact ⟨q + 1, hqt, by go_num, by rw [HVE.out], HBQ.out⟩
             case measure => (simp [intOf]; omega))
        · have e : q = 36 := by omega
          subst e
          have hc0 := HCS.out wr hbq
          rw [Int.sub_self]
          clear hH hbp
          go_wp2_with (go_at_call 17; refine (HZZ.out _ HBQ.out).mono ?_; rintro e w9 ⟨rfl, hb9⟩)
          all_goals
           (go_ret
            exact ⟨rfl, HB2.out.trans (hb9.mono HB2.out.size)⟩)
end Go.Proofs.YtdmicblafmhflaaGreatDoor
