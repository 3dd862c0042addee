/- axiomkeep: text, walked. -/
import Derived.Test.YtdmicblafmhflaaV8
import Derived.Deep.CutRange
namespace Go.Proofs.Ytdmicblafmhflaa
set_option linter.unusedSimpArgs false
set_option linter.unusedVariables false
open Go.RowKit

set_option maxRecDepth 100000 in
set_option maxHeartbeats 8000000 in
theorem text_any (w : World) (ad : Option Addr) (n c : Nat) (l : List Ax.KRule) (h : RulesAt w ad n c l) (R : ByteArray) (HR : Hid (trules (l.take 6) tbase = R)) :
    Calls Try.prog 6 #[.slice ad n c] w fun e w' => e = .returned (.string R) ∧ Below w.heap.size w w' ∧ R.size ≤ 338 := by
  have hcm : c ≤ 9223372036854775807 := h.max
  have hnc := h.cap
  have hlen := h.len
  rw [tbase_eq] at HR
  go_enter Try.func6, Try.ntmps6
  go_wp2_with fail
  go_loopw [3, 4] (fun sv iv wr => ∃ (i : Nat) (q : ByteArray), i ≤ min n 6 ∧ sv = .string q ∧ iv = .int .i64 i ∧ Below w.heap.size w wr ∧ q.size ≤ 38 + 50 * i ∧ trules ((l.take 6).drop i) q = R) (fun _ iv _ => 6 - (intOf iv).toNat)
  case atStart => exact ⟨0, _, Nat.zero_le _, rfl, rfl, Below.refl _ _, by decide, HR.out⟩
  case round =>
    obtain ⟨i, q, hi, rfl, rfl, hbel, hqs, hr⟩ := hrel
    have HRi : Hid (trules ((l.take 6).drop i) q = R) := hr
    clear hr HR
    have hsz := hbel.size
    by_cases hlt : i < min n 6
    · have hn1 : decide ((i : Int) < (n : Int)) = true := by simp; omega
      have hn2 : decide ((i : Int) < 6) = true := by simp; omega
      have hn3 : (i : Int) < (n : Int) := by omega
      have hdrop : (l.take 6).drop i = l[i] :: (l.take 6).drop (i + 1) := by
        rw [List.drop_eq_getElem_cons (by rw [List.length_take]; omega), List.getElem_take]
      rw [hdrop] at HRi
      clear hdrop
      obtain ⟨g, o, had, hra⟩ := h.at_ i (by omega)
      subst had
      generalize l[i] = r at *
      have HN : Hid (trules ((l.take 6).drop (i + 1)) (trule r q) = R) := HRi
      clear HRi
      obtain ⟨⟨e0, e1, e2, f0, f1, f2⟩, bd, bn, bc, e3, hB⟩ := hra
      have HT : Hid (trule r q = tbody (Ax.gbody r) 0 (q ++ wAtom (Ax.gpick r.head.pred 3) (Ax.ghead r)) ++ ⟨#[46]⟩) := rfl
      have hhd := head_of hB f0 f1 f2 _ rfl
      have hwr := written_of (w := w) f0 _ (ghead_two r).2 (ghead_seven r) _ rfl
      have hAs := wAtom_size (Ax.gpick r.head.pred 3) (Ax.ghead r) (ghead_two r).2
      have hB2 := hB.two
      obtain ⟨m, hm⟩ : ∃ m, min bn 2 = m := ⟨_, rfl⟩
      have hm2 : m ≤ 2 := by omega
      have hbd := body_of hB r.head.pred r.head.a r.head.b m hm
      rw [hm] at hB2
      clear hm hB
      generalize trule r q = Q at *
      generalize wAtom (Ax.gpick r.head.pred 3) (Ax.ghead r) = A at *
      generalize Ax.ghead r = T at *
      generalize Ax.gbody r = gb at *
      rcases r with ⟨⟨p, a, b⟩, rb⟩
      simp only at *
      have E0 := cell_below hbel e0
      have E1 := cell_below hbel e1
      have E2 := cell_below hbel e2
      have E3 := cell_below hbel e3
      have hA1 : (q ++ A).size ≤ 50 + 50 * i := by rw [ByteArray.size_append]; omega
      go_upto_region 5 with fail
      go_cut [3] from 7 to 62 (fun sv wx => sv = .string (q ++ A) ∧ Below w.heap.size w wx)
      case first =>
        go_region_with (first | (go_at_call 12; refine (hhd _ (by first | exact hbel | exact hbel.drew)).mono ?_; rintro e w2 ⟨d2, c2, rfl, ho2, hb2⟩; have G0 := cell_below hb2 e0) | (go_at_call 11; refine (hwr _ _ _ hb2 ho2).mono ?_; rintro e w3 ⟨rfl, hb3⟩))
        all_goals (go_wp2_with fail)
        all_goals go_meet
        all_goals exact ⟨rfl, by first | exact hb3 | exact hb3.drew⟩
      case rest =>
        obtain ⟨rfl, hbc⟩ := hcut
        clear E0 E1 E2 E3 hbel hhd hwr hqs hsz
        have K0 := cell_below hbc e0
        have K1 := cell_below hbc e1
        have K2 := cell_below hbc e2
        have K3 := cell_below hbc e3
        go_wp2_with (go_at_call 13; refine (hbd _ hbc).mono ?_; rintro e w4 ⟨rfl, hb4⟩)
        generalize (q ++ A : ByteArray) = q1 at *
        clear K0 K1 K2 K3 hbc hbd
        obtain ⟨Z, hZ⟩ : ∃ Z, tbody gb 0 q1 = Z := ⟨_, rfl⟩
        have HZ : Hid (tbody gb 0 q1 = Z) := hZ
        rw [hZ] at HT
        clear hZ e0 e1 e2 e3
        have hgl := hB2.len
        have hbm : bc ≤ 9223372036854775807 := hB2.max
        have hmc := hB2.cap
        go_loopw [3, 6] (fun sv kv wx => ∃ (k : Nat) (q2 : ByteArray), k ≤ m ∧ sv = .string q2 ∧ kv = .int .i64 k ∧ Below w.heap.size w wx ∧ q2.size ≤ 50 + 50 * i + 15 * k ∧ tbody (gb.drop k) k q2 = Z) (fun _ kv _ => m - (intOf kv).toNat)
        case atStart => exact ⟨0, _, Nat.zero_le _, rfl, rfl, hb4, by omega, HZ.out⟩
        case round =>
          obtain ⟨k, q2, hk, rfl, rfl, hbk, hq2, hz⟩ := hrel
          have HZk : Hid (tbody (gb.drop k) k q2 = Z) := hz
          clear hz HZ hb4
          by_cases hkm : k < m
          · have hdrop : gb.drop k = gb[k] :: gb.drop (k + 1) := List.drop_eq_getElem_cons (by omega)
            rw [hdrop] at HZk
            clear hdrop
            obtain ⟨bg, bo, had, ha⟩ := hB2.at_ k (by omega)
            subst had
            generalize gb[k] = x at *
            obtain ⟨e0, e1, e2, f0, f1, f2⟩ := ha
            have hte := terms_of (w := w) f0 f1 f2 _ rfl
            have hwr := written_of (w := w) f0 _ (gterms_two x).2 (gterms_seven x) (wA x) rfl
            have hAs := wAtom_size (Ax.gpick x.pred 3) (Ax.gterms x) (gterms_two x).2
            have hAs : (wA x).size ≤ 12 := hAs
            have HZx : Hid (tbody (gb.drop (k + 1)) (k + 1) ((if k = 0 then q2 ++ ⟨#[58, 45]⟩ else q2 ++ ⟨#[44]⟩) ++ wA x) = Z) := HZk
            clear HZk
            generalize wA x = A at *
            generalize Ax.gterms x = T at *
            rcases x with ⟨p, a, b⟩
            simp only at *
            have E0 := cell_below hbk e0
            have E1 := cell_below hbk e1
            have E2 := cell_below hbk e2
            have hk3 : (k : Int) < (m : Int) := by omega
            by_cases hk0 : k = 0
            · have hb0 : (((k : Nat) : Int) == 0) = true := by simp; omega
              have HQ : Hid (tbody (gb.drop (k + 1)) (k + 1) (q2 ++ ⟨#[58, 45]⟩ ++ A) = Z) := by
                have := HZx.out
                rw [if_pos hk0] at this
                exact this
              have h1s : (⟨#[58, 45]⟩ : ByteArray).size = 2 := rfl
              have hs1 : (q2 ++ ⟨#[58, 45]⟩ : ByteArray).size ≤ 52 + 50 * i + 15 * k := by rw [ByteArray.size_append]; omega
              have hs2 : (q2 ++ ⟨#[58, 45]⟩ ++ A : ByteArray).size ≤ 50 + 50 * i + 15 * (k + 1) := by rw [ByteArray.size_append, ByteArray.size_append]; omega
              clear HZx hk0
              go_wp2_with fail
              go_region_with (first | (go_at_call 14; refine (hte _ (by first | exact hbk | exact hbk.drew)).mono ?_; rintro e w2 ⟨d2, c2, rfl, ho2, hb2⟩; have G0 := cell_below hb2 e0) | (go_at_call 11; refine (hwr _ _ _ hb2 ho2).mono ?_; rintro e w3 ⟨rfl, hb3⟩))
              all_goals (go_wp2_with fail)
              all_goals (go_roundw; (case rel => exact ⟨k + 1, _, by omega, rfl, by go_num, (by first | exact hb3 | exact hb3.drew), by omega, HQ.out⟩); (case measure => simp [intOf]; omega))
            · have hb0 : (((k : Nat) : Int) == 0) = false := by simp; omega
              have HQ : Hid (tbody (gb.drop (k + 1)) (k + 1) (q2 ++ ⟨#[44]⟩ ++ A) = Z) := by
                have := HZx.out
                rw [if_neg hk0] at this
                exact this
              have h1s : (⟨#[44]⟩ : ByteArray).size = 1 := rfl
              have hs1 : (q2 ++ ⟨#[44]⟩ : ByteArray).size ≤ 52 + 50 * i + 15 * k := by rw [ByteArray.size_append]; omega
              have hs2 : (q2 ++ ⟨#[44]⟩ ++ A : ByteArray).size ≤ 50 + 50 * i + 15 * (k + 1) := by rw [ByteArray.size_append, ByteArray.size_append]; omega
              clear HZx hk0
              go_wp2_with fail
              go_region_with (first | (go_at_call 14; refine (hte _ (by first | exact hbk | exact hbk.drew)).mono ?_; rintro e w2 ⟨d2, c2, rfl, ho2, hb2⟩; have G0 := cell_below hb2 e0) | (go_at_call 11; refine (hwr _ _ _ hb2 ho2).mono ?_; rintro e w3 ⟨rfl, hb3⟩))
              all_goals (go_wp2_with fail)
              all_goals (go_roundw; (case rel => exact ⟨k + 1, _, by omega, rfl, by go_num, (by first | exact hb3 | exact hb3.drew), by omega, HQ.out⟩); (case measure => simp [intOf]; omega))
          · have hqZ : q2 = Z := by
              have := HZk.out
              rw [List.drop_eq_nil_of_le (by omega)] at this
              exact this
            subst hqZ
            clear HZk
            have h1s : (⟨#[46]⟩ : ByteArray).size = 1 := rfl
            have hqs3 : (q2 ++ ⟨#[46]⟩ : ByteArray).size ≤ 88 + 50 * i := by rw [ByteArray.size_append]; omega
            go_wp2_with fail
            go_roundw
            case rel => exact ⟨i + 1, _, by omega, rfl, by go_num, hbk, by omega, by rw [← HT.out]; exact HN.out⟩
            case measure => simp [intOf]; omega
    · by_cases hin : i < n
      · have hn1 : decide ((i : Int) < (n : Int)) = true := by simp; omega
        have hn2 : decide ((i : Int) < 6) = false := by simp; omega
        have hqR : q = R := by
          have := HRi.out
          rw [List.drop_eq_nil_of_le (by simp; omega)] at this
          exact this
        subst hqR
        clear HRi
        go_wp2_with fail
        go_ret
        exact ⟨rfl, hbel, by omega⟩
      · have hn1 : decide ((i : Int) < (n : Int)) = false := by simp; omega
        have hqR : q = R := by
          have := HRi.out
          rw [List.drop_eq_nil_of_le (by simp; omega)] at this
          exact this
        subst hqR
        clear HRi
        go_wp2_with fail
        go_ret
        exact ⟨rfl, hbel, by omega⟩
end Go.Proofs.Ytdmicblafmhflaa
