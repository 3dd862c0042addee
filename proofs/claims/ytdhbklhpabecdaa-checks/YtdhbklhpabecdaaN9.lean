/- Read, a program by its form. -/
import Derived.Test.YtdhbklhpabecdaaN8
namespace Go.Proofs.Ytdhbklhpabecdaa
set_option linter.unusedSimpArgs false
set_option linter.unusedVariables false
open Go.RowKit

set_option maxRecDepth 100000 in
set_option maxHeartbeats 2000000 in
theorem readW_3 (s : ByteArray) (w : World) (hsz : s.size ≤ 600) (rs : List Ax.Rule) (j : Nat) (HR : Hid (Ax.pRules (Ax.split s) (Ax.split s).length 0 [] = (some rs, j))) (HF : Hid (rs.length ≤ 1000 ∧ ∀ r, r ∈ rs → Ax.Fits 600 1000 r)) (p : Nat) (H3 : Hid (Ax.tooMany 0 [] rs = some p)) :
    Calls Try.prog 15 #[.string s] w fun e w' => e = .returned (.tuple #[.agg #[.string ⟨#[]⟩, .slice none 0 0], .int .i64 3, .int .i64 p]) ∧ Below w.heap.size w w' := by
  have hgt : ¬ (600 : Int) < (s.size : Int) := by omega
  have hfd := Try.fieldTok1
  go_enter Try.func15, Try.ntmps15
  go_wp2_with (first | (go_at_call 22; refine (split_any s _ (by omega)).mono ?_; rintro e w1 ⟨v1, rfl, hown1, hb1⟩; obtain ⟨td, tc, rfl⟩ := ownsRow_shape hown1; obtain ⟨r1, gw1, lt1⟩ := read_world1 hb1) | (go_at_call 23; have hpat := PAt.first (s := s) (td := td) (tc := tc) hown1 hsz; refine (rules_some _ _ _ _ _ _ _ hpat HR).mono ?_; rintro e w2 ⟨rd, rc, l, rfl, hl, hp2, hg2, hrow2, hmrs2⟩; have hin2 := RulesIn.of_fits hrow2 hmrs2 hl.out HF; obtain ⟨r2, b2, gw2⟩ := read_world2 r1 gw1 hg2; have f02 := frozen_at r2 0; have f12 := frozen_at r2 1; have k02 := cell_at r2 0; have k12 := cell_at r2 1; simp only [List.getElem?_toArray, List.getElem?_cons_zero, List.getElem?_cons_succ] at k02 k12; have lt2 := lt_of_heap r2) | (go_at_call 25; refine (tooMany_some _ _ _ _ p hin2 (by rw [hl.out]; exact H3.out)).mono ?_; rintro e w3 ⟨rfl, hb3⟩; obtain ⟨r3, b3⟩ := read_world3 r2 b2 hb3; have hin3 := hin2.below hb3; have f03 := frozen_at r3 0; have f13 := frozen_at r3 1; have k03 := cell_at r3 0; have k13 := cell_at r3 1; simp only [List.getElem?_toArray, List.getElem?_cons_zero, List.getElem?_cons_succ] at k03 k13; have lt3 := lt_of_heap r3))
  obtain ⟨hu, bu⟩ := two_stores45 r3 (.string ⟨#[]⟩) (.slice none 0 0) b3 (Nat.le_refl _)
  exact bodyPost_ret (v := .tuple #[.agg #[.string ⟨#[]⟩, .slice none 0 0], .int .i64 3, .int .i64 p]) (by simp [results, Try.results15, go_sem, cell_at hu]) rfl ⟨rfl, bu⟩

set_option maxRecDepth 100000 in
set_option maxHeartbeats 2000000 in
theorem readW_4 (s : ByteArray) (w : World) (hsz : s.size ≤ 600) (rs : List Ax.Rule) (j : Nat) (HR : Hid (Ax.pRules (Ax.split s) (Ax.split s).length 0 [] = (some rs, j))) (HF : Hid (rs.length ≤ 1000 ∧ ∀ r, r ∈ rs → Ax.Fits 600 1000 r)) (H3 : Hid (Ax.tooMany 0 [] rs = none)) (p : Nat) (H4 : Hid (Ax.twoAr [] (rs.flatMap Ax.Rule.atoms) = some p)) :
    Calls Try.prog 15 #[.string s] w fun e w' => e = .returned (.tuple #[.agg #[.string ⟨#[]⟩, .slice none 0 0], .int .i64 4, .int .i64 p]) ∧ Below w.heap.size w w' := by
  have hgt : ¬ (600 : Int) < (s.size : Int) := by omega
  have hfd := Try.fieldTok1
  go_enter Try.func15, Try.ntmps15
  go_wp2_with (first | (go_at_call 22; refine (split_any s _ (by omega)).mono ?_; rintro e w1 ⟨v1, rfl, hown1, hb1⟩; obtain ⟨td, tc, rfl⟩ := ownsRow_shape hown1; obtain ⟨r1, gw1, lt1⟩ := read_world1 hb1) | (go_at_call 23; have hpat := PAt.first (s := s) (td := td) (tc := tc) hown1 hsz; refine (rules_some _ _ _ _ _ _ _ hpat HR).mono ?_; rintro e w2 ⟨rd, rc, l, rfl, hl, hp2, hg2, hrow2, hmrs2⟩; have hll := RulesIn.len hl.out HF; have hpr := RulesIn.preds hl.out HF; have hin2 := RulesIn.of_fits hrow2 hmrs2 hl.out HF; obtain ⟨r2, b2, gw2⟩ := read_world2 r1 gw1 hg2; have f02 := frozen_at r2 0; have f12 := frozen_at r2 1; have k02 := cell_at r2 0; have k12 := cell_at r2 1; simp only [List.getElem?_toArray, List.getElem?_cons_zero, List.getElem?_cons_succ] at k02 k12; have lt2 := lt_of_heap r2) | (go_at_call 25; refine (tooMany_none _ _ _ _ hin2 (by rw [hl.out]; exact H3.out)).mono ?_; rintro e w3 ⟨rfl, hb3⟩; obtain ⟨r3, b3⟩ := read_world3 r2 b2 hb3; have hin3 := hin2.below hb3; have f03 := frozen_at r3 0; have f13 := frozen_at r3 1; have k03 := cell_at r3 0; have k13 := cell_at r3 1; simp only [List.getElem?_toArray, List.getElem?_cons_zero, List.getElem?_cons_succ] at k03 k13; have lt3 := lt_of_heap r3) | (go_at_call 26; refine (twoArities_some _ _ _ _ p hin3 hll hpr (by rw [hl.out]; exact H4.out)).mono ?_; rintro e w4 ⟨rfl, hb4⟩; obtain ⟨r4, b4⟩ := read_world3 r3 b3 hb4; have hin4 := hin3.below hb4; have f04 := frozen_at r4 0; have f14 := frozen_at r4 1; have k04 := cell_at r4 0; have k14 := cell_at r4 1; simp only [List.getElem?_toArray, List.getElem?_cons_zero, List.getElem?_cons_succ] at k04 k14; have lt4 := lt_of_heap r4))
  obtain ⟨hu, bu⟩ := two_stores45 r4 (.string ⟨#[]⟩) (.slice none 0 0) b4 (Nat.le_refl _)
  exact bodyPost_ret (v := .tuple #[.agg #[.string ⟨#[]⟩, .slice none 0 0], .int .i64 4, .int .i64 p]) (by simp [results, Try.results15, go_sem, cell_at hu]) rfl ⟨rfl, bu⟩

set_option maxRecDepth 100000 in
set_option maxHeartbeats 2000000 in
theorem readW_5 (s : ByteArray) (w : World) (hsz : s.size ≤ 600) (rs : List Ax.Rule) (j : Nat) (HR : Hid (Ax.pRules (Ax.split s) (Ax.split s).length 0 [] = (some rs, j))) (HF : Hid (rs.length ≤ 1000 ∧ ∀ r, r ∈ rs → Ax.Fits 600 1000 r)) (H3 : Hid (Ax.tooMany 0 [] rs = none)) (H4 : Hid (Ax.twoAr [] (rs.flatMap Ax.Rule.atoms) = none)) (p : Nat) (H5 : Hid (Ax.openHead rs = some p)) :
    Calls Try.prog 15 #[.string s] w fun e w' => e = .returned (.tuple #[.agg #[.string ⟨#[]⟩, .slice none 0 0], .int .i64 5, .int .i64 p]) ∧ Below w.heap.size w w' := by
  have hgt : ¬ (600 : Int) < (s.size : Int) := by omega
  have hfd := Try.fieldTok1
  go_enter Try.func15, Try.ntmps15
  go_wp2_with (first | (go_at_call 22; refine (split_any s _ (by omega)).mono ?_; rintro e w1 ⟨v1, rfl, hown1, hb1⟩; obtain ⟨td, tc, rfl⟩ := ownsRow_shape hown1; obtain ⟨r1, gw1, lt1⟩ := read_world1 hb1) | (go_at_call 23; have hpat := PAt.first (s := s) (td := td) (tc := tc) hown1 hsz; refine (rules_some _ _ _ _ _ _ _ hpat HR).mono ?_; rintro e w2 ⟨rd, rc, l, rfl, hl, hp2, hg2, hrow2, hmrs2⟩; have hll := RulesIn.len hl.out HF; have hpr := RulesIn.preds hl.out HF; have hin2 := RulesIn.of_fits hrow2 hmrs2 hl.out HF; obtain ⟨r2, b2, gw2⟩ := read_world2 r1 gw1 hg2; have f02 := frozen_at r2 0; have f12 := frozen_at r2 1; have k02 := cell_at r2 0; have k12 := cell_at r2 1; simp only [List.getElem?_toArray, List.getElem?_cons_zero, List.getElem?_cons_succ] at k02 k12; have lt2 := lt_of_heap r2) | (go_at_call 25; refine (tooMany_none _ _ _ _ hin2 (by rw [hl.out]; exact H3.out)).mono ?_; rintro e w3 ⟨rfl, hb3⟩; obtain ⟨r3, b3⟩ := read_world3 r2 b2 hb3; have hin3 := hin2.below hb3; have f03 := frozen_at r3 0; have f13 := frozen_at r3 1; have k03 := cell_at r3 0; have k13 := cell_at r3 1; simp only [List.getElem?_toArray, List.getElem?_cons_zero, List.getElem?_cons_succ] at k03 k13; have lt3 := lt_of_heap r3) | (go_at_call 26; refine (twoArities_none _ _ _ _ hin3 hll hpr (by rw [hl.out]; exact H4.out)).mono ?_; rintro e w4 ⟨rfl, hb4⟩; obtain ⟨r4, b4⟩ := read_world3 r3 b3 hb4; have hin4 := hin3.below hb4; have f04 := frozen_at r4 0; have f14 := frozen_at r4 1; have k04 := cell_at r4 0; have k14 := cell_at r4 1; simp only [List.getElem?_toArray, List.getElem?_cons_zero, List.getElem?_cons_succ] at k04 k14; have lt4 := lt_of_heap r4) | (go_at_call 27; refine (openHead_some _ _ _ _ p hin4 (by rw [hl.out]; exact H5.out)).mono ?_; rintro e w5 ⟨rfl, hb5⟩; obtain ⟨r5, b5⟩ := read_world3 r4 b4 hb5; have f05 := frozen_at r5 0; have f15 := frozen_at r5 1; have k05 := cell_at r5 0; have k15 := cell_at r5 1; simp only [List.getElem?_toArray, List.getElem?_cons_zero, List.getElem?_cons_succ] at k05 k15; have lt5 := lt_of_heap r5))
  obtain ⟨hu, bu⟩ := two_stores45 r5 (.string ⟨#[]⟩) (.slice none 0 0) b5 (Nat.le_refl _)
  exact bodyPost_ret (v := .tuple #[.agg #[.string ⟨#[]⟩, .slice none 0 0], .int .i64 5, .int .i64 p]) (by simp [results, Try.results15, go_sem, cell_at hu]) rfl ⟨rfl, bu⟩

end Go.Proofs.Ytdhbklhpabecdaa
