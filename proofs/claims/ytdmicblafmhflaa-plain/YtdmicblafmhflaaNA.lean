/- Read and Check, whole. -/
import Derived.Test.YtdmicblafmhflaaN9
namespace Go.Proofs.Ytdmicblafmhflaa
set_option linter.unusedSimpArgs false
set_option linter.unusedVariables false
open Go.RowKit

set_option maxRecDepth 100000 in
set_option maxHeartbeats 2000000 in
theorem readW_0 (s : ByteArray) (w : World) (hsz : s.size ≤ 600) (rs : List Ax.Rule) (j : Nat) (HR : Hid (Ax.pRules (Ax.split s) (Ax.split s).length 0 [] = (some rs, j))) (HF : Hid (rs.length ≤ 1000 ∧ ∀ r, r ∈ rs → Ax.Fits 600 1000 r)) (H3 : Hid (Ax.tooMany 0 [] rs = none)) (H4 : Hid (Ax.twoAr [] (rs.flatMap Ax.Rule.atoms) = none)) (H5 : Hid (Ax.openHead rs = none)) :
    Calls Try.prog 15 #[.string s] w fun e w' => ∃ rd n rc, e = .returned (.tuple #[.agg #[.string ⟨(textsOf (Ax.split s)).toArray⟩, .slice rd n rc], .int .i64 0, .int .i64 0]) ∧ Below w.heap.size w w' := by
  have hgt : ¬ (600 : Int) < (s.size : Int) := by omega
  have hspl := Ax.split_length s
  have htx : Hid (∀ t, t ∈ Ax.split s → t.text.size ≤ 600) := fun t ht => Nat.le_trans (Ax.split_text s t ht) hsz
  go_enter Try.func15, Try.ntmps15
  go_wp2_with (first | (go_at_call 22; refine (clone_any s _ (by omega)).mono ?_; rintro e w0 ⟨rfl, hb0⟩) | (go_at_call 23; refine (split_any s _ (by omega)).mono ?_; rintro e w1 ⟨v1, rfl, hown1, hb1⟩; obtain ⟨td, tc, rfl⟩ := ownsRow_shape hown1; obtain ⟨r1, gw1, lt1⟩ := read_world1 (hb0.trans (hb1.mono hb0.size))) | (go_at_call 24; have hpat := PAt.first (s := s) (td := td) (tc := tc) hown1 hsz; refine (rules_some _ _ _ _ _ _ _ hpat HR).mono ?_; rintro e w2 ⟨rd, rc, l, rfl, hl, hp2, hg2, hrow2, hmrs2⟩; have hll := RulesIn.len hl.out HF; have hpr := RulesIn.preds hl.out HF; have hin2 := RulesIn.of_fits hrow2 hmrs2 hl.out HF; obtain ⟨r2, b2, gw2⟩ := read_world2 r1 gw1 hg2; have f02 := frozen_at r2 0; have f12 := frozen_at r2 1; have k02 := cell_at r2 0; have k12 := cell_at r2 1; simp only [List.getElem?_toArray, List.getElem?_cons_zero, List.getElem?_cons_succ] at k02 k12; have lt2 := lt_of_heap r2) | (go_at_call 26; refine (tooMany_none _ _ _ _ hin2 (by rw [hl.out]; exact H3.out)).mono ?_; rintro e w3 ⟨rfl, hb3⟩; obtain ⟨r3, b3⟩ := read_world3 r2 b2 hb3; have hin3 := hin2.below hb3; have f03 := frozen_at r3 0; have f13 := frozen_at r3 1; have k03 := cell_at r3 0; have k13 := cell_at r3 1; simp only [List.getElem?_toArray, List.getElem?_cons_zero, List.getElem?_cons_succ] at k03 k13; have lt3 := lt_of_heap r3) | (go_at_call 27; refine (twoArities_none _ _ _ _ hin3 hll hpr (by rw [hl.out]; exact H4.out)).mono ?_; rintro e w4 ⟨rfl, hb4⟩; obtain ⟨r4, b4⟩ := read_world3 r3 b3 hb4; have hin4 := hin3.below hb4; have f04 := frozen_at r4 0; have f14 := frozen_at r4 1; have k04 := cell_at r4 0; have k14 := cell_at r4 1; simp only [List.getElem?_toArray, List.getElem?_cons_zero, List.getElem?_cons_succ] at k04 k14; have lt4 := lt_of_heap r4) | (go_at_call 28; refine (openHead_none _ _ _ _ hin4 (by rw [hl.out]; exact H5.out)).mono ?_; rintro e w5 ⟨rfl, hb5⟩; obtain ⟨r5, b5⟩ := read_world3 r4 b4 hb5; have hp5 := ((hp2.below hb3).below hb4).below hb5; have q0 := cell_at hp5.1 0; simp only [List.getElem?_toArray, List.getElem?_cons_zero] at q0; have q1 := lt_of_heap hp5.1; have f05 := frozen_at r5 0; have f15 := frozen_at r5 1; have k05 := cell_at r5 0; have k15 := cell_at r5 1; simp only [List.getElem?_toArray, List.getElem?_cons_zero, List.getElem?_cons_succ] at k05 k15; have lt5 := lt_of_heap r5) | (go_at_call 29; refine (plainForm_any _ _ _ _ _ hp5.2.1 (by omega) htx.out).mono ?_; rintro e w6 ⟨rfl, hb6⟩; obtain ⟨r6, b6⟩ := read_world3 r5 b5 hb6; have f06 := frozen_at r6 0; have f16 := frozen_at r6 1; have k06 := cell_at r6 0; have k16 := cell_at r6 1; simp only [List.getElem?_toArray, List.getElem?_cons_zero, List.getElem?_cons_succ] at k06 k16; have lt6 := lt_of_heap r6))
  obtain ⟨hu, bu⟩ := two_stores45 r6 (.string ⟨(textsOf (Ax.split s)).toArray⟩) (.slice rd l.length rc) b6 (Nat.le_refl _)
  exact bodyPost_ret (v := .tuple #[.agg #[.string ⟨(textsOf (Ax.split s)).toArray⟩, .slice rd l.length rc], .int .i64 0, .int .i64 0]) (by simp [results, Try.results15, go_sem, cell_at hu]) rfl ⟨_, _, _, rfl, bu⟩

theorem read_any (s : ByteArray) (w : World) (hs : s.size ≤ maxLen) :
    Calls Try.prog 15 #[.string s] w fun e w' => ∃ rd n rc, e = .returned (.tuple #[.agg #[.string (Ax.read s).1, .slice rd n rc], .int .i64 (Ax.read s).2.1, .int .i64 (Ax.read s).2.2]) ∧ Below w.heap.size w w' := by
  by_cases hgt : 600 < s.size
  · rw [Ax.read_1 hgt]
    refine (readW_1 s w hs hgt).mono ?_
    rintro e w' ⟨rfl, hb⟩
    exact ⟨_, _, _, rfl, hb⟩
  have hsz : s.size ≤ 600 := by omega
  have hspl := Ax.split_length s
  rcases hR : Ax.pRules (Ax.split s) (Ax.split s).length 0 [] with ⟨_ | rs, j⟩
  · have hj := Ax.pRules_lt (Ax.split_ends s) _ _ _ (Ax.split_pos s) hR
    have ht : (Ax.split s)[j]? = some (Ax.split s)[j] := List.getElem?_eq_getElem hj
    rw [Ax.read_2 hgt hR ht]
    refine (readW_2 s w hsz j hR _ ht).mono ?_
    rintro e w' ⟨rfl, hb⟩
    exact ⟨_, _, _, rfl, hb⟩
  · have hfit := Ax.pRules_fits (M := 600) (fun t ht => Nat.le_trans (Ax.split_text s t ht) hsz) _ _ _ (fun _ h => by cases h) hR
    have HF : rs.length ≤ 1000 ∧ ∀ r, r ∈ rs → Ax.Fits 600 1000 r := by
      refine ⟨by have := hfit.2; simp only [List.length_nil, Nat.zero_add] at this; omega, fun r hr => ?_⟩
      have := hfit.1 r hr
      exact ⟨by have := this.1; omega, this.2⟩
    cases h3 : Ax.tooMany 0 [] rs with
    | some p =>
      rw [Ax.read_3 hgt hR h3]
      refine (readW_3 s w hsz rs j hR HF p h3).mono ?_
      rintro e w' ⟨rfl, hb⟩
      exact ⟨_, _, _, rfl, hb⟩
    | none =>
      cases h4 : Ax.twoAr [] (rs.flatMap Ax.Rule.atoms) with
      | some p =>
        rw [Ax.read_4 hgt hR h3 h4]
        refine (readW_4 s w hsz rs j hR HF h3 p h4).mono ?_
        rintro e w' ⟨rfl, hb⟩
        exact ⟨_, _, _, rfl, hb⟩
      | none =>
        cases h5 : Ax.openHead rs with
        | some p =>
          rw [Ax.read_5 hgt hR h3 h4 h5]
          refine (readW_5 s w hsz rs j hR HF h3 h4 p h5).mono ?_
          rintro e w' ⟨rfl, hb⟩
          exact ⟨_, _, _, rfl, hb⟩
        | none =>
          rw [Ax.read_0 hgt hR h3 h4 h5]
          refine (readW_0 s w hsz rs j hR HF h3 h4 h5).mono ?_
          rintro e w' ⟨rd, n, rc, rfl, hb⟩
          exact ⟨rd, n, rc, rfl, hb⟩

set_option maxHeartbeats 1000000 in
theorem check_any (s : ByteArray) (w : World) (hs : s.size ≤ maxLen) :
    Calls Try.prog 8 #[.string s] w fun e w' => e = .returned (.tuple #[.string (Ax.read s).1, .int .i64 (Ax.read s).2.1, .int .i64 (Ax.read s).2.2]) ∧ Below w.heap.size w w' := by
  go_enter Try.func8, Try.ntmps8
  go_wp2_with (go_at_call 15; refine (read_any s _ hs).mono ?_; rintro e w1 ⟨rd, n, rc, rfl, hb1⟩)
  go_ret3
  exact ⟨rfl, hb1.alloc hb1.size _⟩
end Go.Proofs.Ytdmicblafmhflaa
