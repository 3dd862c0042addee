/- axiomkeep: pick, name, places, pred, term. -/
import Derived.Test.YtdmicblafmhflaaUU
import Derived.Test.YtdmicblafmhflaaS0
namespace Go.Proofs.Ytdmicblafmhflaa
set_option linter.unusedSimpArgs false
set_option linter.unusedVariables false
open Go.RowKit

def Fit64 (c : Int) : Prop := -9223372036854775808 ≤ c ∧ c ≤ 9223372036854775807

theorem gpick_eq {c : Int} {n : Nat} {d : Int} (hd : (if c < 0 then -(c + 1) else c) = d) (h0 : 0 ≤ d) (hn : 0 < n) : d.tmod (n : Int) = ((Ax.gpick c n : Nat) : Int) := by
  unfold Ax.gpick
  rw [hd, Int.tmod_eq_emod_of_nonneg h0]
  have := Int.emod_nonneg d (show (n : Int) ≠ 0 by omega)
  omega

theorem pick_any (c : Int) (n : Nat) (w : World) (hc : Fit64 c) (hn : 0 < n) (hn2 : n ≤ 1000) : Calls Try.prog 7 #[.int .i64 c, .int .i64 n] w fun e w' => e = .returned (.int .i64 (Ax.gpick c n)) ∧ w' = w := by
  obtain ⟨h1, h2⟩ := hc
  by_cases h : c < 0
  · have hb : decide (c < 0) = true := by simpa using h
    have e := gpick_eq (c := c) (n := n) (d := -(c + 1)) (by rw [if_pos h]) (by omega) hn
    go_enter Try.func7, Try.ntmps7
    go_wp2
    go_ret
    exact ⟨by rw [← e]; rfl, rfl⟩
  · have hb : decide (c < 0) = false := by simpa using h
    have e := gpick_eq (c := c) (n := n) (d := c) (by rw [if_neg h]) (by omega) hn
    go_enter Try.func7, Try.ntmps7
    go_wp2
    go_ret
    exact ⟨by rw [← e]; rfl, rfl⟩

theorem pick_val (c : Int) (n k : Nat) (hc : Fit64 c) (hn : 0 < n) (hn2 : n ≤ 1000) (hk : Ax.gpick c n = k) (N : Int) (hN : N = n) : ∀ w, Calls Try.prog 7 #[.int .i64 c, .int .i64 N] w fun e w' => e = .returned (.int .i64 k) ∧ w' = w := by
  subst hk hN
  exact fun w => pick_any c n w hc hn hn2

theorem term_any (c : Int) (w : World) (hc : Fit64 c) : Calls Try.prog 21 #[.int .i64 c] w fun e w' => e = .returned (.int .i64 (Ax.gpick c 7)) ∧ w' = w := by
  have hp := pick_val c 7 _ hc (by decide) (by decide) rfl 7 rfl
  go_enter Try.func21, Try.ntmps21
  go_wp2_with (go_at_call 7; refine (hp _).mono ?_; rintro e w1 ⟨rfl, rfl⟩)
  go_ret
  exact ⟨rfl, rfl⟩

theorem places_any (c : Int) (w : World) (hc : Fit64 c) : Calls Try.prog 20 #[.int .i64 c] w fun e w' => e = .returned (.int .i64 (if Ax.gpick c 3 = 0 then 1 else 2)) ∧ w' = w := by
  obtain ⟨k, hk⟩ : ∃ k, Ax.gpick c 3 = k := ⟨_, rfl⟩
  have hp := pick_val c 3 k hc (by decide) (by decide) hk 3 rfl
  rw [hk]
  by_cases h0 : k = 0
  · subst h0
    go_enter Try.func20, Try.ntmps20
    go_wp2_with (go_at_call 7; refine (hp _).mono ?_; rintro e w1 ⟨rfl, rfl⟩)
    go_ret
    exact ⟨rfl, rfl⟩
  · have hb : (((k : Nat) : Int) == 0) = false := by simp; omega
    rw [if_neg h0]
    go_enter Try.func20, Try.ntmps20
    go_wp2_with (go_at_call 7; refine (hp _).mono ?_; rintro e w1 ⟨rfl, rfl⟩)
    go_ret
    exact ⟨rfl, rfl⟩

theorem gen_pred (c : Int) (w : World) (hc : Fit64 c) : Calls Try.prog 17 #[.int .i64 c] w fun e w' => e = .returned (.string (Ax.gpred (Ax.gpick c 3))) ∧ Below w.heap.size w w' := by
  obtain ⟨k, hk⟩ : ∃ k, Ax.gpick c 3 = k := ⟨_, rfl⟩
  have hlt : k < 3 := by rw [← hk]; exact Ax.gpick_lt c 3 (by decide)
  have hp := pick_val c 3 k hc (by decide) (by decide) hk 3 rfl
  rw [hk]
  clear hk
  have : k = 0 ∨ k = 1 ∨ k = 2 := by omega
  rcases this with rfl | rfl | rfl
  all_goals (go_enter Try.func17, Try.ntmps17)
  all_goals (go_wp2_with (go_at_call 7; refine (hp _).mono ?_; rintro e w1 ⟨rfl, rfl⟩))
  all_goals go_ret
  all_goals exact ⟨rfl, (Below.refl _ _).alloc (Nat.le_refl _) _⟩

theorem gen_name (c : Int) (w : World) (hc : Fit64 c) : Calls Try.prog 18 #[.int .i64 c] w fun e w' => e = .returned (.string (Ax.gname (Ax.gpick c 4))) ∧ Below w.heap.size w w' := by
  obtain ⟨k, hk⟩ : ∃ k, Ax.gpick c 4 = k := ⟨_, rfl⟩
  have hlt : k < 4 := by rw [← hk]; exact Ax.gpick_lt c 4 (by decide)
  have hp := pick_val c 4 k hc (by decide) (by decide) hk 4 rfl
  rw [hk]
  clear hk
  have : k = 0 ∨ k = 1 ∨ k = 2 ∨ k = 3 := by omega
  rcases this with rfl | rfl | rfl | rfl
  all_goals (go_enter Try.func18, Try.ntmps18)
  all_goals (go_wp2_with (go_at_call 7; refine (hp _).mono ?_; rintro e w1 ⟨rfl, rfl⟩))
  all_goals go_ret
  all_goals exact ⟨rfl, (Below.refl _ _).alloc (Nat.le_refl _) _⟩
end Go.Proofs.Ytdmicblafmhflaa
