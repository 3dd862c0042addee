/- axiomkeep: body. -/
import Derived.Test.YtdmicblafmhflaaV3
namespace Go.Proofs.Ytdmicblafmhflaa
set_option linter.unusedSimpArgs false
set_option linter.unusedVariables false
open Go.RowKit

set_option maxRecDepth 100000 in
theorem body_any (w : World) (p a b : Int) (ad : Addr) (n c : Nat) (hn : n ≤ c) (hc : c ≤ maxLen) : Calls Try.prog 13 #[.agg #[.int .i64 p, .int .i64 a, .int .i64 b, .slice (some ad) n c]] w fun e w' => e = .returned (.slice (some ad) (min n 2) c) ∧ Below w.heap.size w w' := by
  have hm : maxLen = 9223372036854775807 := rfl
  by_cases h2 : 2 < n
  · have hb : decide ((2 : Int) < (n : Int)) = true := by simp; omega
    rw [Nat.min_eq_right (by omega)]
    go_enter Try.func13, Try.ntmps13
    go_wp2_with fail
    go_ret
    exact ⟨rfl, (Below.refl _ _).alloc (Nat.le_refl _) _⟩
  · have hb : decide ((2 : Int) < (n : Int)) = false := by simp; omega
    rw [Nat.min_eq_left (by omega)]
    go_enter Try.func13, Try.ntmps13
    go_wp2_with fail
    go_ret
    exact ⟨rfl, (Below.refl _ _).alloc (Nat.le_refl _) _⟩
theorem body_none (w : World) (p a b : Int) (c : Nat) : Calls Try.prog 13 #[.agg #[.int .i64 p, .int .i64 a, .int .i64 b, .slice none 0 c]] w fun e w' => e = .returned (.slice none 0 c) ∧ Below w.heap.size w w' := by
  go_enter Try.func13, Try.ntmps13
  go_wp2_with fail
  go_ret
  exact ⟨rfl, (Below.refl _ _).alloc (Nat.le_refl _) _⟩
end Go.Proofs.Ytdmicblafmhflaa
