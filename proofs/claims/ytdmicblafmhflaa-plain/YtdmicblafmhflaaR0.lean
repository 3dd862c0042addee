/- axiomref: small, point. -/
import Derived.Test.YtdmicblafmhflaaQQ
import Derived.Test.YtdmicblafmhflaaL1
import Derived.Deep.LoopGhost
namespace Go.Proofs.Ytdmicblafmhflaa
set_option linter.unusedSimpArgs false
set_option linter.unusedVariables false
open Go.RowKit

set_option maxHeartbeats 400000 in
theorem rsmall_any (c : Int) (w : World) :
    Calls Try.prog 69 #[.int .i64 c] w fun e w' => e = .returned (.bool (Ax.rsmall c)) ∧ w' = w := by
  go_enter Try.func69, Try.ntmps69
  go_wp2_with fail
  all_goals
    go_ret
    exact ⟨ret_bool (by unfold Ax.rsmall; rw [Bool.eq_iff_iff]; simp <;> omega), rfl⟩

theorem rcont_no (s : ByteArray) (i m k c : Nat) (h : s.size ≤ i + k ∨ Ax.byte s (i + k) < 128 ∨ 191 < Ax.byte s (i + k)) : Ax.rcont s i (m + 1) k c = none := by simp [Ax.rcont, h]
theorem rcont_on (s : ByteArray) (i m k c : Nat) (h : ¬ (s.size ≤ i + k ∨ Ax.byte s (i + k) < 128 ∨ 191 < Ax.byte s (i + k))) : Ax.rcont s i (m + 1) k c = Ax.rcont s i m (k + 1) (c * 64 + Ax.byte s (i + k) - 128) := by simp [Ax.rcont, h]
theorem rfin_no (n lo c : Nat) (h : c < lo ∨ 1114111 < c ∨ (55296 ≤ c ∧ c ≤ 57343)) : Ax.rfin n lo (some c) = (0, 0) := by simp [Ax.rfin, h]
theorem rfin_yes (n lo c : Nat) (h : ¬ (c < lo ∨ 1114111 < c ∨ (55296 ≤ c ∧ c ≤ 57343))) : Ax.rfin n lo (some c) = (c, n) := by simp [Ax.rfin, h]
theorem ret_nn {t : Nat × Nat} {a b : Int} (h1 : a = t.1) (h2 : b = t.2) : Ending.returned (.tuple #[.int .i64 a, .int .i64 b]) = .returned (.tuple #[.int .i64 t.1, .int .i64 t.2]) := by rw [h1, h2]
end Go.Proofs.Ytdmicblafmhflaa
