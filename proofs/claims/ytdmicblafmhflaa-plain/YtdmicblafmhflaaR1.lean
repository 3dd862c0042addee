/- axiomref: point. -/
import Derived.Test.YtdmicblafmhflaaR2
import Derived.Test.YtdmicblafmhflaaR3
import Derived.Test.YtdmicblafmhflaaR4
namespace Go.Proofs.Ytdmicblafmhflaa
set_option linter.unusedSimpArgs false
set_option linter.unusedVariables false
open Go.RowKit

set_option maxRecDepth 100000 in
set_option maxHeartbeats 1000000 in
theorem point_any (s : ByteArray) (i : Nat) (w : World) (hs : s.size ≤ 600) (hi : i < s.size) :
    Calls Try.prog 68 #[.string s, .int .i64 i] w fun e w' => e = .returned (.tuple #[.int .i64 (Ax.pt s i).1, .int .i64 (Ax.pt s i).2]) ∧ w' = w := by
  have hbl := Ax.byte_lt s i
  have hb := Ax.byte_get s i hi
  by_cases h1 : Ax.byte s i < 128
  · have hp : Ax.pt s i = (Ax.byte s i, 1) := by simp [Ax.pt, h1]
    have HP : Hid (Ax.pt s i = (Ax.byte s i, 1)) := hp
    clear hp
    go_enter Try.func68, Try.ntmps68
    go_wp2_with fail
    go_ret2
    exact ⟨ret_nn (by rw [HP.out]) (by rw [HP.out]; rfl), rfl⟩
  by_cases h2 : Ax.byte s i < 192
  · have HP : Hid (Ax.pt s i = (0, 0)) := by simp [Hid, Ax.pt, h1, h2]
    go_enter Try.func68, Try.ntmps68
    go_wp2_with fail
    go_ret2
    exact ⟨ret_nn (by rw [HP.out]; rfl) (by rw [HP.out]; rfl), rfl⟩
  by_cases h3 : Ax.byte s i < 224
  · have hp : Ax.pt s i = Ax.rfin 2 128 (Ax.rcont s i 1 1 (Ax.byte s i - 192)) := by simp [Ax.pt, h1, h2, h3]
    rw [hp]; exact point_2 s i w hs hi (by omega) h3
  by_cases h4 : Ax.byte s i < 240
  · have hp : Ax.pt s i = Ax.rfin 3 2048 (Ax.rcont s i 2 1 (Ax.byte s i - 224)) := by simp [Ax.pt, h1, h2, h3, h4]
    rw [hp]; exact point_3 s i w hs hi (by omega) h4
  by_cases h5 : Ax.byte s i < 248
  · have hp : Ax.pt s i = Ax.rfin 4 65536 (Ax.rcont s i 3 1 (Ax.byte s i - 240)) := by simp [Ax.pt, h1, h2, h3, h4, h5]
    rw [hp]; exact point_4 s i w hs hi (by omega) h5
  · have HP : Hid (Ax.pt s i = (0, 0)) := by simp [Hid, Ax.pt, h1, h2, h3, h4, h5]
    go_enter Try.func68, Try.ntmps68
    go_wp2_with fail
    go_ret2
    exact ⟨ret_nn (by rw [HP.out]; rfl) (by rw [HP.out]; rfl), rfl⟩
end Go.Proofs.Ytdmicblafmhflaa
