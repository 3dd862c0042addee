/- axiomref: point at 4 bytes. -/
import Derived.Test.YtdmicblafmhflaaR0
namespace Go.Proofs.Ytdmicblafmhflaa
set_option linter.unusedSimpArgs false
set_option linter.unusedVariables false
open Go.RowKit

set_option maxRecDepth 100000 in
set_option maxHeartbeats 1000000 in
theorem point_4 (s : ByteArray) (i : Nat) (w : World) (hs : s.size ≤ 600) (hi : i < s.size) (h1 : 240 ≤ Ax.byte s i) (h2 : Ax.byte s i < 248) :
    Calls Try.prog 68 #[.string s, .int .i64 i] w fun e w' => e = .returned (.tuple #[.int .i64 (Ax.rfin 4 65536 (Ax.rcont s i 3 1 (Ax.byte s i - 240))).1, .int .i64 (Ax.rfin 4 65536 (Ax.rcont s i 3 1 (Ax.byte s i - 240))).2]) ∧ w' = w := by
  have hb := Ax.byte_get s i hi
  have d128 : decide ((Ax.byte s i : Int) < 128) = false := by simp; omega
  have d192 : decide ((Ax.byte s i : Int) < 192) = false := by simp; omega
  have d224 : decide ((Ax.byte s i : Int) < 224) = false := by simp; omega
  have d240 : decide ((Ax.byte s i : Int) < 240) = false := by simp; omega
  have d248 : decide ((Ax.byte s i : Int) < 248) = true := by simp; omega
  generalize hR : Ax.rcont s i 3 1 (Ax.byte s i - 240) = R
  go_enter Try.func68, Try.ntmps68
  go_wp2_with fail
  go_loopg [6, 9] 3 (fun m c k wr => ∃ q cv : Nat, q + m = 4 ∧ 1 ≤ q ∧ k = .int .i64 q ∧ c = .int .i64 cv ∧ ((q = 1 ∧ cv < 32) ∨ (q = 2 ∧ cv < 2048) ∨ (q = 3 ∧ cv < 131072) ∨ (q = 4 ∧ cv < 8388608)) ∧ Ax.rcont s i m q cv = R ∧ w = wr)
  case atStart => exact ⟨1, Ax.byte s i - 240, rfl, Nat.le_refl _, rfl, by go_num, .inl ⟨rfl, by omega⟩, hR, rfl⟩
  case round =>
    obtain ⟨q, cv, hq, hq1, rfl, rfl, hcv, hr, hwr⟩ := hrel
    subst hwr
    obtain ⟨m, rfl⟩ : ∃ x, x = gk := ⟨_, rfl⟩
    have HR : Hid (Ax.rcont s i m q cv = R) := hr
    have HCV : Hid ((q = 1 ∧ cv < 32) ∨ (q = 2 ∧ cv < 2048) ∨ (q = 3 ∧ cv < 131072) ∨ (q = 4 ∧ cv < 8388608)) := hcv
    have hcb : cv < 8388608 := by omega
    clear hr hR hcv hb
    cases m with
    | zero =>
      have hqn : ¬ q < 4 := by omega
      have HR0 : Hid (R = some cv) := HR.out.symm
      clear hq
      by_cases hbad : cv < 65536 ∨ 1114111 < cv ∨ (55296 ≤ cv ∧ cv ≤ 57343)
      · have HB : Hid (Ax.rfin 4 65536 R = (0, 0)) := by rw [HR0.out]; exact rfin_no _ _ _ hbad
        rcases (show cv < 65536 ∨ (65536 ≤ cv ∧ 1114111 < cv) ∨ (65536 ≤ cv ∧ cv ≤ 1114111 ∧ 55296 ≤ cv ∧ cv ≤ 57343) by omega) with hx | ⟨hx, hy⟩ | ⟨hx, hy, hz, hu⟩
        all_goals
          clear hbad
          (go_wp2_with fail) <;> (go_ret2; exact ⟨ret_nn (by rw [HB.out]; rfl) (by rw [HB.out]; rfl), rfl⟩)
      · have HB : Hid (Ax.rfin 4 65536 R = (cv, 4)) := by rw [HR0.out]; exact rfin_yes _ _ _ hbad
        rcases (show (65536 ≤ cv ∧ cv ≤ 1114111 ∧ cv < 55296) ∨ (65536 ≤ cv ∧ cv ≤ 1114111 ∧ 57343 < cv) by omega) with ⟨hx, hy, hz⟩ | ⟨hx, hy, hz⟩
        all_goals
          clear hbad
          (go_wp2_with fail) <;> (go_ret2; exact ⟨ret_nn (by rw [HB.out]) (by rw [HB.out]; rfl), rfl⟩)
    | succ m =>
      have hqn : q < 4 := by omega
      by_cases hend : s.size ≤ i + q
      · have HB : Hid (Ax.rfin 4 65536 R = (0, 0)) := by rw [← HR.out, rcont_no _ _ _ _ _ (.inl hend)]; rfl
        go_wp2_with fail
        go_ret2
        exact ⟨ret_nn (by rw [HB.out]; rfl) (by rw [HB.out]; rfl), rfl⟩
      · have hb := Ax.byte_get s (i + q) (by omega)
        have hbl := Ax.byte_lt s (i + q)
        rcases (show Ax.byte s (i + q) < 128 ∨ 191 < Ax.byte s (i + q) ∨ (128 ≤ Ax.byte s (i + q) ∧ Ax.byte s (i + q) ≤ 191) by omega) with hx | hx | ⟨hx, hy⟩
        · have HB : Hid (Ax.rfin 4 65536 R = (0, 0)) := by rw [← HR.out, rcont_no _ _ _ _ _ (.inr (.inl hx))]; rfl
          go_wp2_with fail
          go_ret2
          exact ⟨ret_nn (by rw [HB.out]; rfl) (by rw [HB.out]; rfl), rfl⟩
        · have HB : Hid (Ax.rfin 4 65536 R = (0, 0)) := by rw [← HR.out, rcont_no _ _ _ _ _ (.inr (.inr hx))]; rfl
          go_wp2_with fail
          go_ret2
          exact ⟨ret_nn (by rw [HB.out]; rfl) (by rw [HB.out]; rfl), rfl⟩
        · have HN : Hid (Ax.rcont s i m (q + 1) (cv * 64 + Ax.byte s (i + q) - 128) = R) := by rw [← HR.out, rcont_on _ _ _ _ _ (by omega)]; rfl
          go_wp2_with fail
          go_roundg m
          case measure => omega
          case rel => exact ⟨q + 1, cv * 64 + Ax.byte s (i + q) - 128, by omega, by omega, by go_num, by go_num, by have := HCV.out; omega, HN.out, rfl⟩
end Go.Proofs.Ytdmicblafmhflaa
