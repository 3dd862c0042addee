/- word and firstToken. -/
import Derived.Test.YtdmicblafmhflaaL0
namespace Go.Proofs.Ytdmicblafmhflaa
set_option linter.unusedSimpArgs false
set_option linter.unusedVariables false
open Go.RowKit

theorem width_pos (s : ByteArray) (pos : Nat) (h : pos < s.size) : 1 ≤ (Utf8.decode s pos).2 := by
  by_cases ha : (s[pos]'h).toNat < 128
  · rw [decode_ascii s pos h ha]
    exact Nat.le_refl _
  · exact (decode_high s pos h (by omega)).2

theorem width_le (s : ByteArray) (pos : Nat) : (Utf8.decode s pos).2 ≤ 4 := by
  unfold Utf8.decode
  simp only
  repeat' split
  all_goals simp

theorem tail_le (s : ByteArray) (p : Nat) (h : s.size ≤ maxLen) : (s.extract p s.size).size ≤ maxLen := by
  have : (s.extract p s.size).size ≤ s.size := by simp only [ByteArray.size_extract]; omega
  omega

theorem wordLoop_end (s : ByteArray) (f p n : Nat) (h : ¬ p < s.size) : Ax.wordLoop s f p n = (s.size, n) := by
  cases f <;> simp [Ax.wordLoop, h]
theorem wordLoop_stop (s : ByteArray) (f p n : Nat) (h : p < s.size) (hs : Ax.stops s p = true) : Ax.wordLoop s (f + 1) p n = (p, n) := by
  simp [Ax.wordLoop, h, hs]
theorem wordLoop_on (s : ByteArray) (f p n : Nat) (h : p < s.size) (hs : Ax.stops s p = false) : Ax.wordLoop s (f + 1) p n = Ax.wordLoop s f (p + (Utf8.decode s p).2) (n + 1) := by
  simp [Ax.wordLoop, h, hs]

theorem word_many (s : ByteArray) (k : Int) (e n : Nat) (h : Ax.wordLoop s s.size 0 0 = (e, n)) (hn : 6 < n) : Ax.word s k = (0, 0) := by
  simp [Ax.word, h, hn]
theorem word_few (s : ByteArray) (k : Int) (e n : Nat) (h : Ax.wordLoop s s.size 0 0 = (e, n)) (hn : ¬ 6 < n) : Ax.word s k = (k, e) := by
  simp [Ax.word, h, hn]
theorem ret_pair {a b c d : Int} (h : a = c) (h' : b = d) : Ending.returned (.tuple #[.int .i64 a, .int .i64 b]) = .returned (.tuple #[.int .i64 c, .int .i64 d]) := by rw [h, h']

set_option maxHeartbeats 1000000 in
theorem word_any (s : ByteArray) (k : Int) (w : World) (hs : s.size ≤ maxLen) :
    Calls Try.prog 51 #[.string s, .int .i64 k] w fun e w' => e = .returned (.tuple #[.int .i64 (Ax.word s k).1, .int .i64 (Ax.word s k).2]) ∧ ∃ pos, w' = w.iter s pos := by
  have hs' := hs
  unfold maxLen at hs
  go_enter Try.func51, Try.ntmps51
  go_wp2_with fail
  go_loopw [6, 7] (fun a b w' => ∃ (pos n f : Nat), w' = w.iter s pos ∧ a = .int .i64 s.size ∧ b = .int .i64 n ∧ n ≤ pos ∧ pos ≤ s.size + 4 ∧ s.size ≤ pos + f ∧ Hid (Ax.wordLoop s f pos n = Ax.wordLoop s s.size 0 0)) (fun _ _ w' => s.size - w'.iterPos w.heap.size)
  case atStart => exact ⟨0, 0, s.size, rfl, rfl, rfl, by omega, by omega, by omega, rfl⟩
  case round =>
    obtain ⟨pos, n, f, rfl, rfl, rfl, hn, hp4, hf, hl⟩ := hrel
    by_cases hp : pos < s.size
    · have hnx : ∀ ty, (Instr.next (.pointer (some ⟨w.heap.size, 0, none⟩)) true ty).run Try.prog (w.iter s pos) = _ := fun ty => run_next_any w s pos ty hp
      have hwd := width_pos s pos hp
      have hwd4 := width_le s pos
      cases f with
      | zero => omega
      | succ f =>
      by_cases h0 : 0 < pos
      · by_cases hsm : Ax.small (s.extract pos s.size) (Utf8.decode s pos).1 = true
        · go_wp2_with (first | (go_at_call 50; refine (isSmall_any _ _ _ (tail_le s pos hs')).mono ?_; rintro e w' ⟨rfl, rfl⟩) | (go_at_call 63; refine (isDigit_any _ _).mono ?_; rintro e w' ⟨rfl, rfl⟩))
          go_roundw
          case rel => exact ⟨pos + (Utf8.decode s pos).2, n + 1, f, rfl, rfl, by go_num, by omega, by omega, by omega, (wordLoop_on s f pos n hp (by simp [Ax.stops, Ax.tail, hsm])).symm.trans hl.out⟩
          case measure => simp; omega
        · have hsm' : Ax.small (s.extract pos s.size) (Utf8.decode s pos).1 = false := by simpa using hsm
          clear hsm
          by_cases hdg : Ax.digit (Utf8.decode s pos).1 = true
          · go_wp2_with (first | (go_at_call 50; refine (isSmall_any _ _ _ (tail_le s pos hs')).mono ?_; rintro e w' ⟨rfl, rfl⟩) | (go_at_call 63; refine (isDigit_any _ _).mono ?_; rintro e w' ⟨rfl, rfl⟩))
            go_roundw
            case rel => exact ⟨pos + (Utf8.decode s pos).2, n + 1, f, rfl, rfl, by go_num, by omega, by omega, by omega, (wordLoop_on s f pos n hp (by simp [Ax.stops, hdg])).symm.trans hl.out⟩
            case measure => simp; omega
          · have hdg' : Ax.digit (Utf8.decode s pos).1 = false := by simpa using hdg
            clear hdg
            have hend : Hid (Ax.wordLoop s s.size 0 0 = (pos, n)) := hl.out.symm.trans (wordLoop_stop s f pos n hp (by simp [Ax.stops, Ax.tail, h0, hsm', hdg']))
            go_wp2_with (first | (go_at_call 50; refine (isSmall_any _ _ _ (tail_le s pos hs')).mono ?_; rintro e w' ⟨rfl, rfl⟩) | (go_at_call 63; refine (isDigit_any _ _).mono ?_; rintro e w' ⟨rfl, rfl⟩))
            · have hm : 6 < n := by omega
              go_ret2
              exact ⟨by rw [word_many s k _ _ hend.out hm]; rfl, _, rfl⟩
            · have hm : ¬ 6 < n := by omega
              go_ret2
              exact ⟨by rw [word_few s k _ _ hend.out hm]; rfl, _, rfl⟩
      · go_wp2_with (first | (go_at_call 50; refine (isSmall_any _ _ _ (tail_le s pos hs')).mono ?_; rintro e w' ⟨rfl, rfl⟩) | (go_at_call 63; refine (isDigit_any _ _).mono ?_; rintro e w' ⟨rfl, rfl⟩))
        go_roundw
        case rel => exact ⟨pos + (Utf8.decode s pos).2, n + 1, f, rfl, rfl, by go_num, by omega, by omega, by omega, (wordLoop_on s f pos n hp (by simp [Ax.stops]; omega)).symm.trans hl.out⟩
        case measure => simp; omega
    · have hnx : ∀ ty, (Instr.next (.pointer (some ⟨w.heap.size, 0, none⟩)) true ty).run Try.prog (w.iter s pos) = _ := fun ty => run_next_end w s pos ty hp
      have hend : Hid (Ax.wordLoop s s.size 0 0 = (s.size, n)) := hl.out.symm.trans (wordLoop_end s f pos n hp)
      go_wp2_with fail
      · have hm : 6 < n := by omega
        go_ret2
        exact ⟨by rw [word_many s k _ _ hend.out hm]; rfl, _, rfl⟩
      · have hm : ¬ 6 < n := by omega
        go_ret2
        exact ⟨by rw [word_few s k _ _ hend.out hm]; rfl, _, rfl⟩
end Go.Proofs.Ytdmicblafmhflaa
