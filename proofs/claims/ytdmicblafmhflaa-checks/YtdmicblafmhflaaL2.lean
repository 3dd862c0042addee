/- firstToken. -/
import Derived.Test.YtdmicblafmhflaaL1
namespace Go.Proofs.Ytdmicblafmhflaa
set_option linter.unusedSimpArgs false
set_option linter.unusedVariables false
open Go.RowKit

theorem below_iter (w : World) (s : ByteArray) (pos : Nat) : Below w.heap.size w (w.iter s pos) := (Below.refl _ _).alloc (Nat.le_refl _) _

theorem ft1 (s : ByteArray) (r : Int) (h : (r == 40) = true) : Ax.firstTok s r = (4, 1) := by simp at h; simp [Ax.firstTok, h]
theorem ft2 (s : ByteArray) (r : Int) (h1 : (r == 40) = false) (h : (r == 41) = true) : Ax.firstTok s r = (5, 1) := by simp at h; simp [Ax.firstTok, h]
theorem ft3 (s : ByteArray) (r : Int) (h1 : (r == 40) = false) (h2 : (r == 41) = false) (h : (r == 44) = true) : Ax.firstTok s r = (6, 1) := by simp at h; simp [Ax.firstTok, h]
theorem ft4 (s : ByteArray) (r : Int) (h1 : (r == 40) = false) (h2 : (r == 41) = false) (h3 : (r == 44) = false) (h : (r == 46) = true) : Ax.firstTok s r = (7, 1) := by simp at h; simp [Ax.firstTok, h]
theorem ft5 (s : ByteArray) (r : Int) (h1 : (r == 40) = false) (h2 : (r == 41) = false) (h3 : (r == 44) = false) (h4 : (r == 46) = false) (h : Ax.pre s ⟨#[58, 45]⟩ = true) : Ax.firstTok s r = (8, 2) := by
  simp at h1 h2 h3 h4; simp [Ax.firstTok, *]
theorem ft6 (s : ByteArray) (r : Int) (h1 : (r == 40) = false) (h2 : (r == 41) = false) (h3 : (r == 44) = false) (h4 : (r == 46) = false) (h5 : Ax.pre s ⟨#[58, 45]⟩ = false) (h : Ax.small s r = true) : Ax.firstTok s r = Ax.word s 2 := by
  simp at h1 h2 h3 h4; simp [Ax.firstTok, *]
theorem ft7 (s : ByteArray) (r : Int) (h1 : (r == 40) = false) (h2 : (r == 41) = false) (h3 : (r == 44) = false) (h4 : (r == 46) = false) (h5 : Ax.pre s ⟨#[58, 45]⟩ = false) (h6 : Ax.small s r = false) (h : Ax.capital r = true) : Ax.firstTok s r = Ax.word s 3 := by
  simp at h1 h2 h3 h4; simp [Ax.firstTok, *]
theorem ft8 (s : ByteArray) (r : Int) (h1 : (r == 40) = false) (h2 : (r == 41) = false) (h3 : (r == 44) = false) (h4 : (r == 46) = false) (h5 : Ax.pre s ⟨#[58, 45]⟩ = false) (h6 : Ax.small s r = false) (h : Ax.capital r = false) : Ax.firstTok s r = (0, 0) := by
  simp at h1 h2 h3 h4; simp [Ax.firstTok, *]

theorem ret_ft {t : Int × Nat} {a : Int} {b : Nat} (h : t = (a, b)) : Ending.returned (.tuple #[.int .i64 a, .int .i64 b]) = .returned (.tuple #[.int .i64 t.1, .int .i64 t.2]) := by rw [h]
theorem ret_ft1 {t : Int × Nat} {a : Int} (h : t = (a, 1)) : Ending.returned (.tuple #[.int .i64 a, .int .i64 1]) = .returned (.tuple #[.int .i64 t.1, .int .i64 t.2]) := by rw [h]; rfl
theorem ret_ft2 {t : Int × Nat} {a : Int} (h : t = (a, 2)) : Ending.returned (.tuple #[.int .i64 a, .int .i64 2]) = .returned (.tuple #[.int .i64 t.1, .int .i64 t.2]) := by rw [h]; rfl
theorem ret_ft0 {t : Int × Nat} {a : Int} (h : t = (a, 0)) : Ending.returned (.tuple #[.int .i64 a, .int .i64 0]) = .returned (.tuple #[.int .i64 t.1, .int .i64 t.2]) := by rw [h]; rfl
theorem ret_ftw {t u : Int × Nat} (h : t = u) : Ending.returned (.tuple #[.int .i64 u.1, .int .i64 u.2]) = .returned (.tuple #[.int .i64 t.1, .int .i64 t.2]) := by rw [h]

set_option maxHeartbeats 1000000 in
theorem firstToken_any (s : ByteArray) (r : Int) (w : World) (hs : s.size ≤ maxLen) :
    Calls Try.prog 37 #[.string s, .int .i32 r] w fun e w' => e = .returned (.tuple #[.int .i64 (Ax.firstTok s r).1, .int .i64 (Ax.firstTok s r).2]) ∧ Below w.heap.size w w' := by
  cases h1 : (r == 40)
  case true =>
    go_enter Try.func37, Try.ntmps37
    go_wp2_with fail
    go_ret2
    exact ⟨ret_ft1 (ft1 s r h1), Below.refl _ _⟩
  cases h2 : (r == 41)
  case true =>
    go_enter Try.func37, Try.ntmps37
    go_wp2_with fail
    go_ret2
    exact ⟨ret_ft1 (ft2 s r h1 h2), Below.refl _ _⟩
  cases h3 : (r == 44)
  case true =>
    go_enter Try.func37, Try.ntmps37
    go_wp2_with fail
    go_ret2
    exact ⟨ret_ft1 (ft3 s r h1 h2 h3), Below.refl _ _⟩
  cases h4 : (r == 46)
  case true =>
    go_enter Try.func37, Try.ntmps37
    go_wp2_with fail
    go_ret2
    exact ⟨ret_ft1 (ft4 s r h1 h2 h3 h4), Below.refl _ _⟩
  cases h5 : Ax.pre s ⟨#[58, 45]⟩
  case true =>
    go_enter Try.func37, Try.ntmps37
    go_wp2_with (go_at_call 49; refine (HasPrefix_any _ _ _ hs (by decide)).mono ?_; rintro e w' ⟨rfl, rfl⟩)
    go_ret2
    exact ⟨ret_ft2 (ft5 s r h1 h2 h3 h4 h5), Below.refl _ _⟩
  cases h6 : Ax.small s r
  case true =>
    have hft : Hid (Ax.firstTok s r = Ax.word s 2) := ft6 s r h1 h2 h3 h4 h5 h6
    go_enter Try.func37, Try.ntmps37
    go_wp2_with (first | (go_at_call 49; refine (HasPrefix_any _ _ _ hs (by decide)).mono ?_; rintro e w' ⟨rfl, rfl⟩) | (go_at_call 50; refine (isSmall_any _ _ _ hs).mono ?_; rintro e w' ⟨rfl, rfl⟩) | (go_at_call 51; refine (word_any _ _ _ hs).mono ?_; rintro e w' ⟨rfl, pos, rfl⟩))
    go_ret2
    exact ⟨ret_ftw hft.out, below_iter _ _ _⟩
  cases h7 : Ax.capital r
  case true =>
    have hft : Hid (Ax.firstTok s r = Ax.word s 3) := ft7 s r h1 h2 h3 h4 h5 h6 h7
    go_enter Try.func37, Try.ntmps37
    go_wp2_with (first | (go_at_call 49; refine (HasPrefix_any _ _ _ hs (by decide)).mono ?_; rintro e w' ⟨rfl, rfl⟩) | (go_at_call 50; refine (isSmall_any _ _ _ hs).mono ?_; rintro e w' ⟨rfl, rfl⟩) | (go_at_call 52; refine (isCapital_any _ _).mono ?_; rintro e w' ⟨rfl, rfl⟩) | (go_at_call 51; refine (word_any _ _ _ hs).mono ?_; rintro e w' ⟨rfl, pos, rfl⟩))
    go_ret2
    exact ⟨ret_ftw hft.out, below_iter _ _ _⟩
  go_enter Try.func37, Try.ntmps37
  go_wp2_with (first | (go_at_call 49; refine (HasPrefix_any _ _ _ hs (by decide)).mono ?_; rintro e w' ⟨rfl, rfl⟩) | (go_at_call 50; refine (isSmall_any _ _ _ hs).mono ?_; rintro e w' ⟨rfl, rfl⟩) | (go_at_call 52; refine (isCapital_any _ _).mono ?_; rintro e w' ⟨rfl, rfl⟩))
  go_ret2
  exact ⟨ret_ft0 (ft8 s r h1 h2 h3 h4 h5 h6 h7), Below.refl _ _⟩
end Go.Proofs.Ytdmicblafmhflaa
