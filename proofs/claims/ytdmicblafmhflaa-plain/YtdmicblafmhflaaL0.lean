/- The leaves of program: isBlank, isCapital, isDigit, strings.HasPrefix, isSmall. -/
import Derived.Test.YtdmicblafmhflaaProg
import Derived.KernelRfl
import Derived.Test.YtdmicblafmhflaaPP
import Derived.WalkKit
import Derived.WalkSpells
import Derived.WalkLawsBesides
namespace Go.Proofs.Ytdmicblafmhflaa
set_option linter.unusedSimpArgs false
set_option linter.unusedVariables false
open Go.RowKit

theorem ret_bool {a b : Bool} (h : a = b) : Ending.returned (.bool a) = .returned (.bool b) := by rw [h]

set_option maxHeartbeats 400000 in
theorem isBlank_any (r : Int) (w : World) :
    Calls Try.prog 36 #[.int .i32 r] w fun e w' => e = .returned (.bool (Ax.blank r)) ∧ w' = w := by
  go_enter Try.func36, Try.ntmps36
  go_wp2
  all_goals
    go_ret
    exact ⟨ret_bool (by simp [Ax.blank, *]), rfl⟩

set_option maxHeartbeats 400000 in
theorem isCapital_any (r : Int) (w : World) :
    Calls Try.prog 52 #[.int .i32 r] w fun e w' => e = .returned (.bool (Ax.capital r)) ∧ w' = w := by
  go_enter Try.func52, Try.ntmps52
  go_wp2
  all_goals
    go_ret
    exact ⟨ret_bool (by rw [Bool.eq_iff_iff]; simp [Ax.capital] <;> omega), rfl⟩

set_option maxHeartbeats 400000 in
theorem isDigit_any (r : Int) (w : World) :
    Calls Try.prog 63 #[.int .i32 r] w fun e w' => e = .returned (.bool (Ax.digit r)) ∧ w' = w := by
  go_enter Try.func63, Try.ntmps63
  go_wp2
  all_goals
    go_ret
    exact ⟨ret_bool (by rw [Bool.eq_iff_iff]; simp [Ax.digit] <;> omega), rfl⟩

theorem toList_eq (s : ByteArray) : s.toList = s.data.toList := by
  rcases s with ⟨⟨l⟩⟩
  simp

theorem prefix_yes (s p : ByteArray) (h : p.size ≤ s.size) : ((s.extract 0 p.size).toList == p.toList) = Ax.pre s p := by
  unfold Ax.pre
  rw [toList_eq, toList_eq]
  rcases s with ⟨⟨l⟩⟩
  rcases p with ⟨⟨m⟩⟩
  rw [Bool.eq_iff_iff]
  simp only [ByteArray.size, List.size_toArray] at h
  simp [List.prefix_iff_eq_take]
  exact eq_comm
theorem prefix_no (s p : ByteArray) (h : ¬ p.size ≤ s.size) : Ax.pre s p = false := by
  unfold Ax.pre
  rcases s with ⟨⟨l⟩⟩
  rcases p with ⟨⟨m⟩⟩
  rw [Bool.eq_false_iff]
  intro hp
  have := (List.isPrefixOf_iff_prefix.1 hp).length_le
  exact h this

set_option maxHeartbeats 400000 in
theorem stringslite_HasPrefix_any (s p : ByteArray) (w : World) (hs : s.size ≤ maxLen) (hp : p.size ≤ maxLen) :
    Calls Try.prog 62 #[.string s, .string p] w fun e w' => e = .returned (.bool (Ax.pre s p)) ∧ w' = w := by
  unfold maxLen at hs hp
  go_enter Try.func62, Try.ntmps62
  go_wp2
  · go_ret
    exact ⟨ret_bool (prefix_yes s p (by assumption)), rfl⟩
  · go_ret
    exact ⟨ret_bool (prefix_no s p (by assumption)).symm, rfl⟩

set_option maxHeartbeats 400000 in
theorem HasPrefix_any (s p : ByteArray) (w : World) (hs : s.size ≤ maxLen) (hp : p.size ≤ maxLen) :
    Calls Try.prog 49 #[.string s, .string p] w fun e w' => e = .returned (.bool (Ax.pre s p)) ∧ w' = w := by
  go_enter Try.func49, Try.ntmps49
  go_wp2_with (go_at_call 62; refine (stringslite_HasPrefix_any _ _ _ hs hp).mono ?_; rintro e w' ⟨rfl, rfl⟩)
  go_ret
  exact ⟨rfl, rfl⟩

theorem small_wide (s : ByteArray) : Ax.small s 65533 = Ax.pre s ⟨#[239, 191, 189]⟩ := by simp [Ax.small]
theorem small_else (s : ByteArray) (r : Int) (h : (r == 65533) = false) : Ax.small s r = ((decide (97 ≤ r) && decide (r ≤ 122)) || decide (224 ≤ r)) := by
  simp at h; simp [Ax.small, h]

set_option maxHeartbeats 400000 in
theorem isSmall_any (s : ByteArray) (r : Int) (w : World) (hs : s.size ≤ maxLen) :
    Calls Try.prog 50 #[.string s, .int .i32 r] w fun e w' => e = .returned (.bool (Ax.small s r)) ∧ w' = w := by
  by_cases h : r = 65533
  · subst h
    go_enter Try.func50, Try.ntmps50
    go_wp2_with (go_at_call 49; refine (HasPrefix_any _ _ _ hs (by decide)).mono ?_; rintro e w' ⟨rfl, rfl⟩)
    go_ret
    exact ⟨ret_bool (small_wide s).symm, rfl⟩
  · have hb : (r == 65533) = false := by simp [h]
    clear h
    go_enter Try.func50, Try.ntmps50
    go_wp2_with fail
    all_goals
      go_ret
      exact ⟨ret_bool (by rw [small_else s r hb, Bool.eq_iff_iff]; simp <;> omega), rfl⟩
end Go.Proofs.Ytdmicblafmhflaa
