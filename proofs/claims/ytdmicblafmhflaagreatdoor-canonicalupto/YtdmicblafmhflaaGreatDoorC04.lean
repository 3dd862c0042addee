/- The leaves of program: isBlank, isCapital, isDigit, strings.HasPrefix, isSmall. -/
import Derived.Test.YtdmicblafmhflaaGreatDoorProg
import Derived.KernelRfl
import Derived.Test.YtdmicblafmhflaaGreatDoorC00
import Derived.WalkKit
import Derived.WalkSpells
import Derived.WalkLawsBesides
import Derived.Lib.OthersKept
set_option linter.unusedSimpArgs false
set_option linter.unusedVariables false
namespace Go.Proofs.YtdmicblafmhflaaGreatDoor
open Go.RowKit
theorem ret_bool {a b : Bool} (h : a = b) : Ending.returned (.bool a) = .returned (.bool b) := by rw [h]
set_option maxHeartbeats 400000 in
theorem isBlank_any (r : Int) (w : World) :
 Calls Tryz.prog 177 #[.int .i32 r] w fun e w' => e = .returned (.bool (Ax.blank r)) ∧ w' = w := by
 go_enter Tryz.func177, Tryz.ntmps177
 go_wp2
 all_goals
  go_ret
  exact ⟨ret_bool (by simp [Ax.blank, *]), rfl⟩
set_option maxHeartbeats 400000 in
theorem isCapital_any (r : Int) (w : World) :
 Calls Tryz.prog 221 #[.int .i32 r] w fun e w' => e = .returned (.bool (Ax.capital r)) ∧ w' = w := by
 go_enter Tryz.func221, Tryz.ntmps221
 go_wp2
 all_goals
  go_ret
  exact ⟨ret_bool (by rw [Bool.eq_iff_iff]; simp [Ax.capital] <;> omega), rfl⟩
set_option maxHeartbeats 400000 in
theorem isDigit_any (r : Int) (w : World) :
 Calls Tryz.prog 259 #[.int .i32 r] w fun e w' => e = .returned (.bool (Ax.digit r)) ∧ w' = w := by
 go_enter Tryz.func259, Tryz.ntmps259
 go_wp2
 all_goals
  go_ret
  exact ⟨ret_bool (by rw [Bool.eq_iff_iff]; simp [Ax.digit] <;> omega), rfl⟩
theorem toList_eq (s : ByteArray) : s.toList = s.data.toList := by
 rcases s with ⟨⟨l⟩⟩
 simp
theorem prefix_yes (s p : ByteArray) (h : p.size ≤ s.size) : ((s.extract 0 p.size).toList == p.toList) = Ax.pre s p := by
 unfold Ax.pre
 rw [toList_eq, toList_eq]
 rcases s with ⟨⟨l⟩⟩
 rcases p with ⟨⟨m⟩⟩
 rw [Bool.eq_iff_iff]
 simp only [ByteArray.size, List.size_toArray] at h
 simp [List.prefix_iff_eq_take]
 exact eq_comm
theorem prefix_no (s p : ByteArray) (h : ¬ p.size ≤ s.size) : Ax.pre s p = false := by
 unfold Ax.pre
 rcases s with ⟨⟨l⟩⟩
 rcases p with ⟨⟨m⟩⟩
 rw [Bool.eq_false_iff]
 intro hp
 have := (List.isPrefixOf_iff_prefix.1 hp).length_le
 exact h this
set_option maxHeartbeats 400000 in
theorem stringslite_HasPrefix_any (s p : ByteArray) (w : World) (hs : s.size ≤ maxLen) (hp : p.size ≤ maxLen) :
 Calls Tryz.prog 205 #[.string s, .string p] w fun e w' => e = .returned (.bool (Ax.pre s p)) ∧ w' = w := by
 unfold maxLen at hs hp
 go_enter Tryz.func205, Tryz.ntmps205
 go_wp2
 · go_ret
   exact ⟨ret_bool (prefix_yes s p (by assumption)), rfl⟩
 · go_ret
   exact ⟨ret_bool (prefix_no s p (by assumption)).symm, rfl⟩
set_option maxHeartbeats 400000 in
theorem HasPrefix_any (s p : ByteArray) (w : World) (hs : s.size ≤ maxLen) (hp : p.size ≤ maxLen) :
 Calls Tryz.prog 143 #[.string s, .string p] w fun e w' => e = .returned (.bool (Ax.pre s p)) ∧ w' = w := by
 go_enter Tryz.func143, Tryz.ntmps143
 go_wp2_with (go_at_call 205; refine (stringslite_HasPrefix_any _ _ _ hs hp).mono ?_; rintro e w' ⟨rfl, rfl⟩)
 go_ret
 exact ⟨rfl, rfl⟩
theorem small_wide (s : ByteArray) : Ax.small s 65533 = Ax.pre s ⟨#[239, 191, 189]⟩ := by simp [Ax.small]
theorem small_else (s : ByteArray) (r : Int) (h : (r == 65533) = false) : Ax.small s r = ((decide (97 ≤ r) && decide (r ≤ 122)) || decide (224 ≤ r)) := by
 simp at h; simp [Ax.small, h]
set_option maxHeartbeats 400000 in
theorem isSmall_any (s : ByteArray) (r : Int) (w : World) (hs : s.size ≤ maxLen) :
 Calls Tryz.prog 219 #[.string s, .int .i32 r] w fun e w' => e = .returned (.bool (Ax.small s r)) ∧ w' = w := by
 by_cases h : r = 65533
 · subst h
   go_enter Tryz.func219, Tryz.ntmps219
   go_wp2_with (go_at_call 143; refine (HasPrefix_any _ _ _ hs (by decide)).mono ?_; rintro e w' ⟨rfl, rfl⟩)
   go_ret
   exact ⟨ret_bool (small_wide s).symm, rfl⟩
 · have hb : (r == 65533) = false := by simp [h]
   clear h
   go_enter Tryz.func219, Tryz.ntmps219
   go_wp2_with fail
   all_goals
    go_ret
    exact ⟨ret_bool (by rw [small_else s r hb, Bool.eq_iff_iff]; simp <;> omega), rfl⟩
end Go.Proofs.YtdmicblafmhflaaGreatDoor
/- word and firstToken. -/
namespace Go.Proofs.YtdmicblafmhflaaGreatDoor
open Go.RowKit
theorem width_pos (s : ByteArray) (pos : Nat) (h : pos < s.size) : 1 ≤ (Utf8.decode s pos).2 := by
 by_cases ha : (s[pos]'h).toNat < 128
 · rw [decode_ascii s pos h ha]
   exact Nat.le_refl _
 · exact (decode_high s pos h (by omega)).2
theorem width_le (s : ByteArray) (pos : Nat) : (Utf8.decode s pos).2 ≤ 4 := by
 unfold Utf8.decode
 simp only
 repeat' split
 all_goals simp
theorem tail_le (s : ByteArray) (p : Nat) (h : s.size ≤ maxLen) : (s.extract p s.size).size ≤ maxLen := by
 have : (s.extract p s.size).size ≤ s.size := by simp only [ByteArray.size_extract]; omega
 omega
theorem wordLoop_end (s : ByteArray) (f p n : Nat) (h : ¬ p < s.size) : Ax.wordLoop s f p n = (s.size, n) := by
 cases f <;> simp [Ax.wordLoop, h]
theorem wordLoop_stop (s : ByteArray) (f p n : Nat) (h : p < s.size) (hs : Ax.stops s p = true) : Ax.wordLoop s (f + 1) p n = (p, n) := by
 simp [Ax.wordLoop, h, hs]
theorem wordLoop_on (s : ByteArray) (f p n : Nat) (h : p < s.size) (hs : Ax.stops s p = false) : Ax.wordLoop s (f + 1) p n = Ax.wordLoop s f (p + (Utf8.decode s p).2) (n + 1) := by
 simp [Ax.wordLoop, h, hs]
theorem word_many (s : ByteArray) (k : Int) (e n : Nat) (h : Ax.wordLoop s s.size 0 0 = (e, n)) (hn : 6 < n) : Ax.word s k = (0, 0) := by
 simp [Ax.word, h, hn]
theorem word_few (s : ByteArray) (k : Int) (e n : Nat) (h : Ax.wordLoop s s.size 0 0 = (e, n)) (hn : ¬ 6 < n) : Ax.word s k = (k, e) := by
 simp [Ax.word, h, hn]
set_option maxHeartbeats 1000000 in
theorem word_any (s : ByteArray) (k : Int) (w : World) (hs : s.size ≤ maxLen) :
 Calls Tryz.prog 220 #[.string s, .int .i64 k] w fun e w' => e = .returned (.tuple #[.int .i64 (Ax.word s k).1, .int .i64 (Ax.word s k).2]) ∧ ∃ pos, w' = w.iter s pos := by
 have hs' := hs
 unfold maxLen at hs
 go_enter Tryz.func220, Tryz.ntmps220
 go_wp2_with fail
 go_loopw [6, 7] (fun a b w' => ∃ (pos n f : Nat), w' = w.iter s pos ∧ a = .int .i64 s.size ∧ b = .int .i64 n ∧ n ≤ pos ∧ pos ≤ s.size + 4 ∧ s.size ≤ pos + f ∧ Hid (Ax.wordLoop s f pos n = Ax.wordLoop s s.size 0 0)) (fun _ _ w' => s.size - w'.iterPos w.heap.size)
 case atStart => exact ⟨0, 0, s.size, rfl, rfl, rfl, by omega, by omega, by omega, rfl⟩
 case round =>
  obtain ⟨pos, n, f, rfl, rfl, rfl, hn, hp4, hf, hl⟩ := hrel
  by_cases hp : pos < s.size
  · have hnx : ∀ ty, (Instr.next (.pointer (some ⟨w.heap.size, 0, none⟩)) true ty).run Tryz.prog (w.iter s pos) = _ := fun ty => run_next_any w s pos ty hp
    have hwd := width_pos s pos hp
    have hwd4 := width_le s pos
    cases f with
    | zero => omega
    | succ f =>
    by_cases h0 : 0 < pos
    · by_cases hsm : Ax.small (s.extract pos s.size) (Utf8.decode s pos).1 = true
      · go_wp2_with (first | (go_at_call 219; refine (isSmall_any _ _ _ (tail_le s pos hs')).mono ?_; rintro e w' ⟨rfl, rfl⟩) | (go_at_call 259; refine (isDigit_any _ _).mono ?_; rintro e w' ⟨rfl, rfl⟩))
        go_roundw
        case rel => exact ⟨pos + (Utf8.decode s pos).2, n + 1, f, rfl, rfl, by go_num, by omega, by omega, by omega, (wordLoop_on s f pos n hp (by simp [Ax.stops, Ax.tail, hsm])).symm.trans hl.out⟩
        case measure => simp; omega
      · have hsm' : Ax.small (s.extract pos s.size) (Utf8.decode s pos).1 = false := by simpa using hsm
        clear hsm
        by_cases hdg : Ax.digit (Utf8.decode s pos).1 = true
        · go_wp2_with (first | (go_at_call 219; refine (isSmall_any _ _ _ (tail_le s pos hs')).mono ?_; rintro e w' ⟨rfl, rfl⟩) | (go_at_call 259; refine (isDigit_any _ _).mono ?_; rintro e w' ⟨rfl, rfl⟩))
          go_roundw
          case rel => exact ⟨pos + (Utf8.decode s pos).2, n + 1, f, rfl, rfl, by go_num, by omega, by omega, by omega, (wordLoop_on s f pos n hp (by simp [Ax.stops, hdg])).symm.trans hl.out⟩
          case measure => simp; omega
        · have hdg' : Ax.digit (Utf8.decode s pos).1 = false := by simpa using hdg
          clear hdg
          have hend : Hid (Ax.wordLoop s s.size 0 0 = (pos, n)) := hl.out.symm.trans (wordLoop_stop s f pos n hp (by simp [Ax.stops, Ax.tail, h0, hsm', hdg']))
          go_wp2_with (first | (go_at_call 219; refine (isSmall_any _ _ _ (tail_le s pos hs')).mono ?_; rintro e w' ⟨rfl, rfl⟩) | (go_at_call 259; refine (isDigit_any _ _).mono ?_; rintro e w' ⟨rfl, rfl⟩))
          · have hm : 6 < n := by omega
            go_ret2
            exact ⟨by rw [word_many s k _ _ hend.out hm]; rfl, _, rfl⟩
          · have hm : ¬ 6 < n := by omega
            go_ret2
            exact ⟨by rw [word_few s k _ _ hend.out hm]; rfl, _, rfl⟩
    · go_wp2_with (first | (go_at_call 219; refine (isSmall_any _ _ _ (tail_le s pos hs')).mono ?_; rintro e w' ⟨rfl, rfl⟩) | (go_at_call 259; refine (isDigit_any _ _).mono ?_; rintro e w' ⟨rfl, rfl⟩))
      go_roundw
      case rel => exact ⟨pos + (Utf8.decode s pos).2, n + 1, f, rfl, rfl, by go_num, by omega, by omega, by omega, (wordLoop_on s f pos n hp (by simp [Ax.stops]; omega)).symm.trans hl.out⟩
      case measure => simp; omega
  · have hnx : ∀ ty, (Instr.next (.pointer (some ⟨w.heap.size, 0, none⟩)) true ty).run Tryz.prog (w.iter s pos) = _ := fun ty => run_next_end w s pos ty hp
    have hend : Hid (Ax.wordLoop s s.size 0 0 = (s.size, n)) := hl.out.symm.trans (wordLoop_end s f pos n hp)
    go_wp2_with fail
    · have hm : 6 < n := by omega
      go_ret2
      exact ⟨by rw [word_many s k _ _ hend.out hm]; rfl, _, rfl⟩
    · have hm : ¬ 6 < n := by omega
      go_ret2
      exact ⟨by rw [word_few s k _ _ hend.out hm]; rfl, _, rfl⟩
end Go.Proofs.YtdmicblafmhflaaGreatDoor
/- firstToken. -/
namespace Go.Proofs.YtdmicblafmhflaaGreatDoor
open Go.RowKit
theorem below_iter (w : World) (s : ByteArray) (pos : Nat) : Below w.heap.size w (w.iter s pos) := (Below.refl _ _).alloc (Nat.le_refl _) _
theorem ft1 (s : ByteArray) (r : Int) (h : (r == 40) = true) : Ax.firstTok s r = (4, 1) := by simp at h; simp [Ax.firstTok, h]
theorem ft2 (s : ByteArray) (r : Int) (h1 : (r == 40) = false) (h : (r == 41) = true) : Ax.firstTok s r = (5, 1) := by simp at h; simp [Ax.firstTok, h]
theorem ft3 (s : ByteArray) (r : Int) (h1 : (r == 40) = false) (h2 : (r == 41) = false) (h : (r == 44) = true) : Ax.firstTok s r = (6, 1) := by simp at h; simp [Ax.firstTok, h]
theorem ft4 (s : ByteArray) (r : Int) (h1 : (r == 40) = false) (h2 : (r == 41) = false) (h3 : (r == 44) = false) (h : (r == 46) = true) : Ax.firstTok s r = (7, 1) := by simp at h; simp [Ax.firstTok, h]
theorem ft5 (s : ByteArray) (r : Int) (h1 : (r == 40) = false) (h2 : (r == 41) = false) (h3 : (r == 44) = false) (h4 : (r == 46) = false) (h : Ax.pre s ⟨#[58, 45]⟩ = true) : Ax.firstTok s r = (8, 2) := by
 simp at h1 h2 h3 h4; simp [Ax.firstTok, *]
theorem ft6 (s : ByteArray) (r : Int) (h1 : (r == 40) = false) (h2 : (r == 41) = false) (h3 : (r == 44) = false) (h4 : (r == 46) = false) (h5 : Ax.pre s ⟨#[58, 45]⟩ = false) (h : Ax.small s r = true) : Ax.firstTok s r = Ax.word s 2 := by
 simp at h1 h2 h3 h4; simp [Ax.firstTok, *]
theorem ft7 (s : ByteArray) (r : Int) (h1 : (r == 40) = false) (h2 : (r == 41) = false) (h3 : (r == 44) = false) (h4 : (r == 46) = false) (h5 : Ax.pre s ⟨#[58, 45]⟩ = false) (h6 : Ax.small s r = false) (h : Ax.capital r = true) : Ax.firstTok s r = Ax.word s 3 := by
 simp at h1 h2 h3 h4; simp [Ax.firstTok, *]
theorem ft8 (s : ByteArray) (r : Int) (h1 : (r == 40) = false) (h2 : (r == 41) = false) (h3 : (r == 44) = false) (h4 : (r == 46) = false) (h5 : Ax.pre s ⟨#[58, 45]⟩ = false) (h6 : Ax.small s r = false) (h : Ax.capital r = false) : Ax.firstTok s r = (0, 0) := by
 simp at h1 h2 h3 h4; simp [Ax.firstTok, *]
theorem ret_ft1 {t : Int × Nat} {a : Int} (h : t = (a, 1)) : Ending.returned (.tuple #[.int .i64 a, .int .i64 1]) = .returned (.tuple #[.int .i64 t.1, .int .i64 t.2]) := by rw [h]; rfl
theorem ret_ft2 {t : Int × Nat} {a : Int} (h : t = (a, 2)) : Ending.returned (.tuple #[.int .i64 a, .int .i64 2]) = .returned (.tuple #[.int .i64 t.1, .int .i64 t.2]) := by rw [h]; rfl
theorem ret_ft0 {t : Int × Nat} {a : Int} (h : t = (a, 0)) : Ending.returned (.tuple #[.int .i64 a, .int .i64 0]) = .returned (.tuple #[.int .i64 t.1, .int .i64 t.2]) := by rw [h]; rfl
theorem ret_ftw {t u : Int × Nat} (h : t = u) : Ending.returned (.tuple #[.int .i64 u.1, .int .i64 u.2]) = .returned (.tuple #[.int .i64 t.1, .int .i64 t.2]) := by rw [h]
set_option maxHeartbeats 1000000 in
theorem firstToken_any (s : ByteArray) (r : Int) (w : World) (hs : s.size ≤ maxLen) :
 Calls Tryz.prog 178 #[.string s, .int .i32 r] w fun e w' => e = .returned (.tuple #[.int .i64 (Ax.firstTok s r).1, .int .i64 (Ax.firstTok s r).2]) ∧ Below w.heap.size w w' := by
 cases h1 : (r == 40)
 case true =>
  go_enter Tryz.func178, Tryz.ntmps178
  go_wp2_with fail
  go_ret2
  exact ⟨ret_ft1 (ft1 s r h1), Below.refl _ _⟩
 cases h2 : (r == 41)
 case true =>
  go_enter Tryz.func178, Tryz.ntmps178
  go_wp2_with fail
  go_ret2
  exact ⟨ret_ft1 (ft2 s r h1 h2), Below.refl _ _⟩
 cases h3 : (r == 44)
 case true =>
  go_enter Tryz.func178, Tryz.ntmps178
  go_wp2_with fail
  go_ret2
  exact ⟨ret_ft1 (ft3 s r h1 h2 h3), Below.refl _ _⟩
 cases h4 : (r == 46)
 case true =>
  go_enter Tryz.func178, Tryz.ntmps178
  go_wp2_with fail
  go_ret2
  exact ⟨ret_ft1 (ft4 s r h1 h2 h3 h4), Below.refl _ _⟩
 cases h5 : Ax.pre s ⟨#[58, 45]⟩
 case true =>
  go_enter Tryz.func178, Tryz.ntmps178
  go_wp2_with (go_at_call 143; refine (HasPrefix_any _ _ _ hs (by decide)).mono ?_; rintro e w' ⟨rfl, rfl⟩)
  go_ret2
  exact ⟨ret_ft2 (ft5 s r h1 h2 h3 h4 h5), Below.refl _ _⟩
 cases h6 : Ax.small s r
 case true =>
  have hft : Hid (Ax.firstTok s r = Ax.word s 2) := ft6 s r h1 h2 h3 h4 h5 h6
  go_enter Tryz.func178, Tryz.ntmps178
  go_wp2_with (first | (go_at_call 143; refine (HasPrefix_any _ _ _ hs (by decide)).mono ?_; rintro e w' ⟨rfl, rfl⟩) | (go_at_call 219; refine (isSmall_any _ _ _ hs).mono ?_; rintro e w' ⟨rfl, rfl⟩) | (go_at_call 220; refine (word_any _ _ _ hs).mono ?_; rintro e w' ⟨rfl, pos, rfl⟩))
  go_ret2
  exact ⟨ret_ftw hft.out, below_iter _ _ _⟩
 cases h7 : Ax.capital r
 case true =>
  have hft : Hid (Ax.firstTok s r = Ax.word s 3) := ft7 s r h1 h2 h3 h4 h5 h6 h7
  go_enter Tryz.func178, Tryz.ntmps178
  go_wp2_with (first | (go_at_call 143; refine (HasPrefix_any _ _ _ hs (by decide)).mono ?_; rintro e w' ⟨rfl, rfl⟩) | (go_at_call 219; refine (isSmall_any _ _ _ hs).mono ?_; rintro e w' ⟨rfl, rfl⟩) | (go_at_call 221; refine (isCapital_any _ _).mono ?_; rintro e w' ⟨rfl, rfl⟩) | (go_at_call 220; refine (word_any _ _ _ hs).mono ?_; rintro e w' ⟨rfl, pos, rfl⟩))
  go_ret2
  exact ⟨ret_ftw hft.out, below_iter _ _ _⟩
 go_enter Tryz.func178, Tryz.ntmps178
 go_wp2_with (first | (go_at_call 143; refine (HasPrefix_any _ _ _ hs (by decide)).mono ?_; rintro e w' ⟨rfl, rfl⟩) | (go_at_call 219; refine (isSmall_any _ _ _ hs).mono ?_; rintro e w' ⟨rfl, rfl⟩) | (go_at_call 221; refine (isCapital_any _ _).mono ?_; rintro e w' ⟨rfl, rfl⟩))
 go_ret2
 exact ⟨ret_ft0 (ft8 s r h1 h2 h3 h4 h5 h6 h7), Below.refl _ _⟩
end Go.Proofs.YtdmicblafmhflaaGreatDoor
/- split. -/
namespace Go.Proofs.YtdmicblafmhflaaGreatDoor
open Go.RowKit
def tokCells (l : List Ax.Tok) : List Value := l.flatMap fun t => [.int .i64 t.kind, .int .i64 t.at_, .string t.text]
theorem tokCells_snoc (l : List Ax.Tok) (t : Ax.Tok) : tokCells (l ++ [t]) = tokCells l ++ [.int .i64 t.kind, .int .i64 t.at_, .string t.text] := by simp [tokCells]
theorem Tryz.infoTok : (Tryz.prog.info? 210).map (fun i => (i.zero, i.size, i.bytes)) = some (some (.agg #[.int .i64 0, .int .i64 0, .string ByteArray.empty]), 3, 32) := by kernel_rfl
theorem ownsRow_below {w w' : World} {base : Nat} {e : TypeId} {size : Nat} {v : Value} {n : Nat} {xs : List Value} (h : w.ownsRow base e size v n xs) (hb : Below w.heap.size w w') : w'.ownsRow base e size v n xs :=
 h.kept (row := none) ⟨hb.os, hb.tape, hb.output, hb.size, fun k hk _ => hb.block k hk⟩ (by cases hv : v.ownBlock <;> simp)
theorem ownsRow_iterAt {w : World} {base : Nat} {e : TypeId} {size : Nat} {v : Value} {n : Nat} {xs : List Value} (h : w.ownsRow base e size v n xs) {k : Nat} (hk : k < base) (s : ByteArray) (pos : Nat) : (w.iterAt k s pos).ownsRow base e size v n xs := by
 refine ⟨h.1, ?_⟩
 rcases h.2 with hn | ⟨g, cap, cur, hv, hg, hh, r⟩
 · exact .inl hn
 · exact .inr ⟨g, cap, cur, hv, hg, by rw [Lib.iterAt_other _ _ _ _ _ (by omega)]; exact hh, r⟩
theorem new_cells (w : World) (t : TypeId) (xs : List Value) : ∀ (j : Nat) (u : Value), xs[j]? = some u → (w.alloc (.cells xs.toArray t)).cell? ((⟨w.heap.size, 0, none⟩ : Addr).add j) = some u := by
 intro j u hu
 have hadd : (⟨w.heap.size, 0, none⟩ : Addr).add j = ⟨w.heap.size, j, none⟩ := by unfold Addr.add; split <;> simp_all
 rw [hadd, cell_of_row _ w.heap.size j xs.toArray t (0, 0) (heap_alloc_new w _)]
 simpa using hu
theorem lt_of_heap {w : World} {k : Nat} {o : Obj} (h : w.heap[k]? = some o) : k < w.heap.size := (Array.getElem?_eq_some_iff.1 h).1
def SplitRel (s : ByteArray) (w wr : World) (v : Value) (pos beh f : Nat) (acc : List Ax.Tok) : Prop :=
 wr.heap[w.heap.size]? = some (.stringIter s pos) ∧ wr.ownsRow (w.heap.size + 1) 210 3 v acc.length (tokCells acc) ∧ Below w.heap.size w wr ∧
 acc.length ≤ pos ∧ pos ≤ s.size + 4 ∧ s.size ≤ pos + f ∧ beh ≤ s.size ∧ Ax.splitLoop s f pos beh acc = Ax.split s
theorem split_world {s : ByteArray} {w wr w1 w2 : World} {v : Value} {n pos pos' : Nat} {xs : List Value} {o : Obj} (hit : wr.heap[w.heap.size]? = some (.stringIter s pos))
 (hown : wr.ownsRow (w.heap.size + 1) 210 3 v n xs) (hbel : Below w.heap.size w wr)
 (hb1 : Below (wr.iterAt w.heap.size s pos').heap.size (wr.iterAt w.heap.size s pos') w1) (hgrow : (w1.alloc o).grownBy w2 v.ownBlock) :
 w2.heap[w.heap.size]? = some (.stringIter s pos') ∧ Below w.heap.size w w2 := by
 have hlt := lt_of_heap hit
 have hsz : (wr.iterAt w.heap.size s pos').heap.size = wr.heap.size := Lib.iterAt_size _ _ _ _
 have hs1 := hb1.size
 have hne : some w.heap.size ≠ v.ownBlock := by
  intro e
  have := (hown.lt _ e.symm).1
  omega
 refine ⟨?_, ?_⟩
 · rw [hgrow.block _ (by simp; omega) hne, Below.heap_alloc _ _ _ (by omega), hb1.block _ (by omega)]
   exact Lib.iterAt_heap _ _ _ _ _ hit
 · refine ((Lib.below_iterAt hbel (Nat.le_refl _) s pos').trans ?_)
   refine ((hb1.mono (by omega)).alloc (by omega) o).grown hgrow (by simp; omega) ?_
   intro k hk
   have := (hown.lt _ hk).1
   omega
theorem split_first (s : ByteArray) (w : World) : SplitRel s w (w.iter s 0) (.slice none 0 0) 0 0 s.size [] :=
 ⟨World.iter_heap _ _ _, World.ownsRow_nil _ _ _ _, below_iter _ _ _, Nat.le_refl _, Nat.zero_le _, by omega, Nat.zero_le _, rfl⟩
theorem iterPos_at {w : World} {k : Nat} {s : ByteArray} {pos : Nat} (h : w.heap[k]? = some (.stringIter s pos)) : w.iterPos k = pos := by simp [World.iterPos, h]
theorem ownsRow_base {w : World} {b b' : Nat} {e : TypeId} {size : Nat} {v : Value} {n : Nat} {xs : List Value} (h : w.ownsRow b e size v n xs) (hb : b' ≤ b) : w.ownsRow b' e size v n xs := by
 refine ⟨h.1, ?_⟩
 rcases h.2 with hn | ⟨g, cap, cur, hv, hg, r⟩
 · exact .inl hn
 · exact .inr ⟨g, cap, cur, hv, by omega, r⟩
set_option maxHeartbeats 1000000 in
theorem split_any (s : ByteArray) (w : World) (hs : s.size ≤ 600) :
 Calls Tryz.prog 103 #[.string s] w fun e w' => ∃ v, e = .returned v ∧ w'.ownsRow w.heap.size 210 3 v (Ax.split s).length (tokCells (Ax.split s)) ∧ Below w.heap.size w w' := by
 obtain ⟨i0, hi, hz0, hz1, hz2⟩ := info_parts Tryz.infoTok
 go_enter Tryz.func103, Tryz.ntmps103
 go_wp2_with fail
 go_loopw [3, 4] (fun v b wr => ∃ (pos beh f : Nat) (acc : List Ax.Tok), b = .int .i64 beh ∧ SplitRel s w wr v pos beh f acc) (fun _ _ wr => s.size - wr.iterPos w.heap.size)
 case atStart => exact ⟨0, 0, s.size, [], rfl, split_first s w⟩
 case round =>
  obtain ⟨pos, beh, f, acc, rfl, hit, hown, hbel, hal, hp4, hf, hbeh, hl⟩ := hrel
  have HL : Hid (Ax.splitLoop s f pos beh acc = Ax.split s) := hl
  clear hl
  have hlt := lt_of_heap hit
  by_cases hp : pos < s.size
  · have hnx : ∀ ty, (Instr.next (.pointer (some ⟨w.heap.size, 0, none⟩)) true ty).run Tryz.prog wr = _ := fun ty => Lib.run_next_any_at wr w.heap.size s pos ty hit hp
    have hwd := width_pos s pos hp
    have hwd4 := width_le s pos
    cases f with
    | zero => omega
    | succ f =>
    have skip : ∀ (hb : pos < beh ∨ Ax.blank (Utf8.decode s pos).1 = true), SplitRel s w (wr.iterAt w.heap.size s (pos + (Utf8.decode s pos).2)) u3 (pos + (Utf8.decode s pos).2) beh f acc := fun hb =>
     ⟨Lib.iterAt_heap _ _ _ _ _ hit, ownsRow_iterAt hown (by omega) _ _, Lib.below_iterAt hbel (Nat.le_refl _) _ _, by omega, by omega, by omega, hbeh, (Ax.splitLoop_skip s f pos beh acc hp hb).symm.trans HL.out⟩
    by_cases hb : pos < beh
    · have SK := skip (.inl hb)
      clear skip hown
      go_wp2_with fail
      go_roundw
      case rel => exact ⟨_, beh, f, acc, rfl, SK⟩
      case measure => rw [iterPos_at SK.1, iterPos_at hit]; omega
    · cases hbl : Ax.blank (Utf8.decode s pos).1
      case true =>
       have SK := skip (.inr hbl)
       clear skip hown
       go_wp2_with (go_at_call 177; refine (isBlank_any _ _).mono ?_; rintro e w' ⟨rfl, rfl⟩)
       go_roundw
       case rel => exact ⟨_, beh, f, acc, rfl, SK⟩
       case measure => rw [iterPos_at SK.1, iterPos_at hit]; omega
      case false =>
       clear skip
       have hnb : Hid (¬ (pos < beh ∨ Ax.blank (Utf8.decode s pos).1 = true)) := by rw [hbl]; simp [Hid]; omega
       have hsz : (s.extract pos s.size).size ≤ maxLen := by simp only [ByteArray.size_extract]; unfold maxLen; omega
       have hftl := Ax.firstTok_le (s.extract pos s.size) (Utf8.decode s pos).1 (by simp only [ByteArray.size_extract]; omega)
       simp only [ByteArray.size_extract] at hftl
       obtain ⟨kd, sz, hft⟩ : ∃ kd sz, Ax.firstTok (s.extract pos s.size) (Utf8.decode s pos).1 = (kd, sz) := ⟨_, _, rfl⟩
       rw [hft] at hftl
       simp only at hftl
       have HFT : Hid (Ax.firstTok (s.extract pos s.size) (Utf8.decode s pos).1 = (kd, sz)) := hft
       clear hft
       cases hk0 : (kd == 0)
       case false =>
        go_wp2_with (first | (go_at_call 177; refine (isBlank_any _ _).mono ?_; rintro e w' ⟨rfl, rfl⟩) | (go_at_call 178; refine (firstToken_any _ _ _ hsz).mono ?_; rintro e w1 ⟨rfl, hb1⟩; rw [HFT.out]; have hown1 := ownsRow_below (ownsRow_iterAt hown (by omega) _ _) hb1; have hsz1 := hb1.size) | (at_builtin; refine wpList_append_own _ rfl (.tmp 30) (.tmp 40) 202 rfl (w.heap.size + 1) 210 i0 _ 3 32 Tryz.underlying202 hi hz0 hz1 hz2 rfl (by decide) _ _ _ rfl (hown1.alloc _) ⟨w1.heap.size, 0, none⟩ 1 1 [.int .i64 kd, .int .i64 pos, .string (s.extract pos (pos + sz))] rfl rfl (new_cells _ _ _) (by simp [Value.oneCell']) (by unfold maxLen; omega) (by omega) (by rw [Lib.iterAt_size] at hsz1; simp; omega) ?_; intro v2 w2 hown2 hgrow _; obtain ⟨hit2, hbel2⟩ := split_world hit hown hbel hb1 hgrow; clear hgrow hown1))
        go_roundw
        case rel =>
         refine ⟨pos + (Utf8.decode s pos).2, pos + sz, f, acc ++ [⟨kd, pos, s.extract pos (pos + sz)⟩], by go_num, hit2, ?_, hbel2, ?_, by omega, by omega, by omega, ?_⟩
         · rw [tokCells_snoc]; simpa using hown2
         · simp; omega
         · exact (Ax.splitLoop_on s f pos beh acc hp hnb.out kd sz HFT.out (by simpa using hk0)).symm.trans HL.out
        case measure => rw [iterPos_at hit2, iterPos_at hit]; omega
       case true =>
        go_wp2_with (first | (go_at_call 177; refine (isBlank_any _ _).mono ?_; rintro e w' ⟨rfl, rfl⟩) | (go_at_call 178; refine (firstToken_any _ _ _ hsz).mono ?_; rintro e w1 ⟨rfl, hb1⟩; rw [HFT.out]; have hown1 := ownsRow_below (ownsRow_iterAt hown (by omega) _ _) hb1; have hsz1 := hb1.size) | (at_builtin; refine wpList_append_own _ rfl (.tmp 30) (.tmp 40) 202 rfl (w.heap.size + 1) 210 i0 _ 3 32 Tryz.underlying202 hi hz0 hz1 hz2 rfl (by decide) _ _ _ rfl (hown1.alloc _) ⟨w1.heap.size, 0, none⟩ 1 1 [.int .i64 kd, .int .i64 pos, .string (s.extract pos (pos + sz))] rfl rfl (new_cells _ _ _) (by simp [Value.oneCell']) (by unfold maxLen; omega) (by omega) (by rw [Lib.iterAt_size] at hsz1; simp; omega) ?_; intro v2 w2 hown2 hgrow _; obtain ⟨hit2, hbel2⟩ := split_world hit hown hbel hb1 hgrow; clear hgrow hown1))
        go_ret
        have hsp : Ax.split s = acc ++ [⟨kd, pos, s.extract pos (pos + sz)⟩] := HL.out.symm.trans (Ax.splitLoop_wrong s f pos beh acc hp hnb.out kd sz HFT.out (by simpa using hk0))
        refine ⟨_, rfl, ?_, hbel2⟩
        rw [hsp, tokCells_snoc]
        refine ownsRow_base (by simpa using hown2) (Nat.le_succ _)
  · have hnx : ∀ ty, (Instr.next (.pointer (some ⟨w.heap.size, 0, none⟩)) true ty).run Tryz.prog wr = _ := fun ty => Lib.run_next_end_at wr w.heap.size s pos ty hit hp
    have hsp : Hid (Ax.split s = acc ++ [⟨1, s.size, ByteArray.empty⟩]) := HL.out.symm.trans (Ax.splitLoop_end s f pos beh acc hp)
    go_wp2_with (at_builtin; refine wpList_append_own _ rfl (.tmp 48) (.tmp 52) 202 rfl (w.heap.size + 1) 210 i0 _ 3 32 Tryz.underlying202 hi hz0 hz1 hz2 rfl (by decide) _ _ _ rfl (hown.alloc _) ⟨wr.heap.size, 0, none⟩ 1 1 [.int .i64 1, .int .i64 s.size, .string ByteArray.empty] rfl rfl (new_cells _ _ _) (by simp [Value.oneCell']) (by unfold maxLen; omega) (by omega) (by simp; omega) ?_; intro v2 w2 hown2 hgrow _)
    go_ret
    refine ⟨_, rfl, ?_, ?_⟩
    · rw [hsp.out, tokCells_snoc]
      refine ownsRow_base (by simpa using hown2) (Nat.le_succ _)
    · refine (hbel.alloc (by omega) _).grown hgrow (by simp; omega) ?_
      intro k hk
      have := (hown.lt _ hk).1
      omega
end Go.Proofs.YtdmicblafmhflaaGreatDoor
/- The parser: peek, take. -/
namespace Go.Proofs.YtdmicblafmhflaaGreatDoor
open Go.RowKit
def PAt (w : World) (pb : Nat) (tv : Value) (toks : List Ax.Tok) (nx : Nat) : Prop :=
 w.heap[pb]? = some (.cells #[tv, .int .i64 nx] 205 (0, 0)) ∧ w.ownsRow 0 210 3 tv toks.length (tokCells toks) ∧ nx < toks.length ∧ toks.length ≤ 1000 ∧ Ax.Ends toks
theorem tokCells_get (l : List Ax.Tok) (k : Nat) (h : k < l.length) :
 (tokCells l)[k * 3]? = some (.int .i64 l[k].kind) ∧ (tokCells l)[k * 3 + 1]? = some (.int .i64 l[k].at_) ∧ (tokCells l)[k * 3 + 2]? = some (.string l[k].text) := by
 induction l generalizing k with
 | nil => simp at h
 | cons a l ih =>
  cases k with
  | zero => simp [tokCells]
  | succ k =>
   have := ih k (by simpa using h)
   have e : ∀ j, (tokCells (a :: l))[(k + 1) * 3 + j]? = (tokCells l)[k * 3 + j]? := by
    intro j
    have : tokCells (a :: l) = [.int .i64 a.kind, .int .i64 a.at_, .string a.text] ++ tokCells l := by simp [tokCells]
    rw [this, List.getElem?_append_right (by simp; omega)]
    congr 1
    simp; omega
   have e0 := e 0
   simp only [Nat.add_zero] at e0
   rw [e0, e 1, e 2]
   simpa using this
theorem Tok_get {toks : List Ax.Tok} {nx : Nat} {t : Ax.Tok} (ht : toks[nx]? = some t) : ∃ h : nx < toks.length, toks[nx] = t := List.getElem?_eq_some_iff.1 ht
theorem PAt.cells {w : World} {pb : Nat} {tv : Value} {toks : List Ax.Tok} {nx : Nat} (h : PAt w pb tv toks nx) {t : Ax.Tok} (ht : toks[nx]? = some t) :
 ∃ tb cap, tv = .slice (some ⟨tb, 0, none⟩) toks.length cap ∧ w.cell? ⟨pb, 0, none⟩ = some tv ∧ w.cell? ⟨pb, 1, none⟩ = some (.int .i64 nx) ∧ pb < w.heap.size ∧ tb < w.heap.size ∧ tb ≠ pb ∧
  w.frozen? ⟨pb, 1, none⟩ = false ∧ toks.length ≤ cap ∧
  w.cell? ⟨tb, nx * 3, none⟩ = some (.int .i64 t.kind) ∧ w.cell? ⟨tb, nx * 3 + 1, none⟩ = some (.int .i64 t.at_) ∧ w.cell? ⟨tb, nx * 3 + 2, none⟩ = some (.string t.text) := by
 obtain ⟨hp, hown, hlt, hle, hends⟩ := h
 obtain ⟨_, rfl⟩ := Tok_get ht
 rcases hown.2 with ⟨rfl, h0⟩ | ⟨g, cap, cur, rfl, _, hg, hc, _⟩
 · omega
 · have hcs := World.ownsRow.cells hown (g := g) rfl
   have hadd : ∀ j, (⟨g, 0, none⟩ : Addr).add j = ⟨g, j, none⟩ := by intro j; unfold Addr.add; split <;> simp_all
   obtain ⟨c0, c1, c2⟩ := tokCells_get toks nx hlt
   have d0 := hcs _ _ c0
   have d1 := hcs _ _ c1
   have d2 := hcs _ _ c2
   rw [hadd] at d0 d1 d2
   refine ⟨g, cap, rfl, ?_, ?_, lt_of_heap hp, lt_of_heap hg, ?_, ?_, hc, d0, d1, d2⟩
   · rw [cell_of_row _ pb 0 _ _ _ hp]; rfl
   · rw [cell_of_row _ pb 1 _ _ _ hp]; rfl
   · intro e
     rw [e, hp] at hg
     simp at hg
   · simp [World.frozen?, hp]
set_option maxHeartbeats 1000000 in
theorem peek_any (w : World) (pb : Nat) (tv : Value) (toks : List Ax.Tok) (nx : Nat) (h : PAt w pb tv toks nx) (t : Ax.Tok) (ht : Hid (toks[nx]? = some t)) :
 Calls Tryz.prog 105 #[.pointer (some ⟨pb, 0, none⟩)] w fun e w' => e = .returned (.agg #[.int .i64 t.kind, .int .i64 t.at_, .string t.text]) ∧ Below w.heap.size w w' := by
 have hlt := h.2.2.1
 have hle := h.2.2.2.1
 obtain ⟨tb, cap, rfl, c0, c1, hpb, htb, hne, hfz, hcap, d0, d1, d2⟩ := h.cells ht.out
 clear h
 go_enter Tryz.func105, Tryz.ntmps105
 go_wp2_with fail
 go_region
 all_goals (try go_wp2_with fail)
 exact bodyPost_ret (v := .agg #[.int .i64 t.kind, .int .i64 t.at_, .string t.text]) (by simp [results, Tryz.results105, go_sem]) rfl ⟨rfl, ((Below.refl _ _).alloc (Nat.le_refl _) _).drew⟩
theorem grownBy_trans {w w1 w2 : World} {row : Option Nat} (h : w.grownBy w1 row) (k : w1.grownBy w2 row) : w.grownBy w2 row :=
 ⟨k.os.trans h.os, k.tape.trans h.tape, k.output.trans h.output, Nat.le_trans h.size k.size, fun i hi hr => (k.block i (Nat.lt_of_lt_of_le hi h.size) hr).trans (h.block i hi hr)⟩
theorem grownBy_of_below {w w' : World} (h : Below w.heap.size w w') (row : Option Nat) : w.grownBy w' row := ⟨h.os, h.tape, h.output, h.size, fun k hk _ => h.block k hk⟩
theorem grownBy_refl (w : World) (row : Option Nat) : w.grownBy w row := ⟨rfl, rfl, rfl, Nat.le_refl _, fun _ _ _ => rfl⟩
theorem grownBy_alloc {w w1 : World} {row : Option Nat} (h : w.grownBy w1 row) (o : Obj) : w.grownBy (w1.alloc o) row := grownBy_trans h (World.grownBy_alloc w1 o row)
theorem grownBy_drew {w w1 : World} {row : Option Nat} (h : w.grownBy w1 row) : w.grownBy w1.drew row := ⟨h.os, h.tape, h.output, h.size, h.block⟩
theorem grownBy_setCell {w : World} (a : Addr) (v : Value) : w.grownBy (w.setCell a v) (some a.block) :=
 ⟨rfl, rfl, rfl, by simp [World.setCell], fun k _ hr => Below.heap_setCell _ _ _ _ (fun e => hr (by rw [e]))⟩
theorem grownBy_setNew {w w1 : World} {row : Option Nat} (h : w.grownBy w1 row) {a : Addr} (ha : w.heap.size ≤ a.block) (v : Value) : w.grownBy (w1.setCell a v) row :=
 ⟨h.os, h.tape, h.output, by have := h.size; simp [World.setCell]; omega, fun k hk hr => (Below.heap_setCell _ _ _ _ (by omega)).trans (h.block k hk hr)⟩
theorem PAt.below {w w' : World} {pb : Nat} {tv : Value} {toks : List Ax.Tok} {nx : Nat} (h : PAt w pb tv toks nx) (hb : Below w.heap.size w w') : PAt w' pb tv toks nx :=
 ⟨(hb.block pb (lt_of_heap h.1)).trans h.1, ownsRow_below h.2.1 hb, h.2.2⟩
theorem ownsRow_type {w w' : World} {b : Nat} {e e' : TypeId} {size : Nat} {v : Value} {n : Nat} {xs : List Value} {row : Option Nat} (h : w.ownsRow b e size v n xs) (hg : w.grownBy w' row)
 (hr : ∀ k, row = some k → ∃ cur fz, w.heap[k]? = some (.cells cur e' fz)) (hne : e ≠ e') : w'.ownsRow b e size v n xs := by
 refine h.kept hg ?_
 rcases h.2 with ⟨rfl, _⟩ | ⟨g, cap, cur, rfl, _, hh, _⟩
 · exact .inl rfl
 · refine .inr fun e1 => ?_
   obtain ⟨cur', fz, hk⟩ := hr g e1.symm
   rw [hk] at hh
   simp at hh
   exact hne hh.2.1.symm
theorem PAt.step {w w' : World} {pb : Nat} {tv : Value} {toks : List Ax.Tok} {nx nx' : Nat} (h : PAt w pb tv toks nx) (hg : w.grownBy w' (some pb)) (hp : w'.heap[pb]? = some (.cells #[tv, .int .i64 nx'] 205 (0, 0))) (hn : nx' < toks.length) : PAt w' pb tv toks nx' :=
 ⟨hp, ownsRow_type h.2.1 hg (e' := 205) (fun k hk => by cases hk; exact ⟨_, _, h.1⟩) (by decide), hn, h.2.2.2⟩
theorem Tryz.fieldTok0 (a b : Int) (c : ByteArray) (w : World) : (Instr.field 210 (.agg #[.int .i64 a, .int .i64 b, .string c]) 0).run Tryz.prog w = .ok (.int .i64 a) w := by kernel_rfl
theorem setCell_one {w : World} {pb : Nat} {a b c : Value} {t : TypeId} (h : w.heap[pb]? = some (.cells #[a, b] t (0, 0))) : (w.setCell ⟨pb, 1, none⟩ c).heap[pb]? = some (.cells #[a, c] t (0, 0)) := by
 simp only [World.setCell, Array.getElem?_modify, h]
 simp
set_option maxHeartbeats 1000000 in
theorem take_yes (w : World) (pb : Nat) (tv : Value) (toks : List Ax.Tok) (nx : Nat) (h : PAt w pb tv toks nx) (t : Ax.Tok) (ht : Hid (toks[nx]? = some t)) (kd : Int) (hk : 2 ≤ kd) (he : (t.kind == kd) = true) :
 Calls Tryz.prog 223 #[.pointer (some ⟨pb, 0, none⟩), .int .i64 kd] w fun e w' => e = .returned (.bool true) ∧ PAt w' pb tv toks (nx + 1) ∧ w.grownBy w' (some pb) := by
 have hn1 : nx + 1 < toks.length := by
  obtain ⟨hlt, e⟩ := Tok_get ht.out
  have e2 : t.kind = kd := by simpa using he
  exact h.2.2.2.2.next hlt (by rw [e]; omega) (by rw [e]; omega)
 have hle := h.2.2.2.1
 have hne : (t.kind != kd) = false := by simpa using he
 clear he
 have hfd := Tryz.fieldTok0
 go_enter Tryz.func223, Tryz.ntmps223
 go_wp2_with (go_at_call 105; refine (peek_any _ _ _ _ _ h _ ht).mono ?_; rintro e w1 ⟨rfl, hb1⟩; obtain ⟨tb, cap, _, _, c1, hpb, _, _, hfz, _⟩ := (h.below hb1).cells ht.out)
 go_ret
 refine ⟨rfl, ?_, ?_⟩
 · refine (h.below hb1).step (grownBy_setCell _ _) ?_ hn1
   rw [setCell_one (h.below hb1).1]
   go_num
 · exact grownBy_trans (grownBy_of_below hb1 _) (grownBy_setCell _ _)
set_option maxHeartbeats 1000000 in
theorem take_no (w : World) (pb : Nat) (tv : Value) (toks : List Ax.Tok) (nx : Nat) (h : PAt w pb tv toks nx) (t : Ax.Tok) (ht : Hid (toks[nx]? = some t)) (kd : Int) (he : (t.kind == kd) = false) :
 Calls Tryz.prog 223 #[.pointer (some ⟨pb, 0, none⟩), .int .i64 kd] w fun e w' => e = .returned (.bool false) ∧ Below w.heap.size w w' := by
 have hne : (t.kind != kd) = true := by simpa using he
 clear he
 have hfd := Tryz.fieldTok0
 go_enter Tryz.func223, Tryz.ntmps223
 go_wp2_with (go_at_call 105; refine (peek_any _ _ _ _ _ h _ ht).mono ?_; rintro e w1 ⟨rfl, hb1⟩)
 go_ret
 exact ⟨rfl, hb1⟩
end Go.Proofs.YtdmicblafmhflaaGreatDoor
