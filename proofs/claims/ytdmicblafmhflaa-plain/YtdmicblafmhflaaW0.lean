/- Plain's own loop makes the text with blanks, step by step. No program here. -/
import Derived.Test.YtdmicblafmhflaaUU
namespace Go.Proofs.Ytdmicblafmhflaa.Ax
set_option linter.unusedSimpArgs false
set_option linter.unusedVariables false

def blanks4 : ByteArray := ⟨#[32, 32, 10, 32]⟩
def spreadB (s : ByteArray) (bs : List Int) : ByteArray := ⟨(spread s.data.toList bs).toArray⟩
/-- what is written so far, and what is to come, is the text with blanks -/
def SpInv (s : ByteArray) (bs : List Int) (i n : Nat) (t T : ByteArray) : Prop := t.data.toList ++ spread (s.data.toList.drop i) (bs.drop n) = T.data.toList

theorem spInv_start (s : ByteArray) (bs : List Int) : SpInv s bs 0 0 ⟨#[]⟩ (spreadB s bs) := by
  simp [SpInv, spreadB]
theorem bytes_data_ext {a b : ByteArray} (h : a.data.toList = b.data.toList) : a = b := by
  cases a with | mk x =>
  cases b with | mk y =>
  simp at h
  rw [h]
theorem spInv_end {s : ByteArray} {bs : List Int} {i n : Nat} {t T : ByteArray} (h : SpInv s bs i n t T) (hi : s.size ≤ i) : t = T := by
  apply bytes_data_ext
  have e : s.data.toList.drop i = [] := List.drop_eq_nil_of_le (by rw [Array.length_toList]; exact hi)
  unfold SpInv at h
  rw [e] at h
  cases hb : bs.drop n with
  | nil => rw [hb] at h; simpa [spread] using h
  | cons c r => rw [hb] at h; simpa [spread] using h
theorem drop_byte {s : ByteArray} {i : Nat} (hi : i < s.size) : s.data.toList.drop i = s[i] :: s.data.toList.drop (i + 1) := by
  rw [List.drop_eq_getElem_cons (by rw [Array.length_toList]; exact hi)]
  rfl
theorem extract_one {s : ByteArray} {i : Nat} (hi : i < s.size) : (s.extract i (i + 1)).data.toList = [s[i]] := by
  have e : (s.extract i (i + 1)).data = s.data.extract i (i + 1) := by simp [ByteArray.data_extract]
  rw [e, Array.toList_extract]
  show (s.data.toList.drop i).take (i + 1 - i) = _
  rw [drop_byte hi, show i + 1 - i = 1 by omega]
  rfl
theorem spInv_no {s : ByteArray} {bs : List Int} {i n : Nat} {t T : ByteArray} (h : SpInv s bs i n t T) (hi : i < s.size) (hc : isSign s[i] = false ∨ bs.length ≤ n) : SpInv s bs (i + 1) n (t ++ s.extract i (i + 1)) T := by
  unfold SpInv at h ⊢
  rw [drop_byte hi] at h
  rw [← h, ByteArray.data_append, Array.toList_append, extract_one hi, List.append_assoc]
  congr 1
  rcases hc with hc | hc
  · rw [spread_no hc]; rfl
  · rw [List.drop_eq_nil_of_le hc]
    cases hs : isSign s[i] with
    | false => rw [spread_no hs]; rfl
    | true => rw [spread_nil hs]; rfl
theorem blk_extract (c : Int) : (blanks4.extract 0 (gpick c 4)).data.toList = blk c := by
  have := gpick_lt c 4 (by decide)
  unfold blk
  have : gpick c 4 = 0 ∨ gpick c 4 = 1 ∨ gpick c 4 = 2 ∨ gpick c 4 = 3 := by omega
  rcases this with h | h | h | h <;> rw [h] <;> rfl
theorem spInv_sign {s : ByteArray} {bs : List Int} {i n : Nat} {t T : ByteArray} (h : SpInv s bs i n t T) (hi : i < s.size) (hs : isSign s[i] = true) (hn : n < bs.length) : SpInv s bs (i + 1) (n + 1) (t ++ blanks4.extract 0 (gpick bs[n] 4) ++ s.extract i (i + 1)) T := by
  unfold SpInv at h ⊢
  rw [drop_byte hi, List.drop_eq_getElem_cons hn, spread_cons hs] at h
  rw [← h, ByteArray.data_append, ByteArray.data_append, Array.toList_append, Array.toList_append, extract_one hi, blk_extract]
  simp
theorem spInv_le {s : ByteArray} {bs : List Int} {i n : Nat} {t T : ByteArray} (h : SpInv s bs i n t T) : t.size ≤ T.size := by
  have := congrArg List.length h
  simp at this
  have e1 : t.data.size = t.size := rfl
  have e2 : T.data.size = T.size := rfl
  omega

/-- a text of Plain is not over long, and is read -/
theorem spreadB_read (l : List KRule) (bs : List Int) (h : (spreadB (gtext l) bs).size ≤ 600) : read (spreadB (gtext l) bs) = (gtext l, 0, 0) := by
  refine spread_read l bs ?_
  have e : (spreadB (gtext l) bs).size = (spread (gtext l).data.toList bs).toArray.size := rfl
  rw [e] at h
  simpa using h
/-- the text with blanks is at most five times as long -/
theorem spread_len : ∀ (s : List UInt8) (bs : List Int), (spread s bs).length ≤ 4 * s.length
  | [], bs => by cases bs <;> simp [spread]
  | b :: r, bs => by
    cases hb : isSign b with
    | false => rw [spread_no hb]; have := spread_len r bs; simp; omega
    | true =>
      cases bs with
      | nil => rw [spread_nil hb]; have := spread_len r []; simp; omega
      | cons c bs =>
        rw [spread_cons hb]
        have := spread_len r bs
        have h4 := gpick_lt c 4 (by decide)
        have hl : (blk c).length ≤ 3 := by unfold blk; rw [List.length_take]; omega
        simp
        omega
end Go.Proofs.Ytdmicblafmhflaa.Ax
