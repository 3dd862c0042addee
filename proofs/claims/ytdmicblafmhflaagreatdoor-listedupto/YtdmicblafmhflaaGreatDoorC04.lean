/- Plain's rules as plain data, and that they are a program. No program here. -/
import Derived.Test.YtdmicblafmhflaaGreatDoorC03
import Derived.Test.YtdmicblafmhflaaGreatDoorProg
import Derived.KernelRfl
import Derived.Test.YtdmicblafmhflaaGreatDoorC00
import Derived.WalkKit
import Derived.WalkSpells
import Derived.WalkLawsBesides

namespace Go.Proofs.YtdmicblafmhflaaGreatDoor.Ax
set_option linter.unusedSimpArgs false
set_option linter.unusedVariables false
/-- pick -/
def gpick (c : Int) (n : Nat) : Nat := ((if c < 0 then -(c + 1) else c) % (n : Int)).toNat
theorem gpick_lt (c : Int) (n : Nat) (h : 0 < n) : gpick c n < n := by
  unfold gpick
  have h1 := Int.emod_lt_of_pos (if c < 0 then -(c + 1) else c) (show (0 : Int) < n by omega)
  have h2 := Int.emod_nonneg (if c < 0 then -(c + 1) else c) (show (n : Int) ≠ 0 by omega)
  omega
structure KAtom where
  pred : Int
  a : Int
  b : Int
structure KRule where
  head : KAtom
  body : List KAtom
def gname (n : Nat) : ByteArray := match n with | 0 => ⟨#[97]⟩ | 1 => ⟨#[98]⟩ | 2 => ⟨#[99, 49]⟩ | _ => ⟨#[195, 169]⟩
def gpred (n : Nat) : ByteArray := match n with | 0 => ⟨#[110]⟩ | 1 => ⟨#[101]⟩ | _ => ⟨#[112, 195, 188]⟩
def gvar (n : Nat) : ByteArray := match n with | 0 => ⟨#[88]⟩ | 1 => ⟨#[89]⟩ | _ => ⟨#[90]⟩
def gterm (n : Nat) : Term := if n < 3 then ⟨1, gvar n⟩ else ⟨0, gname (n - 3)⟩
/-- terms -/
def gterms (a : KAtom) : List Nat := if gpick a.pred 3 = 0 then [gpick a.a 7] else [gpick a.a 7, gpick a.b 7]
def gbody (r : KRule) : List KAtom := r.body.take 2
def gvars (r : KRule) : List Nat := (gbody r).flatMap gterms
/-- head -/
def ghead (r : KRule) : List Nat := (gterms r.head).map fun h => if h < 3 ∧ ¬ h ∈ gvars r then h + 3 else h
def gEA (p : Nat) (ts : List Nat) : EA := (gpred p, ts.map gterm)
def gER (r : KRule) : ER := (gEA (gpick r.head.pred 3) (ghead r), (gbody r).map fun b => gEA (gpick b.pred 3) (gterms b))
def gbase : List ER := [(gEA 0 [0], [gEA 0 [0], gEA 1 [0, 0]]), (gEA 0 [0], [gEA 0 [0], gEA 2 [0, 0]])]
def gR (l : List KRule) : List ER := gbase ++ (l.take 6).map gER
def gP : List ByteArray := [gpred 0, gpred 1, gpred 2]
def gar (p : ByteArray) : Nat := if p = gpred 0 then 1 else 2
theorem gpred_mem (n : Nat) : gpred n ∈ gP := by
  unfold gpred gP
  split <;> simp [gpred]
theorem gar_pred (n : Nat) (h : n < 3) : gar (gpred n) = if n = 0 then 1 else 2 := by
  have : n = 0 ∨ n = 1 ∨ n = 2 := by omega
  rcases this with rfl | rfl | rfl <;> decide
/-- an atom's terms are as many as its predicate has places -/
def KFit (p : Nat) (ts : List Nat) : Prop := p < 3 ∧ ts.length = (if p = 0 then 1 else 2)
theorem gEA_ok {p : Nat} {ts : List Nat} (h : KFit p ts) : EA.fit (gEA p ts) ∧ (gEA p ts).1 ∈ gP ∧ (gEA p ts).2.length = gar (gEA p ts).1 ∧ (gEA p ts).2.length ≤ 3 := by
  obtain ⟨h1, h2⟩ := h
  have hl : (gEA p ts).2.length = if p = 0 then 1 else 2 := by simpa [gEA] using h2
  refine ⟨⟨?_, ?_⟩, gpred_mem p, ?_, ?_⟩
  · intro e
    rw [e] at hl
    simp at hl
    split at hl <;> simp at hl
  · intro t ht
    simp only [gEA, List.mem_map] at ht
    obtain ⟨n, _, rfl⟩ := ht
    unfold gterm
    split
    · exact .inr rfl
    · exact .inl rfl
  · rw [hl]
    exact (gar_pred p h1).symm
  · rw [hl]
    split <;> omega
theorem kfit_terms (a : KAtom) : KFit (gpick a.pred 3) (gterms a) := by
  refine ⟨gpick_lt _ _ (by decide), ?_⟩
  unfold gterms
  split <;> simp
theorem kfit_head (r : KRule) : KFit (gpick r.head.pred 3) (ghead r) := by
  have := kfit_terms r.head
  exact ⟨this.1, by unfold ghead; rw [List.length_map]; exact this.2⟩
theorem gR_atoms (l : List KRule) : ∀ r, r ∈ gR l → (∃ p ts, r.1 = gEA p ts ∧ KFit p ts) ∧ (∀ a, a ∈ r.2 → ∃ p ts, a = gEA p ts ∧ KFit p ts) ∧ r.2.length ≤ 2 := by
  intro r hr
  rcases List.mem_append.1 hr with hr | hr
  · have k0 : KFit 0 [0] := ⟨by decide, rfl⟩
    have k1 : KFit 1 [0, 0] := ⟨by decide, rfl⟩
    have k2 : KFit 2 [0, 0] := ⟨by decide, rfl⟩
    simp only [gbase, List.mem_cons, List.not_mem_nil, or_false] at hr
    rcases hr with rfl | rfl
    · refine ⟨⟨0, [0], rfl, k0⟩, ?_, by simp⟩
      intro a ha
      simp only [List.mem_cons, List.not_mem_nil, or_false] at ha
      rcases ha with rfl | rfl
      · exact ⟨0, [0], rfl, k0⟩
      · exact ⟨1, [0, 0], rfl, k1⟩
    · refine ⟨⟨0, [0], rfl, k0⟩, ?_, by simp⟩
      intro a ha
      simp only [List.mem_cons, List.not_mem_nil, or_false] at ha
      rcases ha with rfl | rfl
      · exact ⟨0, [0], rfl, k0⟩
      · exact ⟨2, [0, 0], rfl, k2⟩
  · obtain ⟨x, _, rfl⟩ := List.mem_map.1 hr
    refine ⟨⟨_, _, rfl, kfit_head x⟩, ?_, ?_⟩
    · intro a ha
      obtain ⟨b, _, rfl⟩ := List.mem_map.1 ha
      exact ⟨_, _, rfl, kfit_terms b⟩
    · simp only [gER, List.length_map, gbody, List.length_take]
      omega
theorem gR_good (l : List KRule) : Good gP gar (gR l) where
  few := by simp [gR, gbase]; omega
  preds := by simp [gP]
  fit := by
    intro r hr
    obtain ⟨⟨p, ts, e, hk⟩, h2, h3⟩ := gR_atoms l r hr
    refine ⟨⟨by rw [e]; exact (gEA_ok hk).1, ?_⟩, h3⟩
    intro a ha
    obtain ⟨p, ts, rfl, hk⟩ := h2 a ha
    exact (gEA_ok hk).1
  atoms := by
    intro r hr a ha
    obtain ⟨⟨p, ts, e, hk⟩, h2, _⟩ := gR_atoms l r hr
    rcases ha with rfl | ha
    · rw [e]; exact (gEA_ok hk).2
    · obtain ⟨p, ts, rfl, hk⟩ := h2 a ha
      exact (gEA_ok hk).2
  safe := by
    intro r hr t ht hk
    rcases List.mem_append.1 hr with hr | hr
    · simp only [gbase, List.mem_cons, List.not_mem_nil, or_false] at hr
      rcases hr with rfl | rfl
      · exact ⟨gEA 0 [0], by simp, ht⟩
      · exact ⟨gEA 0 [0], by simp, ht⟩
    · obtain ⟨x, _, rfl⟩ := List.mem_map.1 hr
      simp only [gER, gEA, List.mem_map] at ht
      obtain ⟨n, hn, rfl⟩ := ht
      have hn3 : n < 3 := by
        unfold gterm at hk
        split at hk
        · assumption
        · simp at hk
      unfold ghead at hn
      obtain ⟨h, _, e⟩ := List.mem_map.1 hn
      split at e
      · omega
      · rename_i hh
        subst e
        have hv : h ∈ gvars x := Classical.byContradiction fun hc => hh ⟨hn3, hc⟩
        obtain ⟨b, hb, hm⟩ := List.mem_flatMap.1 hv
        exact ⟨gEA (gpick b.pred 3) (gterms b), List.mem_map.2 ⟨b, hb, rfl⟩, List.mem_map.2 ⟨h, hm, rfl⟩⟩
/-- the items that there can be -/
def gItems : List EI := [(2, gpred 0), (2, gpred 1), (2, gpred 2), (2, gname 0), (2, gname 1), (2, gname 2), (2, gname 3), (3, gvar 0), (3, gvar 1), (3, gvar 2), (4, ⟨#[40]⟩), (5, ⟨#[41]⟩), (6, ⟨#[44]⟩), (7, ⟨#[46]⟩), (8, ⟨#[58, 45]⟩)]
theorem gItems_kinds : ∀ x, x ∈ gItems → 0 ≤ x.1 ∧ x.1 ≤ 8 := by
  intro x hx
  simp only [gItems, List.mem_cons, List.not_mem_nil, or_false] at hx
  rcases hx with rfl | rfl | rfl | rfl | rfl | rfl | rfl | rfl | rfl | rfl | rfl | rfl | rfl | rfl | rfl <;> exact ⟨by decide, by decide⟩
theorem tI_mem (n : Nat) : tI (gterm n) ∈ gItems := by
  unfold gterm
  split
  · rename_i h
    have : n = 0 ∨ n = 1 ∨ n = 2 := by omega
    rcases this with rfl | rfl | rfl <;> simp [tI, gItems, gvar]
  · unfold tI gname
    simp only
    split <;> simp [gItems, gname]
theorem termsI_mem : ∀ (ts : List Nat) (x : EI), x ∈ termsI (ts.map gterm) → x ∈ gItems
  | [], x, h => by simp [termsI] at h
  | [n], x, h => by
    simp [termsI] at h
    subst h
    exact tI_mem n
  | n :: k :: ts, x, h => by
    have : x = tI (gterm n) ∨ x = comma ∨ x ∈ termsI ((k :: ts).map gterm) := by simpa [termsI] using h
    rcases this with rfl | rfl | h
    · exact tI_mem n
    · simp [gItems, comma]
    · exact termsI_mem (k :: ts) x h
theorem atomI_mem (p : Nat) (ts : List Nat) (x : EI) (h : x ∈ atomI (gEA p ts)) : x ∈ gItems := by
  simp only [atomI, gEA, List.mem_cons, List.mem_append, List.not_mem_nil, or_false] at h
  rcases h with rfl | rfl | h | rfl
  · unfold gpred
    split <;> simp [gItems, gpred]
  · simp [gItems]
  · exact termsI_mem ts x h
  · simp [gItems]
theorem atomsI_mem : ∀ (l : List EA), (∀ a, a ∈ l → ∃ p ts, a = gEA p ts ∧ KFit p ts) → ∀ x, x ∈ atomsI l → x ∈ gItems
  | [], _, x, h => by simp [atomsI] at h
  | [a], hl, x, h => by
    obtain ⟨p, ts, rfl, _⟩ := hl a (by simp)
    exact atomI_mem p ts x h
  | a :: b :: l, hl, x, h => by
    obtain ⟨p, ts, rfl, _⟩ := hl a (by simp)
    have : x ∈ atomI (gEA p ts) ∨ x = comma ∨ x ∈ atomsI (b :: l) := by simpa [atomsI] using h
    rcases this with h | rfl | h
    · exact atomI_mem p ts x h
    · simp [gItems, comma]
    · exact atomsI_mem (b :: l) (fun y hy => hl y (by simp [hy])) x h
theorem gR_items (l : List KRule) (x : EI) (h : x ∈ rulesI (gR l)) : x ∈ gItems := by
  obtain ⟨r, hr, hx⟩ := List.mem_flatMap.1 h
  obtain ⟨⟨p, ts, e, _⟩, h2, _⟩ := gR_atoms l r hr
  unfold ruleI at hx
  rcases List.mem_append.1 hx with hx | hx
  · rcases List.mem_append.1 hx with hx | hx
    · rw [e] at hx
      exact atomI_mem p ts x hx
    · split at hx
      · cases hx
      · rcases List.mem_cons.1 hx with rfl | hx
        · simp [gItems]
        · exact atomsI_mem r.2 h2 x hx
  · simp at hx
    subst hx
    simp [gItems]
theorem gItems_tok : ∀ x, x ∈ gItems → (itOf x).tok := by
  intro x hx
  simp only [gItems, List.mem_cons, List.not_mem_nil, or_false] at hx
  rcases hx with rfl | rfl | rfl | rfl | rfl | rfl | rfl | rfl | rfl | rfl | rfl | rfl | rfl | rfl | rfl <;> exact ⟨by rfl, ⟨by decide, by decide⟩, by decide⟩
/-- the text of the rules -/
def gtext (l : List KRule) : ByteArray := ⟨((rulesI (gR l)).flatMap fun x => x.2.data.toList).toArray⟩
/-- a text that is laid of the rules, with blanks between its tokens, is read; its plain form is the rules' text -/
theorem gen_read (l : List KRule) {t : ByteArray} (ht : t.size ≤ 600) (hL : Lay t 0 ((rulesI (gR l)).map itOf)) : read t = (gtext l, 0, 0) :=
  lay_read (gR_good l) (fun x hx => gItems_tok x (gR_items l x hx)) (fun x hx => gItems_kinds x (gR_items l x hx)) ht hL
end Go.Proofs.YtdmicblafmhflaaGreatDoor.Ax

/- The leaves of program: isBlank, isCapital, isDigit, strings.HasPrefix, isSmall. -/
namespace Go.Proofs.YtdmicblafmhflaaGreatDoor
set_option linter.unusedSimpArgs false
set_option linter.unusedVariables false
open Go.RowKit
theorem ret_bool {a b : Bool} (h : a = b) : Ending.returned (.bool a) = .returned (.bool b) := by rw [h]
set_option maxHeartbeats 400000 in
theorem isBlank_any (r : Int) (w : World) :
    Calls Tryz.prog 177 #[.int .i32 r] w fun e w' => e = .returned (.bool (Ax.blank r)) ∧ w' = w := by
  go_enter Tryz.func177, Tryz.ntmps177
  go_wp2
  all_goals
    go_ret
    exact ⟨ret_bool (by simp [Ax.blank, *]), rfl⟩
set_option maxHeartbeats 400000 in
theorem isCapital_any (r : Int) (w : World) :
    Calls Tryz.prog 221 #[.int .i32 r] w fun e w' => e = .returned (.bool (Ax.capital r)) ∧ w' = w := by
  go_enter Tryz.func221, Tryz.ntmps221
  go_wp2
  all_goals
    go_ret
    exact ⟨ret_bool (by rw [Bool.eq_iff_iff]; simp [Ax.capital] <;> omega), rfl⟩
set_option maxHeartbeats 400000 in
theorem isDigit_any (r : Int) (w : World) :
    Calls Tryz.prog 259 #[.int .i32 r] w fun e w' => e = .returned (.bool (Ax.digit r)) ∧ w' = w := by
  go_enter Tryz.func259, Tryz.ntmps259
  go_wp2
  all_goals
    go_ret
    exact ⟨ret_bool (by rw [Bool.eq_iff_iff]; simp [Ax.digit] <;> omega), rfl⟩
theorem toList_eq (s : ByteArray) : s.toList = s.data.toList := by
  rcases s with ⟨⟨l⟩⟩
  simp
theorem prefix_yes (s p : ByteArray) (h : p.size ≤ s.size) : ((s.extract 0 p.size).toList == p.toList) = Ax.pre s p := by
  unfold Ax.pre
  rw [toList_eq, toList_eq]
  rcases s with ⟨⟨l⟩⟩
  rcases p with ⟨⟨m⟩⟩
  rw [Bool.eq_iff_iff]
  simp only [ByteArray.size, List.size_toArray] at h
  simp [List.prefix_iff_eq_take]
  exact eq_comm
theorem prefix_no (s p : ByteArray) (h : ¬ p.size ≤ s.size) : Ax.pre s p = false := by
  unfold Ax.pre
  rcases s with ⟨⟨l⟩⟩
  rcases p with ⟨⟨m⟩⟩
  rw [Bool.eq_false_iff]
  intro hp
  have := (List.isPrefixOf_iff_prefix.1 hp).length_le
  exact h this
set_option maxHeartbeats 400000 in
theorem stringslite_HasPrefix_any (s p : ByteArray) (w : World) (hs : s.size ≤ maxLen) (hp : p.size ≤ maxLen) :
    Calls Tryz.prog 205 #[.string s, .string p] w fun e w' => e = .returned (.bool (Ax.pre s p)) ∧ w' = w := by
  unfold maxLen at hs hp
  go_enter Tryz.func205, Tryz.ntmps205
  go_wp2
  · go_ret
    exact ⟨ret_bool (prefix_yes s p (by assumption)), rfl⟩
  · go_ret
    exact ⟨ret_bool (prefix_no s p (by assumption)).symm, rfl⟩
set_option maxHeartbeats 400000 in
theorem HasPrefix_any (s p : ByteArray) (w : World) (hs : s.size ≤ maxLen) (hp : p.size ≤ maxLen) :
    Calls Tryz.prog 143 #[.string s, .string p] w fun e w' => e = .returned (.bool (Ax.pre s p)) ∧ w' = w := by
  go_enter Tryz.func143, Tryz.ntmps143
  go_wp2_with (go_at_call 205; refine (stringslite_HasPrefix_any _ _ _ hs hp).mono ?_; rintro e w' ⟨rfl, rfl⟩)
  go_ret
  exact ⟨rfl, rfl⟩
theorem small_wide (s : ByteArray) : Ax.small s 65533 = Ax.pre s ⟨#[239, 191, 189]⟩ := by simp [Ax.small]
theorem small_else (s : ByteArray) (r : Int) (h : (r == 65533) = false) : Ax.small s r = ((decide (97 ≤ r) && decide (r ≤ 122)) || decide (224 ≤ r)) := by
  simp at h; simp [Ax.small, h]
set_option maxHeartbeats 400000 in
theorem isSmall_any (s : ByteArray) (r : Int) (w : World) (hs : s.size ≤ maxLen) :
    Calls Tryz.prog 219 #[.string s, .int .i32 r] w fun e w' => e = .returned (.bool (Ax.small s r)) ∧ w' = w := by
  by_cases h : r = 65533
  · subst h
    go_enter Tryz.func219, Tryz.ntmps219
    go_wp2_with (go_at_call 143; refine (HasPrefix_any _ _ _ hs (by decide)).mono ?_; rintro e w' ⟨rfl, rfl⟩)
    go_ret
    exact ⟨ret_bool (small_wide s).symm, rfl⟩
  · have hb : (r == 65533) = false := by simp [h]
    clear h
    go_enter Tryz.func219, Tryz.ntmps219
    go_wp2_with fail
    all_goals
      go_ret
      exact ⟨ret_bool (by rw [small_else s r hb, Bool.eq_iff_iff]; simp <;> omega), rfl⟩
end Go.Proofs.YtdmicblafmhflaaGreatDoor

/- word and firstToken. -/
namespace Go.Proofs.YtdmicblafmhflaaGreatDoor
set_option linter.unusedSimpArgs false
set_option linter.unusedVariables false
open Go.RowKit
theorem width_pos (s : ByteArray) (pos : Nat) (h : pos < s.size) : 1 ≤ (Utf8.decode s pos).2 := by
  by_cases ha : (s[pos]'h).toNat < 128
  · rw [decode_ascii s pos h ha]
    exact Nat.le_refl _
  · exact (decode_high s pos h (by omega)).2
theorem width_le (s : ByteArray) (pos : Nat) : (Utf8.decode s pos).2 ≤ 4 := by
  unfold Utf8.decode
  simp only
  repeat' split
  all_goals simp
theorem tail_le (s : ByteArray) (p : Nat) (h : s.size ≤ maxLen) : (s.extract p s.size).size ≤ maxLen := by
  have : (s.extract p s.size).size ≤ s.size := by simp only [ByteArray.size_extract]; omega
  omega
theorem wordLoop_end (s : ByteArray) (f p n : Nat) (h : ¬ p < s.size) : Ax.wordLoop s f p n = (s.size, n) := by
  cases f <;> simp [Ax.wordLoop, h]
theorem wordLoop_stop (s : ByteArray) (f p n : Nat) (h : p < s.size) (hs : Ax.stops s p = true) : Ax.wordLoop s (f + 1) p n = (p, n) := by
  simp [Ax.wordLoop, h, hs]
theorem wordLoop_on (s : ByteArray) (f p n : Nat) (h : p < s.size) (hs : Ax.stops s p = false) : Ax.wordLoop s (f + 1) p n = Ax.wordLoop s f (p + (Utf8.decode s p).2) (n + 1) := by
  simp [Ax.wordLoop, h, hs]
theorem word_many (s : ByteArray) (k : Int) (e n : Nat) (h : Ax.wordLoop s s.size 0 0 = (e, n)) (hn : 6 < n) : Ax.word s k = (0, 0) := by
  simp [Ax.word, h, hn]
theorem word_few (s : ByteArray) (k : Int) (e n : Nat) (h : Ax.wordLoop s s.size 0 0 = (e, n)) (hn : ¬ 6 < n) : Ax.word s k = (k, e) := by
  simp [Ax.word, h, hn]
set_option maxHeartbeats 1000000 in
theorem word_any (s : ByteArray) (k : Int) (w : World) (hs : s.size ≤ maxLen) :
    Calls Tryz.prog 220 #[.string s, .int .i64 k] w fun e w' => e = .returned (.tuple #[.int .i64 (Ax.word s k).1, .int .i64 (Ax.word s k).2]) ∧ ∃ pos, w' = w.iter s pos := by
  have hs' := hs
  unfold maxLen at hs
  go_enter Tryz.func220, Tryz.ntmps220
  go_wp2_with fail
  go_loopw [6, 7] (fun a b w' => ∃ (pos n f : Nat), w' = w.iter s pos ∧ a = .int .i64 s.size ∧ b = .int .i64 n ∧ n ≤ pos ∧ pos ≤ s.size + 4 ∧ s.size ≤ pos + f ∧ Hid (Ax.wordLoop s f pos n = Ax.wordLoop s s.size 0 0)) (fun _ _ w' => s.size - w'.iterPos w.heap.size)
  case atStart => exact ⟨0, 0, s.size, rfl, rfl, rfl, by omega, by omega, by omega, rfl⟩
  case round =>
    obtain ⟨pos, n, f, rfl, rfl, rfl, hn, hp4, hf, hl⟩ := hrel
    by_cases hp : pos < s.size
    · have hnx : ∀ ty, (Instr.next (.pointer (some ⟨w.heap.size, 0, none⟩)) true ty).run Tryz.prog (w.iter s pos) = _ := fun ty => run_next_any w s pos ty hp
      have hwd := width_pos s pos hp
      have hwd4 := width_le s pos
      cases f with
      | zero => omega
      | succ f =>
      by_cases h0 : 0 < pos
      · by_cases hsm : Ax.small (s.extract pos s.size) (Utf8.decode s pos).1 = true
        · go_wp2_with (first | (go_at_call 219; refine (isSmall_any _ _ _ (tail_le s pos hs')).mono ?_; rintro e w' ⟨rfl, rfl⟩) | (go_at_call 259; refine (isDigit_any _ _).mono ?_; rintro e w' ⟨rfl, rfl⟩))
          go_roundw
          case rel => exact ⟨pos + (Utf8.decode s pos).2, n + 1, f, rfl, rfl, by go_num, by omega, by omega, by omega, (wordLoop_on s f pos n hp (by simp [Ax.stops, Ax.tail, hsm])).symm.trans hl.out⟩
          case measure => simp; omega
        · have hsm' : Ax.small (s.extract pos s.size) (Utf8.decode s pos).1 = false := by simpa using hsm
          clear hsm
          by_cases hdg : Ax.digit (Utf8.decode s pos).1 = true
          · go_wp2_with (first | (go_at_call 219; refine (isSmall_any _ _ _ (tail_le s pos hs')).mono ?_; rintro e w' ⟨rfl, rfl⟩) | (go_at_call 259; refine (isDigit_any _ _).mono ?_; rintro e w' ⟨rfl, rfl⟩))
            go_roundw
            case rel => exact ⟨pos + (Utf8.decode s pos).2, n + 1, f, rfl, rfl, by go_num, by omega, by omega, by omega, (wordLoop_on s f pos n hp (by simp [Ax.stops, hdg])).symm.trans hl.out⟩
            case measure => simp; omega
          · have hdg' : Ax.digit (Utf8.decode s pos).1 = false := by simpa using hdg
            clear hdg
            have hend : Hid (Ax.wordLoop s s.size 0 0 = (pos, n)) := hl.out.symm.trans (wordLoop_stop s f pos n hp (by simp [Ax.stops, Ax.tail, h0, hsm', hdg']))
            go_wp2_with (first | (go_at_call 219; refine (isSmall_any _ _ _ (tail_le s pos hs')).mono ?_; rintro e w' ⟨rfl, rfl⟩) | (go_at_call 259; refine (isDigit_any _ _).mono ?_; rintro e w' ⟨rfl, rfl⟩))
            · have hm : 6 < n := by omega
              go_ret2
              exact ⟨by rw [word_many s k _ _ hend.out hm]; rfl, _, rfl⟩
            · have hm : ¬ 6 < n := by omega
              go_ret2
              exact ⟨by rw [word_few s k _ _ hend.out hm]; rfl, _, rfl⟩
      · go_wp2_with (first | (go_at_call 219; refine (isSmall_any _ _ _ (tail_le s pos hs')).mono ?_; rintro e w' ⟨rfl, rfl⟩) | (go_at_call 259; refine (isDigit_any _ _).mono ?_; rintro e w' ⟨rfl, rfl⟩))
        go_roundw
        case rel => exact ⟨pos + (Utf8.decode s pos).2, n + 1, f, rfl, rfl, by go_num, by omega, by omega, by omega, (wordLoop_on s f pos n hp (by simp [Ax.stops]; omega)).symm.trans hl.out⟩
        case measure => simp; omega
    · have hnx : ∀ ty, (Instr.next (.pointer (some ⟨w.heap.size, 0, none⟩)) true ty).run Tryz.prog (w.iter s pos) = _ := fun ty => run_next_end w s pos ty hp
      have hend : Hid (Ax.wordLoop s s.size 0 0 = (s.size, n)) := hl.out.symm.trans (wordLoop_end s f pos n hp)
      go_wp2_with fail
      · have hm : 6 < n := by omega
        go_ret2
        exact ⟨by rw [word_many s k _ _ hend.out hm]; rfl, _, rfl⟩
      · have hm : ¬ 6 < n := by omega
        go_ret2
        exact ⟨by rw [word_few s k _ _ hend.out hm]; rfl, _, rfl⟩
end Go.Proofs.YtdmicblafmhflaaGreatDoor

/- firstToken. -/
namespace Go.Proofs.YtdmicblafmhflaaGreatDoor
set_option linter.unusedSimpArgs false
set_option linter.unusedVariables false
open Go.RowKit
theorem below_iter (w : World) (s : ByteArray) (pos : Nat) : Below w.heap.size w (w.iter s pos) := (Below.refl _ _).alloc (Nat.le_refl _) _
theorem ft1 (s : ByteArray) (r : Int) (h : (r == 40) = true) : Ax.firstTok s r = (4, 1) := by simp at h; simp [Ax.firstTok, h]
theorem ft2 (s : ByteArray) (r : Int) (h1 : (r == 40) = false) (h : (r == 41) = true) : Ax.firstTok s r = (5, 1) := by simp at h; simp [Ax.firstTok, h]
theorem ft3 (s : ByteArray) (r : Int) (h1 : (r == 40) = false) (h2 : (r == 41) = false) (h : (r == 44) = true) : Ax.firstTok s r = (6, 1) := by simp at h; simp [Ax.firstTok, h]
theorem ft4 (s : ByteArray) (r : Int) (h1 : (r == 40) = false) (h2 : (r == 41) = false) (h3 : (r == 44) = false) (h : (r == 46) = true) : Ax.firstTok s r = (7, 1) := by simp at h; simp [Ax.firstTok, h]
theorem ft5 (s : ByteArray) (r : Int) (h1 : (r == 40) = false) (h2 : (r == 41) = false) (h3 : (r == 44) = false) (h4 : (r == 46) = false) (h : Ax.pre s ⟨#[58, 45]⟩ = true) : Ax.firstTok s r = (8, 2) := by
  simp at h1 h2 h3 h4; simp [Ax.firstTok, *]
theorem ft6 (s : ByteArray) (r : Int) (h1 : (r == 40) = false) (h2 : (r == 41) = false) (h3 : (r == 44) = false) (h4 : (r == 46) = false) (h5 : Ax.pre s ⟨#[58, 45]⟩ = false) (h : Ax.small s r = true) : Ax.firstTok s r = Ax.word s 2 := by
  simp at h1 h2 h3 h4; simp [Ax.firstTok, *]
theorem ft7 (s : ByteArray) (r : Int) (h1 : (r == 40) = false) (h2 : (r == 41) = false) (h3 : (r == 44) = false) (h4 : (r == 46) = false) (h5 : Ax.pre s ⟨#[58, 45]⟩ = false) (h6 : Ax.small s r = false) (h : Ax.capital r = true) : Ax.firstTok s r = Ax.word s 3 := by
  simp at h1 h2 h3 h4; simp [Ax.firstTok, *]
theorem ft8 (s : ByteArray) (r : Int) (h1 : (r == 40) = false) (h2 : (r == 41) = false) (h3 : (r == 44) = false) (h4 : (r == 46) = false) (h5 : Ax.pre s ⟨#[58, 45]⟩ = false) (h6 : Ax.small s r = false) (h : Ax.capital r = false) : Ax.firstTok s r = (0, 0) := by
  simp at h1 h2 h3 h4; simp [Ax.firstTok, *]
theorem ret_ft1 {t : Int × Nat} {a : Int} (h : t = (a, 1)) : Ending.returned (.tuple #[.int .i64 a, .int .i64 1]) = .returned (.tuple #[.int .i64 t.1, .int .i64 t.2]) := by rw [h]; rfl
theorem ret_ft2 {t : Int × Nat} {a : Int} (h : t = (a, 2)) : Ending.returned (.tuple #[.int .i64 a, .int .i64 2]) = .returned (.tuple #[.int .i64 t.1, .int .i64 t.2]) := by rw [h]; rfl
theorem ret_ft0 {t : Int × Nat} {a : Int} (h : t = (a, 0)) : Ending.returned (.tuple #[.int .i64 a, .int .i64 0]) = .returned (.tuple #[.int .i64 t.1, .int .i64 t.2]) := by rw [h]; rfl
theorem ret_ftw {t u : Int × Nat} (h : t = u) : Ending.returned (.tuple #[.int .i64 u.1, .int .i64 u.2]) = .returned (.tuple #[.int .i64 t.1, .int .i64 t.2]) := by rw [h]
set_option maxHeartbeats 1000000 in
theorem firstToken_any (s : ByteArray) (r : Int) (w : World) (hs : s.size ≤ maxLen) :
    Calls Tryz.prog 178 #[.string s, .int .i32 r] w fun e w' => e = .returned (.tuple #[.int .i64 (Ax.firstTok s r).1, .int .i64 (Ax.firstTok s r).2]) ∧ Below w.heap.size w w' := by
  cases h1 : (r == 40)
  case true =>
    go_enter Tryz.func178, Tryz.ntmps178
    go_wp2_with fail
    go_ret2
    exact ⟨ret_ft1 (ft1 s r h1), Below.refl _ _⟩
  cases h2 : (r == 41)
  case true =>
    go_enter Tryz.func178, Tryz.ntmps178
    go_wp2_with fail
    go_ret2
    exact ⟨ret_ft1 (ft2 s r h1 h2), Below.refl _ _⟩
  cases h3 : (r == 44)
  case true =>
    go_enter Tryz.func178, Tryz.ntmps178
    go_wp2_with fail
    go_ret2
    exact ⟨ret_ft1 (ft3 s r h1 h2 h3), Below.refl _ _⟩
  cases h4 : (r == 46)
  case true =>
    go_enter Tryz.func178, Tryz.ntmps178
    go_wp2_with fail
    go_ret2
    exact ⟨ret_ft1 (ft4 s r h1 h2 h3 h4), Below.refl _ _⟩
  cases h5 : Ax.pre s ⟨#[58, 45]⟩
  case true =>
    go_enter Tryz.func178, Tryz.ntmps178
    go_wp2_with (go_at_call 143; refine (HasPrefix_any _ _ _ hs (by decide)).mono ?_; rintro e w' ⟨rfl, rfl⟩)
    go_ret2
    exact ⟨ret_ft2 (ft5 s r h1 h2 h3 h4 h5), Below.refl _ _⟩
  cases h6 : Ax.small s r
  case true =>
    have hft : Hid (Ax.firstTok s r = Ax.word s 2) := ft6 s r h1 h2 h3 h4 h5 h6
    go_enter Tryz.func178, Tryz.ntmps178
    go_wp2_with (first | (go_at_call 143; refine (HasPrefix_any _ _ _ hs (by decide)).mono ?_; rintro e w' ⟨rfl, rfl⟩) | (go_at_call 219; refine (isSmall_any _ _ _ hs).mono ?_; rintro e w' ⟨rfl, rfl⟩) | (go_at_call 220; refine (word_any _ _ _ hs).mono ?_; rintro e w' ⟨rfl, pos, rfl⟩))
    go_ret2
    exact ⟨ret_ftw hft.out, below_iter _ _ _⟩
  cases h7 : Ax.capital r
  case true =>
    have hft : Hid (Ax.firstTok s r = Ax.word s 3) := ft7 s r h1 h2 h3 h4 h5 h6 h7
    go_enter Tryz.func178, Tryz.ntmps178
    go_wp2_with (first | (go_at_call 143; refine (HasPrefix_any _ _ _ hs (by decide)).mono ?_; rintro e w' ⟨rfl, rfl⟩) | (go_at_call 219; refine (isSmall_any _ _ _ hs).mono ?_; rintro e w' ⟨rfl, rfl⟩) | (go_at_call 221; refine (isCapital_any _ _).mono ?_; rintro e w' ⟨rfl, rfl⟩) | (go_at_call 220; refine (word_any _ _ _ hs).mono ?_; rintro e w' ⟨rfl, pos, rfl⟩))
    go_ret2
    exact ⟨ret_ftw hft.out, below_iter _ _ _⟩
  go_enter Tryz.func178, Tryz.ntmps178
  go_wp2_with (first | (go_at_call 143; refine (HasPrefix_any _ _ _ hs (by decide)).mono ?_; rintro e w' ⟨rfl, rfl⟩) | (go_at_call 219; refine (isSmall_any _ _ _ hs).mono ?_; rintro e w' ⟨rfl, rfl⟩) | (go_at_call 221; refine (isCapital_any _ _).mono ?_; rintro e w' ⟨rfl, rfl⟩))
  go_ret2
  exact ⟨ret_ft0 (ft8 s r h1 h2 h3 h4 h5 h6 h7), Below.refl _ _⟩
end Go.Proofs.YtdmicblafmhflaaGreatDoor
