/- Plain functions that mirror program's scanner, on byte arrays. No program here. -/
import Derived.Laws.RangeString
import Derived.Laws.RangeAny
import Derived.Lib.DecodeN
set_option linter.unusedSimpArgs false
set_option linter.unusedVariables false
namespace Go.Proofs.YtdmicblafmhflaaGreatDoor.Ax
def pre (s p : ByteArray) : Bool := p.data.toList.isPrefixOf s.data.toList
def digit (r : Int) : Bool := decide (48 ≤ r) && decide (r ≤ 57)
def capital (r : Int) : Bool := decide (65 ≤ r) && decide (r ≤ 90)
def blank (r : Int) : Bool := r == 32 || r == 10
def small (rest : ByteArray) (r : Int) : Bool :=
 if r = 65533 then pre rest ⟨#[239, 191, 189]⟩ else (decide (97 ≤ r) && decide (r ≤ 122)) || decide (224 ≤ r)
def tail (s : ByteArray) (p : Nat) : ByteArray := s.extract p s.size
def stops (rest : ByteArray) (p : Nat) : Bool :=
 decide (0 < p) && !small (tail rest p) (Utf8.decode rest p).1 && !digit (Utf8.decode rest p).1
def wordLoop (rest : ByteArray) : Nat → Nat → Nat → Nat × Nat
 | 0, _, n => (rest.size, n)
 | f + 1, p, n => if p < rest.size then (if stops rest p then (p, n) else wordLoop rest f (p + (Utf8.decode rest p).2) (n + 1)) else (rest.size, n)
def word (rest : ByteArray) (kind : Int) : Int × Nat :=
 let x := wordLoop rest rest.size 0 0
 if 6 < x.2 then (0, 0) else (kind, x.1)
def firstTok (rest : ByteArray) (r : Int) : Int × Nat :=
 if r = 40 then (4, 1) else if r = 41 then (5, 1) else if r = 44 then (6, 1) else if r = 46 then (7, 1)
 else if pre rest ⟨#[58, 45]⟩ then (8, 2)
 else if small rest r then word rest 2
 else if capital r then word rest 3
 else (0, 0)
structure Tok where
 kind : Int
 at_ : Nat
 text : ByteArray
def splitLoop (s : ByteArray) : Nat → Nat → Nat → List Tok → List Tok
 | 0, _, _, acc => acc ++ [⟨1, s.size, ByteArray.empty⟩]
 | f + 1, p, b, acc =>
  if p < s.size then
   if p < b ∨ blank (Utf8.decode s p).1 = true then splitLoop s f (p + (Utf8.decode s p).2) b acc
   else
    let t := firstTok (s.extract p s.size) (Utf8.decode s p).1
    let acc' := acc ++ [⟨t.1, p, s.extract p (p + t.2)⟩]
    if t.1 = 0 then acc' else splitLoop s f (p + (Utf8.decode s p).2) (p + t.2) acc'
  else acc ++ [⟨1, s.size, ByteArray.empty⟩]
def split (s : ByteArray) : List Tok := splitLoop s s.size 0 0 []
theorem splitLoop_end (s : ByteArray) (f p b : Nat) (acc : List Tok) (h : ¬ p < s.size) : splitLoop s f p b acc = acc ++ [⟨1, s.size, ByteArray.empty⟩] := by
 cases f <;> simp [splitLoop, h]
theorem splitLoop_skip (s : ByteArray) (f p b : Nat) (acc : List Tok) (h : p < s.size) (hb : p < b ∨ blank (Utf8.decode s p).1 = true) :
 splitLoop s (f + 1) p b acc = splitLoop s f (p + (Utf8.decode s p).2) b acc := by
 simp only [splitLoop, h, hb, if_true]
theorem splitLoop_wrong (s : ByteArray) (f p b : Nat) (acc : List Tok) (h : p < s.size) (hb : ¬ (p < b ∨ blank (Utf8.decode s p).1 = true)) (k : Int) (n : Nat) (ht : firstTok (s.extract p s.size) (Utf8.decode s p).1 = (k, n)) (hk : k = 0) :
 splitLoop s (f + 1) p b acc = acc ++ [⟨k, p, s.extract p (p + n)⟩] := by
 simp only [splitLoop, h, hb, ht, hk, if_true, if_false]
theorem splitLoop_on (s : ByteArray) (f p b : Nat) (acc : List Tok) (h : p < s.size) (hb : ¬ (p < b ∨ blank (Utf8.decode s p).1 = true)) (k : Int) (n : Nat) (ht : firstTok (s.extract p s.size) (Utf8.decode s p).1 = (k, n)) (hk : k ≠ 0) :
 splitLoop s (f + 1) p b acc = splitLoop s f (p + (Utf8.decode s p).2) (p + n) (acc ++ [⟨k, p, s.extract p (p + n)⟩]) := by
 simp only [splitLoop, h, hb, ht, hk, if_true, if_false]
theorem wordLoop_le (s : ByteArray) : ∀ f p n, (wordLoop s f p n).1 ≤ s.size
 | 0, _, _ => Nat.le_refl _
 | f + 1, p, n => by
  unfold wordLoop
  split
  · split
    · simp; omega
    · exact wordLoop_le s f _ _
  · exact Nat.le_refl _
theorem word_le (s : ByteArray) (k : Int) : (word s k).2 ≤ s.size := by
 unfold word
 simp only
 split
 · exact Nat.zero_le _
 · exact wordLoop_le s _ _ _
theorem pre_le (s p : ByteArray) (h : pre s p = true) : p.size ≤ s.size := (List.isPrefixOf_iff_prefix.1 h).length_le
theorem firstTok_le (s : ByteArray) (r : Int) (h : 0 < s.size) : (firstTok s r).2 ≤ s.size := by
 unfold firstTok
 repeat' split
 any_goals (simp; omega; done)
 · rename_i h5; exact pre_le s _ h5
 · exact word_le s _
 · exact word_le s _
 · exact Nat.zero_le _
end Go.Proofs.YtdmicblafmhflaaGreatDoor.Ax
/- Plain functions that mirror program's parser. No program here. -/
namespace Go.Proofs.YtdmicblafmhflaaGreatDoor.Ax
def Ends (l : List Tok) : Prop := ∃ m t, l = m ++ [t] ∧ (t.kind = 0 ∨ t.kind = 1)
theorem splitLoop_ends (s : ByteArray) : ∀ f p b acc, Ends (splitLoop s f p b acc)
 | 0, _, _, acc => ⟨acc, _, rfl, .inr rfl⟩
 | f + 1, p, b, acc => by
  unfold splitLoop
  split
  · split
    · exact splitLoop_ends s f _ _ _
    · simp only
      split
      · rename_i h; exact ⟨acc, _, rfl, .inl h⟩
      · exact splitLoop_ends s f _ _ _
  · exact ⟨acc, _, rfl, .inr rfl⟩
theorem split_ends (s : ByteArray) : Ends (split s) := splitLoop_ends s _ _ _ _
theorem splitLoop_length (s : ByteArray) : ∀ f p b acc, (splitLoop s f p b acc).length ≤ acc.length + f + 1
 | 0, _, _, acc => by simp [splitLoop]
 | f + 1, p, b, acc => by
  unfold splitLoop
  split
  · split
    · have := splitLoop_length s f (p + (Utf8.decode s p).2) b acc; omega
    · simp only
      split
      · simp
      · have := splitLoop_length s f (p + (Utf8.decode s p).2) (p + (firstTok (s.extract p s.size) (Utf8.decode s p).1).2) (acc ++ [⟨(firstTok (s.extract p s.size) (Utf8.decode s p).1).1, p, s.extract p (p + (firstTok (s.extract p s.size) (Utf8.decode s p).1).2)⟩])
        simp only [List.length_append, List.length_singleton] at this
        omega
  · simp
theorem split_length (s : ByteArray) : (split s).length ≤ s.size + 1 := by
 have := splitLoop_length s s.size 0 0 []
 simp only [List.length_nil, Nat.zero_add] at this
 exact this
theorem Ends.next {l : List Tok} (h : Ends l) {k : Nat} (hk : k < l.length) (h0 : l[k].kind ≠ 0) (h1 : l[k].kind ≠ 1) : k + 1 < l.length := by
 obtain ⟨m, t, rfl, ht⟩ := h
 simp only [List.length_append, List.length_singleton] at hk ⊢
 by_cases e : k = m.length
 · subst e
   simp at h0 h1
   omega
 · omega
structure Term where
 kind : Int
 text : ByteArray
structure Atom where
 at_ : Nat
 pred : ByteArray
 terms : List Term
structure Rule where
 head : Atom
 body : List Atom
def kindAt (toks : List Tok) (i : Nat) : Int := match toks[i]? with | some t => t.kind | none => 0
theorem kindAt_of {toks : List Tok} {i : Nat} {t : Tok} (h : toks[i]? = some t) : kindAt toks i = t.kind := by simp [kindAt, h]
def pTerm (toks : List Tok) (i : Nat) : Option Term × Nat :=
 match toks[i]? with
 | some t => if t.kind = 2 ∨ t.kind = 3 then (some ⟨t.kind - 2, t.text⟩, i + 1) else (none, i)
 | none => (none, i)
theorem pTerm_some {toks : List Tok} {i : Nat} {t : Tok} (h : toks[i]? = some t) (hk : t.kind = 2 ∨ t.kind = 3) : pTerm toks i = (some ⟨t.kind - 2, t.text⟩, i + 1) := by simp [pTerm, h, hk]
theorem pTerm_none {toks : List Tok} {i : Nat} {t : Tok} (h : toks[i]? = some t) (hk : ¬ (t.kind = 2 ∨ t.kind = 3)) : pTerm toks i = (none, i) := by simp [pTerm, h, hk]
def pTerms (toks : List Tok) : Nat → Nat → List Term → Option (List Term) × Nat
 | 0, i, _ => (none, i)
 | f + 1, i, acc =>
  match pTerm toks i with
  | (none, j) => (none, j)
  | (some t, j) => if kindAt toks j = 6 then pTerms toks f (j + 1) (acc ++ [t]) else (some (acc ++ [t]), j)
theorem pTerms_none {toks : List Tok} {f i : Nat} {acc : List Term} (h : pTerm toks i = (none, i)) : pTerms toks (f + 1) i acc = (none, i) := by simp [pTerms, h]
theorem pTerms_on {toks : List Tok} {f i j : Nat} {acc : List Term} {t : Term} (h : pTerm toks i = (some t, j)) (hk : kindAt toks j = 6) : pTerms toks (f + 1) i acc = pTerms toks f (j + 1) (acc ++ [t]) := by simp [pTerms, h, hk]
theorem pTerms_last {toks : List Tok} {f i j : Nat} {acc : List Term} {t : Term} (h : pTerm toks i = (some t, j)) (hk : ¬ kindAt toks j = 6) : pTerms toks (f + 1) i acc = (some (acc ++ [t]), j) := by simp [pTerms, h, hk]
theorem pTerm_lt {toks : List Tok} (he : Ends toks) {i : Nat} (hi : i < toks.length) : (pTerm toks i).2 < toks.length := by
 unfold pTerm
 split
 · rename_i t ht
   obtain ⟨hl, e⟩ := List.getElem?_eq_some_iff.1 ht
   split
   · rename_i hk
     exact he.next hl (by rw [e]; omega) (by rw [e]; omega)
   · exact hi
 · exact hi
theorem pTerms_lt {toks : List Tok} (he : Ends toks) : ∀ (f i : Nat) (acc : List Term) {r : Option (List Term)} {j : Nat}, i < toks.length → pTerms toks f i acc = (r, j) → j < toks.length
 | 0, i, acc, r, j, hi, h => by simp [pTerms] at h; omega
 | f + 1, i, acc, r, j, hi, h => by
  have hl := pTerm_lt he hi
  unfold pTerms at h
  split at h
  · rename_i j' e
    rw [e] at hl
    simp at h hl
    omega
  · rename_i t j' e
    rw [e] at hl
    simp only at hl
    split at h
    · rename_i hk
      refine pTerms_lt he f (j' + 1) _ ?_ h
      have ht : toks[j']? = some toks[j'] := List.getElem?_eq_getElem hl
      rw [kindAt_of ht] at hk
      exact he.next hl (by omega) (by omega)
    · simp at h
      omega
def pAtom (toks : List Tok) (i : Nat) : Option Atom × Nat :=
 match toks[i]? with
 | none => (none, i)
 | some t =>
  if t.kind = 2 then
   if kindAt toks (i + 1) = 4 then
    match pTerms toks toks.length (i + 1 + 1) [] with
    | (none, j) => (none, j)
    | (some ts, j) => if kindAt toks j = 5 then (some ⟨t.at_, t.text, ts⟩, j + 1) else (none, j)
   else (none, i + 1)
  else (none, i)
theorem pAtom_0 {toks : List Tok} {i : Nat} {t : Tok} (h : toks[i]? = some t) (hk : ¬ t.kind = 2) : pAtom toks i = (none, i) := by simp [pAtom, h, hk]
theorem pAtom_1 {toks : List Tok} {i : Nat} {t : Tok} (h : toks[i]? = some t) (hk : t.kind = 2) (h4 : ¬ kindAt toks (i + 1) = 4) : pAtom toks i = (none, i + 1) := by simp [pAtom, h, hk, h4]
theorem pAtom_2 {toks : List Tok} {i j : Nat} {t : Tok} (h : toks[i]? = some t) (hk : t.kind = 2) (h4 : kindAt toks (i + 1) = 4) (ht : pTerms toks toks.length (i + 1 + 1) [] = (none, j)) : pAtom toks i = (none, j) := by simp [pAtom, h, hk, h4, ht]
theorem pAtom_3 {toks : List Tok} {i j : Nat} {t : Tok} {ts : List Term} (h : toks[i]? = some t) (hk : t.kind = 2) (h4 : kindAt toks (i + 1) = 4) (ht : pTerms toks toks.length (i + 1 + 1) [] = (some ts, j)) (h5 : ¬ kindAt toks j = 5) : pAtom toks i = (none, j) := by simp [pAtom, h, hk, h4, ht, h5]
theorem pAtom_4 {toks : List Tok} {i j : Nat} {t : Tok} {ts : List Term} (h : toks[i]? = some t) (hk : t.kind = 2) (h4 : kindAt toks (i + 1) = 4) (ht : pTerms toks toks.length (i + 1 + 1) [] = (some ts, j)) (h5 : kindAt toks j = 5) : pAtom toks i = (some ⟨t.at_, t.text, ts⟩, j + 1) := by simp [pAtom, h, hk, h4, ht, h5]
end Go.Proofs.YtdmicblafmhflaaGreatDoor.Ax
/- Plain functions that mirror program's parser: atoms, rules. No program here. -/
namespace Go.Proofs.YtdmicblafmhflaaGreatDoor.Ax
theorem pAtom_lt {toks : List Tok} (he : Ends toks) {i : Nat} {r : Option Atom} {j : Nat} (hi : i < toks.length) (h : pAtom toks i = (r, j)) : j < toks.length := by
 have ht : toks[i]? = some toks[i] := List.getElem?_eq_getElem hi
 by_cases h2 : toks[i].kind = 2
 case neg => rw [pAtom_0 ht h2] at h; simp at h; omega
 have hn1 := he.next hi (by omega) (by omega)
 have ht1 : toks[i + 1]? = some toks[i + 1] := List.getElem?_eq_getElem hn1
 by_cases h4 : kindAt toks (i + 1) = 4
 case neg => rw [pAtom_1 ht h2 h4] at h; simp at h; omega
 have h4' : toks[i + 1].kind = 4 := by rw [kindAt_of ht1] at h4; exact h4
 have hn2 := he.next hn1 (by omega) (by omega)
 rcases hR : pTerms toks toks.length (i + 1 + 1) [] with ⟨_ | ts, j'⟩
 · have := pTerms_lt he _ _ _ hn2 hR
   rw [pAtom_2 ht h2 h4 hR] at h; simp at h; omega
 · have hj := pTerms_lt he _ _ _ hn2 hR
   by_cases h5 : kindAt toks j' = 5
   · rw [pAtom_4 ht h2 h4 hR h5] at h
     have ht3 : toks[j']? = some toks[j'] := List.getElem?_eq_getElem hj
     rw [kindAt_of ht3] at h5
     have := he.next hj (by omega) (by omega)
     simp at h; omega
   · rw [pAtom_3 ht h2 h4 hR h5] at h; simp at h; omega
def pAtoms (toks : List Tok) : Nat → Nat → List Atom → Option (List Atom) × Nat
 | 0, i, _ => (none, i)
 | f + 1, i, acc =>
  match pAtom toks i with
  | (none, j) => (none, j)
  | (some t, j) => if kindAt toks j = 6 then pAtoms toks f (j + 1) (acc ++ [t]) else (some (acc ++ [t]), j)
theorem pAtoms_none {toks : List Tok} {f i j : Nat} {acc : List Atom} (h : pAtom toks i = (none, j)) : pAtoms toks (f + 1) i acc = (none, j) := by simp [pAtoms, h]
theorem pAtoms_on {toks : List Tok} {f i j : Nat} {acc : List Atom} {t : Atom} (h : pAtom toks i = (some t, j)) (hk : kindAt toks j = 6) : pAtoms toks (f + 1) i acc = pAtoms toks f (j + 1) (acc ++ [t]) := by simp [pAtoms, h, hk]
theorem pAtoms_last {toks : List Tok} {f i j : Nat} {acc : List Atom} {t : Atom} (h : pAtom toks i = (some t, j)) (hk : ¬ kindAt toks j = 6) : pAtoms toks (f + 1) i acc = (some (acc ++ [t]), j) := by simp [pAtoms, h, hk]
theorem pAtom_gt {toks : List Tok} {i j : Nat} {a : Atom} (h : pAtom toks i = (some a, j)) : i < j := by
 have hT : ∀ f i acc r j, pTerms toks f i acc = (r, j) → i ≤ j := by
  intro f
  induction f with
  | zero => intro i acc r j h; simp [pTerms] at h; omega
  | succ f ih =>
   intro i acc r j h
   have hm : i ≤ (pTerm toks i).2 := by unfold pTerm; (split; (split <;> simp); simp)
   unfold pTerms at h
   split at h
   · rename_i j' e; rw [e] at hm; simp at h hm; omega
   · rename_i t j' e
     rw [e] at hm
     simp only at hm
     split at h
     · have := ih _ _ _ _ h; omega
     · simp at h; omega
 unfold pAtom at h
 split at h
 · simp at h
 · split at h
   · split at h
     · split at h
       · simp at h
       · rename_i ts j' e
         have := hT _ _ _ _ _ e
         split at h
         · simp at h; omega
         · simp at h
     · simp at h
   · simp at h
theorem pAtoms_lt {toks : List Tok} (he : Ends toks) : ∀ (f i : Nat) (acc : List Atom) {r : Option (List Atom)} {j : Nat}, i < toks.length → pAtoms toks f i acc = (r, j) → j < toks.length
 | 0, i, acc, r, j, hi, h => by simp [pAtoms] at h; omega
 | f + 1, i, acc, r, j, hi, h => by
  rcases hA : pAtom toks i with ⟨_ | a, j'⟩
  · have := pAtom_lt he hi hA
    rw [pAtoms_none hA] at h; simp at h; omega
  · have hl := pAtom_lt he hi hA
    by_cases hk : kindAt toks j' = 6
    · rw [pAtoms_on hA hk] at h
      refine pAtoms_lt he f (j' + 1) _ ?_ h
      have ht : toks[j']? = some toks[j'] := List.getElem?_eq_getElem hl
      rw [kindAt_of ht] at hk
      exact he.next hl (by omega) (by omega)
    · rw [pAtoms_last hA hk] at h; simp at h; omega
end Go.Proofs.YtdmicblafmhflaaGreatDoor.Ax
/- Plain functions that mirror program's parser: rules. No program here. -/
namespace Go.Proofs.YtdmicblafmhflaaGreatDoor.Ax
def pRule (toks : List Tok) (i : Nat) : Option Rule × Nat :=
 match pAtom toks i with
 | (none, j) => (none, j)
 | (some a, j) =>
  if kindAt toks j = 8 then
   match pAtoms toks toks.length (j + 1) [] with
   | (none, j2) => (none, j2)
   | (some b, j2) => if kindAt toks j2 = 7 then (some ⟨a, b⟩, j2 + 1) else (none, j2)
  else if kindAt toks j = 7 then (some ⟨a, []⟩, j + 1) else (none, j)
theorem pRule_0 {toks : List Tok} {i j : Nat} (hA : pAtom toks i = (none, j)) : pRule toks i = (none, j) := by simp [pRule, hA]
theorem pRule_1 {toks : List Tok} {i j j2 : Nat} {a : Atom} (hA : pAtom toks i = (some a, j)) (h8 : kindAt toks j = 8) (hB : pAtoms toks toks.length (j + 1) [] = (none, j2)) : pRule toks i = (none, j2) := by simp [pRule, hA, h8, hB]
theorem pRule_2 {toks : List Tok} {i j j2 : Nat} {a : Atom} {b : List Atom} (hA : pAtom toks i = (some a, j)) (h8 : kindAt toks j = 8) (hB : pAtoms toks toks.length (j + 1) [] = (some b, j2)) (h7 : ¬ kindAt toks j2 = 7) : pRule toks i = (none, j2) := by simp [pRule, hA, h8, hB, h7]
theorem pRule_3 {toks : List Tok} {i j j2 : Nat} {a : Atom} {b : List Atom} (hA : pAtom toks i = (some a, j)) (h8 : kindAt toks j = 8) (hB : pAtoms toks toks.length (j + 1) [] = (some b, j2)) (h7 : kindAt toks j2 = 7) : pRule toks i = (some ⟨a, b⟩, j2 + 1) := by simp [pRule, hA, h8, hB, h7]
theorem pRule_4 {toks : List Tok} {i j : Nat} {a : Atom} (hA : pAtom toks i = (some a, j)) (h8 : ¬ kindAt toks j = 8) (h7 : ¬ kindAt toks j = 7) : pRule toks i = (none, j) := by simp [pRule, hA, h8, h7]
theorem pRule_5 {toks : List Tok} {i j : Nat} {a : Atom} (hA : pAtom toks i = (some a, j)) (h8 : ¬ kindAt toks j = 8) (h7 : kindAt toks j = 7) : pRule toks i = (some ⟨a, []⟩, j + 1) := by simp [pRule, hA, h7]
theorem kind_next {toks : List Tok} (he : Ends toks) {j : Nat} (hj : j < toks.length) {k : Int} (hk : kindAt toks j = k) (h2 : 2 ≤ k) : j + 1 < toks.length := by
 have ht : toks[j]? = some toks[j] := List.getElem?_eq_getElem hj
 rw [kindAt_of ht] at hk
 exact he.next hj (by omega) (by omega)
theorem pAtoms_ge {toks : List Tok} : ∀ (f i : Nat) (acc : List Atom) {r : List Atom} {j : Nat}, pAtoms toks f i acc = (some r, j) → i < j
 | 0, i, acc, r, j, h => by simp [pAtoms] at h
 | f + 1, i, acc, r, j, h => by
  rcases hA : pAtom toks i with ⟨_ | a, j'⟩
  · rw [pAtoms_none hA] at h; simp at h
  · have hl := pAtom_gt hA
    by_cases hk : kindAt toks j' = 6
    · rw [pAtoms_on hA hk] at h
      have := pAtoms_ge f (j' + 1) _ h
      omega
    · rw [pAtoms_last hA hk] at h; simp at h; omega
theorem pRule_lt {toks : List Tok} (he : Ends toks) {i : Nat} {r : Option Rule} {j : Nat} (hi : i < toks.length) (h : pRule toks i = (r, j)) : j < toks.length ∧ (r ≠ none → i < j) := by
 rcases hA : pAtom toks i with ⟨_ | a, j1⟩
 · have := pAtom_lt he hi hA
   rw [pRule_0 hA] at h; simp at h
   exact ⟨by omega, fun hn => absurd h.1.symm hn⟩
 · have hj1 := pAtom_lt he hi hA
   have hg := pAtom_gt hA
   by_cases h8 : kindAt toks j1 = 8
   · have hn := kind_next he hj1 h8 (by omega)
     rcases hB : pAtoms toks toks.length (j1 + 1) [] with ⟨_ | b, j2⟩
     · have := pAtoms_lt he _ _ _ hn hB
       rw [pRule_1 hA h8 hB] at h; simp at h
       exact ⟨by omega, fun hn => absurd h.1.symm hn⟩
     · have h2 := pAtoms_lt he _ _ _ hn hB
       have h3 : j1 + 1 < j2 := pAtoms_ge _ _ _ hB
       by_cases h7 : kindAt toks j2 = 7
       · have := kind_next he h2 h7 (by omega)
         rw [pRule_3 hA h8 hB h7] at h; simp at h
         exact ⟨by omega, fun _ => by omega⟩
       · rw [pRule_2 hA h8 hB h7] at h; simp at h
         exact ⟨by omega, fun hn => absurd h.1.symm hn⟩
   · by_cases h7 : kindAt toks j1 = 7
     · have := kind_next he hj1 h7 (by omega)
       rw [pRule_5 hA h8 h7] at h; simp at h
       exact ⟨by omega, fun _ => by omega⟩
     · rw [pRule_4 hA h8 h7] at h; simp at h
       exact ⟨by omega, fun hn => absurd h.1.symm hn⟩
def pRules (toks : List Tok) : Nat → Nat → List Rule → Option (List Rule) × Nat
 | 0, i, _ => (none, i)
 | f + 1, i, acc =>
  if kindAt toks i = 1 then (some acc, i)
  else match pRule toks i with
   | (none, j) => (none, j)
   | (some r, j) => pRules toks f j (acc ++ [r])
theorem pRules_end {toks : List Tok} {f i : Nat} {acc : List Rule} (h : kindAt toks i = 1) : pRules toks (f + 1) i acc = (some acc, i) := by simp [pRules, h]
theorem pRules_none {toks : List Tok} {f i j : Nat} {acc : List Rule} (h1 : ¬ kindAt toks i = 1) (h : pRule toks i = (none, j)) : pRules toks (f + 1) i acc = (none, j) := by simp [pRules, h1, h]
theorem pRules_on {toks : List Tok} {f i j : Nat} {acc : List Rule} {r : Rule} (h1 : ¬ kindAt toks i = 1) (h : pRule toks i = (some r, j)) : pRules toks (f + 1) i acc = pRules toks f j (acc ++ [r]) := by simp [pRules, h1, h]
end Go.Proofs.YtdmicblafmhflaaGreatDoor.Ax
/- Plain functions that mirror program's limits. No program here. -/
namespace Go.Proofs.YtdmicblafmhflaaGreatDoor.Ax
def has (l : List ByteArray) (v : ByteArray) : Bool := l.any fun x => decide (v = x)
theorem has_iff (l : List ByteArray) (v : ByteArray) : has l v = true ↔ v ∈ l := by simp [has]
def Term.beq (s t : Term) : Bool := decide (s.kind = t.kind) && decide (s.text = t.text)
theorem Term.beq_iff (s t : Term) : s.beq t = true ↔ s = t := by
 rcases s with ⟨a, b⟩
 rcases t with ⟨c, d⟩
 simp [Term.beq]
def hasTerm (l : List Term) (v : Term) : Bool := l.any fun x => v.beq x
theorem hasTerm_iff (l : List Term) (v : Term) : hasTerm l v = true ↔ v ∈ l := by
 simp only [hasTerm, List.any_eq_true, Term.beq_iff]
 exact ⟨fun ⟨x, h, e⟩ => e ▸ h, fun h => ⟨v, h, rfl⟩⟩
def Rule.atoms (r : Rule) : List Atom := r.head :: r.body
def addPreds (ps : List ByteArray) : List Atom → List ByteArray
 | [] => ps
 | a :: l => addPreds (if has ps a.pred then ps else ps ++ [a.pred]) l
def wide (a : Atom) : Bool := decide (3 < a.terms.length)
def anyWide (l : List Atom) : Bool := l.any fun x => wide x
def bodyHas (l : List Atom) (t : Term) : Bool := l.any fun x => hasTerm x.terms t
def manyAt (i : Nat) (ps : List ByteArray) (r : Rule) : Bool := decide (8 ≤ i) || decide (2 < r.body.length) || decide (6 < ps.length) || anyWide r.atoms
def tooMany : Nat → List ByteArray → List Rule → Option Nat
 | _, _, [] => none
 | i, ps, r :: l => if manyAt i (addPreds ps r.atoms) r then some r.head.at_ else tooMany (i + 1) (addPreds ps r.atoms) l
abbrev Places := List (ByteArray × Nat)
end Go.Proofs.YtdmicblafmhflaaGreatDoor.Ax
/- Plain functions that mirror program's limits: openHead, twoArities, Read. No program here. -/
namespace Go.Proofs.YtdmicblafmhflaaGreatDoor.Ax
def openTerm (b : List Atom) (t : Term) : Bool := decide (t.kind = 1) && !bodyHas b t
def openAt (r : Rule) : Bool := r.head.terms.any fun t => openTerm r.body t
def openHead : List Rule → Option Nat
 | [] => none
 | r :: l => if openAt r then some r.head.at_ else openHead l
def look (m : List (ByteArray × Nat)) (p : ByteArray) : Option Nat := (m.find? fun x => decide (x.1 = p)).map Prod.snd
def twoAr (m : List (ByteArray × Nat)) : List Atom → Option Nat
 | [] => none
 | a :: l =>
  match look m a.pred with
  | some n => if n = a.terms.length then twoAr m l else some a.at_
  | none => twoAr ((a.pred, a.terms.length) :: m) l
def read (s : ByteArray) : ByteArray × Int × Nat :=
 if 600 < s.size then (ByteArray.empty, 1, 0)
 else match pRules (split s) (split s).length 0 [] with
  | (none, j) => (ByteArray.empty, 2, ((split s)[j]?.map Tok.at_).getD 0)
  | (some rs, _) =>
   match tooMany 0 [] rs with
   | some p => (ByteArray.empty, 3, p)
   | none => match twoAr [] (rs.flatMap Rule.atoms) with
    | some p => (ByteArray.empty, 4, p)
    | none => match openHead rs with
     | some p => (ByteArray.empty, 5, p)
     | none => (⟨((split s).flatMap fun t => t.text.data.toList).toArray⟩, 0, 0)
end Go.Proofs.YtdmicblafmhflaaGreatDoor.Ax
/- Bounds on what split and the parser give; Read's answers by cases. No program here. -/
namespace Go.Proofs.YtdmicblafmhflaaGreatDoor.Ax
theorem splitLoop_text (s : ByteArray) : ∀ f p b acc, (∀ t, t ∈ acc → t.text.size ≤ s.size) → ∀ t, t ∈ splitLoop s f p b acc → t.text.size ≤ s.size
 | 0, _, _, acc, h => by
  intro t ht
  simp only [splitLoop, List.mem_append, List.mem_singleton] at ht
  rcases ht with ht | rfl
  · exact h t ht
  · exact Nat.zero_le _
 | f + 1, p, b, acc, h => by
  unfold splitLoop
  have hx : ∀ (k : Int) (n : Nat), ∀ t, t ∈ acc ++ [⟨k, p, s.extract p (p + n)⟩] → t.text.size ≤ s.size := by
   intro k n t ht
   simp only [List.mem_append, List.mem_singleton] at ht
   rcases ht with ht | rfl
   · exact h t ht
   · simp only [ByteArray.size_extract]; omega
  split
  · split
    · exact splitLoop_text s f _ _ _ h
    · simp only
      split
      · exact hx _ _
      · exact splitLoop_text s f _ _ _ (hx _ _)
  · intro t ht
    simp only [List.mem_append, List.mem_singleton] at ht
    rcases ht with ht | rfl
    · exact h t ht
    · exact Nat.zero_le _
theorem split_text (s : ByteArray) : ∀ t, t ∈ split s → t.text.size ≤ s.size := splitLoop_text s _ _ _ _ (fun _ h => by cases h)
theorem pAtom_pred {toks : List Tok} {M : Nat} (h : ∀ t, t ∈ toks → t.text.size ≤ M) {i j : Nat} {a : Atom} (ha : pAtom toks i = (some a, j)) : a.pred.size ≤ M := by
 unfold pAtom at ha
 split at ha
 · simp at ha
 · rename_i t ht
   have hm := h t (List.mem_of_getElem? ht)
   split at ha
   · split at ha
     · split at ha
       · simp at ha
       · split at ha
         · simp at ha; rw [← ha.1]; exact hm
         · simp at ha
     · simp at ha
   · simp at ha
theorem pAtoms_bounds {toks : List Tok} {M : Nat} (h : ∀ t, t ∈ toks → t.text.size ≤ M) : ∀ (f i : Nat) (acc : List Atom) {r : List Atom} {j : Nat}, (∀ a, a ∈ acc → a.pred.size ≤ M) → pAtoms toks f i acc = (some r, j) → (∀ a, a ∈ r → a.pred.size ≤ M) ∧ r.length ≤ acc.length + f
 | 0, i, acc, r, j, hacc, hr => by simp [pAtoms] at hr
 | f + 1, i, acc, r, j, hacc, hr => by
  rcases hA : pAtom toks i with ⟨_ | a, j'⟩
  · rw [pAtoms_none hA] at hr; simp at hr
  · have hp := pAtom_pred h hA
    have hacc' : ∀ x, x ∈ acc ++ [a] → x.pred.size ≤ M := by
     intro x hx
     rcases List.mem_append.1 hx with hx | hx
     · exact hacc x hx
     · simp at hx; subst hx; exact hp
    by_cases hk : kindAt toks j' = 6
    · rw [pAtoms_on hA hk] at hr
      have := pAtoms_bounds h f (j' + 1) _ hacc' hr
      simp only [List.length_append, List.length_singleton] at this
      exact ⟨this.1, by omega⟩
    · rw [pAtoms_last hA hk] at hr
      simp only [Prod.mk.injEq, Option.some.injEq] at hr
      rw [← hr.1]
      exact ⟨hacc', by simp⟩
def Fits (M n : Nat) (r : Rule) : Prop := r.body.length ≤ n ∧ ∀ a, a ∈ r.atoms → a.pred.size ≤ M
theorem pRule_fits {toks : List Tok} {M : Nat} (h : ∀ t, t ∈ toks → t.text.size ≤ M) {i j : Nat} {r : Rule} (hr : pRule toks i = (some r, j)) : Fits M toks.length r := by
 rcases hA : pAtom toks i with ⟨_ | a, j1⟩
 · rw [pRule_0 hA] at hr; simp at hr
 · have hp := pAtom_pred h hA
   by_cases h8 : kindAt toks j1 = 8
   · rcases hB : pAtoms toks toks.length (j1 + 1) [] with ⟨_ | b, j2⟩
     · rw [pRule_1 hA h8 hB] at hr; simp at hr
     · obtain ⟨hb, hbl⟩ := pAtoms_bounds h _ _ _ (fun _ h => by cases h) hB
       by_cases h7 : kindAt toks j2 = 7
       · rw [pRule_3 hA h8 hB h7] at hr
         simp only [Prod.mk.injEq, Option.some.injEq] at hr
         rw [← hr.1]
         refine ⟨by simpa using hbl, ?_⟩
         intro x hx
         rcases List.mem_cons.1 hx with rfl | hx
         · exact hp
         · exact hb x hx
       · rw [pRule_2 hA h8 hB h7] at hr; simp at hr
   · by_cases h7 : kindAt toks j1 = 7
     · rw [pRule_5 hA h8 h7] at hr
       simp only [Prod.mk.injEq, Option.some.injEq] at hr
       rw [← hr.1]
       refine ⟨Nat.zero_le _, ?_⟩
       intro x hx
       rcases List.mem_cons.1 hx with rfl | hx
       · exact hp
       · cases hx
     · rw [pRule_4 hA h8 h7] at hr; simp at hr
theorem pRules_fits {toks : List Tok} {M : Nat} (h : ∀ t, t ∈ toks → t.text.size ≤ M) : ∀ (f i : Nat) (acc : List Rule) {rs : List Rule} {j : Nat}, (∀ r, r ∈ acc → Fits M toks.length r) → pRules toks f i acc = (some rs, j) → (∀ r, r ∈ rs → Fits M toks.length r) ∧ rs.length ≤ acc.length + f
 | 0, i, acc, rs, j, hacc, hr => by simp [pRules] at hr
 | f + 1, i, acc, rs, j, hacc, hr => by
  by_cases h1 : kindAt toks i = 1
  · rw [pRules_end h1] at hr
    simp only [Prod.mk.injEq, Option.some.injEq] at hr
    rw [← hr.1]
    exact ⟨hacc, by omega⟩
  · rcases hR : pRule toks i with ⟨_ | r, j'⟩
    · rw [pRules_none h1 hR] at hr; simp at hr
    · rw [pRules_on h1 hR] at hr
      have hf := pRule_fits h hR
      have := pRules_fits h f j' (acc ++ [r]) (by
       intro x hx
       rcases List.mem_append.1 hx with hx | hx
       · exact hacc x hx
       · simp at hx; subst hx; exact hf) hr
      simp only [List.length_append, List.length_singleton] at this
      exact ⟨this.1, by omega⟩
theorem split_pos (s : ByteArray) : 0 < (split s).length := by
 obtain ⟨m, t, e, _⟩ := split_ends s
 rw [e]; simp
def plain (s : ByteArray) : ByteArray := ⟨((split s).flatMap fun t => t.text.data.toList).toArray⟩
theorem read_3 {s : ByteArray} (h : ¬ 600 < s.size) {rs : List Rule} {j p : Nat} (hr : pRules (split s) (split s).length 0 [] = (some rs, j)) (h3 : tooMany 0 [] rs = some p) : read s = (ByteArray.empty, 3, p) := by simp [read, h, hr, h3]
theorem read_4 {s : ByteArray} (h : ¬ 600 < s.size) {rs : List Rule} {j p : Nat} (hr : pRules (split s) (split s).length 0 [] = (some rs, j)) (h3 : tooMany 0 [] rs = none) (h4 : twoAr [] (rs.flatMap Rule.atoms) = some p) : read s = (ByteArray.empty, 4, p) := by simp [read, h, hr, h3, h4]
theorem read_5 {s : ByteArray} (h : ¬ 600 < s.size) {rs : List Rule} {j p : Nat} (hr : pRules (split s) (split s).length 0 [] = (some rs, j)) (h3 : tooMany 0 [] rs = none) (h4 : twoAr [] (rs.flatMap Rule.atoms) = none) (h5 : openHead rs = some p) : read s = (ByteArray.empty, 5, p) := by simp [read, h, hr, h3, h4, h5]
theorem read_0 {s : ByteArray} (h : ¬ 600 < s.size) {rs : List Rule} {j : Nat} (hr : pRules (split s) (split s).length 0 [] = (some rs, j)) (h3 : tooMany 0 [] rs = none) (h4 : twoAr [] (rs.flatMap Rule.atoms) = none) (h5 : openHead rs = none) : read s = (plain s, 0, 0) := by simp [read, plain, h, hr, h3, h4, h5]
end Go.Proofs.YtdmicblafmhflaaGreatDoor.Ax
/- Plain functions that mirror the reference's scanner. No program here. -/
namespace Go.Proofs.YtdmicblafmhflaaGreatDoor.Ax
def byte (s : ByteArray) (k : Nat) : Nat := (s.get! k).toNat
theorem byte_lt (s : ByteArray) (k : Nat) : byte s k < 256 := (s.get! k).toNat_lt
theorem byte_get (s : ByteArray) (k : Nat) (h : k < s.size) : (s[k]'h).toNat = byte s k := by
 unfold byte
 have e : s.get! k = s[k]'h := by
  simp [ByteArray.get!, getElem!_pos, h]
  rfl
 rw [e]
def rcont (s : ByteArray) (i : Nat) : Nat → Nat → Nat → Option Nat
 | 0, _, c => some c
 | m + 1, k, c => if s.size ≤ i + k ∨ byte s (i + k) < 128 ∨ 191 < byte s (i + k) then none else rcont s i m (k + 1) (c * 64 + byte s (i + k) - 128)
def rfin (n lo : Nat) : Option Nat → Nat × Nat
 | none => (0, 0)
 | some c => if c < lo ∨ 1114111 < c ∨ (55296 ≤ c ∧ c ≤ 57343) then (0, 0) else (c, n)
def pt (s : ByteArray) (i : Nat) : Nat × Nat :=
 let c := byte s i
 if c < 128 then (c, 1) else if c < 192 then (0, 0)
 else if c < 224 then rfin 2 128 (rcont s i 1 1 (c - 192))
 else if c < 240 then rfin 3 2048 (rcont s i 2 1 (c - 224))
 else if c < 248 then rfin 4 65536 (rcont s i 3 1 (c - 240))
 else (0, 0)
def rsmall (c : Int) : Bool := (decide (97 ≤ c) && decide (c ≤ 122)) || decide (224 ≤ c)
def rok (s : ByteArray) (i n : Nat) : Bool :=
 decide (0 < (pt s i).2) && (rsmall (pt s i).1 || (decide (n = 0) && decide (65 ≤ (pt s i).1) && decide ((pt s i).1 ≤ 90)) || (decide (0 < n) && decide (48 ≤ (pt s i).1) && decide ((pt s i).1 ≤ 57)))
def rword (s : ByteArray) : Nat → Nat → Nat → Nat × Nat
 | 0, i, n => (i, n)
 | f + 1, i, n => if i < s.size then (if rok s i n then rword s f (i + (pt s i).2) (n + 1) else (i, n)) else (i, n)
theorem rword_end {s : ByteArray} {f i n : Nat} (h : ¬ i < s.size) : rword s f i n = (i, n) := by cases f <;> simp [rword, h]
theorem rword_stop {s : ByteArray} {f i n : Nat} (hk : rok s i n = false) : rword s f i n = (i, n) := by cases f <;> simp [rword, hk]
theorem rword_on {s : ByteArray} {f i n : Nat} (h : i < s.size) (hk : rok s i n = true) : rword s (f + 1) i n = rword s f (i + (pt s i).2) (n + 1) := by simp [rword, h, hk]
theorem rcont_le (s : ByteArray) (i : Nat) : ∀ m k c c', i + k ≤ s.size → rcont s i m k c = some c' → i + k + m ≤ s.size
 | 0, k, c, c', h, _ => h
 | m + 1, k, c, c', h, hr => by
  unfold rcont at hr
  split at hr
  · simp at hr
  · rename_i hn
    have := rcont_le s i m (k + 1) _ _ (by omega) hr
    omega
theorem rfin_le {s : ByteArray} {i n lo : Nat} (m : Nat) (c : Nat) (hn : n = m + 1) (h : i < s.size) : i + (rfin n lo (rcont s i m 1 c)).2 ≤ s.size := by
 cases hr : rcont s i m 1 c with
 | none => simp [rfin]; omega
 | some c' =>
  have := rcont_le s i m 1 c c' (by omega) hr
  simp only [rfin]
  split
  · simp; omega
  · simp; omega
theorem pt_le (s : ByteArray) (i : Nat) (h : i < s.size) : i + (pt s i).2 ≤ s.size := by
 unfold pt
 simp only
 repeat' split
 all_goals first | exact rfin_le _ _ rfl h | (simp; omega)
theorem rok_pos {s : ByteArray} {i n : Nat} (h : rok s i n = true) : 0 < (pt s i).2 := by
 simp only [rok, Bool.and_eq_true, decide_eq_true_eq] at h
 exact h.1
end Go.Proofs.YtdmicblafmhflaaGreatDoor.Ax
