/- axiomref: tokens, atom whole; rules as plain functions. -/
import Derived.Test.YtdmicblafmhflaaRA
import Derived.Test.YtdmicblafmhflaaS0
import Derived.Test.YtdmicblafmhflaaQQ
namespace Go.Proofs.Ytdmicblafmhflaa
set_option linter.unusedSimpArgs false
set_option linter.unusedVariables false
open Go.RowKit

theorem rtokens_any (s : ByteArray) (w : World) (hs : s.size ≤ 600) :
    Calls Try.prog 34 #[.string s] w fun e w' => ∃ ld lc, e = .returned (.slice ld (Ax.split s).length lc) ∧ RAt w' ld lc (Ax.split s) ∧ Below w.heap.size w w' := by
  refine (tokens_any s w hs).mono ?_
  rintro e w' ⟨v, rfl, hown, hb⟩
  rw [Ax.rtoks_split, List.length_map] at hown
  obtain ⟨ld, lc, rfl⟩ := ownsRow_shape hown
  have := Ax.split_length s
  exact ⟨ld, lc, rfl, ⟨ownsRow_base hown (Nat.zero_le _), by omega, Ax.split_ends s, Ax.split_kinds s⟩, hb⟩

theorem pAtom_rend {T : List Ax.Tok} {i : Nat} {t : Ax.Tok} (ht : T[i]? = some t) (hk : t.kind = 2) (h4 : Ax.kindAt T (i + 1) = 4) : Ax.pAtom T i = rend T t (Ax.pTerms T T.length (i + 1 + 1) []) := by
  rcases hR : Ax.pTerms T T.length (i + 1 + 1) [] with ⟨_ | ts, j⟩
  · rw [Ax.pAtom_2 ht hk h4 hR]; rfl
  · by_cases h5 : Ax.kindAt T j = 5
    · rw [Ax.pAtom_4 ht hk h4 hR h5]; simp [rend, h5]
    · rw [Ax.pAtom_3 ht hk h4 hR h5]; simp [rend, h5]

theorem ratom_any (w : World) (ld : Option Addr) (lc : Nat) (T : List Ax.Tok) (i : Nat) (h : RAt w ld lc T) (hi : i < T.length) :
    Calls Try.prog 46 #[.slice ld T.length lc, .int .i64 i] w fun e w' => RAPost w (Ax.pAtom T i) e w' := by
  have ht : T[i]? = some T[i] := List.getElem?_eq_getElem hi
  by_cases h2 : (T[i]).kind = 2
  · have hi1 := h.2.2.1.next hi (by omega) (by omega)
    have ht1 : T[i + 1]? = some T[i + 1] := List.getElem?_eq_getElem hi1
    have hk1 := Ax.kindAt_of ht1
    by_cases h4 : (T[i + 1]).kind = 4
    · exact ratom_2 w ld lc T i h _ ht h2 _ ht1 h4 _ (pAtom_rend ht h2 (by rw [hk1]; exact h4)).symm
    · refine (ratom_1 w ld lc T i h _ ht h2 _ ht1 h4).mono ?_
      rintro e w' ⟨rfl, hb⟩
      rw [Ax.pAtom_1 ht h2 (by rw [hk1]; exact h4)]
      exact ⟨hb, .inr ⟨(T[i]).text, none, 0, 0, none, 0, 0, (T[i]).at_, rfl, by simp⟩⟩
  · refine (ratom_0 w ld lc T i h _ ht h2).mono ?_
    rintro e w' ⟨rfl, hb⟩
    rw [Ax.pAtom_0 ht h2]
    exact ⟨hb, .inr ⟨_, _, _, _, _, _, _, _, rfl, rfl⟩⟩

theorem ratom_some (w : World) (ld : Option Addr) (lc : Nat) (T : List Ax.Tok) (i j : Nat) (a : Ax.Atom) (h : RAt w ld lc T) (hi : i < T.length) (hA : Hid (Ax.pAtom T i = (some a, j))) :
    Calls Try.prog 46 #[.slice ld T.length lc, .int .i64 i] w fun e w' => ∃ td tc vd vc, e = .returned (.tuple #[.agg #[.string a.pred, .slice td a.terms.length tc, .slice vd a.terms.length vc, .int .i64 a.at_], .int .i64 j, .bool true]) ∧ QA.ok w' ⟨a, td, tc, vd, vc⟩ ∧ Below w.heap.size w w' := by
  refine (ratom_any w ld lc T i h hi).mono ?_
  rintro e w' ⟨hb, hc⟩
  rw [hA.out] at hc
  rcases hc with ⟨a', td, tc, vd, vc, ha, rfl, hT, hV⟩ | ⟨_, _, _, _, _, _, _, _, hn, _⟩
  · simp only [Option.some.injEq] at ha
    subst ha
    exact ⟨td, tc, vd, vc, rfl, ⟨ownsRow_base hT (Nat.zero_le _), ownsRow_base hV (Nat.zero_le _)⟩, hb⟩
  · simp at hn
theorem ratom_none (w : World) (ld : Option Addr) (lc : Nat) (T : List Ax.Tok) (i j : Nat) (h : RAt w ld lc T) (hi : i < T.length) (hA : Hid (Ax.pAtom T i = (none, j))) :
    Calls Try.prog 46 #[.slice ld T.length lc, .int .i64 i] w fun e w' => ∃ x td n tc vd m vc y, e = .returned (.tuple #[.agg #[.string x, .slice td n tc, .slice vd m vc, .int .i64 y], .int .i64 j, .bool false]) ∧ Below w.heap.size w w' := by
  refine (ratom_any w ld lc T i h hi).mono ?_
  rintro e w' ⟨hb, hc⟩
  rw [hA.out] at hc
  rcases hc with ⟨a', td, tc, vd, vc, ha, _⟩ | ⟨x, td, n, tc, vd, m, vc, y, _, rfl⟩
  · simp at ha
  · exact ⟨x, td, n, tc, vd, m, vc, y, rfl, hb⟩

/-- does the reference's body go on? -/
def goesOn (T : List Ax.Tok) (q : Nat) (acc : List Ax.Atom) : Bool := (decide (Ax.kindAt T q = 8) && decide (acc.length = 0)) || (decide (Ax.kindAt T q = 6) && decide (0 < acc.length))
/-- the reference's body from a token on -/
def rbody (T : List Ax.Tok) : Nat → Nat → List Ax.Atom → Option (List Ax.Atom) × Nat
  | 0, q, acc => if goesOn T q acc then (none, q + 1) else (some acc, q)
  | f + 1, q, acc =>
    if goesOn T q acc then
      match Ax.pAtom T (q + 1) with
      | (none, j) => (none, j)
      | (some b, j) => rbody T f j (acc ++ [b])
    else (some acc, q)
theorem rbody_stop {T : List Ax.Tok} {f q : Nat} {acc : List Ax.Atom} (h : goesOn T q acc = false) : rbody T f q acc = (some acc, q) := by cases f <;> simp [rbody, h]
theorem rbody_none {T : List Ax.Tok} {f q j : Nat} {acc : List Ax.Atom} (h : goesOn T q acc = true) (hA : Ax.pAtom T (q + 1) = (none, j)) : rbody T (f + 1) q acc = (none, j) := by simp [rbody, h, hA]
theorem rbody_on {T : List Ax.Tok} {f q j : Nat} {acc : List Ax.Atom} {b : Ax.Atom} (h : goesOn T q acc = true) (hA : Ax.pAtom T (q + 1) = (some b, j)) : rbody T (f + 1) q acc = rbody T f j (acc ++ [b]) := by simp [rbody, h, hA]

theorem rbody_atoms (T : List Ax.Tok) : ∀ (f q : Nat) (acc : List Ax.Atom), 0 < acc.length → rbody T f q acc = if Ax.kindAt T q = 6 then Ax.pAtoms T f (q + 1) acc else (some acc, q)
  | 0, q, acc, h => by
    have : goesOn T q acc = decide (Ax.kindAt T q = 6) := by unfold goesOn; simp [show ¬ acc.length = 0 by omega, h]
    unfold rbody
    rw [this]
    simp [Ax.pAtoms]
  | f + 1, q, acc, h => by
    have hg : goesOn T q acc = decide (Ax.kindAt T q = 6) := by unfold goesOn; simp [show ¬ acc.length = 0 by omega, h]
    by_cases hk : Ax.kindAt T q = 6
    · rw [if_pos hk]
      have hg' : goesOn T q acc = true := by rw [hg]; simpa using hk
      rcases hA : Ax.pAtom T (q + 1) with ⟨_ | b, j⟩
      · rw [rbody_none hg' hA, Ax.pAtoms_none hA]
      · rw [rbody_on hg' hA, rbody_atoms T f j (acc ++ [b]) (by simp)]
        by_cases h6 : Ax.kindAt T j = 6
        · rw [if_pos h6, Ax.pAtoms_on hA h6]
        · rw [if_neg h6, Ax.pAtoms_last hA h6]
    · rw [if_neg hk]
      exact rbody_stop (by rw [hg]; simpa using hk)

theorem rbody_start (T : List Ax.Tok) (f q : Nat) : rbody T f q [] = if Ax.kindAt T q = 8 then Ax.pAtoms T f (q + 1) [] else (some [], q) := by
  have hg : goesOn T q [] = decide (Ax.kindAt T q = 8) := by simp [goesOn]
  by_cases hk : Ax.kindAt T q = 8
  · rw [if_pos hk]
    have hg' : goesOn T q [] = true := by rw [hg]; simpa using hk
    cases f with
    | zero => simp [rbody, hg', Ax.pAtoms]
    | succ f =>
      rcases hA : Ax.pAtom T (q + 1) with ⟨_ | b, j⟩
      · rw [rbody_none hg' hA, Ax.pAtoms_none hA]
      · rw [rbody_on hg' hA, rbody_atoms T f j ([] ++ [b]) (by simp)]
        by_cases h6 : Ax.kindAt T j = 6
        · rw [if_pos h6, Ax.pAtoms_on hA h6]
        · rw [if_neg h6, Ax.pAtoms_last hA h6]
  · rw [if_neg hk]
    exact rbody_stop (by rw [hg]; simpa using hk)

/-- a rule, the reference's way -/
theorem pRule_body {T : List Ax.Tok} {i j : Nat} {a : Ax.Atom} (hA : Ax.pAtom T i = (some a, j)) :
    Ax.pRule T i = match rbody T T.length j [] with
      | (none, j2) => (none, j2)
      | (some b, j2) => if Ax.kindAt T j2 = 7 then (some ⟨a, b⟩, j2 + 1) else (none, j2) := by
  rw [rbody_start]
  by_cases h8 : Ax.kindAt T j = 8
  · rw [if_pos h8]
    rcases hB : Ax.pAtoms T T.length (j + 1) [] with ⟨_ | b, j2⟩
    · rw [Ax.pRule_1 hA h8 hB]
    · by_cases h7 : Ax.kindAt T j2 = 7
      · rw [Ax.pRule_3 hA h8 hB h7]; simp [h7]
      · rw [Ax.pRule_2 hA h8 hB h7]; simp [h7]
  · rw [if_neg h8]
    by_cases h7 : Ax.kindAt T j = 7
    · rw [Ax.pRule_5 hA h8 h7]; simp [h7]
    · rw [Ax.pRule_4 hA h8 h7]; simp [h7]
end Go.Proofs.Ytdmicblafmhflaa
