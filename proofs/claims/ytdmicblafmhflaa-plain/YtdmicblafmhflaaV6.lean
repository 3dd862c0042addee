/- axiomkeep: head. -/
import Derived.Test.YtdmicblafmhflaaV5
import Derived.Deep.AppendLies
namespace Go.Proofs.Ytdmicblafmhflaa
set_option linter.unusedSimpArgs false
set_option linter.unusedVariables false
open Go.RowKit

theorem Try.infoInt : (Try.prog.info? 3).map (fun i => (i.zero, i.size, i.bytes)) = some (some (.int .i64 0), 1, 8) := by kernel_rfl

/-- an atom's cells -/
structure AtomAt (w : World) (g o : Nat) (a : Ax.KAtom) : Prop where
  c0 : w.cell? ⟨g, o, none⟩ = some (.int .i64 a.pred)
  c1 : w.cell? ⟨g, o + 1, none⟩ = some (.int .i64 a.a)
  c2 : w.cell? ⟨g, o + 2, none⟩ = some (.int .i64 a.b)
  f0 : Fit64 a.pred
  f1 : Fit64 a.a
  f2 : Fit64 a.b
/-- a list of atoms, somewhere -/
structure BodyAt (w : World) (ad : Option Addr) (n c : Nat) (l : List Ax.KAtom) : Prop where
  len : l.length = n
  cap : n ≤ c
  max : c ≤ maxLen
  none_ : ad = none → n = 0
  at_ : ∀ k (h : k < l.length), ∃ g o, ad = some ⟨g, o, none⟩ ∧ AtomAt w g (o + k * 3) l[k]

theorem cell_below {w w' : World} (hb : Below w.heap.size w w') {p : Addr} {v : Value} (h : w.cell? p = some v) : w'.cell? p = some v := by
  rw [hb.cell (World.block_lt_of_cell? _ _ h), h]
theorem AtomAt.below {w w' : World} {g o : Nat} {a : Ax.KAtom} (h : AtomAt w g o a) (hb : Below w.heap.size w w') : AtomAt w' g o a :=
  ⟨cell_below hb h.c0, cell_below hb h.c1, cell_below hb h.c2, h.f0, h.f1, h.f2⟩
theorem BodyAt.below {w w' : World} {ad : Option Addr} {n c : Nat} {l : List Ax.KAtom} (h : BodyAt w ad n c l) (hb : Below w.heap.size w w') : BodyAt w' ad n c l :=
  ⟨h.len, h.cap, h.max, h.none_, fun k hk => let ⟨g, o, e, ha⟩ := h.at_ k hk; ⟨g, o, e, ha.below hb⟩⟩
theorem BodyAt.two {w : World} {ad : Option Addr} {n c : Nat} {r : Ax.KRule} (h : BodyAt w ad n c r.body) : BodyAt w ad (min n 2) c (Ax.gbody r) := by
  refine ⟨?_, ?_, h.max, ?_, ?_⟩
  · unfold Ax.gbody; rw [List.length_take, h.len]; omega
  · have := h.cap; omega
  · intro e; have := h.none_ e; omega
  · intro k hk
    unfold Ax.gbody at hk ⊢
    rw [List.length_take] at hk
    obtain ⟨g, o, e, ha⟩ := h.at_ k (by omega)
    exact ⟨g, o, e, by rw [List.getElem_take]; exact ha⟩

theorem body_val {w : World} {ad : Option Addr} {n c : Nat} {l : List Ax.KAtom} (h : BodyAt w ad n c l) (p a b : Int) : ∀ w1, Calls Try.prog 13 #[.agg #[.int .i64 p, .int .i64 a, .int .i64 b, .slice ad n c]] w1 fun e w' => e = .returned (.slice ad (min n 2) c) ∧ Below w1.heap.size w1 w' := by
  intro w1
  cases ad with
  | none =>
    have hn := h.none_ rfl
    subst hn
    exact body_none w1 p a b c
  | some ad => exact body_any w1 p a b ad n c h.cap h.max

/-- a head's term, changed -/
def fv (L : List Nat) (h : Nat) : Nat := if h < 3 ∧ ¬ h ∈ L then h + 3 else h
/-- the head's terms, the first i changed -/
def hx (T L : List Nat) (i : Nat) : List Nat := (T.take i).map (fv L) ++ T.drop i
theorem hx_length (T L : List Nat) (i : Nat) : (hx T L i).length = T.length := by simp [hx]; omega
theorem hx_zero (T L : List Nat) : hx T L 0 = T := by simp [hx]
theorem hx_all (T L : List Nat) : hx T L T.length = T.map (fv L) := by simp [hx]
theorem hx_get {T : List Nat} (L : List Nat) {i : Nat} (h : i < T.length) : (natCells (hx T L i))[i]? = some (.int .i64 T[i]) := by
  have e : (hx T L i)[i]? = some T[i] := by
    unfold hx
    rw [List.getElem?_append_right (by simp; omega)]
    simp [Nat.min_eq_left (Nat.le_of_lt h)]
  simp [natCells, e]
theorem hx_next {T : List Nat} (L : List Nat) {i : Nat} (h : i < T.length) : (hx T L i).set i (fv L T[i]) = hx T L (i + 1) := by
  unfold hx
  rw [List.drop_eq_getElem_cons h, List.take_succ_eq_append_getElem h]
  have hl : ((T.take i).map (fv L)).length = i := by simp; omega
  rw [List.set_append_right _ _ (by omega), hl, Nat.sub_self, List.set_cons_zero, List.map_append, List.map_cons, List.map_nil, List.append_assoc]
  rfl
theorem hx_keep {T : List Nat} (L : List Nat) {i : Nat} (h : i < T.length) (e : fv L T[i] = T[i]) : hx T L (i + 1) = hx T L i := by
  rw [← hx_next L h, e]
  have e1 : (hx T L i)[i]? = some T[i] := by
    unfold hx
    rw [List.getElem?_append_right (by simp; omega)]
    simp [Nat.min_eq_left (Nat.le_of_lt h)]
  apply List.ext_getElem?
  intro k
  by_cases hk : i = k
  · subst hk
    rw [List.getElem?_set_self (by rw [hx_length]; exact h), e1]
  · rw [List.getElem?_set_ne hk]
theorem natCells_set (l : List Nat) (i x : Nat) : (natCells l).set i (.int .i64 (x : Int)) = natCells (l.set i x) := by
  simp [natCells, List.map_set]
theorem ownsRow_set1 {w : World} {b : Nat} {e : TypeId} {size g n cap : Nat} {xs : List Value} (h : w.ownsRow b e size (.slice (some ⟨g, 0, none⟩) n cap) n xs) (j : Nat) (v : Value) :
    (w.setCell ⟨g, j, none⟩ v).ownsRow b e size (.slice (some ⟨g, 0, none⟩) n cap) n (xs.set j v) := by
  refine ⟨by rw [List.length_set]; exact h.1, ?_⟩
  rcases h.2 with ⟨e1, _⟩ | ⟨g', cap', cur, hv, hg, hh, h1, h2, h3, h4⟩
  · simp at e1
  · simp only [Value.slice.injEq, Option.some.injEq, Addr.mk.injEq] at hv
    obtain ⟨⟨rfl, _⟩, _, rfl⟩ := hv
    refine .inr ⟨g, cap, cur.setIfInBounds j v, rfl, hg, heap_setCell_same hh v, h1, h2, by simpa using h3, ?_⟩
    rw [Array.toList_setIfInBounds, List.take_set, h4]
theorem hx_own {w : World} {b g n cap : Nat} {T L : List Nat} {i : Nat} (hi : i < T.length) {x : Nat} (hx0 : fv L T[i] = x) (h : w.ownsRow b 3 1 (.slice (some ⟨g, 0, none⟩) n cap) n (natCells (hx T L i))) :
    (w.setCell ⟨g, i, none⟩ (.int .i64 (x : Int))).ownsRow b 3 1 (.slice (some ⟨g, 0, none⟩) n cap) n (natCells (hx T L (i + 1))) := by
  have := ownsRow_set1 h i (.int .i64 (x : Int))
  rw [natCells_set, ← hx0, hx_next L hi] at this
  rw [← hx0]
  exact this

theorem natCells_append (l m : List Nat) : natCells l ++ natCells m = natCells (l ++ m) := by simp [natCells]
theorem natCells_length (l : List Nat) : (natCells l).length = l.length := by simp [natCells]
theorem natCells_one (l : List Nat) : ∀ u, u ∈ natCells l → u.oneCell' = true := by
  intro u hu
  obtain ⟨n, _, rfl⟩ := List.mem_map.1 hu
  rfl

theorem vars_next (gb : List Ax.KAtom) {i : Nat} (h : i < gb.length) : (gb.take (i + 1)).flatMap Ax.gterms = (gb.take i).flatMap Ax.gterms ++ Ax.gterms gb[i] := by
  rw [List.take_succ_eq_append_getElem h, List.flatMap_append, List.flatMap_cons, List.flatMap_nil, List.append_nil]
theorem gterms_two (a : Ax.KAtom) : 0 < (Ax.gterms a).length ∧ (Ax.gterms a).length ≤ 2 := by
  unfold Ax.gterms
  split <;> simp

end Go.Proofs.Ytdmicblafmhflaa
