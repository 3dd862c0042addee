/- axiomref: rows of predicates that are written into. -/
import Derived.Test.YtdmicblafmhflaaS2
namespace Go.Proofs.Ytdmicblafmhflaa
set_option linter.unusedSimpArgs false
set_option linter.unusedVariables false
open Go.RowKit

theorem ownsRow_set {w : World} {b : Nat} {e : TypeId} {size g n cap : Nat} {xs : List Value} (h : w.ownsRow b e size (.slice (some ⟨g, 0, none⟩) n cap) n xs) (j : Nat) (v : Value) :
    (w.setCell ⟨g, j, none⟩ v).ownsRow b e size (.slice (some ⟨g, 0, none⟩) n cap) n (xs.set j v) := by
  refine ⟨by rw [List.length_set]; exact h.1, ?_⟩
  rcases h.2 with ⟨e1, _⟩ | ⟨g', cap', cur, hv, hg, hh, h1, h2, h3, h4⟩
  · simp at e1
  · simp only [Value.slice.injEq, Option.some.injEq, Addr.mk.injEq] at hv
    obtain ⟨⟨rfl, _⟩, _, rfl⟩ := hv
    refine .inr ⟨g, cap, cur.setIfInBounds j v, rfl, hg, heap_setCell_same hh v, h1, h2, by simpa using h3, ?_⟩
    rw [Array.toList_setIfInBounds, List.take_set, h4]

theorem prCells_set (o : List (ByteArray × Nat)) (k : Nat) (x : ByteArray × Nat) (h : k < o.length) : ((prCells o).set (k * 2) (.string x.1)).set (k * 2 + 1) (.int .i64 x.2) = prCells (o.set k x) := by
  induction o generalizing k with
  | nil => simp at h
  | cons a o ih =>
    have e : prCells (a :: o) = .string a.1 :: .int .i64 a.2 :: prCells o := by simp [prCells]
    cases k with
    | zero => simp [prCells]
    | succ k =>
      have := ih k (by simpa using h)
      rw [List.set_cons_succ, e, show (k + 1) * 2 = k * 2 + 1 + 1 by omega, List.set_cons_succ, List.set_cons_succ, List.set_cons_succ, List.set_cons_succ, this]
      simp [prCells]

/-- a row of predicates, some, in a world -/
def PRow (w wr : World) (g n cap : Nat) : Prop := ∃ o : List (ByteArray × Nat), o.length = n ∧ wr.ownsRow w.heap.size 81 2 (.slice (some ⟨g, 0, none⟩) n cap) n (prCells o)
theorem PRow.at {w wr : World} {g n cap k : Nat} (h : PRow w wr g n cap) (hk : k < n) : ∃ s m, wr.cell? ⟨g, k * 2, none⟩ = some (.string s) ∧ wr.cell? ⟨g, k * 2 + 1, none⟩ = some (.int .i64 (Nat.cast m)) ∧ wr.frozen? ⟨g, k * 2, none⟩ = false ∧ wr.frozen? ⟨g, k * 2 + 1, none⟩ = false ∧ g < wr.heap.size ∧ n ≤ cap ∧ w.heap.size ≤ g := by
  obtain ⟨o, rfl, h⟩ := h
  obtain ⟨g', hg, hlt, hc, hcs⟩ := row_cells h (by omega)
  simp only [Option.some.injEq, Addr.mk.injEq] at hg
  obtain ⟨rfl, _⟩ := hg
  have hfr : ∀ j, wr.frozen? ⟨g, j, none⟩ = false := by
    rcases h.2 with ⟨e1, _⟩ | ⟨g', cap', cur, hv, hg, hh, _⟩
    · simp at e1
    · simp only [Value.slice.injEq, Option.some.injEq, Addr.mk.injEq] at hv
      obtain ⟨⟨rfl, _⟩, _, rfl⟩ := hv
      exact fun j => frozen_at hh j
  exact ⟨_, _, hcs _ _ (prCells_get o k hk).1, hcs _ _ (prCells_get o k hk).2, hfr _, hfr _, hlt, hc, (h.lt g rfl).1⟩
theorem PRow.put {w wr : World} {g n cap : Nat} (h : PRow w wr g n cap) (k : Nat) (s : ByteArray) (m : Nat) (hk : k < n) : PRow w ((wr.setCell ⟨g, k * 2, none⟩ (.string s)).setCell ⟨g, k * 2 + 1, none⟩ (.int .i64 m)) g n cap := by
  obtain ⟨o, rfl, h⟩ := h
  refine ⟨o.set k (s, m), by simp, ?_⟩
  rw [← prCells_set o k (s, m) hk]
  exact ownsRow_set (ownsRow_set h _ _) _ _
theorem PRow.alloc {w wr : World} {g n cap : Nat} (h : PRow w wr g n cap) (o : Obj) : PRow w (wr.alloc o) g n cap := by
  obtain ⟨l, hl, h⟩ := h
  exact ⟨l, hl, h.alloc o⟩
theorem PRow.drew {w wr : World} {g n cap : Nat} (h : PRow w wr g n cap) : PRow w wr.drew g n cap := h
end Go.Proofs.Ytdmicblafmhflaa
