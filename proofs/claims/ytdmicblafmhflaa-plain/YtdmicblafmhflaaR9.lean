/- axiomref: atom, the terms. -/
import Derived.Test.YtdmicblafmhflaaR8
namespace Go.Proofs.Ytdmicblafmhflaa
set_option linter.unusedSimpArgs false
set_option linter.unusedVariables false
open Go.RowKit

def boolCells (l : List Bool) : List Value := l.map .bool
theorem boolCells_snoc (l : List Bool) (s : Bool) : boolCells (l ++ [s]) = boolCells l ++ [.bool s] := by simp [boolCells]
theorem strCells_snoc' (l : List ByteArray) (s : ByteArray) : strCells (l ++ [s]) = strCells l ++ [.string s] := by simp [strCells]
theorem Try.infoStr' : (Try.prog.info? 9).map (fun i => (i.zero, i.size, i.bytes)) = some (some (.string ByteArray.empty), 1, 16) := by kernel_rfl
theorem Try.infoBool : (Try.prog.info? 4).map (fun i => (i.zero, i.size, i.bytes)) = some (some (.bool false), 1, 1) := by kernel_rfl

def isVar (t : Ax.Term) : Bool := decide (t.kind = 1)

/-- what the reference's atom answers behind its terms -/
def rend (T : List Ax.Tok) (a : Ax.Tok) : Option (List Ax.Term) × Nat → Option Ax.Atom × Nat
  | (none, j) => (none, j)
  | (some ts, j) => if Ax.kindAt T j = 5 then (some ⟨a.at_, a.text, ts⟩, j + 1) else (none, j)

/-- the reference's atom on the way: its result's block, its own block, its two slices -/
structure RAR (w wr : World) (p : Ax.Tok) (tv vv : Value) (nT nV : Nat) (lT : List ByteArray) (lV : List Bool) : Prop where
  b0 : wr.heap[w.heap.size]? = some (.cells #[.string ⟨#[]⟩, .slice none 0 0, .slice none 0 0, .int .i64 0] 115 (0, 0))
  b1 : wr.heap[w.heap.size + 1]? = some (.cells #[.string p.text, tv, vv, .int .i64 p.at_] 115 (0, 0))
  oT : wr.ownsRow w.heap.size 9 1 tv nT (strCells lT)
  oV : wr.ownsRow w.heap.size 4 1 vv nV (boolCells lV)
  bel : Below w.heap.size w wr

theorem grownBy_undrew {w w' : World} {r : Option Nat} (h : w.drew.grownBy w' r) : w.grownBy w' r := ⟨h.os, h.tape, h.output, h.size, h.block⟩

/-- behind the append to one of the two slices -/
theorem RAR.grown {w wr w3 : World} {p : Ax.Tok} {tv vv : Value} {nT nV : Nat} {lT : List ByteArray} {lV : List Bool} {o : Obj} {row : Option Nat} {e' : TypeId} (h : RAR w wr p tv vv nT nV lT lV) (hg : (wr.alloc o).grownBy w3 row)
    (hr : ∀ k, row = some k → ∃ cur fz, (wr.alloc o).heap[k]? = some (.cells cur e' fz)) (hb : ∀ k, row = some k → w.heap.size ≤ k) (hne : 115 ≠ e') :
    w3.heap[w.heap.size]? = some (.cells #[.string ⟨#[]⟩, .slice none 0 0, .slice none 0 0, .int .i64 0] 115 (0, 0)) ∧ w3.heap[w.heap.size + 1]? = some (.cells #[.string p.text, tv, vv, .int .i64 p.at_] 115 (0, 0)) ∧ Below w.heap.size w w3 := by
  have k0 := (Below.heap_alloc wr o _ (lt_of_heap h.b0)).trans h.b0
  have k1 := (Below.heap_alloc wr o _ (lt_of_heap h.b1)).trans h.b1
  refine ⟨?_, ?_, (h.bel.alloc h.bel.size o).grown hg (by have := h.bel.size; simp; omega) hb⟩
  · rw [hg.block _ (lt_of_heap k0) ?_]
    · exact k0
    · intro e
      obtain ⟨cur, fz, hk⟩ := hr _ e.symm
      rw [k0] at hk
      simp at hk
      exact hne hk.2.1
  · rw [hg.block _ (lt_of_heap k1) ?_]
    · exact k1
    · intro e
      obtain ⟨cur, fz, hk⟩ := hr _ e.symm
      rw [k1] at hk
      simp at hk
      exact hne hk.2.1

theorem RAR.putT {w w3 : World} {p : Ax.Tok} {tv vv tv' : Value} {nT nV : Nat} {lT : List ByteArray} {lV : List Bool}
    (h0 : w3.heap[w.heap.size]? = some (.cells #[.string ⟨#[]⟩, .slice none 0 0, .slice none 0 0, .int .i64 0] 115 (0, 0))) (h1 : w3.heap[w.heap.size + 1]? = some (.cells #[.string p.text, tv, vv, .int .i64 p.at_] 115 (0, 0))) (hb : Below w.heap.size w w3)
    (oT : w3.ownsRow w.heap.size 9 1 tv' nT (strCells lT)) (oV : w3.ownsRow w.heap.size 4 1 vv nV (boolCells lV)) : RAR w (w3.setCell ⟨w.heap.size + 1, 1, none⟩ tv') p tv' vv nT nV lT lV := by
  have hr : ∀ k, (some (w.heap.size + 1) : Option Nat) = some k → ∃ cur fz, w3.heap[k]? = some (.cells cur 115 fz) := fun k hk => by cases hk; exact ⟨_, _, h1⟩
  exact ⟨(Below.heap_setCell _ _ _ _ (by simp)).trans h0, by rw [heap_setCell_same h1]; rfl, ownsRow_type oT (grownBy_setCell _ _) hr (by decide), ownsRow_type oV (grownBy_setCell _ _) hr (by decide), hb.setCell (by simp) _⟩
theorem RAR.putV {w w3 : World} {p : Ax.Tok} {tv vv vv' : Value} {nT nV : Nat} {lT : List ByteArray} {lV : List Bool}
    (h0 : w3.heap[w.heap.size]? = some (.cells #[.string ⟨#[]⟩, .slice none 0 0, .slice none 0 0, .int .i64 0] 115 (0, 0))) (h1 : w3.heap[w.heap.size + 1]? = some (.cells #[.string p.text, tv, vv, .int .i64 p.at_] 115 (0, 0))) (hb : Below w.heap.size w w3)
    (oT : w3.ownsRow w.heap.size 9 1 tv nT (strCells lT)) (oV : w3.ownsRow w.heap.size 4 1 vv' nV (boolCells lV)) : RAR w (w3.setCell ⟨w.heap.size + 1, 2, none⟩ vv') p tv vv' nT nV lT lV := by
  have hr : ∀ k, (some (w.heap.size + 1) : Option Nat) = some k → ∃ cur fz, w3.heap[k]? = some (.cells cur 115 fz) := fun k hk => by cases hk; exact ⟨_, _, h1⟩
  exact ⟨(Below.heap_setCell _ _ _ _ (by simp)).trans h0, by rw [heap_setCell_same h1]; rfl, ownsRow_type oT (grownBy_setCell _ _) hr (by decide), ownsRow_type oV (grownBy_setCell _ _) hr (by decide), hb.setCell (by simp) _⟩

theorem new_cells_set (w : World) (a : Addr) (v : Value) (t : TypeId) (xs : List Value) : ∀ (j : Nat) (u : Value), xs[j]? = some u → ((w.setCell a v).alloc (.cells xs.toArray t)).cell? ((⟨w.heap.size, 0, none⟩ : Addr).add j) = some u := by
  have := new_cells (w.setCell a v) t xs
  rw [show (w.setCell a v).heap.size = w.heap.size by simp [World.setCell]] at this
  exact this

/-- the atom is laid into its result's block -/
theorem RAR.finish {w wr : World} {p : Ax.Tok} {tv vv : Value} {nT nV : Nat} {lT : List ByteArray} {lV : List Bool} (h : RAR w wr p tv vv nT nV lT lV) :
    ((((wr.setCell ⟨w.heap.size, 0, none⟩ (.string p.text)).setCell ⟨w.heap.size, 1, none⟩ tv).setCell ⟨w.heap.size, 2, none⟩ vv).setCell ⟨w.heap.size, 3, none⟩ (.int .i64 p.at_)).heap[w.heap.size]? = some (.cells #[.string p.text, tv, vv, .int .i64 p.at_] 115 (0, 0)) ∧
    Below w.heap.size w ((((wr.setCell ⟨w.heap.size, 0, none⟩ (.string p.text)).setCell ⟨w.heap.size, 1, none⟩ tv).setCell ⟨w.heap.size, 2, none⟩ vv).setCell ⟨w.heap.size, 3, none⟩ (.int .i64 p.at_)) ∧
    ((((wr.setCell ⟨w.heap.size, 0, none⟩ (.string p.text)).setCell ⟨w.heap.size, 1, none⟩ tv).setCell ⟨w.heap.size, 2, none⟩ vv).setCell ⟨w.heap.size, 3, none⟩ (.int .i64 p.at_)).ownsRow w.heap.size 9 1 tv nT (strCells lT) ∧
    ((((wr.setCell ⟨w.heap.size, 0, none⟩ (.string p.text)).setCell ⟨w.heap.size, 1, none⟩ tv).setCell ⟨w.heap.size, 2, none⟩ vv).setCell ⟨w.heap.size, 3, none⟩ (.int .i64 p.at_)).ownsRow w.heap.size 4 1 vv nV (boolCells lV) := by
  have r0 := h.b0
  have r1 := heap_setCell_same (off := 0) r0 (.string p.text)
  have r2 := heap_setCell_same (off := 1) r1 tv
  have r3 := heap_setCell_same (off := 2) r2 vv
  have r4 := heap_setCell_same (off := 3) r3 (.int .i64 p.at_)
  have k : ∀ {w' : World} {cur : Array Value} (_ : w'.heap[w.heap.size]? = some (.cells cur 115 (0, 0))) (j : Nat), (some w.heap.size : Option Nat) = some j → ∃ cur fz, w'.heap[j]? = some (.cells cur 115 fz) := fun hr j hj => by cases hj; exact ⟨_, _, hr⟩
  refine ⟨by rw [r4]; rfl, (((h.bel.setCell (Nat.le_refl _) _).setCell (Nat.le_refl _) _).setCell (Nat.le_refl _) _).setCell (Nat.le_refl _) _, ?_, ?_⟩
  · exact ownsRow_type (ownsRow_type (ownsRow_type (ownsRow_type h.oT (grownBy_setCell _ _) (k r0) (by decide)) (grownBy_setCell _ _) (k r1) (by decide)) (grownBy_setCell _ _) (k r2) (by decide)) (grownBy_setCell _ _) (k r3) (by decide)
  · exact ownsRow_type (ownsRow_type (ownsRow_type (ownsRow_type h.oV (grownBy_setCell _ _) (k r0) (by decide)) (grownBy_setCell _ _) (k r1) (by decide)) (grownBy_setCell _ _) (k r2) (by decide)) (grownBy_setCell _ _) (k r3) (by decide)

/-- the cells of the two blocks -/
theorem blocks_cells {w3 : World} {B : Nat} {a b c d : Value} {t : TypeId} (h : w3.heap[B]? = some (.cells #[a, b, c, d] t (0, 0))) :
    w3.cell? ⟨B, 0, none⟩ = some a ∧ w3.cell? ⟨B, 1, none⟩ = some b ∧ w3.cell? ⟨B, 2, none⟩ = some c ∧ w3.cell? ⟨B, 3, none⟩ = some d ∧ w3.frozen? ⟨B, 0, none⟩ = false ∧ w3.frozen? ⟨B, 1, none⟩ = false ∧ w3.frozen? ⟨B, 2, none⟩ = false ∧ w3.frozen? ⟨B, 3, none⟩ = false ∧ B < w3.heap.size := by
  refine ⟨?_, ?_, ?_, ?_, frozen_at h 0, frozen_at h 1, frozen_at h 2, frozen_at h 3, lt_of_heap h⟩ <;> rw [cell_at h] <;> rfl

theorem rar_next {w wr : World} {p : Ax.Tok} {ts : List Ax.Term} {x : Ax.Term} {g3 cap3 g5 cap5 : Nat} {b : Bool} (h : RAR w wr p (.slice (some ⟨g3, 0, none⟩) (ts.length + 1) cap3) (.slice (some ⟨g5, 0, none⟩) (ts.length + 1) cap5) (ts.length + 1) (ts.length + 1) (ts.map Ax.Term.text ++ [x.text]) (ts.map isVar ++ [b])) (hV : Hid (isVar x = b)) :
    RAR w wr p (.slice (some ⟨g3, 0, none⟩) (ts ++ [x]).length cap3) (.slice (some ⟨g5, 0, none⟩) (ts ++ [x]).length cap5) (ts ++ [x]).length (ts ++ [x]).length ((ts ++ [x]).map Ax.Term.text) ((ts ++ [x]).map isVar) := by
  rw [List.map_append, List.map_append, List.map_singleton, List.map_singleton, hV.out, List.length_append, List.length_singleton]
  exact h

/-- what atom answers -/
def RAPost (w : World) (R : Option Ax.Atom × Nat) (e : Ending) (w' : World) : Prop := Below w.heap.size w w' ∧
      ((∃ a td tc vd vc, R.1 = some a ∧ e = .returned (.tuple #[.agg #[.string (Ax.Atom.pred a), .slice td a.terms.length tc, .slice vd a.terms.length vc, .int .i64 a.at_], .int .i64 R.2, .bool true]) ∧ w'.ownsRow w.heap.size 9 1 (.slice td a.terms.length tc) a.terms.length (strCells (a.terms.map Ax.Term.text)) ∧ w'.ownsRow w.heap.size 4 1 (.slice vd a.terms.length vc) a.terms.length (boolCells (a.terms.map isVar))) ∨
       (∃ x td n tc vd m vc y, R.1 = none ∧ e = .returned (.tuple #[.agg #[.string x, .slice td n tc, .slice vd m vc, .int .i64 y], .int .i64 R.2, .bool false])))

theorem rapost_yes {w w' : World} {R : Option Ax.Atom × Nat} {p : Ax.Tok} {ts : List Ax.Term} {x : Ax.Term} {q g3 cap3 g5 cap5 : Nat} {b : Bool} (HE : Hid (R = (some ⟨p.at_, p.text, ts ++ [x]⟩, q + 1 + 1))) (hV : Hid (isVar x = b)) (bu : Below w.heap.size w w')
    (oT : w'.ownsRow w.heap.size 9 1 (.slice (some ⟨g3, 0, none⟩) (ts.length + 1) cap3) (ts.length + 1) (strCells (ts.map Ax.Term.text ++ [x.text]))) (oV : w'.ownsRow w.heap.size 4 1 (.slice (some ⟨g5, 0, none⟩) (ts.length + 1) cap5) (ts.length + 1) (boolCells (ts.map isVar ++ [b]))) :
    RAPost w R (.returned (.tuple #[.agg #[.string p.text, .slice (some ⟨g3, 0, none⟩) (ts.length + 1) cap3, .slice (some ⟨g5, 0, none⟩) (ts.length + 1) cap5, .int .i64 p.at_], .int .i64 (q + 1 + 1), .bool true])) w' := by
  refine ⟨bu, .inl ⟨⟨p.at_, p.text, ts ++ [x]⟩, some ⟨g3, 0, none⟩, cap3, some ⟨g5, 0, none⟩, cap5, by rw [HE.out], ?_, ?_, ?_⟩⟩
  · rw [HE.out]; simp
  · simpa using oT
  · rw [List.map_append, List.map_singleton, hV.out]; simpa using oV
theorem rapost_no {w w' : World} {R : Option Ax.Atom × Nat} {j : Nat} {x : ByteArray} {td : Option Addr} {n tc : Nat} {vd : Option Addr} {m vc : Nat} {y jj : Int} (HE : Hid (R = (none, j))) (hj : jj = j) (bu : Below w.heap.size w w') :
    RAPost w R (.returned (.tuple #[.agg #[.string x, .slice td n tc, .slice vd m vc, .int .i64 y], .int .i64 jj, .bool false])) w' :=
  ⟨bu, .inr ⟨x, td, n, tc, vd, m, vc, y, by rw [HE.out], by rw [HE.out, hj]⟩⟩

end Go.Proofs.Ytdmicblafmhflaa
