/- axiomref: atom. -/
import Derived.Test.YtdmicblafmhflaaR7
import Derived.Test.YtdmicblafmhflaaN1
import Derived.Test.YtdmicblafmhflaaQQ
import Derived.Deep.AppendLies
import Derived.Deep.RegionLaw
namespace Go.Proofs.Ytdmicblafmhflaa
set_option linter.unusedSimpArgs false
set_option linter.unusedVariables false
open Go.RowKit

/-- the reference's tokens in a slice -/
def RAt (w : World) (ld : Option Addr) (lc : Nat) (T : List Ax.Tok) : Prop :=
  w.ownsRow 0 79 3 (.slice ld T.length lc) T.length (rtokCells (T.map Ax.conv)) ∧ T.length ≤ 1000 ∧ Ax.Ends T ∧ Ax.Kinds T

theorem rtokCells_get (l : List Ax.RTok) (k : Nat) (h : k < l.length) :
    (rtokCells l)[k * 3]? = some (.int .u8 l[k].kind) ∧ (rtokCells l)[k * 3 + 1]? = some (.string l[k].text) ∧ (rtokCells l)[k * 3 + 2]? = some (.int .i64 l[k].at_) := by
  induction l generalizing k with
  | nil => simp at h
  | cons a l ih =>
    cases k with
    | zero => simp [rtokCells]
    | succ k =>
      have := ih k (by simpa using h)
      have e : ∀ j, (rtokCells (a :: l))[(k + 1) * 3 + j]? = (rtokCells l)[k * 3 + j]? := by
        intro j
        have : rtokCells (a :: l) = [.int .u8 a.kind, .string a.text, .int .i64 a.at_] ++ rtokCells l := by simp [rtokCells]
        rw [this, List.getElem?_append_right (by simp; omega)]
        congr 1
        simp; omega
      have e0 := e 0
      simp only [Nat.add_zero] at e0
      rw [e0, e 1, e 2]
      simpa using this

/-- token i of the reference's slice -/
theorem RAt.cells {w : World} {ld : Option Addr} {lc : Nat} {T : List Ax.Tok} (h : RAt w ld lc T) {i : Nat} {t : Ax.Tok} (ht : T[i]? = some t) :
    ∃ g, ld = some ⟨g, 0, none⟩ ∧ g < w.heap.size ∧ T.length ≤ lc ∧ w.cell? ⟨g, i * 3, none⟩ = some (.int .u8 (Ax.kc t.kind)) ∧ w.cell? ⟨g, i * 3 + 1, none⟩ = some (.string t.text) ∧ w.cell? ⟨g, i * 3 + 2, none⟩ = some (.int .i64 t.at_) ∧ 0 ≤ t.kind ∧ t.kind ≤ 8 := by
  obtain ⟨hi, rfl⟩ := Tok_get ht
  obtain ⟨g, rfl, hg, hc, hcs⟩ := row_cells h.1 (by omega)
  obtain ⟨c0, c1, c2⟩ := rtokCells_get (T.map Ax.conv) i (by simpa using hi)
  simp only [List.getElem_map, Ax.conv] at c0 c1 c2
  exact ⟨g, rfl, hg, hc, hcs _ _ c0, hcs _ _ c1, hcs _ _ c2, h.2.2.2 _ (List.getElem_mem hi)⟩

theorem RAt.below {w w' : World} {ld : Option Addr} {lc : Nat} {T : List Ax.Tok} (h : RAt w ld lc T) (hb : Below w.heap.size w w') : RAt w' ld lc T := ⟨ownsRow_below h.1 hb, h.2⟩

theorem ne_of {k j : Int} (h0 : 0 ≤ k) (h8 : k ≤ 8) (hj0 : 0 ≤ j) (hj8 : j ≤ 8) (h : k ≠ j) : (((Ax.kc k : Nat) : Int) != ((Ax.kc j : Nat) : Int)) = true := by rw [Ax.kc_ne k h0 h8 j hj0 hj8]; simpa using h
theorem ne_of' {k j : Int} (h0 : 0 ≤ k) (h8 : k ≤ 8) (hj0 : 0 ≤ j) (hj8 : j ≤ 8) (h : k = j) : (((Ax.kc k : Nat) : Int) != ((Ax.kc j : Nat) : Int)) = false := by rw [Ax.kc_ne k h0 h8 j hj0 hj8]; simpa using h
theorem eq_of {k j : Int} (h0 : 0 ≤ k) (h8 : k ≤ 8) (hj0 : 0 ≤ j) (hj8 : j ≤ 8) (h : k = j) : (((Ax.kc k : Nat) : Int) == ((Ax.kc j : Nat) : Int)) = true := by rw [Ax.kc_eq k h0 h8 j hj0 hj8]; simpa using h
theorem eq_of' {k j : Int} (h0 : 0 ≤ k) (h8 : k ≤ 8) (hj0 : 0 ≤ j) (hj8 : j ≤ 8) (h : k ≠ j) : (((Ax.kc k : Nat) : Int) == ((Ax.kc j : Nat) : Int)) = false := by rw [Ax.kc_eq k h0 h8 j hj0 hj8]; simpa using h

set_option maxRecDepth 100000 in
set_option maxHeartbeats 2000000 in
theorem ratom_0 (w : World) (ld : Option Addr) (lc : Nat) (T : List Ax.Tok) (i : Nat) (h : RAt w ld lc T) (t : Ax.Tok) (ht : Hid (T[i]? = some t)) (hk : Hid (t.kind ≠ 2)) :
    Calls Try.prog 46 #[.slice ld T.length lc, .int .i64 i] w fun e w' => e = .returned (.tuple #[.agg #[.string t.text, .slice none 0 0, .slice none 0 0, .int .i64 t.at_], .int .i64 i, .bool false]) ∧ Below w.heap.size w w' := by
  have hT := h.2.1
  obtain ⟨hi, _⟩ := Tok_get ht.out
  obtain ⟨g, rfl, hg, hc, c0, c1, c2, k0, k8⟩ := h.cells ht.out
  have hb : ((Ax.kc t.kind : Int) != 110) = true := ne_of (j := 2) k0 k8 (by decide) (by decide) hk.out
  clear h
  generalize Ax.kc t.kind = K at *
  go_enter Try.func46, Try.ntmps46
  go_wp2_with fail
  go_region
  all_goals (go_wp2_with fail)
  exact bodyPost_ret (v := .tuple #[.agg #[.string t.text, .slice none 0 0, .slice none 0 0, .int .i64 t.at_], .int .i64 i, .bool false]) (by simp [results, Try.results46, go_sem]) rfl ⟨rfl, (((Below.refl _ _).alloc (Nat.le_refl _) _).alloc (by simp) _).drew⟩

set_option maxRecDepth 100000 in
set_option maxHeartbeats 2000000 in
theorem ratom_1 (w : World) (ld : Option Addr) (lc : Nat) (T : List Ax.Tok) (i : Nat) (h : RAt w ld lc T) (t : Ax.Tok) (ht : Hid (T[i]? = some t)) (hk : Hid (t.kind = 2)) (t' : Ax.Tok) (ht' : Hid (T[i + 1]? = some t')) (hk' : Hid (t'.kind ≠ 4)) :
    Calls Try.prog 46 #[.slice ld T.length lc, .int .i64 i] w fun e w' => e = .returned (.tuple #[.agg #[.string t.text, .slice none 0 0, .slice none 0 0, .int .i64 t.at_], .int .i64 (i + 1), .bool false]) ∧ Below w.heap.size w w' := by
  have hT := h.2.1
  obtain ⟨hi, _⟩ := Tok_get ht.out
  obtain ⟨hi', _⟩ := Tok_get ht'.out
  obtain ⟨g', hgg, _, _, d0, _, _, j0, j8⟩ := h.cells ht'.out
  obtain ⟨g, rfl, hg, hc, c0, c1, c2, k0, k8⟩ := h.cells ht.out
  obtain rfl : g = g' := by simpa using hgg
  have hb : ((Ax.kc t.kind : Int) != 110) = false := ne_of' (j := 2) k0 k8 (by decide) (by decide) hk.out
  have hb' : ((Ax.kc t'.kind : Int) != 40) = true := ne_of (j := 4) j0 j8 (by decide) (by decide) hk'.out
  clear h
  generalize Ax.kc t.kind = K at *
  generalize Ax.kc t'.kind = K' at *
  go_enter Try.func46, Try.ntmps46
  go_wp2_with fail
  go_region
  all_goals (go_wp2_with fail)
  exact bodyPost_ret (v := .tuple #[.agg #[.string t.text, .slice none 0 0, .slice none 0 0, .int .i64 t.at_], .int .i64 (i + 1), .bool false]) (by simp [results, Try.results46, go_sem]) rfl ⟨rfl, (((Below.refl _ _).alloc (Nat.le_refl _) _).alloc (by simp) _).drew⟩
end Go.Proofs.Ytdmicblafmhflaa
