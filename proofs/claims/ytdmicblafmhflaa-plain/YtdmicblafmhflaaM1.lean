/- The parser: term. -/
import Derived.Test.YtdmicblafmhflaaM0
import Derived.Deep.RegionWith
namespace Go.Proofs.Ytdmicblafmhflaa
set_option linter.unusedSimpArgs false
set_option linter.unusedVariables false
open Go.RowKit

theorem PAt.alloc {w : World} {pb : Nat} {tv : Value} {toks : List Ax.Tok} {nx : Nat} (h : PAt w pb tv toks nx) (o : Obj) : PAt (w.alloc o) pb tv toks nx :=
  h.below ((Below.refl _ _).alloc (Nat.le_refl _) o)

/-- the parser stands while a block of another type is written -/
theorem PAt.row {w w' : World} {pb : Nat} {tv : Value} {toks : List Ax.Tok} {nx : Nat} {row : Option Nat} {e' : TypeId} (h : PAt w pb tv toks nx) (hg : w.grownBy w' row)
    (hr : ∀ k, row = some k → ∃ cur fz, w.heap[k]? = some (.cells cur e' fz)) (h1 : 61 ≠ e') (h2 : 66 ≠ e') : PAt w' pb tv toks nx := by
  refine ⟨?_, ownsRow_type h.2.1 hg hr h2, h.2.2⟩
  rw [hg.block pb (lt_of_heap h.1) ?_]
  · exact h.1
  · intro e1
    obtain ⟨cur, fz, hk⟩ := hr pb e1.symm
    rw [h.1] at hk
    simp at hk
    exact h1 hk.2.1

/-- a block that is written stays one of its type -/
theorem heap_setCell_same {w : World} {k off : Nat} {cur : Array Value} {t : TypeId} {fz : Nat × Nat} (h : w.heap[k]? = some (.cells cur t fz)) (v : Value) : (w.setCell ⟨k, off, none⟩ v).heap[k]? = some (.cells (cur.setIfInBounds off v) t fz) := by
  simp only [World.setCell, Array.getElem?_modify, h]
  simp

theorem cell_at {w : World} {k : Nat} {cur : Array Value} {t : TypeId} {fz : Nat × Nat} (h : w.heap[k]? = some (.cells cur t fz)) (j : Nat) : w.cell? ⟨k, j, none⟩ = cur[j]? := by
  rw [cell_of_row _ k j _ _ _ h]
theorem frozen_at {w : World} {k : Nat} {cur : Array Value} {t : TypeId} (h : w.heap[k]? = some (.cells cur t (0, 0))) (j : Nat) : w.frozen? ⟨k, j, none⟩ = false := by
  simp [World.frozen?, h]

theorem term_world {w w1 w2 : World} {pb : Nat} {tv : Value} {toks : List Ax.Tok} {nx : Nat} {o1 o2 : Obj} (h : PAt w pb tv toks nx) (hb1 : Below (w.heap.size + 1) (w.alloc o1) w1) (hg2 : (w1.alloc o2).grownBy w2 (some pb)) :
    w2.heap[w1.heap.size]? = some o2 ∧ w2.heap[w.heap.size]? = some o1 ∧ w.grownBy w2 (some pb) ∧ w.heap.size < w1.heap.size ∧ w1.heap.size < w2.heap.size := by
  have hp := lt_of_heap h.1
  have hs1 := hb1.size
  have hs2 := hg2.size
  simp only [World.size_alloc] at hs1 hs2
  refine ⟨?_, ?_, ?_, by omega, by omega⟩
  · rw [hg2.block _ (by simp) (by simp; omega)]
    exact heap_alloc_new _ _
  · rw [hg2.block _ (by simp; omega) (by simp; omega), Below.heap_alloc _ _ _ (by omega), hb1.block _ (by omega)]
    exact heap_alloc_new _ _
  · refine grownBy_trans ?_ hg2
    refine grownBy_trans ?_ (World.grownBy_alloc _ _ _)
    refine grownBy_trans (World.grownBy_alloc w o1 _) (grownBy_of_below (hb1.mono (by simp)) _)

/-- two stores into a block of two cells that is new since w -/
theorem two_stores {w w2 : World} {pb : Nat} {tv : Value} {toks : List Ax.Tok} {nx k : Nat} {a b : Value} (r2 : w2.heap[k]? = some (.cells #[a, b] 102 (0, 0))) (c d : Value) (gw : w.grownBy w2 (some pb)) (hp : PAt w2 pb tv toks nx) (hk : w.heap.size ≤ k) :
    ((w2.setCell ⟨k, 0, none⟩ c).setCell ⟨k, 1, none⟩ d).heap[k]? = some (.cells #[c, d] 102 (0, 0)) ∧ w.grownBy ((w2.setCell ⟨k, 0, none⟩ c).setCell ⟨k, 1, none⟩ d) (some pb) ∧ PAt ((w2.setCell ⟨k, 0, none⟩ c).setCell ⟨k, 1, none⟩ d) pb tv toks nx := by
  have h0 := heap_setCell_same (off := 0) r2 c
  have h1 := heap_setCell_same (off := 1) h0 d
  refine ⟨by rw [h1]; rfl, grownBy_setNew (grownBy_setNew gw hk c) hk d, ?_⟩
  refine (hp.row (grownBy_setCell _ _) (e' := 102) (fun j hj => ?_) (by decide) (by decide)).row (grownBy_setCell _ _) (e' := 102) (fun j hj => ?_) (by decide) (by decide)
  · cases hj; exact ⟨_, _, r2⟩
  · cases hj; exact ⟨_, _, h0⟩

set_option maxHeartbeats 1000000 in
theorem term_name (w : World) (pb : Nat) (tv : Value) (toks : List Ax.Tok) (nx : Nat) (h : PAt w pb tv toks nx) (t : Ax.Tok) (ht : Hid (toks[nx]? = some t)) (he : (t.kind == 2) = true) :
    Calls Try.prog 70 #[.pointer (some ⟨pb, 0, none⟩)] w fun e w' => e = .returned (.tuple #[.agg #[.int .i64 0, .string t.text], .bool true]) ∧ PAt w' pb tv toks (nx + 1) ∧ w.grownBy w' (some pb) := by
  have hpb := lt_of_heap h.1
  go_enter Try.func70, Try.ntmps70
  go_wp2_with (first | (go_at_call 25; refine (peek_any _ _ _ _ _ (h.alloc _) _ ht).mono ?_; rintro e w1 ⟨rfl, hb1⟩; rw [World.size_alloc] at hb1; have hp1 := ((h.alloc (.cells #[.int .i64 0, .string ⟨#[]⟩] 102)).below (by rw [World.size_alloc]; exact hb1))) | (go_at_call_of 54 (Value.int IntKind.i64 2); refine (take_yes _ _ _ _ _ (hp1.alloc _) _ ht _ (by decide) he).mono ?_; rintro e w2 ⟨rfl, hp2, hg2⟩; obtain ⟨t2, r2, gw2, lt1, lt2⟩ := term_world h hb1 hg2; have c2 := cell_at t2 2; have f0 := frozen_at r2 0; have f1 := frozen_at r2 1; have k0 := cell_at r2 0; have k1 := cell_at r2 1; simp only [List.getElem?_toArray, List.getElem?_cons_zero, List.getElem?_cons_succ] at c2 k0 k1))
  obtain ⟨hu, gu, pu⟩ := two_stores r2 (.int .i64 0) (.string t.text) gw2 hp2 (Nat.le_refl _)
  exact bodyPost_ret (v := .tuple #[.agg #[.int .i64 0, .string t.text], .bool true]) (by simp [results, Try.results70, go_sem, cell_at hu]) rfl ⟨rfl, pu, gu⟩

set_option maxHeartbeats 1000000 in
theorem term_var (w : World) (pb : Nat) (tv : Value) (toks : List Ax.Tok) (nx : Nat) (h : PAt w pb tv toks nx) (t : Ax.Tok) (ht : Hid (toks[nx]? = some t)) (he : (t.kind == 2) = false) (hf : (t.kind == 3) = true) :
    Calls Try.prog 70 #[.pointer (some ⟨pb, 0, none⟩)] w fun e w' => e = .returned (.tuple #[.agg #[.int .i64 1, .string t.text], .bool true]) ∧ PAt w' pb tv toks (nx + 1) ∧ w.grownBy w' (some pb) := by
  have hpb := lt_of_heap h.1
  go_enter Try.func70, Try.ntmps70
  go_wp2_with (first | (go_at_call 25; refine (peek_any _ _ _ _ _ (h.alloc _) _ ht).mono ?_; rintro e w1 ⟨rfl, hb1⟩; rw [World.size_alloc] at hb1; have hp1 := ((h.alloc (.cells #[.int .i64 0, .string ⟨#[]⟩] 102)).below (by rw [World.size_alloc]; exact hb1))) | (go_at_call_of 54 (Value.int IntKind.i64 2); refine (take_no _ _ _ _ _ (hp1.alloc _) _ ht _ he).mono ?_; rintro e w2 ⟨rfl, hb2⟩; have hp2 := (hp1.alloc (.cells #[.int .i64 t.kind, .int .i64 t.at_, .string t.text] 66)).below hb2) | (go_at_call_of 54 (Value.int IntKind.i64 3); refine (take_yes _ _ _ _ _ hp2 _ ht _ (by decide) hf).mono ?_; rintro e w3 ⟨rfl, hp3, hg3⟩; have hg2 := grownBy_trans (grownBy_of_below hb2 (some pb)) hg3; obtain ⟨t2, r2, gw2, lt1, lt2⟩ := term_world h hb1 hg2; have c2 := cell_at t2 2; have f0 := frozen_at r2 0; have f1 := frozen_at r2 1; have k0 := cell_at r2 0; have k1 := cell_at r2 1; simp only [List.getElem?_toArray, List.getElem?_cons_zero, List.getElem?_cons_succ] at c2 k0 k1))
  obtain ⟨hu, gu, pu⟩ := two_stores r2 (.int .i64 1) (.string t.text) gw2 hp3 (Nat.le_refl _)
  exact bodyPost_ret (v := .tuple #[.agg #[.int .i64 1, .string t.text], .bool true]) (by simp [results, Try.results70, go_sem, cell_at hu]) rfl ⟨rfl, pu, gu⟩

set_option maxHeartbeats 1000000 in
theorem term_none (w : World) (pb : Nat) (tv : Value) (toks : List Ax.Tok) (nx : Nat) (h : PAt w pb tv toks nx) (t : Ax.Tok) (ht : Hid (toks[nx]? = some t)) (he : (t.kind == 2) = false) (hf : (t.kind == 3) = false) :
    Calls Try.prog 70 #[.pointer (some ⟨pb, 0, none⟩)] w fun e w' => e = .returned (.tuple #[.agg #[.int .i64 0, .string ⟨#[]⟩], .bool false]) ∧ PAt w' pb tv toks nx ∧ w.grownBy w' (some pb) := by
  have hpb := lt_of_heap h.1
  go_enter Try.func70, Try.ntmps70
  go_wp2_with (first | (go_at_call 25; refine (peek_any _ _ _ _ _ (h.alloc _) _ ht).mono ?_; rintro e w1 ⟨rfl, hb1⟩; rw [World.size_alloc] at hb1; have hp1 := ((h.alloc (.cells #[.int .i64 0, .string ⟨#[]⟩] 102)).below (by rw [World.size_alloc]; exact hb1))) | (go_at_call_of 54 (Value.int IntKind.i64 2); refine (take_no _ _ _ _ _ (hp1.alloc _) _ ht _ he).mono ?_; rintro e w2 ⟨rfl, hb2⟩; have hp2 := (hp1.alloc (.cells #[.int .i64 t.kind, .int .i64 t.at_, .string t.text] 66)).below hb2) | (go_at_call_of 54 (Value.int IntKind.i64 3); refine (take_no _ _ _ _ _ hp2 _ ht _ hf).mono ?_; rintro e w3 ⟨rfl, hb3⟩; have hp3 := hp2.below hb3; have hg2 := grownBy_trans (grownBy_of_below hb2 (some pb)) (grownBy_of_below hb3 (some pb)); obtain ⟨t2, r2, gw2, lt1, lt2⟩ := term_world h hb1 hg2; have c2 := cell_at t2 2; have f0 := frozen_at r2 0; have f1 := frozen_at r2 1; have k0 := cell_at r2 0; have k1 := cell_at r2 1; simp only [List.getElem?_toArray, List.getElem?_cons_zero, List.getElem?_cons_succ] at c2 k0 k1))
  obtain ⟨hu, gu, pu⟩ := two_stores r2 (.int .i64 0) (.string ⟨#[]⟩) gw2 hp3 (Nat.le_refl _)
  exact bodyPost_ret (v := .tuple #[.agg #[.int .i64 0, .string ⟨#[]⟩], .bool false]) (by simp [results, Try.results70, go_sem, cell_at hu]) rfl ⟨rfl, pu, gu⟩

end Go.Proofs.Ytdmicblafmhflaa
