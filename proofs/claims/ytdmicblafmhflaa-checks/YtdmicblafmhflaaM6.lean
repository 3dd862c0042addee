/- The parser: rule. -/
import Derived.Test.YtdmicblafmhflaaM5
import Derived.Test.YtdmicblafmhflaaPP
namespace Go.Proofs.Ytdmicblafmhflaa
set_option linter.unusedSimpArgs false
set_option linter.unusedVariables false
open Go.RowKit

/-- a rule: its head, the slice that holds its body, the body -/
structure MR where
  head : MA
  bv : Value
  body : List MA
def MR.ok (w : World) (r : MR) : Prop := r.head.ok w ∧ w.ownsRow 0 89 3 r.bv r.body.length (atomCells r.body) ∧ oks w r.body
def MR.rule (r : MR) : Ax.Rule := ⟨r.head.1, r.body.map Prod.fst⟩

theorem MA.alloc {w : World} {x : MA} (h : MA.ok w x) (o : Obj) : MA.ok (w.alloc o) x := World.ownsRow.alloc h o
theorem MA.step {w w' : World} {x : MA} {pb : Nat} {tv : Value} {toks : List Ax.Tok} {nx : Nat} (h : MA.ok w x) (hp : PAt w pb tv toks nx) (hg : w.grownBy w' (some pb)) : MA.ok w' x := ownsRow_step h hp hg (by decide)
theorem MR.type {w w' : World} {r : MR} {row : Option Nat} {e' : TypeId} (h : MR.ok w r) (hg : w.grownBy w' row) (hr : ∀ k, row = some k → ∃ cur fz, w.heap[k]? = some (.cells cur e' fz)) (h1 : 102 ≠ e') (h2 : 89 ≠ e') : MR.ok w' r :=
  ⟨ownsRow_type h.1 hg hr h1, ownsRow_type h.2.1 hg hr h2, oks_type h.2.2 hg hr h1⟩
theorem MR.step {w w' : World} {r : MR} {pb : Nat} {tv : Value} {toks : List Ax.Tok} {nx : Nat} (h : MR.ok w r) (hp : PAt w pb tv toks nx) (hg : w.grownBy w' (some pb)) : MR.ok w' r :=
  ⟨MA.step h.1 hp hg, ownsRow_step h.2.1 hp hg (by decide), oks_step h.2.2 hp hg⟩
theorem MR.below {w w' : World} {r : MR} (h : MR.ok w r) (hb : Below w.heap.size w w') : MR.ok w' r := ⟨ownsRow_below h.1 hb, ownsRow_below h.2.1 hb, oks_below h.2.2 hb⟩

theorem atoms_none (w : World) (pb : Nat) (tv : Value) (toks : List Ax.Tok) (nx j : Nat) (h : PAt w pb tv toks nx) (hR : Hid (Ax.pAtoms toks toks.length nx [] = (none, j))) :
    Calls Try.prog 55 #[.pointer (some ⟨pb, 0, none⟩)] w fun e w' => e = .returned (.tuple #[.slice none 0 0, .bool false]) ∧ PAt w' pb tv toks j ∧ w.grownBy w' (some pb) := by
  refine (atoms_any w pb tv toks nx h).mono ?_
  rintro e w' ⟨hp, hg, hc⟩
  rw [hR.out] at hp hc
  rcases hc with ⟨v, ts, _, hn, _⟩ | ⟨rfl, _⟩
  · simp at hn
  · exact ⟨rfl, hp, hg⟩

theorem atoms_some (w : World) (pb : Nat) (tv : Value) (toks : List Ax.Tok) (nx j : Nat) (b : List Ax.Atom) (h : PAt w pb tv toks nx) (hR : Hid (Ax.pAtoms toks toks.length nx [] = (some b, j))) :
    Calls Try.prog 55 #[.pointer (some ⟨pb, 0, none⟩)] w fun e w' => ∃ bd d l, e = .returned (.tuple #[.slice bd (List.length l) d, .bool true]) ∧ Hid (l.map Prod.fst = b) ∧ PAt w' pb tv toks j ∧ w.grownBy w' (some pb) ∧ w'.ownsRow 0 89 3 (.slice bd l.length d) l.length (atomCells l) ∧ oks w' l := by
  refine (atoms_any w pb tv toks nx h).mono ?_
  rintro e w' ⟨hp, hg, hc⟩
  rw [hR.out] at hp hc
  rcases hc with ⟨v, l, rfl, hn, hown, hok⟩ | ⟨_, hn⟩
  · obtain ⟨a, c, rfl⟩ := ownsRow_shape hown
    simp only [Option.some.injEq] at hn
    exact ⟨a, c, l, rfl, hn.symm, hp, hg, ownsRow_base hown (Nat.zero_le _), hok⟩
  · simp at hn

theorem rule_world {w w1 w2 : World} {pb : Nat} {tv : Value} {toks : List Ax.Tok} {nx : Nat} {o1 o2 : Obj} (h : PAt w pb tv toks nx) (hg1 : (w.alloc o1).grownBy w1 (some pb)) (hg2 : (w1.alloc o2).grownBy w2 (some pb)) :
    w2.heap[w1.heap.size]? = some o2 ∧ w2.heap[w.heap.size]? = some o1 ∧ w.grownBy w2 (some pb) ∧ w.heap.size < w1.heap.size ∧ w1.heap.size < w2.heap.size := by
  have hp := lt_of_heap h.1
  have hs1 := hg1.size
  have hs2 := hg2.size
  simp only [World.size_alloc] at hs1 hs2
  refine ⟨?_, ?_, ?_, by omega, by omega⟩
  · rw [hg2.block _ (by simp) (by simp; omega)]
    exact heap_alloc_new _ _
  · rw [hg2.block _ (by simp; omega) (by simp; omega), Below.heap_alloc _ _ _ (by omega), hg1.block _ (by simp) (by simp; omega)]
    exact heap_alloc_new _ _
  · exact grownBy_trans (grownBy_trans (grownBy_trans (World.grownBy_alloc w o1 _) hg1) (World.grownBy_alloc _ _ _)) hg2

theorem stores4 {w2 : World} {k : Nat} {a b c d : Value} {T : TypeId} (r2 : w2.heap[k]? = some (.cells #[a, b, c, d] T (0, 0))) (x y z u : Value) :
    ∃ w3 w4 w5, w3 = w2.setCell ⟨k, 0, none⟩ x ∧ w4 = w3.setCell ⟨k, 1, none⟩ y ∧ w5 = w4.setCell ⟨k, 2, none⟩ z ∧
      (∀ w' row, (w' = w3 ∨ w' = w4 ∨ w' = w5 ∨ w' = w2) → row = some k → ∃ cur fz, w'.heap[k]? = some (.cells cur T fz)) ∧
      ((((w2.setCell ⟨k, 0, none⟩ x).setCell ⟨k, 1, none⟩ y).setCell ⟨k, 2, none⟩ z).setCell ⟨k, 3, none⟩ u).heap[k]? = some (.cells #[x, y, z, u] T (0, 0)) := by
  have h0 := heap_setCell_same (off := 0) r2 x
  have h1 := heap_setCell_same (off := 1) h0 y
  have h2 := heap_setCell_same (off := 2) h1 z
  have h3 := heap_setCell_same (off := 3) h2 u
  refine ⟨_, _, _, rfl, rfl, rfl, ?_, by rw [h3]; rfl⟩
  rintro w' row (rfl | rfl | rfl | rfl) _
  · exact ⟨_, _, h0⟩
  · exact ⟨_, _, h1⟩
  · exact ⟨_, _, h2⟩
  · exact ⟨_, _, r2⟩

/-- four stores into a block of four cells that is new since w -/
theorem four_stores {w w2 : World} {pb : Nat} {tv : Value} {toks : List Ax.Tok} {nx k : Nat} {a b c d : Value} (r2 : w2.heap[k]? = some (.cells #[a, b, c, d] 92 (0, 0))) (x y z u : Value) (gw : w.grownBy w2 (some pb)) (hp : PAt w2 pb tv toks nx) (hk : w.heap.size ≤ k) :
    ((((w2.setCell ⟨k, 0, none⟩ x).setCell ⟨k, 1, none⟩ y).setCell ⟨k, 2, none⟩ z).setCell ⟨k, 3, none⟩ u).heap[k]? = some (.cells #[x, y, z, u] 92 (0, 0)) ∧ w.grownBy ((((w2.setCell ⟨k, 0, none⟩ x).setCell ⟨k, 1, none⟩ y).setCell ⟨k, 2, none⟩ z).setCell ⟨k, 3, none⟩ u) (some pb) ∧ PAt ((((w2.setCell ⟨k, 0, none⟩ x).setCell ⟨k, 1, none⟩ y).setCell ⟨k, 2, none⟩ z).setCell ⟨k, 3, none⟩ u) pb tv toks nx := by
  obtain ⟨_, _, _, rfl, rfl, rfl, hk2, hend⟩ := stores4 r2 x y z u
  refine ⟨hend, grownBy_setNew (grownBy_setNew (grownBy_setNew (grownBy_setNew gw hk x) hk y) hk z) hk u, ?_⟩
  refine (((hp.row (grownBy_setCell _ _) (e' := 92) (fun j hj => ?_) (by decide) (by decide)).row (grownBy_setCell _ _) (e' := 92) (fun j hj => ?_) (by decide) (by decide)).row (grownBy_setCell _ _) (e' := 92) (fun j hj => ?_) (by decide) (by decide)).row (grownBy_setCell _ _) (e' := 92) (fun j hj => ?_) (by decide) (by decide)
  all_goals (cases hj)
  · exact hk2 _ _ (.inr (.inr (.inr rfl))) rfl
  · exact hk2 _ _ (.inl rfl) rfl
  · exact hk2 _ _ (.inr (.inl rfl)) rfl
  · exact hk2 _ _ (.inr (.inr (.inl rfl))) rfl
theorem MR.stores4 {w2 : World} {k : Nat} {a b c d : Value} (r2 : w2.heap[k]? = some (.cells #[a, b, c, d] 92 (0, 0))) (x y z u : Value) {r : MR} (h : MR.ok w2 r) :
    MR.ok ((((w2.setCell ⟨k, 0, none⟩ x).setCell ⟨k, 1, none⟩ y).setCell ⟨k, 2, none⟩ z).setCell ⟨k, 3, none⟩ u) r := by
  obtain ⟨_, _, _, rfl, rfl, rfl, hk2, hend⟩ := Go.Proofs.Ytdmicblafmhflaa.stores4 r2 x y z u
  refine MR.type (MR.type (MR.type (MR.type h (grownBy_setCell _ _) (e' := 92) (fun j hj => ?_) (by decide) (by decide)) (grownBy_setCell _ _) (e' := 92) (fun j hj => ?_) (by decide) (by decide)) (grownBy_setCell _ _) (e' := 92) (fun j hj => ?_) (by decide) (by decide)) (grownBy_setCell _ _) (e' := 92) (fun j hj => ?_) (by decide) (by decide)
  all_goals (cases hj)
  · exact hk2 _ _ (.inr (.inr (.inr rfl))) rfl
  · exact hk2 _ _ (.inl rfl) rfl
  · exact hk2 _ _ (.inr (.inl rfl)) rfl
  · exact hk2 _ _ (.inr (.inr (.inl rfl))) rfl

theorem rule_world0 {w w1 : World} {pb : Nat} {tv : Value} {toks : List Ax.Tok} {nx : Nat} {o1 : Obj} (h : PAt w pb tv toks nx) (hg1 : (w.alloc o1).grownBy w1 (some pb)) :
    w1.heap[w.heap.size]? = some o1 ∧ w.grownBy w1 (some pb) ∧ w.heap.size < w1.heap.size := by
  have hp := lt_of_heap h.1
  have hs1 := hg1.size
  simp only [World.size_alloc] at hs1
  refine ⟨?_, grownBy_trans (World.grownBy_alloc w o1 _) hg1, by omega⟩
  rw [hg1.block _ (by simp) (by simp; omega)]
  exact heap_alloc_new _ _

set_option maxHeartbeats 2000000 in
theorem rule_0 (w : World) (pb : Nat) (tv : Value) (toks : List Ax.Tok) (nx : Nat) (h : PAt w pb tv toks nx) (j : Nat) (hA : Hid (Ax.pAtom toks nx = (none, j))) :
    Calls Try.prog 38 #[.pointer (some ⟨pb, 0, none⟩)] w fun e w' => ∃ x y ad n c bd m d, e = .returned (.tuple #[.agg #[.int .i64 x, .string y, .slice ad n c, .slice bd m d], .bool false]) ∧ PAt w' pb tv toks j ∧ w.grownBy w' (some pb) := by
  have hpb := lt_of_heap h.1
  go_enter Try.func38, Try.ntmps38
  go_wp2_with (go_at_call 53; refine (atom_none _ _ _ _ _ _ (h.alloc _) hA).mono ?_; rintro e w1 ⟨x, y, ad, n, c, rfl, hp1, hg1⟩; obtain ⟨r1, gw1, lt1⟩ := rule_world0 h hg1; have f0 := frozen_at r1 0; have f1 := frozen_at r1 1; have f2 := frozen_at r1 2; have f3 := frozen_at r1 3; have k0 := cell_at r1 0; have k1 := cell_at r1 1; have k2 := cell_at r1 2; have k3 := cell_at r1 3; simp only [List.getElem?_toArray, List.getElem?_cons_zero, List.getElem?_cons_succ] at k0 k1 k2 k3)
  obtain ⟨hu, gu, pu⟩ := four_stores r1 (.int .i64 0) (.string ⟨#[]⟩) (.slice none 0 0) (.slice none 0 0) gw1 hp1 (Nat.le_refl _)
  have hu' := (Below.heap_alloc _ (.cells #[.int .i64 x, .string y, .slice ad n c] 89) _ (lt_of_heap hu)).trans hu
  exact bodyPost_ret (v := .tuple #[.agg #[.int .i64 0, .string ⟨#[]⟩, .slice none 0 0, .slice none 0 0], .bool false]) (by simp [results, Try.results38, go_sem, cell_at hu']) rfl ⟨_, _, _, _, _, _, _, _, rfl, pu.alloc _, grownBy_alloc gu _⟩

set_option maxHeartbeats 2000000 in
theorem rule_1 (w : World) (pb : Nat) (tv : Value) (toks : List Ax.Tok) (nx : Nat) (h : PAt w pb tv toks nx) (j : Nat) (a : Ax.Atom) (hA : Hid (Ax.pAtom toks nx = (some a, j))) (t1 : Ax.Tok) (ht1 : Hid (toks[j]? = some t1)) (h8 : (t1.kind == 8) = true) (j2 : Nat) (hB : Hid (Ax.pAtoms toks toks.length (j + 1) [] = (none, j2))) :
    Calls Try.prog 38 #[.pointer (some ⟨pb, 0, none⟩)] w fun e w' => ∃ x y ad n c bd m d, e = .returned (.tuple #[.agg #[.int .i64 x, .string y, .slice ad n c, .slice bd m d], .bool false]) ∧ PAt w' pb tv toks j2 ∧ w.grownBy w' (some pb) := by
  have hpb := lt_of_heap h.1
  go_enter Try.func38, Try.ntmps38
  go_wp2_with (first | (go_at_call 53; refine (atom_some _ _ _ _ _ _ _ (h.alloc _) hA).mono ?_; rintro e w1 ⟨ad, c, rfl, hp1', hg1, hat1⟩; have hp1 := hp1'.alloc (.cells #[.int .i64 a.at_, .string a.pred, .slice ad a.terms.length c] 89); have hok1 := MA.alloc hat1 (.cells #[.int .i64 a.at_, .string a.pred, .slice ad a.terms.length c] 89)) | (go_at_call_of 54 (Value.int IntKind.i64 8); refine (take_yes _ _ _ _ _ hp1 _ ht1 _ (by decide) h8).mono ?_; rintro e w2 ⟨rfl, hp2, hg2⟩; have hok2 := MA.step hok1 hp1 hg2) | (go_at_call 55; refine (atoms_none _ _ _ _ _ _ hp2 hB).mono ?_; rintro e w3 ⟨rfl, hp3, hg3'⟩; have hg3 := grownBy_trans hg2 hg3'; obtain ⟨t3, r3, gw3, lt13, lt23⟩ := rule_world h hg1 hg3; have f03 := frozen_at r3 0; have f13 := frozen_at r3 1; have f23 := frozen_at r3 2; have f33 := frozen_at r3 3; have k03 := cell_at r3 0; have k13 := cell_at r3 1; have k23 := cell_at r3 2; have k33 := cell_at r3 3; have c03 := cell_at t3 0; have c13 := cell_at t3 1; have c23 := cell_at t3 2; simp only [List.getElem?_toArray, List.getElem?_cons_zero, List.getElem?_cons_succ] at c03 c13 c23 k03 k13 k23 k33))
  obtain ⟨hu, gu, pu⟩ := four_stores r3 (.int .i64 0) (.string ⟨#[]⟩) (.slice none 0 0) (.slice none 0 0) gw3 hp3 (Nat.le_refl _)
  exact bodyPost_ret (v := .tuple #[.agg #[.int .i64 0, .string ⟨#[]⟩, .slice none 0 0, .slice none 0 0], .bool false]) (by simp [results, Try.results38, go_sem, cell_at hu]) rfl ⟨_, _, _, _, _, _, _, _, rfl, pu, gu⟩

end Go.Proofs.Ytdmicblafmhflaa
