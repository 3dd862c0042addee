/- The parser: atom. -/
import Derived.Test.YtdmicblafmhflaaM2
namespace Go.Proofs.Ytdmicblafmhflaa
set_option linter.unusedSimpArgs false
set_option linter.unusedVariables false
open Go.RowKit

theorem ownsRow_shape {w : World} {b : Nat} {e : TypeId} {size : Nat} {v : Value} {n : Nat} {xs : List Value} (h : w.ownsRow b e size v n xs) : ∃ a c, v = .slice a n c := by
  rcases h.2 with ⟨rfl, rfl⟩ | ⟨g, cap, cur, rfl, _⟩
  · exact ⟨none, 0, rfl⟩
  · exact ⟨_, _, rfl⟩

/-- three stores into a block of three cells that is new since w -/
theorem three_stores {w w2 : World} {pb : Nat} {tv : Value} {toks : List Ax.Tok} {nx k : Nat} {a b c : Value} (r2 : w2.heap[k]? = some (.cells #[a, b, c] 89 (0, 0))) (x y z : Value) (gw : w.grownBy w2 (some pb)) (hp : PAt w2 pb tv toks nx) (hk : w.heap.size ≤ k) :
    (((w2.setCell ⟨k, 0, none⟩ x).setCell ⟨k, 1, none⟩ y).setCell ⟨k, 2, none⟩ z).heap[k]? = some (.cells #[x, y, z] 89 (0, 0)) ∧ w.grownBy (((w2.setCell ⟨k, 0, none⟩ x).setCell ⟨k, 1, none⟩ y).setCell ⟨k, 2, none⟩ z) (some pb) ∧ PAt (((w2.setCell ⟨k, 0, none⟩ x).setCell ⟨k, 1, none⟩ y).setCell ⟨k, 2, none⟩ z) pb tv toks nx := by
  have h0 := heap_setCell_same (off := 0) r2 x
  have h1 := heap_setCell_same (off := 1) h0 y
  have h2 := heap_setCell_same (off := 2) h1 z
  refine ⟨by rw [h2]; rfl, grownBy_setNew (grownBy_setNew (grownBy_setNew gw hk x) hk y) hk z, ?_⟩
  refine ((hp.row (grownBy_setCell _ _) (e' := 89) (fun j hj => ?_) (by decide) (by decide)).row (grownBy_setCell _ _) (e' := 89) (fun j hj => ?_) (by decide) (by decide)).row (grownBy_setCell _ _) (e' := 89) (fun j hj => ?_) (by decide) (by decide)
  · cases hj; exact ⟨_, _, r2⟩
  · cases hj; exact ⟨_, _, h0⟩
  · cases hj; exact ⟨_, _, h1⟩

set_option maxHeartbeats 2000000 in
theorem atom_0 (w : World) (pb : Nat) (tv : Value) (toks : List Ax.Tok) (nx : Nat) (h : PAt w pb tv toks nx) (t : Ax.Tok) (ht : Hid (toks[nx]? = some t)) (he : (t.kind == 2) = false) :
    Calls Try.prog 53 #[.pointer (some ⟨pb, 0, none⟩)] w fun e w' => e = .returned (.tuple #[.agg #[.int .i64 0, .string ⟨#[]⟩, .slice none 0 0], .bool false]) ∧ PAt w' pb tv toks nx ∧ w.grownBy w' (some pb) := by
  have hpb := lt_of_heap h.1
  go_enter Try.func53, Try.ntmps53
  go_wp2_with (first | (go_at_call 25; refine (peek_any _ _ _ _ _ (h.alloc _) _ ht).mono ?_; rintro e w1 ⟨rfl, hb1⟩; rw [World.size_alloc] at hb1; have hp1 := ((h.alloc (.cells #[.int .i64 0, .string ⟨#[]⟩, .slice none 0 0] 89)).below (by rw [World.size_alloc]; exact hb1)).alloc (.cells #[.int .i64 t.kind, .int .i64 t.at_, .string t.text] 66)) | (go_at_call_of 54 (Value.int IntKind.i64 2); refine (take_no _ _ _ _ _ hp1 _ ht _ he).mono ?_; rintro e w2 ⟨rfl, hb2⟩; have hp2 := hp1.below hb2; have hg2 := (grownBy_of_below hb2 (some pb)); obtain ⟨t2, r2, gw2, lt12, lt22⟩ := term_world h hb1 hg2; have f02 := frozen_at r2 0; have f12 := frozen_at r2 1; have f22 := frozen_at r2 2; have k02 := cell_at r2 0; have k12 := cell_at r2 1; have k22 := cell_at r2 2; have c12 := cell_at t2 1; have c22 := cell_at t2 2; simp only [List.getElem?_toArray, List.getElem?_cons_zero, List.getElem?_cons_succ] at c12 c22 k02 k12 k22))
  obtain ⟨hu, gu, pu⟩ := three_stores r2 (.int .i64 0) (.string ⟨#[]⟩) (.slice none 0 0) gw2 hp2 (Nat.le_refl _)
  exact bodyPost_ret (v := .tuple #[.agg #[.int .i64 0, .string ⟨#[]⟩, .slice none 0 0], .bool false]) (by simp [results, Try.results53, go_sem, cell_at hu]) rfl ⟨rfl, pu, gu⟩

set_option maxHeartbeats 2000000 in
theorem atom_1 (w : World) (pb : Nat) (tv : Value) (toks : List Ax.Tok) (nx : Nat) (h : PAt w pb tv toks nx) (t : Ax.Tok) (ht : Hid (toks[nx]? = some t)) (he : (t.kind == 2) = true) (t' : Ax.Tok) (ht' : Hid (toks[nx + 1]? = some t')) (h4 : (t'.kind == 4) = false) :
    Calls Try.prog 53 #[.pointer (some ⟨pb, 0, none⟩)] w fun e w' => e = .returned (.tuple #[.agg #[.int .i64 0, .string ⟨#[]⟩, .slice none 0 0], .bool false]) ∧ PAt w' pb tv toks (nx + 1) ∧ w.grownBy w' (some pb) := by
  have hpb := lt_of_heap h.1
  go_enter Try.func53, Try.ntmps53
  go_wp2_with (first | (go_at_call 25; refine (peek_any _ _ _ _ _ (h.alloc _) _ ht).mono ?_; rintro e w1 ⟨rfl, hb1⟩; rw [World.size_alloc] at hb1; have hp1 := ((h.alloc (.cells #[.int .i64 0, .string ⟨#[]⟩, .slice none 0 0] 89)).below (by rw [World.size_alloc]; exact hb1)).alloc (.cells #[.int .i64 t.kind, .int .i64 t.at_, .string t.text] 66)) | (go_at_call_of 54 (Value.int IntKind.i64 2); refine (take_yes _ _ _ _ _ hp1 _ ht _ (by decide) he).mono ?_; rintro e w2 ⟨rfl, hp2, hg2'⟩; have hg2 := hg2') | (go_at_call_of 54 (Value.int IntKind.i64 4); refine (take_no _ _ _ _ _ hp2 _ ht' _ h4).mono ?_; rintro e w3 ⟨rfl, hb3⟩; have hp3 := hp2.below hb3; have hg3 := grownBy_trans hg2 (grownBy_of_below hb3 (some pb)); obtain ⟨t3, r3, gw3, lt13, lt23⟩ := term_world h hb1 hg3; have f03 := frozen_at r3 0; have f13 := frozen_at r3 1; have f23 := frozen_at r3 2; have k03 := cell_at r3 0; have k13 := cell_at r3 1; have k23 := cell_at r3 2; have c13 := cell_at t3 1; have c23 := cell_at t3 2; simp only [List.getElem?_toArray, List.getElem?_cons_zero, List.getElem?_cons_succ] at c13 c23 k03 k13 k23))
  obtain ⟨hu, gu, pu⟩ := three_stores r3 (.int .i64 0) (.string ⟨#[]⟩) (.slice none 0 0) gw3 hp3 (Nat.le_refl _)
  exact bodyPost_ret (v := .tuple #[.agg #[.int .i64 0, .string ⟨#[]⟩, .slice none 0 0], .bool false]) (by simp [results, Try.results53, go_sem, cell_at hu]) rfl ⟨rfl, pu, gu⟩

set_option maxHeartbeats 2000000 in
theorem atom_2 (w : World) (pb : Nat) (tv : Value) (toks : List Ax.Tok) (nx : Nat) (h : PAt w pb tv toks nx) (t : Ax.Tok) (ht : Hid (toks[nx]? = some t)) (he : (t.kind == 2) = true) (t' : Ax.Tok) (ht' : Hid (toks[nx + 1]? = some t')) (h4 : (t'.kind == 4) = true) (j : Nat) (hR : Hid (Ax.pTerms toks toks.length (nx + 1 + 1) [] = (none, j))) :
    Calls Try.prog 53 #[.pointer (some ⟨pb, 0, none⟩)] w fun e w' => e = .returned (.tuple #[.agg #[.int .i64 0, .string ⟨#[]⟩, .slice none 0 0], .bool false]) ∧ PAt w' pb tv toks j ∧ w.grownBy w' (some pb) := by
  have hpb := lt_of_heap h.1
  go_enter Try.func53, Try.ntmps53
  go_wp2_with (first | (go_at_call 25; refine (peek_any _ _ _ _ _ (h.alloc _) _ ht).mono ?_; rintro e w1 ⟨rfl, hb1⟩; rw [World.size_alloc] at hb1; have hp1 := ((h.alloc (.cells #[.int .i64 0, .string ⟨#[]⟩, .slice none 0 0] 89)).below (by rw [World.size_alloc]; exact hb1)).alloc (.cells #[.int .i64 t.kind, .int .i64 t.at_, .string t.text] 66)) | (go_at_call_of 54 (Value.int IntKind.i64 2); refine (take_yes _ _ _ _ _ hp1 _ ht _ (by decide) he).mono ?_; rintro e w2 ⟨rfl, hp2, hg2'⟩; have hg2 := hg2') | (go_at_call_of 54 (Value.int IntKind.i64 4); refine (take_yes _ _ _ _ _ hp2 _ ht' _ (by decide) h4).mono ?_; rintro e w3 ⟨rfl, hp3, hg3'⟩; have hg3 := grownBy_trans hg2 hg3') | (go_at_call 64; refine (terms_none _ _ _ _ _ _ hp3 hR).mono ?_; rintro e w4 ⟨rfl, hp4, hg4'⟩; have hg4 := grownBy_trans hg3 hg4'; obtain ⟨t4, r4, gw4, lt14, lt24⟩ := term_world h hb1 hg4; have f04 := frozen_at r4 0; have f14 := frozen_at r4 1; have f24 := frozen_at r4 2; have k04 := cell_at r4 0; have k14 := cell_at r4 1; have k24 := cell_at r4 2; have c14 := cell_at t4 1; have c24 := cell_at t4 2; simp only [List.getElem?_toArray, List.getElem?_cons_zero, List.getElem?_cons_succ] at c14 c24 k04 k14 k24))
  obtain ⟨hu, gu, pu⟩ := three_stores r4 (.int .i64 0) (.string ⟨#[]⟩) (.slice none 0 0) gw4 hp4 (Nat.le_refl _)
  exact bodyPost_ret (v := .tuple #[.agg #[.int .i64 0, .string ⟨#[]⟩, .slice none 0 0], .bool false]) (by simp [results, Try.results53, go_sem, cell_at hu]) rfl ⟨rfl, pu, gu⟩

set_option maxHeartbeats 2000000 in
theorem atom_3 (w : World) (pb : Nat) (tv : Value) (toks : List Ax.Tok) (nx : Nat) (h : PAt w pb tv toks nx) (t : Ax.Tok) (ht : Hid (toks[nx]? = some t)) (he : (t.kind == 2) = true) (t' : Ax.Tok) (ht' : Hid (toks[nx + 1]? = some t')) (h4 : (t'.kind == 4) = true) (j : Nat) (ts : List Ax.Term) (hR : Hid (Ax.pTerms toks toks.length (nx + 1 + 1) [] = (some ts, j))) (t3 : Ax.Tok) (ht3 : Hid (toks[j]? = some t3)) (h5 : (t3.kind == 5) = false) :
    Calls Try.prog 53 #[.pointer (some ⟨pb, 0, none⟩)] w fun e w' => ∃ x y ad n c, e = .returned (.tuple #[.agg #[.int .i64 x, .string y, .slice ad n c], .bool false]) ∧ PAt w' pb tv toks j ∧ w.grownBy w' (some pb) := by
  have hpb := lt_of_heap h.1
  go_enter Try.func53, Try.ntmps53
  go_wp2_with (first | (go_at_call 25; refine (peek_any _ _ _ _ _ (h.alloc _) _ ht).mono ?_; rintro e w1 ⟨rfl, hb1⟩; rw [World.size_alloc] at hb1; have hp1 := ((h.alloc (.cells #[.int .i64 0, .string ⟨#[]⟩, .slice none 0 0] 89)).below (by rw [World.size_alloc]; exact hb1)).alloc (.cells #[.int .i64 t.kind, .int .i64 t.at_, .string t.text] 66)) | (go_at_call_of 54 (Value.int IntKind.i64 2); refine (take_yes _ _ _ _ _ hp1 _ ht _ (by decide) he).mono ?_; rintro e w2 ⟨rfl, hp2, hg2'⟩; have hg2 := hg2') | (go_at_call_of 54 (Value.int IntKind.i64 4); refine (take_yes _ _ _ _ _ hp2 _ ht' _ (by decide) h4).mono ?_; rintro e w3 ⟨rfl, hp3, hg3'⟩; have hg3 := grownBy_trans hg2 hg3') | (go_at_call 64; refine (terms_some _ _ _ _ _ _ _ hp3 hR).mono ?_; rintro e w4 ⟨ad, c, rfl, hp4, hg4', hown4⟩; have hg4 := grownBy_trans hg3 hg4'; obtain ⟨t4, r4, gw4, lt14, lt24⟩ := term_world h hb1 hg4; have f04 := frozen_at r4 0; have f14 := frozen_at r4 1; have f24 := frozen_at r4 2; have k04 := cell_at r4 0; have k14 := cell_at r4 1; have k24 := cell_at r4 2; have c14 := cell_at t4 1; have c24 := cell_at t4 2; simp only [List.getElem?_toArray, List.getElem?_cons_zero, List.getElem?_cons_succ] at c14 c24 k04 k14 k24))
  go_region_with (go_at_call 54; refine (take_no _ pb tv toks j (by exact hp4) _ ht3 _ h5).mono ?_; rintro e w5 ⟨rfl, hb5⟩; have hp5 := PAt.below (by exact hp4) hb5; have hg5 := grownBy_trans (grownBy_drew hg4) (grownBy_of_below hb5 (some pb)); obtain ⟨t5, r5, gw5, lt15, lt25⟩ := term_world h hb1 hg5; have f05 := frozen_at r5 0; have f15 := frozen_at r5 1; have f25 := frozen_at r5 2; have k05 := cell_at r5 0; have k15 := cell_at r5 1; have k25 := cell_at r5 2; have c15 := cell_at t5 1; have c25 := cell_at t5 2; simp only [List.getElem?_toArray, List.getElem?_cons_zero, List.getElem?_cons_succ] at c15 c25 k05 k15 k25)
  all_goals (go_wp2_with fail)
  all_goals (obtain ⟨hu, gu, pu⟩ := three_stores r5 (.int .i64 t.at_) (.string t.text) (.slice ad ts.length c) gw5 hp5 (Nat.le_refl _))
  all_goals (exact bodyPost_ret (v := .tuple #[.agg #[.int .i64 t.at_, .string t.text, .slice ad ts.length c], .bool false]) (by simp [results, Try.results53, go_sem, cell_at hu]) rfl ⟨_, _, _, _, _, rfl, pu, gu⟩)
end Go.Proofs.Ytdmicblafmhflaa
