/- The parser: atom, whole. -/
import Derived.Test.YtdmicblafmhflaaM3
namespace Go.Proofs.Ytdmicblafmhflaa
set_option linter.unusedSimpArgs false
set_option linter.unusedVariables false
open Go.RowKit

/-- a row of another type stands behind three stores -/
theorem ownsRow_stores3 {w2 : World} {k : Nat} {a b c : Value} {T : TypeId} (r2 : w2.heap[k]? = some (.cells #[a, b, c] T (0, 0))) (x y z : Value) {bs : Nat} {e : TypeId} {size : Nat} {v : Value} {n : Nat} {xs : List Value} (h : w2.ownsRow bs e size v n xs) (hne : e ≠ T) :
    (((w2.setCell ⟨k, 0, none⟩ x).setCell ⟨k, 1, none⟩ y).setCell ⟨k, 2, none⟩ z).ownsRow bs e size v n xs := by
  have h0 := heap_setCell_same (off := 0) r2 x
  have h1 := heap_setCell_same (off := 1) h0 y
  refine ownsRow_type (ownsRow_type (ownsRow_type h (grownBy_setCell _ _) (e' := T) (fun j hj => ?_) hne) (grownBy_setCell _ _) (e' := T) (fun j hj => ?_) hne) (grownBy_setCell _ _) (e' := T) (fun j hj => ?_) hne
  · cases hj; exact ⟨_, _, r2⟩
  · cases hj; exact ⟨_, _, h0⟩
  · cases hj; exact ⟨_, _, h1⟩

set_option maxHeartbeats 2000000 in
theorem atom_4 (w : World) (pb : Nat) (tv : Value) (toks : List Ax.Tok) (nx : Nat) (h : PAt w pb tv toks nx) (t : Ax.Tok) (ht : Hid (toks[nx]? = some t)) (he : (t.kind == 2) = true) (t' : Ax.Tok) (ht' : Hid (toks[nx + 1]? = some t')) (h4 : (t'.kind == 4) = true) (j : Nat) (ts : List Ax.Term) (hR : Hid (Ax.pTerms toks toks.length (nx + 1 + 1) [] = (some ts, j))) (t3 : Ax.Tok) (ht3 : Hid (toks[j]? = some t3)) (h5 : (t3.kind == 5) = true) :
    Calls Try.prog 53 #[.pointer (some ⟨pb, 0, none⟩)] w fun e w' => ∃ ad c, e = .returned (.tuple #[.agg #[.int .i64 t.at_, .string t.text, .slice ad ts.length c], .bool true]) ∧ PAt w' pb tv toks (j + 1) ∧ w.grownBy w' (some pb) ∧ w'.ownsRow w.heap.size 102 2 (.slice ad ts.length c) ts.length (termCells ts) := by
  have hpb := lt_of_heap h.1
  go_enter Try.func53, Try.ntmps53
  go_wp2_with (first | (go_at_call 25; refine (peek_any _ _ _ _ _ (h.alloc _) _ ht).mono ?_; rintro e w1 ⟨rfl, hb1⟩; rw [World.size_alloc] at hb1; have hp1 := ((h.alloc (.cells #[.int .i64 0, .string ⟨#[]⟩, .slice none 0 0] 89)).below (by rw [World.size_alloc]; exact hb1)).alloc (.cells #[.int .i64 t.kind, .int .i64 t.at_, .string t.text] 66)) | (go_at_call_of 54 (Value.int IntKind.i64 2); refine (take_yes _ _ _ _ _ hp1 _ ht _ (by decide) he).mono ?_; rintro e w2 ⟨rfl, hp2, hg2'⟩; have hg2 := hg2') | (go_at_call_of 54 (Value.int IntKind.i64 4); refine (take_yes _ _ _ _ _ hp2 _ ht' _ (by decide) h4).mono ?_; rintro e w3 ⟨rfl, hp3, hg3'⟩; have hg3 := grownBy_trans hg2 hg3') | (go_at_call 64; refine (terms_some _ _ _ _ _ _ _ hp3 hR).mono ?_; rintro e w4 ⟨ad, c, rfl, hp4, hg4', hown4⟩; have hg4 := grownBy_trans hg3 hg4'; have hsz3 := (term_world h hb1 hg3).2.2.1.size; obtain ⟨t4, r4, gw4, lt14, lt24⟩ := term_world h hb1 hg4; have f04 := frozen_at r4 0; have f14 := frozen_at r4 1; have f24 := frozen_at r4 2; have k04 := cell_at r4 0; have k14 := cell_at r4 1; have k24 := cell_at r4 2; have c14 := cell_at t4 1; have c24 := cell_at t4 2; simp only [List.getElem?_toArray, List.getElem?_cons_zero, List.getElem?_cons_succ] at c14 c24 k04 k14 k24))
  go_region_with (go_at_call 54; refine (take_yes _ pb tv toks j (by exact hp4) _ ht3 _ (by decide) h5).mono ?_; rintro e w5 ⟨rfl, hp5, hg5'⟩; have hg5 := grownBy_trans (grownBy_drew hg4) hg5'; have hown5 := ownsRow_step (w := w4.drew) hown4 (by exact hp4) hg5' (by decide); obtain ⟨t5, r5, gw5, lt15, lt25⟩ := term_world h hb1 hg5; have f05 := frozen_at r5 0; have f15 := frozen_at r5 1; have f25 := frozen_at r5 2; have k05 := cell_at r5 0; have k15 := cell_at r5 1; have k25 := cell_at r5 2; have c15 := cell_at t5 1; have c25 := cell_at t5 2; simp only [List.getElem?_toArray, List.getElem?_cons_zero, List.getElem?_cons_succ] at c15 c25 k05 k15 k25)
  all_goals (go_wp2_with fail)
  all_goals (obtain ⟨hu, gu, pu⟩ := three_stores r5 (.int .i64 t.at_) (.string t.text) (.slice ad ts.length c) gw5 hp5 (Nat.le_refl _))
  all_goals (exact bodyPost_ret (v := .tuple #[.agg #[.int .i64 t.at_, .string t.text, .slice ad ts.length c], .bool true]) (by simp [results, Try.results53, go_sem, cell_at hu]) rfl ⟨_, _, rfl, pu, gu, ownsRow_base (ownsRow_stores3 r5 _ _ _ hown5 (by decide)) hsz3⟩)

/-- atom, whole -/
theorem atom_any (w : World) (pb : Nat) (tv : Value) (toks : List Ax.Tok) (nx : Nat) (h : PAt w pb tv toks nx) :
    Calls Try.prog 53 #[.pointer (some ⟨pb, 0, none⟩)] w fun e w' => PAt w' pb tv toks (Ax.pAtom toks nx).2 ∧ w.grownBy w' (some pb) ∧
      ((∃ ad c a, e = .returned (.tuple #[.agg #[.int .i64 a.at_, .string a.pred, .slice ad a.terms.length c], .bool true]) ∧ (Ax.pAtom toks nx).1 = some a ∧ w'.ownsRow w.heap.size 102 2 (.slice ad a.terms.length c) a.terms.length (termCells a.terms)) ∨
       (∃ x y ad n c, e = .returned (.tuple #[.agg #[.int .i64 x, .string y, .slice ad n c], .bool false]) ∧ (Ax.pAtom toks nx).1 = none)) := by
  obtain ⟨t, ht⟩ : ∃ t, toks[nx]? = some t := ⟨_, List.getElem?_eq_getElem h.2.2.1⟩
  by_cases he : t.kind = 2
  case neg =>
    rw [Ax.pAtom_0 ht he]
    refine (atom_0 w pb tv toks nx h t ht (by simpa using he)).mono ?_
    rintro e w' ⟨rfl, hp, hg⟩
    exact ⟨hp, hg, .inr ⟨_, _, _, _, _, rfl, rfl⟩⟩
  have hn1 : nx + 1 < toks.length := by
    obtain ⟨hl, e⟩ := Tok_get ht
    exact h.2.2.2.2.next hl (by rw [e]; omega) (by rw [e]; omega)
  obtain ⟨t', ht'⟩ : ∃ t, toks[nx + 1]? = some t := ⟨_, List.getElem?_eq_getElem hn1⟩
  have hk' := Ax.kindAt_of ht'
  by_cases h4 : t'.kind = 4
  case neg =>
    rw [Ax.pAtom_1 ht he (by rw [hk']; exact h4)]
    refine (atom_1 w pb tv toks nx h t ht (by simpa using he) t' ht' (by simpa using h4)).mono ?_
    rintro e w' ⟨rfl, hp, hg⟩
    exact ⟨hp, hg, .inr ⟨_, _, _, _, _, rfl, rfl⟩⟩
  have h4k : Ax.kindAt toks (nx + 1) = 4 := by rw [hk']; exact h4
  have hn2 : nx + 1 + 1 < toks.length := by
    obtain ⟨hl, e⟩ := Tok_get ht'
    exact h.2.2.2.2.next hl (by rw [e]; omega) (by rw [e]; omega)
  rcases hR : Ax.pTerms toks toks.length (nx + 1 + 1) [] with ⟨_ | ts, j⟩
  · rw [Ax.pAtom_2 ht he h4k hR]
    refine (atom_2 w pb tv toks nx h t ht (by simpa using he) t' ht' (by simpa using h4) j hR).mono ?_
    rintro e w' ⟨rfl, hp, hg⟩
    exact ⟨hp, hg, .inr ⟨_, _, _, _, _, rfl, rfl⟩⟩
  · have hj : j < toks.length := Ax.pTerms_lt h.2.2.2.2 _ _ _ hn2 hR
    obtain ⟨t3, ht3⟩ : ∃ t, toks[j]? = some t := ⟨_, List.getElem?_eq_getElem hj⟩
    have hk3 := Ax.kindAt_of ht3
    by_cases h5 : t3.kind = 5
    · rw [Ax.pAtom_4 ht he h4k hR (by rw [hk3]; exact h5)]
      refine (atom_4 w pb tv toks nx h t ht (by simpa using he) t' ht' (by simpa using h4) j ts hR t3 ht3 (by simpa using h5)).mono ?_
      rintro e w' ⟨ad, c, rfl, hp, hg, hown⟩
      exact ⟨hp, hg, .inl ⟨ad, c, ⟨t.at_, t.text, ts⟩, rfl, rfl, hown⟩⟩
    · rw [Ax.pAtom_3 ht he h4k hR (by rw [hk3]; exact h5)]
      refine (atom_3 w pb tv toks nx h t ht (by simpa using he) t' ht' (by simpa using h4) j ts hR t3 ht3 (by simpa using h5)).mono ?_
      rintro e w' ⟨x, y, ad, n, c, rfl, hp, hg⟩
      exact ⟨hp, hg, .inr ⟨_, _, _, _, _, rfl, rfl⟩⟩
end Go.Proofs.Ytdmicblafmhflaa
