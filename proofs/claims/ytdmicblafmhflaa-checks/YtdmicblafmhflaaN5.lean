/- tooMany. -/
import Derived.Test.YtdmicblafmhflaaN4
namespace Go.Proofs.Ytdmicblafmhflaa
set_option linter.unusedSimpArgs false
set_option linter.unusedVariables false
open Go.RowKit

theorem ruleCells_get (l : List MR) (k : Nat) (h : k < l.length) :
    (ruleCells l)[k * 4]? = some (.int .i64 (l[k]).head.1.at_) ∧ (ruleCells l)[k * 4 + 1]? = some (.string (l[k]).head.1.pred) ∧ (ruleCells l)[k * 4 + 2]? = some (l[k]).head.2 ∧ (ruleCells l)[k * 4 + 3]? = some (l[k]).bv := by
  induction l generalizing k with
  | nil => simp at h
  | cons a l ih =>
    cases k with
    | zero => simp [ruleCells]
    | succ k =>
      have := ih k (by simpa using h)
      have e : ∀ j, (ruleCells (a :: l))[(k + 1) * 4 + j]? = (ruleCells l)[k * 4 + j]? := by
        intro j
        have : ruleCells (a :: l) = [.int .i64 a.head.1.at_, .string a.head.1.pred, a.head.2, a.bv] ++ ruleCells l := by simp [ruleCells]
        rw [this, List.getElem?_append_right (by simp; omega)]
        congr 1
        simp; omega
      have e0 := e 0
      simp only [Nat.add_zero] at e0
      rw [e0, e 1, e 2, e 3]
      simpa using this

/-- the rules of a slice, in a world -/
def RulesIn (w : World) (rd : Option Addr) (rc : Nat) (l : List MR) : Prop :=
  w.ownsRow 0 92 4 (.slice rd l.length rc) l.length (ruleCells l) ∧ mrs w l ∧ ∀ r, r ∈ l → r.body.length ≤ 1000
theorem RulesIn.below {w w' : World} {rd : Option Addr} {rc : Nat} {l : List MR} (h : RulesIn w rd rc l) (hb : Below w.heap.size w w') : RulesIn w' rd rc l := ⟨ownsRow_below h.1 hb, mrs_below h.2.1 hb, h.2.2⟩

/-- rule k of a slice: its cells -/
theorem RulesIn.at {w : World} {rd : Option Addr} {rc : Nat} {l : List MR} (h : RulesIn w rd rc l) {k : Nat} (hk : k < l.length) :
    ∃ g a ad c bd d body, rd = some ⟨g, 0, none⟩ ∧ g < w.heap.size ∧ l.length ≤ rc ∧ w.cell? ⟨g, k * 4, none⟩ = some (.int .i64 (Ax.Atom.at_ a)) ∧ w.cell? ⟨g, k * 4 + 1, none⟩ = some (.string a.pred) ∧ w.cell? ⟨g, k * 4 + 2, none⟩ = some (.slice ad a.terms.length c) ∧
      w.cell? ⟨g, k * 4 + 3, none⟩ = some (.slice bd body.length d) ∧ MR.ok w ⟨(a, .slice ad a.terms.length c), .slice bd body.length d, body⟩ ∧ body.length ≤ 1000 ∧ (l[k]).rule = ⟨a, List.map Prod.fst body⟩ := by
  obtain ⟨g, rfl, hg, hc, hcs⟩ := row_cells h.1 (by omega)
  have hm := List.getElem_mem hk
  have hok := h.2.1 _ hm
  have hbl := h.2.2 _ hm
  obtain ⟨c0, c1, c2, c3⟩ := ruleCells_get l k hk
  generalize l[k] = r at *
  rcases r with ⟨⟨a, hv⟩, bv, body⟩
  obtain ⟨ad, c, e1⟩ := ownsRow_shape hok.1
  obtain ⟨bd, d, e2⟩ := ownsRow_shape hok.2.1
  simp only at e1 e2
  subst e1 e2
  exact ⟨g, a, ad, c, bd, d, body, rfl, hg, hc, hcs _ _ c0, hcs _ _ c1, hcs _ _ c2, hcs _ _ c3, hok, hbl, rfl⟩

theorem many_ge {i : Nat} {ps : List ByteArray} {r : Ax.Rule} (h : 8 ≤ i) : Ax.manyAt i ps r = true := by simp [Ax.manyAt, h]
theorem many_body {i : Nat} {ps : List ByteArray} {r : Ax.Rule} (h : 2 < r.body.length) : Ax.manyAt i ps r = true := by simp [Ax.manyAt, h]
theorem many_preds {i : Nat} {ps : List ByteArray} {r : Ax.Rule} (h : 6 < ps.length) : Ax.manyAt i ps r = true := by simp [Ax.manyAt, h]
theorem many_wide {i : Nat} {ps : List ByteArray} {r : Ax.Rule} (h : Ax.anyWide r.atoms = true) : Ax.manyAt i ps r = true := by simp [Ax.manyAt, h]
theorem many_none {i : Nat} {ps : List ByteArray} {r : Ax.Rule} (h1 : ¬ 8 ≤ i) (h2 : ¬ 2 < r.body.length) (h3 : ¬ 6 < ps.length) (h4 : Ax.anyWide r.atoms = false) : Ax.manyAt i ps r = false := by simp [Ax.manyAt, h1, h2, h3, h4]

def TooRel (w wr : World) (v : Value) (ps : List ByteArray) (k : Nat) (L : List Ax.Rule) (R : Option Nat) : Prop :=
  wr.ownsRow w.heap.size 9 1 v ps.length (strCells ps) ∧ Below w.heap.size w wr ∧ ps.length ≤ 6 ∧ Ax.tooMany k ps (L.drop k) = R

set_option maxHeartbeats 2000000 in
theorem tooMany_any (w : World) (rd : Option Addr) (rc : Nat) (l : List MR) (h : RulesIn w rd rc l) :
    Calls Try.prog 26 #[.slice rd l.length rc] w fun e w' => Below w.heap.size w w' ∧ ((∃ at_ : Nat, Ax.tooMany 0 [] (l.map MR.rule) = some at_ ∧ e = .returned (.tuple #[.int .i64 at_, .bool true])) ∨ (Ax.tooMany 0 [] (l.map MR.rule) = none ∧ e = .returned (.tuple #[.int .i64 0, .bool false]))) := by
  have hle := ownsRow_le h.1
  generalize hR : Ax.tooMany 0 [] (l.map MR.rule) = R
  go_enter Try.func26, Try.ntmps26
  go_wp2_with fail
  go_loopw [4, 9] (fun v i wr => ∃ (k : Nat) (ps : List ByteArray), k ≤ l.length ∧ i = .int .i64 k ∧ TooRel w wr v ps k (l.map MR.rule) R) (fun _ i _ => l.length - (intOf i).toNat)
  case atStart => exact ⟨0, [], Nat.zero_le _, rfl, World.ownsRow_nil _ _ _ _, Below.refl _ _, Nat.zero_le _, hR⟩
  case round =>
    obtain ⟨k, ps, hk, rfl, hown, hbel, hpl, hr⟩ := hrel
    have HR : Hid (Ax.tooMany k ps ((l.map MR.rule).drop k) = R) := hr
    clear hr hR
    obtain ⟨pd, pc, hq0⟩ := ownsRow_shape hown
    subst hq0
    have hsz := hbel.size
    by_cases hlt : k < l.length
    · obtain ⟨g, a, ad, c, bd, d, body, rfl, hg, hcap, d0, d1, d2, d3, hmr, hbl, hrule⟩ := (h.below hbel).at hlt
      have hdrop : (l.map MR.rule).drop k = ⟨a, List.map Prod.fst body⟩ :: (l.map MR.rule).drop (k + 1) := by
        rw [List.drop_eq_getElem_cons (by simpa using hlt)]; simp [hrule]
      rw [hdrop] at HR
      clear hdrop hrule
      obtain ⟨qs, hqs⟩ : ∃ qs, Ax.addPreds ps (a :: List.map Prod.fst body) = qs := ⟨_, rfl⟩
      have HQ : Hid (Ax.addPreds ps (a :: List.map Prod.fst body) = qs) := hqs
      clear hqs
      have hyes : Ax.manyAt k qs ⟨a, List.map Prod.fst body⟩ = true → R = some a.at_ := by
        intro hm
        have := HR.out
        simp only [Ax.tooMany, Ax.Rule.atoms, HQ.out, hm, if_true] at this
        exact this.symm
      have hno : Ax.manyAt k qs ⟨a, List.map Prod.fst body⟩ = false → Ax.tooMany (k + 1) qs ((l.map MR.rule).drop (k + 1)) = R := by
        intro hm
        have := HR.out
        simp only [Ax.tooMany, Ax.Rule.atoms, HQ.out, hm, Bool.false_eq_true, if_false] at this
        exact this
      by_cases h8 : 8 ≤ k
      · have HY : Hid (R = some a.at_) := hyes (many_ge h8)
        clear hyes hno HR
        go_wp2_with (first | (go_at_call 39; refine (addPreds_any w.heap.size _ pd pc ps _ _ _ _ _ _ (MR.below hmr ((Below.refl _ _).alloc (Nat.le_refl _) _)) hbl (by simp; omega) (hown.alloc _) (by omega)).mono ?_; rintro e w2 ⟨qd, qc, qs', rfl, hqs, hown2, hbel2, hoth2, hql⟩; have hqs' : qs' = qs := hqs.out.trans HQ.out; subst hqs'; have hblk := hoth2 _ _ (heap_alloc_new wr _) (by simp) (by intro c fz e1; simp at e1); have hsz2 := hbel2.size; have e0 := cell_at hblk 0; have e1 := cell_at hblk 1; have e2 := cell_at hblk 2; have e3 := cell_at hblk 3; simp only [List.getElem?_toArray, List.getElem?_cons_zero, List.getElem?_cons_succ] at e0 e1 e2 e3; simp only [World.size_alloc] at hsz2))
        go_ret2
        exact ⟨(hbel.alloc hsz _).trans hbel2, .inl ⟨a.at_, HY.out, rfl⟩⟩
      · by_cases h2 : 2 < body.length
        · have HY : Hid (R = some a.at_) := hyes (many_body (by simpa using h2))
          clear hyes hno HR
          go_wp2_with (first | (go_at_call 39; refine (addPreds_any w.heap.size _ pd pc ps _ _ _ _ _ _ (MR.below hmr ((Below.refl _ _).alloc (Nat.le_refl _) _)) hbl (by simp; omega) (hown.alloc _) (by omega)).mono ?_; rintro e w2 ⟨qd, qc, qs', rfl, hqs, hown2, hbel2, hoth2, hql⟩; have hqs' : qs' = qs := hqs.out.trans HQ.out; subst hqs'; have hblk := hoth2 _ _ (heap_alloc_new wr _) (by simp) (by intro c fz e1; simp at e1); have hsz2 := hbel2.size; have e0 := cell_at hblk 0; have e1 := cell_at hblk 1; have e2 := cell_at hblk 2; have e3 := cell_at hblk 3; simp only [List.getElem?_toArray, List.getElem?_cons_zero, List.getElem?_cons_succ] at e0 e1 e2 e3; simp only [World.size_alloc] at hsz2))
          go_ret2
          exact ⟨(hbel.alloc hsz _).trans hbel2, .inl ⟨a.at_, HY.out, rfl⟩⟩
        · by_cases h6 : 6 < qs.length
          · have HY : Hid (R = some a.at_) := hyes (many_preds h6)
            clear hyes hno HR
            go_wp2_with (first | (go_at_call 39; refine (addPreds_any w.heap.size _ pd pc ps _ _ _ _ _ _ (MR.below hmr ((Below.refl _ _).alloc (Nat.le_refl _) _)) hbl (by simp; omega) (hown.alloc _) (by omega)).mono ?_; rintro e w2 ⟨qd, qc, qs', rfl, hqs, hown2, hbel2, hoth2, hql⟩; have hqs' : qs' = qs := hqs.out.trans HQ.out; subst hqs'; have hblk := hoth2 _ _ (heap_alloc_new wr _) (by simp) (by intro c fz e1; simp at e1); have hsz2 := hbel2.size; have e0 := cell_at hblk 0; have e1 := cell_at hblk 1; have e2 := cell_at hblk 2; have e3 := cell_at hblk 3; simp only [List.getElem?_toArray, List.getElem?_cons_zero, List.getElem?_cons_succ] at e0 e1 e2 e3; simp only [World.size_alloc] at hsz2))
            go_ret2
            exact ⟨(hbel.alloc hsz _).trans hbel2, .inl ⟨a.at_, HY.out, rfl⟩⟩
          · cases hvw : Ax.anyWide (a :: List.map Prod.fst body)
            case true =>
              have HY : Hid (R = some a.at_) := hyes (many_wide hvw)
              clear hyes hno HR
              go_wp2_with (first | (go_at_call 39; refine (addPreds_any w.heap.size _ pd pc ps _ _ _ _ _ _ (MR.below hmr ((Below.refl _ _).alloc (Nat.le_refl _) _)) hbl (by simp; omega) (hown.alloc _) (by omega)).mono ?_; rintro e w2 ⟨qd, qc, qs', rfl, hqs, hown2, hbel2, hoth2, hql⟩; have hqs' : qs' = qs := hqs.out.trans HQ.out; subst hqs'; have hblk := hoth2 _ _ (heap_alloc_new wr _) (by simp) (by intro c fz e1; simp at e1); have hsz2 := hbel2.size; have e0 := cell_at hblk 0; have e1 := cell_at hblk 1; have e2 := cell_at hblk 2; have e3 := cell_at hblk 3; simp only [List.getElem?_toArray, List.getElem?_cons_zero, List.getElem?_cons_succ] at e0 e1 e2 e3; simp only [World.size_alloc] at hsz2; have hmr2 := MR.others (MR.below hmr ((Below.refl _ _).alloc (Nat.le_refl _) _)) hoth2 (by decide) (by decide)) | (go_at_call 41; refine (atomsOf_any _ _ _ _ _ _ _ hmr2 hbl).mono ?_; rintro e w3 ⟨ad3, c3, rfl, hats, hoks, hb3⟩; have hoth3 := others_below (e := 9) hb3; have hblk3 := (hb3.block _ (lt_of_heap hblk)).trans hblk) | (go_at_call 40; refine (containsWide_any w3 0 ad3 c3 ((a, .slice ad a.terms.length c) :: body) (by exact hats) hoks).mono ?_; rintro e w4 ⟨rfl, hb4⟩; have hw : Ax.anyWide (((a, Value.slice ad a.terms.length c) :: body).map Prod.fst) = true := hvw; rw [hw]; have hblk4 := (hb4.block _ (lt_of_heap hblk3)).trans hblk3; have g0 := cell_at hblk4 0; simp only [List.getElem?_toArray, List.getElem?_cons_zero] at g0; have hsz4 := lt_of_heap hblk4))
              go_ret2
              exact ⟨(((hbel.alloc hsz _).trans hbel2).trans (hb3.mono (by omega))).trans (hb4.mono (by have := hb3.size; omega)), .inl ⟨a.at_, HY.out, rfl⟩⟩
            case false =>
              have HN : Hid (Ax.tooMany (k + 1) qs ((l.map MR.rule).drop (k + 1)) = R) := hno (many_none h8 (by simpa using h2) h6 hvw)
              clear hyes hno HR
              go_wp2_with (first | (go_at_call 39; refine (addPreds_any w.heap.size _ pd pc ps _ _ _ _ _ _ (MR.below hmr ((Below.refl _ _).alloc (Nat.le_refl _) _)) hbl (by simp; omega) (hown.alloc _) (by omega)).mono ?_; rintro e w2 ⟨qd, qc, qs', rfl, hqs, hown2, hbel2, hoth2, hql⟩; have hqs' : qs' = qs := hqs.out.trans HQ.out; subst hqs'; have hblk := hoth2 _ _ (heap_alloc_new wr _) (by simp) (by intro c fz e1; simp at e1); have hsz2 := hbel2.size; have e0 := cell_at hblk 0; have e1 := cell_at hblk 1; have e2 := cell_at hblk 2; have e3 := cell_at hblk 3; simp only [List.getElem?_toArray, List.getElem?_cons_zero, List.getElem?_cons_succ] at e0 e1 e2 e3; simp only [World.size_alloc] at hsz2; have hmr2 := MR.others (MR.below hmr ((Below.refl _ _).alloc (Nat.le_refl _) _)) hoth2 (by decide) (by decide)) | (go_at_call 41; refine (atomsOf_any _ _ _ _ _ _ _ hmr2 hbl).mono ?_; rintro e w3 ⟨ad3, c3, rfl, hats, hoks, hb3⟩; have hoth3 := others_below (e := 9) hb3; have hblk3 := (hb3.block _ (lt_of_heap hblk)).trans hblk) | (go_at_call 40; refine (containsWide_any w3 0 ad3 c3 ((a, .slice ad a.terms.length c) :: body) (by exact hats) hoks).mono ?_; rintro e w4 ⟨rfl, hb4⟩; have hw : Ax.anyWide (((a, Value.slice ad a.terms.length c) :: body).map Prod.fst) = false := hvw; rw [hw]; have hblk4 := (hb4.block _ (lt_of_heap hblk3)).trans hblk3; have g0 := cell_at hblk4 0; simp only [List.getElem?_toArray, List.getElem?_cons_zero] at g0; have hsz4 := lt_of_heap hblk4))
              go_roundw
              case rel =>
                exact ⟨k + 1, qs', by omega, by go_num, ownsRow_below (ownsRow_below hown2 hb3) hb4, (((hbel.alloc hsz _).trans hbel2).trans (hb3.mono (by omega))).trans (hb4.mono (by have := hb3.size; omega)), by omega, HN.out⟩
              case measure => simp [intOf]; omega
    · have HE : Hid (R = none) := by
        have := HR.out
        rw [List.drop_eq_nil_of_le (by simp; omega)] at this
        exact this.symm
      go_wp2_with fail
      go_ret2
      exact ⟨hbel, .inr ⟨HE.out, rfl⟩⟩
end Go.Proofs.Ytdmicblafmhflaa
