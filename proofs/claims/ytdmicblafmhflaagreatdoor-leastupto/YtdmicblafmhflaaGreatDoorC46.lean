/- Least's arguments, read: rules, and a script's steps. -/
import Derived.Test.YtdmicblafmhflaaGreatDoorC45
import Derived.ChangeSame
import Derived.ChangeSlices
import Derived.Deep.Strs
import Derived.Deep.Slices
import Derived.Deep.Matrix

namespace Go.Proofs.YtdmicblafmhflaaGreatDoor
set_option linter.unusedSimpArgs false
set_option linter.unusedVariables false
open Go.ChangeShapes Go.WideShapes Go.RowKit Go.Deep
theorem Tryz.cellsInt : Tryz.prog.cellsOf 3 = 1 := by kernel_rfl
theorem Tryz.cellsKAtom : Tryz.prog.cellsOf 91 = 3 := by kernel_rfl
theorem Tryz.cellsKRule : Tryz.prog.cellsOf 94 = 4 := by kernel_rfl
theorem Tryz.cellsKAtoms : Tryz.prog.cellsOf 92 = 1 := by kernel_rfl
theorem Tryz.cellsKStep : Tryz.prog.cellsOf 33 = 2 := by kernel_rfl
theorem Tryz.cellsInts : Tryz.prog.cellsOf 31 = 1 := by kernel_rfl
theorem fit_of_wf {n : Int} (h : (Lit.int .i64 n).wf = true) : Fit64 n := by
  simp [Lit.wf, IntKind.min, IntKind.max, IntKind.signed, IntKind.bits] at h
  unfold Fit64
  omega
theorem list3 {α : Type} {l : List α} (h : l.length = 3) : ∃ a b c, l = [a, b, c] := by
  match l, h with
  | [a, b, c], _ => exact ⟨a, b, c, rfl⟩
theorem list4 {α : Type} {l : List α} (h : l.length = 4) : ∃ a b c d, l = [a, b, c, d] := by
  match l, h with
  | [a, b, c, d], _ => exact ⟨a, b, c, d, rfl⟩
section
variable {H : Type} {enc : TypeId × Value → H} {W : World} {held : Bool}
theorem rows_of {α : Type} (d : α) {t e : TypeId} {sz : Nat} {fuel : Nat} {cs : List Value} {x : DataW H × List MemPlace} (ht : Tryz.prog.underlying t = some (.slice e)) (hce : Tryz.prog.cellsOf e = sz) (hpos : 0 < sz)
    (h : DataW.trod enc Tryz.prog W 0 (fun _ => true) held fuel t cs = some x) (Q : List Value → α → Prop) (hQ : ∀ n cs' y, DataW.trod enc Tryz.prog W 0 (fun _ => true) held n e cs' = some y → ∃ a, Q cs' a) :
    ∃ ad len cap, ∃ l : List α, cs = [.slice ad len cap] ∧ l.length = len ∧ len ≤ cap ∧ cap ≤ maxLen ∧ (ad = none → len = 0) ∧
      ∀ k (hk : k < l.length), ∃ g o, ad = some ⟨g, o, none⟩ ∧ ∃ cs', cs'.length = sz ∧ (∀ j, j < sz → W.cell? ⟨g, o + k * sz + j, none⟩ = cs'[j]?) ∧ Q cs' l[k] := by
  rcases open_slice ht h with ⟨rfl, _⟩ | ⟨a, len, cap, m, n, D, Pl, rfl, _, hl, hm, hmm, _, hall⟩
  · exact ⟨none, 0, 0, [], rfl, rfl, Nat.le_refl _, Nat.zero_le _, fun _ => rfl, fun k hk => absurd hk (Nat.not_lt_zero _)⟩
  · simp only [if_true] at hmm
    subst hmm
    rw [hce] at hall
    have hinh : Inhabited α := ⟨d⟩
    obtain ⟨f, hf⟩ := choose_lt (α := α) (n := len) (p := fun i y => ∃ cs', W.cells? 0 (a.add (i * sz)) sz = some cs' ∧ Q cs' y) (fun i hi => by
      obtain ⟨cs', h1, h2⟩ := hall i (by omega)
      obtain ⟨y, hy⟩ := hQ _ _ _ h2
      exact ⟨y, cs', h1, hy⟩)
    refine ⟨some a, len, m, (List.range len).map f, rfl, by simp, hl, hm, (fun e => by cases e), ?_⟩
    intro k hk
    have hk' : k < len := by simpa using hk
    obtain ⟨g, o, sp⟩ := a
    have hsp : sp = none := by
      obtain ⟨cs', h1, _⟩ := hf 0 (by omega)
      obtain ⟨_, hlen, hc⟩ := World.cells?_some h1
      have := hc 0 hpos
      rw [List.getElem?_eq_getElem (by omega)] at this
      simpa [Addr.add] using World.cell?_spot this
    subst hsp
    refine ⟨g, o, rfl, ?_⟩
    obtain ⟨cs', h1, h2⟩ := hf k hk'
    obtain ⟨_, hlen, hc⟩ := World.cells?_some h1
    refine ⟨cs', hlen, fun j hj => ?_, by simpa using h2⟩
    rw [← hc j hj, Addr.add_lit, Addr.add_lit]
theorem int_of {n : Nat} {cs : List Value} {y : DataW H × List MemPlace} (h : DataW.trod enc Tryz.prog W 0 (fun _ => true) held n 3 cs = some y) : ∃ z : Int, cs = [.int .i64 z] ∧ Fit64 z := by
  obtain ⟨z, e, _, hw⟩ := DataW.trod_int Tryz.underlying3 h
  exact ⟨z, e, fit_of_wf hw⟩
theorem atom_of {n : Nat} {cs : List Value} {y : DataW H × List MemPlace} (h : DataW.trod enc Tryz.prog W 0 (fun _ => true) held n 91 cs = some y) :
    ∃ a : Ax.KAtom, cs = [.int .i64 a.pred, .int .i64 a.a, .int .i64 a.b] ∧ Fit64 a.pred ∧ Fit64 a.a ∧ Fit64 a.b := by
  obtain ⟨y0, y1, y2, m, _, hl, t0, t1, t2⟩ := trod_struct3 Tryz.underlying91 h
  rw [Tryz.cellsKAtom] at hl
  obtain ⟨c0, c1, c2, rfl⟩ := list3 hl
  rw [Tryz.cellsInt] at t0 t1 t2
  obtain ⟨z0, e0, f0⟩ := int_of t0
  obtain ⟨z1, e1, f1⟩ := int_of t1
  obtain ⟨z2, e2, f2⟩ := int_of t2
  clear t0 t1 t2 h hl
  have k0 : c0 = .int .i64 z0 := by simpa using e0
  have k1 : c1 = .int .i64 z1 := by simpa using e1
  have k2 : c2 = .int .i64 z2 := by simpa using e2
  clear e0 e1 e2
  subst k0 k1 k2
  exact ⟨⟨z0, z1, z2⟩, rfl, f0, f1, f2⟩
theorem atomAt_of {g o : Nat} {cs : List Value} {a : Ax.KAtom} (hc : ∀ j, j < 3 → W.cell? ⟨g, o + j, none⟩ = cs[j]?) (h : cs = [.int .i64 a.pred, .int .i64 a.a, .int .i64 a.b]) (f0 : Fit64 a.pred) (f1 : Fit64 a.a) (f2 : Fit64 a.b) : AtomAt W g o a := by
  subst h
  exact ⟨hc 0 (by decide), hc 1 (by decide), hc 2 (by decide), f0, f1, f2⟩
theorem body_at {n : Nat} {cs : List Value} {y : DataW H × List MemPlace} (h : DataW.trod enc Tryz.prog W 0 (fun _ => true) held n 92 cs = some y) : ∃ ad len cap, ∃ l : List Ax.KAtom, cs = [.slice ad len cap] ∧ BodyAt W ad len cap l := by
  obtain ⟨ad, len, cap, l, e, h1, h2, h3, h4, h5⟩ := rows_of (⟨0, 0, 0⟩ : Ax.KAtom) Tryz.underlying92 Tryz.cellsKAtom (by decide) h (fun cs a => cs = [.int .i64 a.pred, .int .i64 a.a, .int .i64 a.b] ∧ Fit64 a.pred ∧ Fit64 a.a ∧ Fit64 a.b) (fun _ _ _ hy => atom_of hy)
  refine ⟨ad, len, cap, l, e, h1, h2, h3, h4, fun k hk => ?_⟩
  obtain ⟨g, o, ea, cs', _, hc, q1, q2, q3, q4⟩ := h5 k hk
  exact ⟨g, o, ea, atomAt_of hc q1 q2 q3 q4⟩
theorem ints_at {n : Nat} {cs : List Value} {y : DataW H × List MemPlace} (h : DataW.trod enc Tryz.prog W 0 (fun _ => true) held n 31 cs = some y) : ∃ ad len cap, ∃ l : List Int, cs = [.slice ad len cap] ∧ IntsA W ad len cap l := by
  obtain ⟨ad, len, cap, l, e, h1, h2, h3, _, h5⟩ := rows_of (0 : Int) Tryz.underlying31 Tryz.cellsInt (by decide) h (fun cs z => cs = [.int .i64 z] ∧ Fit64 z) (fun _ _ _ hy => int_of hy)
  refine ⟨ad, len, cap, l, e, h1, h2, h3, fun k hk => ?_⟩
  obtain ⟨g, o, ea, cs', _, hc, q1, q2⟩ := h5 k hk
  refine ⟨g, o, ea, ?_, q2⟩
  have := hc 0 (by decide)
  rw [q1] at this
  simpa using this
theorem rule_of {n : Nat} {cs : List Value} {y : DataW H × List MemPlace} (h : DataW.trod enc Tryz.prog W 0 (fun _ => true) held n 94 cs = some y) :
    ∃ r : Ax.KRule, ∃ bd bn bc, cs = [.int .i64 r.head.pred, .int .i64 r.head.a, .int .i64 r.head.b, .slice bd bn bc] ∧ (Fit64 r.head.pred ∧ Fit64 r.head.a ∧ Fit64 r.head.b) ∧ BodyAt W bd bn bc r.body := by
  obtain ⟨y0, y1, m, _, hl, t0, t1⟩ := trod_struct2 Tryz.underlying94 h
  rw [Tryz.cellsKRule] at hl
  obtain ⟨c0, c1, c2, c3, rfl⟩ := list4 hl
  rw [Tryz.cellsKAtom] at t0
  rw [Tryz.cellsKAtoms] at t1
  obtain ⟨a, ea, fa⟩ := atom_of t0
  obtain ⟨bd, bn, bc, l, el, hB⟩ := body_at t1
  clear t0 t1 h hl
  have ka : c0 = .int .i64 a.pred ∧ c1 = .int .i64 a.a ∧ c2 = .int .i64 a.b := by simpa using ea
  have kl : c3 = .slice bd bn bc := by simpa using el
  clear ea el
  obtain ⟨rfl, rfl, rfl⟩ := ka
  subst kl
  exact ⟨⟨a, l⟩, bd, bn, bc, rfl, fa, hB⟩
theorem rules_at {n : Nat} {cs : List Value} {y : DataW H × List MemPlace} (h : DataW.trod enc Tryz.prog W 0 (fun _ => true) held n 25 cs = some y) : ∃ ad len cap, ∃ l : List Ax.KRule, cs = [.slice ad len cap] ∧ RulesAt W ad len cap l := by
  obtain ⟨ad, len, cap, l, e, h1, h2, h3, _, h5⟩ := rows_of (⟨⟨0, 0, 0⟩, []⟩ : Ax.KRule) Tryz.underlying25 Tryz.cellsKRule (by decide) h (fun cs r => ∃ bd bn bc, cs = [.int .i64 r.head.pred, .int .i64 r.head.a, .int .i64 r.head.b, .slice bd bn bc] ∧ (Fit64 r.head.pred ∧ Fit64 r.head.a ∧ Fit64 r.head.b) ∧ BodyAt W bd bn bc r.body) (fun _ _ _ hy => rule_of hy)
  refine ⟨ad, len, cap, l, e, h1, h2, h3, fun k hk => ?_⟩
  obtain ⟨g, o, ea, cs', _, hc, bd, bn, bc, q1, ⟨q2, q3, q4⟩, q5⟩ := h5 k hk
  subst q1
  exact ⟨g, o, ea, ⟨hc 0 (by decide), hc 1 (by decide), hc 2 (by decide), q2, q3, q4⟩, bd, bn, bc, hc 3 (by decide), q5⟩
theorem list2 {α : Type} {l : List α} (h : l.length = 2) : ∃ a b, l = [a, b] := by
  match l, h with
  | [a, b], _ => exact ⟨a, b, rfl⟩
theorem step_of {n : Nat} {cs : List Value} {y : DataW H × List MemPlace} (h : DataW.trod enc Tryz.prog W 0 (fun _ => true) held n 33 cs = some y) :
    ∃ x : List Int × List Int, ∃ a1 n1 c1 a2 n2 c2, cs = [.slice a1 n1 c1, .slice a2 n2 c2] ∧ IntsA W a1 n1 c1 x.1 ∧ IntsA W a2 n2 c2 x.2 := by
  obtain ⟨y0, y1, m, _, hl, t0, t1⟩ := trod_struct2 Tryz.underlying33 h
  rw [Tryz.cellsKStep] at hl
  obtain ⟨c0, c1, rfl⟩ := list2 hl
  rw [Tryz.cellsInts] at t0 t1
  obtain ⟨a1, n1, k1, l1, e1, i1⟩ := ints_at t0
  obtain ⟨a2, n2, k2, l2, e2, i2⟩ := ints_at t1
  clear t0 t1 h hl
  have ka : c0 = .slice a1 n1 k1 := by simpa using e1
  have kb : c1 = .slice a2 n2 k2 := by simpa using e2
  subst ka kb
  exact ⟨(l1, l2), a1, n1, k1, a2, n2, k2, rfl, i1, i2⟩
theorem steps_at {n : Nat} {cs : List Value} {y : DataW H × List MemPlace} (h : DataW.trod enc Tryz.prog W 0 (fun _ => true) held n 26 cs = some y) : ∃ ad len cap, ∃ l : List (List Int × List Int), cs = [.slice ad len cap] ∧ StepsA W ad len cap l := by
  obtain ⟨ad, len, cap, l, e, h1, h2, h3, _, h5⟩ := rows_of (([], []) : List Int × List Int) Tryz.underlying26 Tryz.cellsKStep (by decide) h (fun cs x => ∃ a1 n1 c1 a2 n2 c2, cs = [.slice a1 n1 c1, .slice a2 n2 c2] ∧ IntsA W a1 n1 c1 x.1 ∧ IntsA W a2 n2 c2 x.2) (fun _ _ _ hy => step_of hy)
  refine ⟨ad, len, cap, l, e, h1, h2, h3, fun k hk => ?_⟩
  obtain ⟨g, o, ea, cs', _, hc, a1, n1, c1, a2, n2, c2, q1, i1, i2⟩ := h5 k hk
  subst q1
  exact ⟨g, o, ea, a1, n1, c1, a2, n2, c2, hc 0 (by decide), hc 1 (by decide), i1, i2⟩
/-- as many elements as the slice is long -/
theorem slice_data {n : Nat} {t e : TypeId} {ad : Option Addr} {len cap : Nat} {y : DataW H × List MemPlace} (ht : Tryz.prog.underlying t = some (.slice e)) (h : DataW.trod enc Tryz.prog W 0 (fun _ => true) held n t [.slice ad len cap] = some y) : len = 0 ∨ ∃ es sp, y.1 = .slice es sp ∧ es.length = len := by
  rcases DataW.trod_slice ht h with ⟨h1, _⟩ | ⟨a, l', c', el, rs, m, _, h1, hx, _, _, _, hel, _⟩
  · left
    simp at h1
    exact h1.2.1
  · right
    simp at h1
    refine ⟨el.map (·.1), rs.map (·.1), by rw [hx], ?_⟩
    rw [List.length_map, hel]
    exact h1.2.1.symm
end
end Go.Proofs.YtdmicblafmhflaaGreatDoor
