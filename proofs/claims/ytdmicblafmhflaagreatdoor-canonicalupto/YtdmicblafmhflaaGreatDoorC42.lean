/- Least's arguments, read: rules, and a script's steps. -/
import Derived.Test.YtdmicblafmhflaaGreatDoorC41
import Derived.ChangeSame
import Derived.ChangeSlices
import Derived.Deep.Strs
import Derived.Deep.Slices
import Derived.Deep.Matrix
import Derived.Test.YtdmicblafmhflaaGreatDoorC39
import Derived.Test.YtdmicblafmhflaaGreatDoorC19
import Derived.Test.YtdmicblafmhflaaGreatDoorC14
import Derived.Lib.SliceRun
import Derived.OwnWalk
import Derived.Deep.RegionHeld3
import Derived.Shelf.SlLaysNS
import Derived.Shelf.SlicesG.CompactS
import Derived.Shelf.Spec.SearchS
set_option linter.unusedSimpArgs false
set_option linter.unusedVariables false
namespace Go.Proofs.YtdmicblafmhflaaGreatDoor
open Go.ChangeShapes Go.WideShapes Go.RowKit Go.Deep
theorem Tryz.cellsInt : Tryz.prog.cellsOf 3 = 1 := by kernel_rfl
theorem Tryz.cellsKAtom : Tryz.prog.cellsOf 91 = 3 := by kernel_rfl
theorem Tryz.cellsKRule : Tryz.prog.cellsOf 94 = 4 := by kernel_rfl
theorem Tryz.cellsKAtoms : Tryz.prog.cellsOf 92 = 1 := by kernel_rfl
theorem Tryz.cellsKStep : Tryz.prog.cellsOf 33 = 2 := by kernel_rfl
theorem Tryz.cellsInts : Tryz.prog.cellsOf 31 = 1 := by kernel_rfl
theorem fit_of_wf {n : Int} (h : (Lit.int .i64 n).wf = true) : Fit64 n := by
 simp [Lit.wf, IntKind.min, IntKind.max, IntKind.signed, IntKind.bits] at h
 unfold Fit64
 omega
theorem list3 {α : Type} {l : List α} (h : l.length = 3) : ∃ a b c, l = [a, b, c] := by
 match l, h with
 | [a, b, c], _ => exact ⟨a, b, c, rfl⟩
theorem list4 {α : Type} {l : List α} (h : l.length = 4) : ∃ a b c d, l = [a, b, c, d] := by
 match l, h with
 | [a, b, c, d], _ => exact ⟨a, b, c, d, rfl⟩
section
variable {H : Type} {enc : TypeId × Value → H} {W : World} {held : Bool}
theorem rows_of {α : Type} (d : α) {t e : TypeId} {sz : Nat} {fuel : Nat} {cs : List Value} {x : DataW H × List MemPlace} (ht : Tryz.prog.underlying t = some (.slice e)) (hce : Tryz.prog.cellsOf e = sz) (hpos : 0 < sz)
 (h : DataW.trod enc Tryz.prog W 0 (fun _ => true) held fuel t cs = some x) (Q : List Value → α → Prop) (hQ : ∀ n cs' y, DataW.trod enc Tryz.prog W 0 (fun _ => true) held n e cs' = some y → ∃ a, Q cs' a) :
 ∃ ad len cap, ∃ l : List α, cs = [.slice ad len cap] ∧ l.length = len ∧ len ≤ cap ∧ cap ≤ maxLen ∧ (ad = none → len = 0) ∧
  ∀ k (hk : k < l.length), ∃ g o, ad = some ⟨g, o, none⟩ ∧ ∃ cs', cs'.length = sz ∧ (∀ j, j < sz → W.cell? ⟨g, o + k * sz + j, none⟩ = cs'[j]?) ∧ Q cs' l[k] := by
 rcases open_slice ht h with ⟨rfl, _⟩ | ⟨a, len, cap, m, n, D, Pl, rfl, _, hl, hm, hmm, _, hall⟩
 · exact ⟨none, 0, 0, [], rfl, rfl, Nat.le_refl _, Nat.zero_le _, fun _ => rfl, fun k hk => absurd hk (Nat.not_lt_zero _)⟩
 · simp only [if_true] at hmm
   subst hmm
   rw [hce] at hall
   have hinh : Inhabited α := ⟨d⟩
   obtain ⟨f, hf⟩ := choose_lt (α := α) (n := len) (p := fun i y => ∃ cs', W.cells? 0 (a.add (i * sz)) sz = some cs' ∧ Q cs' y) (fun i hi => by
    obtain ⟨cs', h1, h2⟩ := hall i (by omega)
    obtain ⟨y, hy⟩ := hQ _ _ _ h2
    exact ⟨y, cs', h1, hy⟩)
   refine ⟨some a, len, m, (List.range len).map f, rfl, by simp, hl, hm, (fun e => by cases e), ?_⟩
   intro k hk
   have hk' : k < len := by simpa using hk
   obtain ⟨g, o, sp⟩ := a
   have hsp : sp = none := by
    obtain ⟨cs', h1, _⟩ := hf 0 (by omega)
    obtain ⟨_, hlen, hc⟩ := World.cells?_some h1
    have := hc 0 hpos
    rw [List.getElem?_eq_getElem (by omega)] at this
    simpa [Addr.add] using World.cell?_spot this
   subst hsp
   refine ⟨g, o, rfl, ?_⟩
   obtain ⟨cs', h1, h2⟩ := hf k hk'
   obtain ⟨_, hlen, hc⟩ := World.cells?_some h1
   refine ⟨cs', hlen, fun j hj => ?_, by simpa using h2⟩
   rw [← hc j hj, Addr.add_lit, Addr.add_lit]
theorem int_of {n : Nat} {cs : List Value} {y : DataW H × List MemPlace} (h : DataW.trod enc Tryz.prog W 0 (fun _ => true) held n 3 cs = some y) : ∃ z : Int, cs = [.int .i64 z] ∧ Fit64 z := by
 obtain ⟨z, e, _, hw⟩ := DataW.trod_int Tryz.underlying3 h
 exact ⟨z, e, fit_of_wf hw⟩
theorem atom_of {n : Nat} {cs : List Value} {y : DataW H × List MemPlace} (h : DataW.trod enc Tryz.prog W 0 (fun _ => true) held n 91 cs = some y) :
 ∃ a : Ax.KAtom, cs = [.int .i64 a.pred, .int .i64 a.a, .int .i64 a.b] ∧ Fit64 a.pred ∧ Fit64 a.a ∧ Fit64 a.b := by
 obtain ⟨y0, y1, y2, m, _, hl, t0, t1, t2⟩ := trod_struct3 Tryz.underlying91 h
 rw [Tryz.cellsKAtom] at hl
 obtain ⟨c0, c1, c2, rfl⟩ := list3 hl
 rw [Tryz.cellsInt] at t0 t1 t2
 obtain ⟨z0, e0, f0⟩ := int_of t0
 obtain ⟨z1, e1, f1⟩ := int_of t1
 obtain ⟨z2, e2, f2⟩ := int_of t2
 clear t0 t1 t2 h hl
 have k0 : c0 = .int .i64 z0 := by simpa using e0
 have k1 : c1 = .int .i64 z1 := by simpa using e1
 have k2 : c2 = .int .i64 z2 := by simpa using e2
 clear e0 e1 e2
 subst k0 k1 k2
 exact ⟨⟨z0, z1, z2⟩, rfl, f0, f1, f2⟩
theorem atomAt_of {g o : Nat} {cs : List Value} {a : Ax.KAtom} (hc : ∀ j, j < 3 → W.cell? ⟨g, o + j, none⟩ = cs[j]?) (h : cs = [.int .i64 a.pred, .int .i64 a.a, .int .i64 a.b]) (f0 : Fit64 a.pred) (f1 : Fit64 a.a) (f2 : Fit64 a.b) : AtomAt W g o a := by
 subst h
 exact ⟨hc 0 (by decide), hc 1 (by decide), hc 2 (by decide), f0, f1, f2⟩
theorem body_at {n : Nat} {cs : List Value} {y : DataW H × List MemPlace} (h : DataW.trod enc Tryz.prog W 0 (fun _ => true) held n 92 cs = some y) : ∃ ad len cap, ∃ l : List Ax.KAtom, cs = [.slice ad len cap] ∧ BodyAt W ad len cap l := by
 obtain ⟨ad, len, cap, l, e, h1, h2, h3, h4, h5⟩ := rows_of (⟨0, 0, 0⟩ : Ax.KAtom) Tryz.underlying92 Tryz.cellsKAtom (by decide) h (fun cs a => cs = [.int .i64 a.pred, .int .i64 a.a, .int .i64 a.b] ∧ Fit64 a.pred ∧ Fit64 a.a ∧ Fit64 a.b) (fun _ _ _ hy => atom_of hy)
 refine ⟨ad, len, cap, l, e, h1, h2, h3, h4, fun k hk => ?_⟩
 obtain ⟨g, o, ea, cs', _, hc, q1, q2, q3, q4⟩ := h5 k hk
 exact ⟨g, o, ea, atomAt_of hc q1 q2 q3 q4⟩
theorem ints_at {n : Nat} {cs : List Value} {y : DataW H × List MemPlace} (h : DataW.trod enc Tryz.prog W 0 (fun _ => true) held n 31 cs = some y) : ∃ ad len cap, ∃ l : List Int, cs = [.slice ad len cap] ∧ IntsA W ad len cap l := by
 obtain ⟨ad, len, cap, l, e, h1, h2, h3, _, h5⟩ := rows_of (0 : Int) Tryz.underlying31 Tryz.cellsInt (by decide) h (fun cs z => cs = [.int .i64 z] ∧ Fit64 z) (fun _ _ _ hy => int_of hy)
 refine ⟨ad, len, cap, l, e, h1, h2, h3, fun k hk => ?_⟩
 obtain ⟨g, o, ea, cs', _, hc, q1, q2⟩ := h5 k hk
 refine ⟨g, o, ea, ?_, q2⟩
 have := hc 0 (by decide)
 rw [q1] at this
 simpa using this
theorem rule_of {n : Nat} {cs : List Value} {y : DataW H × List MemPlace} (h : DataW.trod enc Tryz.prog W 0 (fun _ => true) held n 94 cs = some y) :
 ∃ r : Ax.KRule, ∃ bd bn bc, cs = [.int .i64 r.head.pred, .int .i64 r.head.a, .int .i64 r.head.b, .slice bd bn bc] ∧ (Fit64 r.head.pred ∧ Fit64 r.head.a ∧ Fit64 r.head.b) ∧ BodyAt W bd bn bc r.body := by
 obtain ⟨y0, y1, m, _, hl, t0, t1⟩ := trod_struct2 Tryz.underlying94 h
 rw [Tryz.cellsKRule] at hl
 obtain ⟨c0, c1, c2, c3, rfl⟩ := list4 hl
 rw [Tryz.cellsKAtom] at t0
 rw [Tryz.cellsKAtoms] at t1
 obtain ⟨a, ea, fa⟩ := atom_of t0
 obtain ⟨bd, bn, bc, l, el, hB⟩ := body_at t1
 clear t0 t1 h hl
 have ka : c0 = .int .i64 a.pred ∧ c1 = .int .i64 a.a ∧ c2 = .int .i64 a.b := by simpa using ea
 have kl : c3 = .slice bd bn bc := by simpa using el
 clear ea el
 obtain ⟨rfl, rfl, rfl⟩ := ka
 subst kl
 exact ⟨⟨a, l⟩, bd, bn, bc, rfl, fa, hB⟩
theorem rules_at {n : Nat} {cs : List Value} {y : DataW H × List MemPlace} (h : DataW.trod enc Tryz.prog W 0 (fun _ => true) held n 25 cs = some y) : ∃ ad len cap, ∃ l : List Ax.KRule, cs = [.slice ad len cap] ∧ RulesAt W ad len cap l := by
 obtain ⟨ad, len, cap, l, e, h1, h2, h3, _, h5⟩ := rows_of (⟨⟨0, 0, 0⟩, []⟩ : Ax.KRule) Tryz.underlying25 Tryz.cellsKRule (by decide) h (fun cs r => ∃ bd bn bc, cs = [.int .i64 r.head.pred, .int .i64 r.head.a, .int .i64 r.head.b, .slice bd bn bc] ∧ (Fit64 r.head.pred ∧ Fit64 r.head.a ∧ Fit64 r.head.b) ∧ BodyAt W bd bn bc r.body) (fun _ _ _ hy => rule_of hy)
 refine ⟨ad, len, cap, l, e, h1, h2, h3, fun k hk => ?_⟩
 obtain ⟨g, o, ea, cs', _, hc, bd, bn, bc, q1, ⟨q2, q3, q4⟩, q5⟩ := h5 k hk
 subst q1
 exact ⟨g, o, ea, ⟨hc 0 (by decide), hc 1 (by decide), hc 2 (by decide), q2, q3, q4⟩, bd, bn, bc, hc 3 (by decide), q5⟩
theorem list2 {α : Type} {l : List α} (h : l.length = 2) : ∃ a b, l = [a, b] := by
 match l, h with
 | [a, b], _ => exact ⟨a, b, rfl⟩
theorem step_of {n : Nat} {cs : List Value} {y : DataW H × List MemPlace} (h : DataW.trod enc Tryz.prog W 0 (fun _ => true) held n 33 cs = some y) :
 ∃ x : List Int × List Int, ∃ a1 n1 c1 a2 n2 c2, cs = [.slice a1 n1 c1, .slice a2 n2 c2] ∧ IntsA W a1 n1 c1 x.1 ∧ IntsA W a2 n2 c2 x.2 := by
 obtain ⟨y0, y1, m, _, hl, t0, t1⟩ := trod_struct2 Tryz.underlying33 h
 rw [Tryz.cellsKStep] at hl
 obtain ⟨c0, c1, rfl⟩ := list2 hl
 rw [Tryz.cellsInts] at t0 t1
 obtain ⟨a1, n1, k1, l1, e1, i1⟩ := ints_at t0
 obtain ⟨a2, n2, k2, l2, e2, i2⟩ := ints_at t1
 clear t0 t1 h hl
 have ka : c0 = .slice a1 n1 k1 := by simpa using e1
 have kb : c1 = .slice a2 n2 k2 := by simpa using e2
 subst ka kb
 exact ⟨(l1, l2), a1, n1, k1, a2, n2, k2, rfl, i1, i2⟩
theorem steps_at {n : Nat} {cs : List Value} {y : DataW H × List MemPlace} (h : DataW.trod enc Tryz.prog W 0 (fun _ => true) held n 26 cs = some y) : ∃ ad len cap, ∃ l : List (List Int × List Int), cs = [.slice ad len cap] ∧ StepsA W ad len cap l := by
 obtain ⟨ad, len, cap, l, e, h1, h2, h3, _, h5⟩ := rows_of (([], []) : List Int × List Int) Tryz.underlying26 Tryz.cellsKStep (by decide) h (fun cs x => ∃ a1 n1 c1 a2 n2 c2, cs = [.slice a1 n1 c1, .slice a2 n2 c2] ∧ IntsA W a1 n1 c1 x.1 ∧ IntsA W a2 n2 c2 x.2) (fun _ _ _ hy => step_of hy)
 refine ⟨ad, len, cap, l, e, h1, h2, h3, fun k hk => ?_⟩
 obtain ⟨g, o, ea, cs', _, hc, a1, n1, c1, a2, n2, c2, q1, i1, i2⟩ := h5 k hk
 subst q1
 exact ⟨g, o, ea, a1, n1, c1, a2, n2, c2, hc 0 (by decide), hc 1 (by decide), i1, i2⟩
theorem slice_data {n : Nat} {t e : TypeId} {ad : Option Addr} {len cap : Nat} {y : DataW H × List MemPlace} (ht : Tryz.prog.underlying t = some (.slice e)) (h : DataW.trod enc Tryz.prog W 0 (fun _ => true) held n t [.slice ad len cap] = some y) : len = 0 ∨ ∃ es sp, y.1 = .slice es sp ∧ es.length = len := by
 rcases DataW.trod_slice ht h with ⟨h1, _⟩ | ⟨a, l', c', el, rs, m, _, h1, hx, _, _, _, hel, _⟩
 · left
   simp at h1
   exact h1.2.1
 · right
   simp at h1
   refine ⟨el.map (·.1), rs.map (·.1), by rw [hx], ?_⟩
   rw [List.length_map, hel]
   exact h1.2.1.symm
end
end Go.Proofs.YtdmicblafmhflaaGreatDoor
/- Engine.All; what of an engine's predicate is listed. -/
namespace Go.Proofs.YtdmicblafmhflaaGreatDoor
open Go.RowKit Go.Maps Go.WideMaps Go.WideElems
def holdP (H : Nat → Bool) (p : ByteArray) : List Nat := (List.range 36).filter fun i => H i && decide ((dat i).1 = p)
theorem mem_holdP {H : Nat → Bool} {p : ByteArray} {i : Nat} : i ∈ holdP H p ↔ i < 36 ∧ H i = true ∧ (dat i).1 = p := by
 simp [holdP, and_assoc]
structure Lst (H : Nat → Bool) (p : ByteArray) (js : List Nat) : Prop where
 mem : ∀ j, j ∈ js ↔ j < 36 ∧ H j = true ∧ (dat j).1 = p
 ord : js.Pairwise fun a b => Tb.rcmp (Tb.row3 (dat a).2) (Tb.row3 (dat b).2) < 0
theorem row3_take {j : Nat} (hj : j < 36) : (Tb.row3 (dat j).2).take (dat j).2.length = (dat j).2 := by
 have key : ∀ p x y, (Tb.row3 (fdat p x y).2).take (fdat p x y).2.length = (fdat p x y).2 := by
  intro p x y
  unfold fdat
  split <;> rfl
 unfold dat
 split
 · exact key _ _ _
 · split <;> exact key _ _ _
theorem lst_of {H : Nat → Bool} {p : ByteArray} {pl : Nat} (hp : (p, pl) ∈ gPr) : ∀ (L : List (List ByteArray)), (∀ r, r ∈ L → ∃ j, j < 36 ∧ H j = true ∧ (p, r) = En.uF j) → ∃ js : List Nat, L = js.map (fun j => Tb.row3 (dat j).2) ∧ L.map (fun r => (p, r.take pl)) = js.map dat ∧ ∀ j, j ∈ js → j < 36 ∧ H j = true ∧ (dat j).1 = p
 | [], _ => ⟨[], rfl, rfl, by simp⟩
 | r :: L, h => by
  obtain ⟨js, e1, e2, e3⟩ := lst_of hp L (fun x hx => h x (by simp [hx]))
  obtain ⟨j, hj, hH, e⟩ := h r (by simp)
  rw [uF_dat] at e
  have ep : p = (dat j).1 := congrArg Prod.fst e
  have er : r = Tb.row3 (dat j).2 := congrArg Prod.snd e
  have hpl : pl = (dat j).2.length := gPr_pl (p := p) hp (by rw [ep]; exact dat_pr hj)
  refine ⟨j :: js, by rw [List.map_cons, ← e1, er], ?_, ?_⟩
  · rw [List.map_cons, List.map_cons, e2, er, hpl, row3_take hj, ep]
  · intro i hi
    rcases List.mem_cons.1 hi with rfl | hi
    · exact ⟨hj, hH, ep.symm⟩
    · exact e3 i hi
end Go.Proofs.YtdmicblafmhflaaGreatDoor
/- What an engine's predicate lists, as a list that the rules and the given facts settle. -/
namespace Go.Proofs.YtdmicblafmhflaaGreatDoor
theorem pw_ext {α : Type} {R : α → α → Prop} (asy : ∀ a b, R a b → ¬ R b a) : ∀ (l1 l2 : List α), l1.Pairwise R → l2.Pairwise R → (∀ x, x ∈ l1 ↔ x ∈ l2) → l1 = l2
 | [], [], _, _, _ => rfl
 | [], b :: l2, _, _, h => absurd ((h b).2 (by simp)) (by simp)
 | a :: l1, [], _, _, h => absurd ((h a).1 (by simp)) (by simp)
 | a :: l1, b :: l2, h1, h2, h => by
  rw [List.pairwise_cons] at h1 h2
  have e : a = b := by
   rcases List.mem_cons.1 ((h a).1 (by simp)) with e | ha
   · exact e
   · rcases List.mem_cons.1 ((h b).2 (by simp)) with e | hb
     · exact e.symm
     · exact absurd (h2.1 a ha) (asy _ _ (h1.1 b hb))
  subst e
  have hi : ∀ x, R a x → x ≠ a := fun x hx e => by
   subst e
   exact asy _ _ hx hx
  rw [pw_ext asy l1 l2 h1.2 h2.2 (fun x => ⟨fun hx => ?_, fun hx => ?_⟩)]
  · rcases List.mem_cons.1 ((h x).1 (by simp [hx])) with e | h9
    · exact absurd e (hi x (h1.1 x hx))
    · exact h9
  · rcases List.mem_cons.1 ((h x).2 (by simp [hx])) with e | h9
    · exact absurd e (hi x (h2.1 x hx))
    · exact h9
theorem dat_ord : ∀ i, i < 36 → ∀ j, j < 36 → i < j → (dat i).1 = (dat j).1 → Tb.rcmp (Tb.row3 (dat i).2) (Tb.row3 (dat j).2) < 0 := by
 decide +kernel
theorem holdP_ord (H : Nat → Bool) (p : ByteArray) : (holdP H p).Pairwise fun a b => Tb.rcmp (Tb.row3 (dat a).2) (Tb.row3 (dat b).2) < 0 := by
 have h : (holdP H p).Pairwise fun a b => a < b := List.Pairwise.filter _ List.pairwise_lt_range
 refine List.Pairwise.imp_of_mem ?_ h
 intro a b ha hb hab
 have h1 := mem_holdP.1 ha
 have h2 := mem_holdP.1 hb
 exact dat_ord a h1.1 b h2.1 hab (h1.2.2.trans h2.2.2.symm)
theorem Lst.eq {H : Nat → Bool} {p : ByteArray} {js : List Nat} (h : Lst H p js) : js = holdP H p :=
 pw_ext (fun a b h1 h2 => by have h3 := Tb.rcmp_trans h1 h2; rw [Tb.rcmp_irr] at h3; omega) _ _ h.ord (holdP_ord H p) (fun x => (h.mem x).trans mem_holdP.symm)
end Go.Proofs.YtdmicblafmhflaaGreatDoor
/- axiomkeep.run: an engine behind a script. -/
namespace Go.Proofs.YtdmicblafmhflaaGreatDoor
open Go.RowKit Go.Maps
set_option maxRecDepth 100000 in
set_option maxHeartbeats 4000000 in
theorem run_any (K : Nat → Int) (w : World) (ad : Option Addr) (m c : Nat) (kl : List Ax.KRule) (hR : RulesAt w ad m c kl) (sd : Option Addr) (sn sc : Nat) (sl : List (List Int × List Int)) (hS : StepsA w sd sn sc sl) (hs : sl.length ≤ 2000000) (hK : Dg.Tab w K) (hU : UTabs w) :
 Calls Tryz.prog 22 #[.slice ad m c, .slice sd sn sc] w fun e w' => ∃ sb eg, e = .returned (.pointer (some ⟨sb, 0, none⟩)) ∧ ShW w.heap.size w' sb eg (.slice ad (min m 6) c) kl (gvAll sl) (gvAll sl) sl.length ∧ Below w.heap.size w w' := by
 have hln := hS.len
 subst hln
 have hcap := hS.cap
 have hmx : sc ≤ 9223372036854775807 := hS.max
 have HSH : Hid (Calls Tryz.prog 13 #[.slice ad m c] w fun e w' => ∃ sb eg, e = .returned (.pointer (some ⟨sb, 0, none⟩)) ∧ Hid (ShW w.heap.size w' sb eg (.slice ad (min m 6) c) kl (gvAll (sl.take 0)) (gvAll (sl.take 0)) 0 ∧ Below w.heap.size w w')) := (shop_any K w ad m c kl hR hK).mono (fun e w' ⟨sb, eg, a, b⟩ => ⟨sb, eg, a, b⟩)
 have HAP : Hid (∀ W sb eg gv n k (hk : k < sl.length) g o, n ≤ 2000000 → sd = some ⟨g, o, none⟩ → ShW w.heap.size W sb eg (.slice ad (min m 6) c) kl gv gv n → Below w.heap.size w W → ∃ a1 n1 c1 a2 n2 c2, W.cell? ⟨g, o + k * 2, none⟩ = some (.slice a1 n1 c1) ∧ W.cell? ⟨g, o + k * 2 + 1, none⟩ = some (.slice a2 n2 c2) ∧ Calls Tryz.prog 15 #[.pointer (some ⟨sb, 0, none⟩), .agg #[.slice a1 n1 c1, .slice a2 n2 c2]] W fun e w' => e = .returned (.bool true) ∧ ShW w.heap.size w' sb eg (.slice ad (min m 6) c) kl (gvStep gv sl[k]) (gvStep gv sl[k]) (n + 1) ∧ Below w.heap.size w w') := by
  intro W sb eg gv n k hk g o hn hsd hW hb
  obtain ⟨g', o', e, a1, n1, c1, a2, n2, c2, q1, q2, i1, i2⟩ := hS.at_ k hk
  rw [hsd] at e
  simp only [Option.some.injEq, Addr.mk.injEq, and_true] at e
  obtain ⟨rfl, rfl⟩ := e
  have hbb : ∀ W', Below w.heap.size W W' → Below w.heap.size w W' := fun W' h => hb.trans h
  refine ⟨a1, n1, c1, a2, n2, c2, cell_below hb q1, cell_below hb q2, ?_⟩
  refine (kapply_any K w.heap.size W sb eg _ kl gv n hW hn (fun W' h => ⟨hK.below (hbb W' h), Utf8Tabs_below hU (hbb W' h)⟩) a1 n1 c1 _ (fun W' h _ => i1.below (hbb W' h)) (fun g o e hl => by have := i1.lt g o e hl; have := hW.le; omega) a2 n2 c2 _ (fun W' h _ => i2.below (hbb W' h)) (fun g o e hl => by have := i2.lt g o e hl; have := hW.le; omega)).mono ?_
  rintro e w' ⟨rfl, r1, r2, _⟩
  exact ⟨rfl, r1, hb.trans r2⟩
 have HSD : Hid (∀ k, k < sl.length → ∃ g o, sd = some ⟨g, o, none⟩) := fun k hk => by
  obtain ⟨g, o, e, _⟩ := hS.at_ k hk
  exact ⟨g, o, e⟩
 clear hR hS hK hU
 go_enter Tryz.func22, Tryz.ntmps22
 go_wp2_with (go_at_call 13; refine HSH.out.mono ?_; rintro e w1 ⟨sb, eg, rfl, HS1⟩)
 clear HSH
 go_loopw [6] (fun i wr => ∃ (k : Nat), k ≤ sl.length ∧ i = .int .i64 k ∧ ShW w.heap.size wr sb eg (.slice ad (min m 6) c) kl (gvAll (sl.take k)) (gvAll (sl.take k)) k ∧ Below w.heap.size w wr) (fun i _ => sl.length - (intOf i).toNat)
 case atStart => exact ⟨0, Nat.zero_le _, rfl, HS1.out.1, HS1.out.2⟩
 case round =>
  obtain ⟨k, hk, rfl, hW, hb⟩ := hrel
  clear HS1
  by_cases hlt : k < sl.length
  · have hdk : decide ((k : Int) < (sl.length : Int)) = true := decide_eq_true (by omega)
    obtain ⟨g, o, had⟩ := HSD.out k hlt
    obtain ⟨a1, n1, c1, a2, n2, c2, q1, q2, hap⟩ := HAP.out wr sb eg _ k k hlt g o (by omega) had hW hb
    have HNX : Hid (gvAll (sl.take (k + 1)) = gvStep (gvAll (sl.take k)) sl[k]) := by
     have e0 : sl.take (k + 1) = sl.take k ++ [sl[k]] := by rw [List.take_add_one, List.getElem?_eq_getElem hlt]; rfl
     have e1 : gvAll (sl.take (k + 1)) = gvStep (gvAll (sl.take k)) sl[k] := by rw [e0, gvAll_snoc]
     exact e1
    rw [← HNX.out] at hap
    have HAK : Hid _ := hap
    subst had
    clear hap hW hb HAP
    go_wp2_with (go_at_call 15; refine (show Calls Tryz.prog 15 _ _ _ from HAK.out).mono ?_; rintro e w5 ⟨rfl, hS5, hB5⟩)
    go_roundw
    case rel => exact ⟨k + 1, hlt, by go_num, hS5, hB5⟩
    case measure => simp [intOf]; omega
  · have hdk : decide ((k : Int) < (sl.length : Int)) = false := decide_eq_false (by omega)
    have e9 : k = sl.length := by omega
    have HW : Hid (ShW w.heap.size wr sb eg (.slice ad (min m 6) c) kl (gvAll sl) (gvAll sl) sl.length ∧ Below w.heap.size w wr) := by
     rw [e9, List.take_length] at hW
     exact ⟨hW, hb⟩
    clear hW hb HAP HSD e9
    go_wp2_with fail
    all_goals
     (go_ret
      exact ⟨sb, eg, rfl, HW.out⟩)
end Go.Proofs.YtdmicblafmhflaaGreatDoor
/- axiomkeep.alike: two engines with the same rules and the same given facts tell the same. -/
namespace Go.Proofs.YtdmicblafmhflaaGreatDoor
open Go.RowKit Go.Maps
theorem trCells_3 (kl : List Ax.KRule) (gv : Nat → Bool) : ∀ (n k : Nat), k < n → (trCells kl gv n)[k * 3]? = some (.bool (gv k)) ∧ (trCells kl gv n)[k * 3 + 1]? = some (.bool (En.leastN (En.nRules kl) gv k)) ∧ (trCells kl gv n)[k * 3 + 2]? = some (.int .i64 (cnN kl gv k : Nat))
 | 0, k, h => by omega
 | n + 1, k, h => by
  have hl : ∀ n, (trCells kl gv n).length = n * 3 := by
   intro n
   induction n with
   | zero => rfl
   | succ n ih => rw [trCells_succ, List.length_append, ih]; simp; omega
  rw [trCells_succ]
  by_cases h9 : k < n
  · obtain ⟨a, b, c⟩ := trCells_3 kl gv n k h9
    rw [List.getElem?_append_left (by rw [hl]; omega), List.getElem?_append_left (by rw [hl]; omega), List.getElem?_append_left (by rw [hl]; omega)]
    exact ⟨a, b, c⟩
  · have e : k = n := by omega
    subst e
    rw [List.getElem?_append_right (by rw [hl]; omega), List.getElem?_append_right (by rw [hl]; omega), List.getElem?_append_right (by rw [hl]; omega), hl]
    refine ⟨by simp, ?_, ?_⟩
    · rw [show k * 3 + 1 - k * 3 = 1 by omega]; rfl
    · rw [show k * 3 + 2 - k * 3 = 2 by omega]; rfl
set_option maxRecDepth 100000 in
set_option maxHeartbeats 4000000 in
theorem alike_any (w : World) (B sb eg : Nat) (rv : Value) (B2 sb2 eg2 : Nat) (rv2 : Value) (kl : List Ax.KRule) (gv : Nat → Bool) (n n2 : Nat) (hS : ShopIs w sb eg rv gv) (hE : Eng w B eg kl gv n) (hS2 : ShopIs w sb2 eg2 rv2 gv) (hE2 : Eng w B2 eg2 kl gv n2) (hg : GvOk gv) (hU : UTabs w) :
 Calls Tryz.prog 26 #[.pointer (some ⟨sb, 0, none⟩), .pointer (some ⟨sb2, 0, none⟩)] w fun e w' => e = .returned (.bool true) ∧ Below w.heap.size w w' := by
 have HT1 : Hid (Calls Tryz.prog 36 #[.pointer (some ⟨sb, 0, none⟩)] w fun e w' => ∃ od oc, e = .returned (.tuple #[.slice od 36 oc, .bool true]) ∧ Hid (w'.ownsRow w.heap.size 52 3 (.slice od 36 oc) 36 (trCells kl gv 36) ∧ Below w.heap.size w w')) := (truths_any w B sb eg rv kl gv n hS hE hg hU).mono (fun e w' ⟨od, oc, a, b⟩ => ⟨od, oc, a, b⟩)
 have HT2 : Hid (∀ W, Below w.heap.size w W → Calls Tryz.prog 36 #[.pointer (some ⟨sb2, 0, none⟩)] W fun e w' => ∃ od oc, e = .returned (.tuple #[.slice od 36 oc, .bool true]) ∧ Hid (w'.ownsRow W.heap.size 52 3 (.slice od 36 oc) 36 (trCells kl gv 36) ∧ Below W.heap.size W w')) := fun W hW => (truths_any W B2 sb2 eg2 rv2 kl gv n2 (hS2.below hW) (hE2.below hW) hg (Utf8Tabs_below hU hW)).mono (fun e w' ⟨od, oc, a, b⟩ => ⟨od, oc, a, b⟩)
 clear hS hE hS2 hE2 hg hU
 go_enter Tryz.func26, Tryz.ntmps26
 go_upto_region 2 with (go_at_call 36; refine HT1.out.mono ?_; rintro e w1 ⟨ad, ac, rfl, H1⟩)
 go_wp2_with (go_at_call 36; refine (HT2.out _ H1.out.2).mono ?_; rintro e w2 ⟨bd, bc, rfl, H2⟩)
 have HB : Hid (Below w.heap.size w w2) := H1.out.2.trans (H2.out.2.mono H1.out.2.size)
 have HR1 : Hid (w2.ownsRow w.heap.size 52 3 (.slice ad 36 ac) 36 (trCells kl gv 36)) := ownsRow_below H1.out.1 H2.out.2
 have HR2 : Hid (w2.ownsRow w1.heap.size 52 3 (.slice bd 36 bc) 36 (trCells kl gv 36)) := H2.out.1
 obtain ⟨g, rfl, hgl, hcc, hcs⟩ := row_cells HR1.out (by omega)
 obtain ⟨g2, rfl, hgl2, hcc2, hcs2⟩ := row_cells HR2.out (by omega)
 have HC : Hid (∀ k, k < 36 → ∀ W, Below w2.heap.size w2 W → W.cell? ⟨g, k * 3, none⟩ = some (.bool (gv k)) ∧ W.cell? ⟨g, k * 3 + 1, none⟩ = some (.bool (En.leastN (En.nRules kl) gv k)) ∧ W.cell? ⟨g, k * 3 + 2, none⟩ = some (.int .i64 (cnN kl gv k : Nat)) ∧ W.cell? ⟨g2, k * 3, none⟩ = some (.bool (gv k)) ∧ W.cell? ⟨g2, k * 3 + 1, none⟩ = some (.bool (En.leastN (En.nRules kl) gv k)) ∧ W.cell? ⟨g2, k * 3 + 2, none⟩ = some (.int .i64 (cnN kl gv k : Nat))) := by
  intro k hk W hW
  obtain ⟨q1, q2, q3⟩ := trCells_3 kl gv 36 k hk
  exact ⟨cell_below hW (hcs _ _ q1), cell_below hW (hcs _ _ q2), cell_below hW (hcs _ _ q3), cell_below hW (hcs2 _ _ q1), cell_below hW (hcs2 _ _ q2), cell_below hW (hcs2 _ _ q3)⟩
 clear HT1 HT2 H1 H2 HR1 HR2 hcs hcs2
 go_wp2_with fail
 go_loopw [9] (fun i wr => ∃ (k : Nat), k ≤ 36 ∧ i = .int .i64 k ∧ Below w2.heap.size w2 wr) (fun i _ => 36 - (intOf i).toNat)
 case atStart => exact ⟨0, by omega, rfl, Below.refl _ _⟩
 case round =>
  obtain ⟨k, hk, rfl, hb⟩ := hrel
  have HBK : Hid (Below w2.heap.size w2 wr) := hb
  by_cases hlt : k < 36
  · have hdk : decide ((k : Int) < 36) = true := decide_eq_true (by omega)
    obtain ⟨c0, c1, c2, c3, c4, c5⟩ := HC.out k hlt wr hb
    have b1 : (0 : Int) ≤ (k : Int) := by omega
    have b2 : (k : Int) < 36 := by omega
    clear hb
    generalize En.leastN (En.nRules kl) gv k = hk1 at *
    generalize cnN kl gv k = ck1 at *
    generalize gv k = gk1 at *
    go_upto_region 8 with fail
    go_quiet (fail)
    obtain ⟨w9, hw9⟩ : ∃ w9, w9 = wr.drewN nq := ⟨_, rfl⟩
    have b9 : Below wr.heap.size wr w9 := by rw [hw9]; exact ⟨rfl, rfl, rfl, Nat.le_refl _, fun _ _ => rfl⟩
    have HB9 : Hid (Below w2.heap.size w2 w9) := HBK.out.trans (b9.mono HBK.out.size)
    rw [← hw9]
    clear hw9 b9
    go_wp2_with fail
    all_goals
     (go_roundw
      case rel => exact ⟨k + 1, by omega, by go_num, HB9.out⟩
      case measure => (simp [intOf]; omega))
  · have hdk : decide ((k : Int) < 36) = false := decide_eq_false (by omega)
    clear hb
    go_wp2_with fail
    all_goals
     (go_ret
      exact ⟨rfl, HB.out.trans (HBK.out.mono HB.out.size)⟩)
end Go.Proofs.YtdmicblafmhflaaGreatDoor
/- slices.Sort, slices.Compact, slices.BinarySearch at strings, as the shelf lays them. -/
namespace Go.Proofs.YtdmicblafmhflaaGreatDoor
open Go.Shelf Go.RowKit
set_option maxRecDepth 100000
def sortSRen : Ren := ⟨fun | 54 => 134 | 61 => 202 | 64 => 191 | 65 => 201 | 69 => 256 | 78 => 241 | 79 => 242 | 89 => 268 | 90 => 269 | 80 => 248 | 81 => 249 | 82 => 250 | 83 => 251 | 84 => 252 | 85 => 253 | 86 => 254 | 87 => 255 | 93 => 274 | 94 => 275 | 95 => 276 | 97 => 290 | n => n, fun | 0 => 0 | 3 => 3 | 4 => 4 | 5 => 5 | 9 => 9 | 25 => 46 | 26 => 9 | 44 => 129 | 51 => 246 | 60 => 372 | 61 => 373 | 67 => 228 | 69 => 285 | 75 => 396 | 79 => 400 | 83 => 422 | 84 => 288 | n => n, fun n => n⟩
theorem sortSLaid : SlLaysN.n54 Tryz.prog sortSRen where
 mixed := by kernel_rfl
 f54 := ⟨(Tryz.f134).name, by kernel_rfl, Tryz.func134.trans (congrArg some (by kernel_rfl))⟩
 f61 := ⟨(Tryz.f202).name, by kernel_rfl, Tryz.func202.trans (congrArg some (by kernel_rfl))⟩
 f64 := Tryz.func191.trans (congrArg some (by kernel_rfl))
 f65 := ⟨(Tryz.f201).name, by kernel_rfl, Tryz.func201.trans (congrArg some (by kernel_rfl))⟩
 f69 := ⟨(Tryz.f256).name, by kernel_rfl, Tryz.func256.trans (congrArg some (by kernel_rfl))⟩
 f78 := Tryz.func241.trans (congrArg some (by kernel_rfl))
 f79 := Tryz.func242.trans (congrArg some (by kernel_rfl))
 f80 := ⟨(Tryz.f248).name, by kernel_rfl, Tryz.func248.trans (congrArg some (by kernel_rfl))⟩
 f81 := ⟨(Tryz.f249).name, by kernel_rfl, Tryz.func249.trans (congrArg some (by kernel_rfl))⟩
 f82 := ⟨(Tryz.f250).name, by kernel_rfl, Tryz.func250.trans (congrArg some (by kernel_rfl))⟩
 f83 := ⟨(Tryz.f251).name, by kernel_rfl, Tryz.func251.trans (congrArg some (by kernel_rfl))⟩
 f84 := ⟨(Tryz.f252).name, by kernel_rfl, Tryz.func252.trans (congrArg some (by kernel_rfl))⟩
 f85 := ⟨(Tryz.f253).name, by kernel_rfl, Tryz.func253.trans (congrArg some (by kernel_rfl))⟩
 f86 := ⟨(Tryz.f254).name, by kernel_rfl, Tryz.func254.trans (congrArg some (by kernel_rfl))⟩
 f87 := ⟨(Tryz.f255).name, by kernel_rfl, Tryz.func255.trans (congrArg some (by kernel_rfl))⟩
 f89 := Tryz.func268.trans (congrArg some (by kernel_rfl))
 f90 := Tryz.func269.trans (congrArg some (by kernel_rfl))
 f93 := ⟨(Tryz.f274).name, by kernel_rfl, Tryz.func274.trans (congrArg some (by kernel_rfl))⟩
 f94 := ⟨(Tryz.f275).name, by kernel_rfl, Tryz.func275.trans (congrArg some (by kernel_rfl))⟩
 f95 := ⟨(Tryz.f276).name, by kernel_rfl, Tryz.func276.trans (congrArg some (by kernel_rfl))⟩
 f97 := ⟨(Tryz.f290).name, by kernel_rfl, Tryz.func290.trans (congrArg some (by kernel_rfl))⟩
 t0 := Tryz.underlying0
 a0 := Tryz.isAgg0
 z0 := Tryz.sizeOf0
 v0 := Tryz.zeroValue0
 t3 := Tryz.underlying3
 a3 := Tryz.isAgg3
 z3 := Tryz.sizeOf3
 v3 := Tryz.zeroValue3
 t4 := Tryz.underlying4
 a4 := Tryz.isAgg4
 z4 := Tryz.sizeOf4
 v4 := Tryz.zeroValue4
 t5 := Tryz.underlying5
 a5 := Tryz.isAgg5
 z5 := Tryz.sizeOf5
 v5 := Tryz.zeroValue5
 t9 := Tryz.underlying9
 a9 := Tryz.isAgg9
 z9 := Tryz.sizeOf9
 v9 := Tryz.zeroValue9
 t25 := Tryz.underlying46
 a25 := Tryz.isAgg46
 z25 := Tryz.sizeOf46
 v25 := Tryz.zeroValue46
 t26 := Tryz.underlying9
 a26 := Tryz.isAgg9
 z26 := Tryz.sizeOf9
 v26 := Tryz.zeroValue9
 t44 := Tryz.underlying129
 a44 := Tryz.isAgg129
 z44 := Tryz.sizeOf129
 v44 := Tryz.zeroValue129
 t51 := Tryz.underlying246
 a51 := Tryz.isAgg246
 z51 := Tryz.sizeOf246
 v51 := Tryz.zeroValue246
 t60 := Tryz.underlying372
 a60 := Tryz.isAgg372
 z60 := Tryz.sizeOf372
 v60 := Tryz.zeroValue372
 t61 := Tryz.underlying373
 a61 := Tryz.isAgg373
 z61 := Tryz.sizeOf373
 v61 := Tryz.zeroValue373
 t67 := Tryz.underlying228
 a67 := Tryz.isAgg228
 z67 := Tryz.sizeOf228
 v67 := Tryz.zeroValue228
 t69 := Tryz.underlying285
 a69 := Tryz.isAgg285
 z69 := Tryz.sizeOf285
 v69 := Tryz.zeroValue285
 t75 := Tryz.underlying396
 a75 := Tryz.isAgg396
 z75 := Tryz.sizeOf396
 v75 := Tryz.zeroValue396
 t79 := Tryz.underlying400
 a79 := Tryz.isAgg400
 z79 := Tryz.sizeOf400
 v79 := Tryz.zeroValue400
 t83 := Tryz.underlying422
 a83 := Tryz.isAgg422
 z83 := Tryz.sizeOf422
 v83 := Tryz.zeroValue422
 t84 := Tryz.underlying288
 a84 := Tryz.isAgg288
 z84 := Tryz.sizeOf288
 v84 := Tryz.zeroValue288
def compSRen : Ren := ⟨fun | 44 => 135 | n => n, fun | 0 => 0 | 3 => 3 | 4 => 4 | 25 => 46 | 26 => 9 | n => n, fun n => n⟩
theorem compSLaid : SlLaysN.n44 Tryz.prog compSRen where
 mixed := by kernel_rfl
 f44 := ⟨(Tryz.f135).name, by kernel_rfl, Tryz.func135.trans (congrArg some (by kernel_rfl))⟩
 t0 := Tryz.underlying0
 a0 := Tryz.isAgg0
 z0 := Tryz.sizeOf0
 v0 := Tryz.zeroValue0
 t3 := Tryz.underlying3
 a3 := Tryz.isAgg3
 z3 := Tryz.sizeOf3
 v3 := Tryz.zeroValue3
 t4 := Tryz.underlying4
 a4 := Tryz.isAgg4
 z4 := Tryz.sizeOf4
 v4 := Tryz.zeroValue4
 t25 := Tryz.underlying46
 a25 := Tryz.isAgg46
 z25 := Tryz.sizeOf46
 v25 := Tryz.zeroValue46
 t26 := Tryz.underlying9
 a26 := Tryz.isAgg9
 z26 := Tryz.sizeOf9
 v26 := Tryz.zeroValue9
 i26 := by kernel_rfl
def bsSRen : Ren := ⟨fun | 26 => 138 | 33 => 202 | 34 => 203 | 38 => 256 | n => n, fun | 0 => 0 | 3 => 3 | 4 => 4 | 9 => 9 | 24 => 46 | 40 => 246 | n => n, fun n => n⟩
theorem bsSLaid : Lays2.n26 Tryz.prog bsSRen where
 mixed := by kernel_rfl
 f26 := Tryz.func138.trans (congrArg some (by kernel_rfl))
 f33 := Tryz.func202.trans (congrArg some (by kernel_rfl))
 f34 := Tryz.func203.trans (congrArg some (by kernel_rfl))
 f38 := Tryz.func256.trans (congrArg some (by kernel_rfl))
 t0 := Tryz.underlying0
 a0 := Tryz.isAgg0
 z0 := Tryz.sizeOf0
 v0 := Tryz.zeroValue0
 t3 := Tryz.underlying3
 a3 := Tryz.isAgg3
 z3 := Tryz.sizeOf3
 v3 := Tryz.zeroValue3
 t4 := Tryz.underlying4
 a4 := Tryz.isAgg4
 z4 := Tryz.sizeOf4
 v4 := Tryz.zeroValue4
 t9 := Tryz.underlying9
 a9 := Tryz.isAgg9
 z9 := Tryz.sizeOf9
 v9 := Tryz.zeroValue9
 t24 := Tryz.underlying46
 a24 := Tryz.isAgg46
 z24 := Tryz.sizeOf46
 v24 := Tryz.zeroValue46
 t40 := Tryz.underlying246
 a40 := Tryz.isAgg246
 z40 := Tryz.sizeOf246
 v40 := Tryz.zeroValue246
end Go.Proofs.YtdmicblafmhflaaGreatDoor
/- state.flag; the place of a name in a sorted list. -/
namespace Go.Proofs.YtdmicblafmhflaaGreatDoor
open Go.Shelf Go.RowKit
set_option maxRecDepth 100000 in
theorem flag_any (b : Bool) (w : World) : Calls Tryz.prog 137 #[.bool b] w fun e w' => e = .returned (.int .i64 (if b = true then 1 else 0)) ∧ w' = w := by
 go_enter Tryz.func137, Tryz.ntmps137
 cases b
 · go_wp2_with fail
   all_goals
    (go_ret
     exact ⟨rfl, rfl⟩)
 · go_wp2_with fail
   all_goals
    (go_ret
     exact ⟨rfl, rfl⟩)
theorem bs_any (w : World) (B : Nat) (d : Option Addr) (n c : Nat) (l : List ByteArray) (x : ByteArray) (k : Nat) (hown : w.ownsRow B 9 1 (.slice d n c) n (strCells l)) (hl : l.length = n) (hs : l.Pairwise fun a b => a.toList < b.toList) (hk : l[k]? = some x) (hn : n ≤ 1000000000) :
 Calls Tryz.prog 138 #[.slice d n c, .string x] w fun e w' => e = .returned (.tuple #[.int .i64 k, .bool true]) ∧ Below w.heap.size w w' := by
 obtain ⟨hkl, hkx⟩ := List.getElem?_eq_some_iff.1 hk
 obtain ⟨g, rfl, hgl, hcc, hcs⟩ := row_cells hown (by omega)
 have hc : ∀ j, j < n → w.cell? ⟨g, 0 + j, none⟩ = some (.string ((fun t => if h : t < l.length then l[t] else x) j)) := by
  intro j hj
  have hjl : j < l.length := by omega
  have h9 := hcs j (.string l[j]) (by simp [strCells, List.getElem?_eq_getElem hjl])
  simpa [hjl] using h9
 have hg : Lib.bsGo (fun t => Op.bytesLess ((fun t => if h : t < l.length then l[t] else x) t).toList x.toList) n 0 n = k := by
  refine Lib.bsGo_spec _ k ?_ ?_ n 0 n (by omega) (by omega) (by omega)
  · intro t ht
    have htl : t < l.length := by omega
    simp only [htl, dif_pos]
    rw [bytesLess_eq, ← hkx]
    exact decide_eq_true (List.pairwise_iff_getElem.1 hs t k htl hkl ht)
  · intro t ht
    rw [bytesLess_eq]
    refine decide_eq_false ?_
    by_cases htl : t < l.length
    · simp only [htl, dif_pos]
      rw [← hkx]
      by_cases e : k = t
      · subst e
        exact List.lt_irrefl _
      · exact List.lt_asymm (List.pairwise_iff_getElem.1 hs k t hkl htl (by omega))
    · simp only [htl, dif_neg, not_false_eq_true]
      exact List.lt_irrefl _
 have h := Any2.slices_BinarySearch_string bsSLaid g 0 n c (fun t => if h : t < l.length then l[t] else x) x w (by omega) hc
 rw [hg] at h
 refine Calls.mono h ?_
 rintro e w' ⟨rfl, q, rfl⟩
 refine ⟨?_, ⟨rfl, rfl, rfl, Nat.le_refl _, fun _ _ => rfl⟩⟩
 have : k < n := by omega
 simp [this, hkl, hkx]
end Go.Proofs.YtdmicblafmhflaaGreatDoor
