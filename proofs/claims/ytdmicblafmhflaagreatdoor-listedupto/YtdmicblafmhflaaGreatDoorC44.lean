/- Least's arguments, read: rules, and a script's steps. -/
import Derived.Test.YtdmicblafmhflaaGreatDoorC43
import Derived.ChangeSame
import Derived.ChangeSlices
import Derived.Deep.Strs
import Derived.Deep.Slices
import Derived.Deep.Matrix
import Derived.Test.YtdmicblafmhflaaGreatDoorC21
import Derived.Test.YtdmicblafmhflaaGreatDoorC16
import Derived.Test.YtdmicblafmhflaaGreatDoorC42
import Derived.Lib.SliceRun
import Derived.OwnWalk
import Derived.Deep.RegionHeld3
set_option linter.unusedSimpArgs false
set_option linter.unusedVariables false
namespace Go.Proofs.YtdmicblafmhflaaGreatDoor
open Go.ChangeShapes Go.WideShapes Go.RowKit Go.Deep
theorem Tryz.cellsInt : Tryz.prog.cellsOf 3 = 1 := by kernel_rfl
theorem Tryz.cellsKAtom : Tryz.prog.cellsOf 91 = 3 := by kernel_rfl
theorem Tryz.cellsKRule : Tryz.prog.cellsOf 94 = 4 := by kernel_rfl
theorem Tryz.cellsKAtoms : Tryz.prog.cellsOf 92 = 1 := by kernel_rfl
theorem Tryz.cellsKStep : Tryz.prog.cellsOf 33 = 2 := by kernel_rfl
theorem Tryz.cellsInts : Tryz.prog.cellsOf 31 = 1 := by kernel_rfl
theorem fit_of_wf {n : Int} (h : (Lit.int .i64 n).wf = true) : Fit64 n := by
 simp [Lit.wf, IntKind.min, IntKind.max, IntKind.signed, IntKind.bits] at h
 unfold Fit64
 omega
theorem list3 {α : Type} {l : List α} (h : l.length = 3) : ∃ a b c, l = [a, b, c] := by
 match l, h with
 | [a, b, c], _ => exact ⟨a, b, c, rfl⟩
theorem list4 {α : Type} {l : List α} (h : l.length = 4) : ∃ a b c d, l = [a, b, c, d] := by
 match l, h with
 | [a, b, c, d], _ => exact ⟨a, b, c, d, rfl⟩
section
variable {H : Type} {enc : TypeId × Value → H} {W : World} {held : Bool}
theorem rows_of {α : Type} (d : α) {t e : TypeId} {sz : Nat} {fuel : Nat} {cs : List Value} {x : DataW H × List MemPlace} (ht : Tryz.prog.underlying t = some (.slice e)) (hce : Tryz.prog.cellsOf e = sz) (hpos : 0 < sz)
 (h : DataW.trod enc Tryz.prog W 0 (fun _ => true) held fuel t cs = some x) (Q : List Value → α → Prop) (hQ : ∀ n cs' y, DataW.trod enc Tryz.prog W 0 (fun _ => true) held n e cs' = some y → ∃ a, Q cs' a) :
 ∃ ad len cap, ∃ l : List α, cs = [.slice ad len cap] ∧ l.length = len ∧ len ≤ cap ∧ cap ≤ maxLen ∧ (ad = none → len = 0) ∧
  ∀ k (hk : k < l.length), ∃ g o, ad = some ⟨g, o, none⟩ ∧ ∃ cs', cs'.length = sz ∧ (∀ j, j < sz → W.cell? ⟨g, o + k * sz + j, none⟩ = cs'[j]?) ∧ Q cs' l[k] := by
 rcases open_slice ht h with ⟨rfl, _⟩ | ⟨a, len, cap, m, n, D, Pl, rfl, _, hl, hm, hmm, _, hall⟩
 · exact ⟨none, 0, 0, [], rfl, rfl, Nat.le_refl _, Nat.zero_le _, fun _ => rfl, fun k hk => absurd hk (Nat.not_lt_zero _)⟩
 · simp only [if_true] at hmm
   subst hmm
   rw [hce] at hall
   have hinh : Inhabited α := ⟨d⟩
   obtain ⟨f, hf⟩ := choose_lt (α := α) (n := len) (p := fun i y => ∃ cs', W.cells? 0 (a.add (i * sz)) sz = some cs' ∧ Q cs' y) (fun i hi => by
    obtain ⟨cs', h1, h2⟩ := hall i (by omega)
    obtain ⟨y, hy⟩ := hQ _ _ _ h2
    exact ⟨y, cs', h1, hy⟩)
   refine ⟨some a, len, m, (List.range len).map f, rfl, by simp, hl, hm, (fun e => by cases e), ?_⟩
   intro k hk
   have hk' : k < len := by simpa using hk
   obtain ⟨g, o, sp⟩ := a
   have hsp : sp = none := by
    obtain ⟨cs', h1, _⟩ := hf 0 (by omega)
    obtain ⟨_, hlen, hc⟩ := World.cells?_some h1
    have := hc 0 hpos
    rw [List.getElem?_eq_getElem (by omega)] at this
    simpa [Addr.add] using World.cell?_spot this
   subst hsp
   refine ⟨g, o, rfl, ?_⟩
   obtain ⟨cs', h1, h2⟩ := hf k hk'
   obtain ⟨_, hlen, hc⟩ := World.cells?_some h1
   refine ⟨cs', hlen, fun j hj => ?_, by simpa using h2⟩
   rw [← hc j hj, Addr.add_lit, Addr.add_lit]
theorem int_of {n : Nat} {cs : List Value} {y : DataW H × List MemPlace} (h : DataW.trod enc Tryz.prog W 0 (fun _ => true) held n 3 cs = some y) : ∃ z : Int, cs = [.int .i64 z] ∧ Fit64 z := by
 obtain ⟨z, e, _, hw⟩ := DataW.trod_int Tryz.underlying3 h
 exact ⟨z, e, fit_of_wf hw⟩
theorem atom_of {n : Nat} {cs : List Value} {y : DataW H × List MemPlace} (h : DataW.trod enc Tryz.prog W 0 (fun _ => true) held n 91 cs = some y) :
 ∃ a : Ax.KAtom, cs = [.int .i64 a.pred, .int .i64 a.a, .int .i64 a.b] ∧ Fit64 a.pred ∧ Fit64 a.a ∧ Fit64 a.b := by
 obtain ⟨y0, y1, y2, m, _, hl, t0, t1, t2⟩ := trod_struct3 Tryz.underlying91 h
 rw [Tryz.cellsKAtom] at hl
 obtain ⟨c0, c1, c2, rfl⟩ := list3 hl
 rw [Tryz.cellsInt] at t0 t1 t2
 obtain ⟨z0, e0, f0⟩ := int_of t0
 obtain ⟨z1, e1, f1⟩ := int_of t1
 obtain ⟨z2, e2, f2⟩ := int_of t2
 clear t0 t1 t2 h hl
 have k0 : c0 = .int .i64 z0 := by simpa using e0
 have k1 : c1 = .int .i64 z1 := by simpa using e1
 have k2 : c2 = .int .i64 z2 := by simpa using e2
 clear e0 e1 e2
 subst k0 k1 k2
 exact ⟨⟨z0, z1, z2⟩, rfl, f0, f1, f2⟩
theorem atomAt_of {g o : Nat} {cs : List Value} {a : Ax.KAtom} (hc : ∀ j, j < 3 → W.cell? ⟨g, o + j, none⟩ = cs[j]?) (h : cs = [.int .i64 a.pred, .int .i64 a.a, .int .i64 a.b]) (f0 : Fit64 a.pred) (f1 : Fit64 a.a) (f2 : Fit64 a.b) : AtomAt W g o a := by
 subst h
 exact ⟨hc 0 (by decide), hc 1 (by decide), hc 2 (by decide), f0, f1, f2⟩
theorem body_at {n : Nat} {cs : List Value} {y : DataW H × List MemPlace} (h : DataW.trod enc Tryz.prog W 0 (fun _ => true) held n 92 cs = some y) : ∃ ad len cap, ∃ l : List Ax.KAtom, cs = [.slice ad len cap] ∧ BodyAt W ad len cap l := by
 obtain ⟨ad, len, cap, l, e, h1, h2, h3, h4, h5⟩ := rows_of (⟨0, 0, 0⟩ : Ax.KAtom) Tryz.underlying92 Tryz.cellsKAtom (by decide) h (fun cs a => cs = [.int .i64 a.pred, .int .i64 a.a, .int .i64 a.b] ∧ Fit64 a.pred ∧ Fit64 a.a ∧ Fit64 a.b) (fun _ _ _ hy => atom_of hy)
 refine ⟨ad, len, cap, l, e, h1, h2, h3, h4, fun k hk => ?_⟩
 obtain ⟨g, o, ea, cs', _, hc, q1, q2, q3, q4⟩ := h5 k hk
 exact ⟨g, o, ea, atomAt_of hc q1 q2 q3 q4⟩
theorem ints_at {n : Nat} {cs : List Value} {y : DataW H × List MemPlace} (h : DataW.trod enc Tryz.prog W 0 (fun _ => true) held n 31 cs = some y) : ∃ ad len cap, ∃ l : List Int, cs = [.slice ad len cap] ∧ IntsA W ad len cap l := by
 obtain ⟨ad, len, cap, l, e, h1, h2, h3, _, h5⟩ := rows_of (0 : Int) Tryz.underlying31 Tryz.cellsInt (by decide) h (fun cs z => cs = [.int .i64 z] ∧ Fit64 z) (fun _ _ _ hy => int_of hy)
 refine ⟨ad, len, cap, l, e, h1, h2, h3, fun k hk => ?_⟩
 obtain ⟨g, o, ea, cs', _, hc, q1, q2⟩ := h5 k hk
 refine ⟨g, o, ea, ?_, q2⟩
 have := hc 0 (by decide)
 rw [q1] at this
 simpa using this
theorem rule_of {n : Nat} {cs : List Value} {y : DataW H × List MemPlace} (h : DataW.trod enc Tryz.prog W 0 (fun _ => true) held n 94 cs = some y) :
 ∃ r : Ax.KRule, ∃ bd bn bc, cs = [.int .i64 r.head.pred, .int .i64 r.head.a, .int .i64 r.head.b, .slice bd bn bc] ∧ (Fit64 r.head.pred ∧ Fit64 r.head.a ∧ Fit64 r.head.b) ∧ BodyAt W bd bn bc r.body := by
 obtain ⟨y0, y1, m, _, hl, t0, t1⟩ := trod_struct2 Tryz.underlying94 h
 rw [Tryz.cellsKRule] at hl
 obtain ⟨c0, c1, c2, c3, rfl⟩ := list4 hl
 rw [Tryz.cellsKAtom] at t0
 rw [Tryz.cellsKAtoms] at t1
 obtain ⟨a, ea, fa⟩ := atom_of t0
 obtain ⟨bd, bn, bc, l, el, hB⟩ := body_at t1
 clear t0 t1 h hl
 have ka : c0 = .int .i64 a.pred ∧ c1 = .int .i64 a.a ∧ c2 = .int .i64 a.b := by simpa using ea
 have kl : c3 = .slice bd bn bc := by simpa using el
 clear ea el
 obtain ⟨rfl, rfl, rfl⟩ := ka
 subst kl
 exact ⟨⟨a, l⟩, bd, bn, bc, rfl, fa, hB⟩
theorem rules_at {n : Nat} {cs : List Value} {y : DataW H × List MemPlace} (h : DataW.trod enc Tryz.prog W 0 (fun _ => true) held n 25 cs = some y) : ∃ ad len cap, ∃ l : List Ax.KRule, cs = [.slice ad len cap] ∧ RulesAt W ad len cap l := by
 obtain ⟨ad, len, cap, l, e, h1, h2, h3, _, h5⟩ := rows_of (⟨⟨0, 0, 0⟩, []⟩ : Ax.KRule) Tryz.underlying25 Tryz.cellsKRule (by decide) h (fun cs r => ∃ bd bn bc, cs = [.int .i64 r.head.pred, .int .i64 r.head.a, .int .i64 r.head.b, .slice bd bn bc] ∧ (Fit64 r.head.pred ∧ Fit64 r.head.a ∧ Fit64 r.head.b) ∧ BodyAt W bd bn bc r.body) (fun _ _ _ hy => rule_of hy)
 refine ⟨ad, len, cap, l, e, h1, h2, h3, fun k hk => ?_⟩
 obtain ⟨g, o, ea, cs', _, hc, bd, bn, bc, q1, ⟨q2, q3, q4⟩, q5⟩ := h5 k hk
 subst q1
 exact ⟨g, o, ea, ⟨hc 0 (by decide), hc 1 (by decide), hc 2 (by decide), q2, q3, q4⟩, bd, bn, bc, hc 3 (by decide), q5⟩
theorem list2 {α : Type} {l : List α} (h : l.length = 2) : ∃ a b, l = [a, b] := by
 match l, h with
 | [a, b], _ => exact ⟨a, b, rfl⟩
theorem step_of {n : Nat} {cs : List Value} {y : DataW H × List MemPlace} (h : DataW.trod enc Tryz.prog W 0 (fun _ => true) held n 33 cs = some y) :
 ∃ x : List Int × List Int, ∃ a1 n1 c1 a2 n2 c2, cs = [.slice a1 n1 c1, .slice a2 n2 c2] ∧ IntsA W a1 n1 c1 x.1 ∧ IntsA W a2 n2 c2 x.2 := by
 obtain ⟨y0, y1, m, _, hl, t0, t1⟩ := trod_struct2 Tryz.underlying33 h
 rw [Tryz.cellsKStep] at hl
 obtain ⟨c0, c1, rfl⟩ := list2 hl
 rw [Tryz.cellsInts] at t0 t1
 obtain ⟨a1, n1, k1, l1, e1, i1⟩ := ints_at t0
 obtain ⟨a2, n2, k2, l2, e2, i2⟩ := ints_at t1
 clear t0 t1 h hl
 have ka : c0 = .slice a1 n1 k1 := by simpa using e1
 have kb : c1 = .slice a2 n2 k2 := by simpa using e2
 subst ka kb
 exact ⟨(l1, l2), a1, n1, k1, a2, n2, k2, rfl, i1, i2⟩
theorem steps_at {n : Nat} {cs : List Value} {y : DataW H × List MemPlace} (h : DataW.trod enc Tryz.prog W 0 (fun _ => true) held n 26 cs = some y) : ∃ ad len cap, ∃ l : List (List Int × List Int), cs = [.slice ad len cap] ∧ StepsA W ad len cap l := by
 obtain ⟨ad, len, cap, l, e, h1, h2, h3, _, h5⟩ := rows_of (([], []) : List Int × List Int) Tryz.underlying26 Tryz.cellsKStep (by decide) h (fun cs x => ∃ a1 n1 c1 a2 n2 c2, cs = [.slice a1 n1 c1, .slice a2 n2 c2] ∧ IntsA W a1 n1 c1 x.1 ∧ IntsA W a2 n2 c2 x.2) (fun _ _ _ hy => step_of hy)
 refine ⟨ad, len, cap, l, e, h1, h2, h3, fun k hk => ?_⟩
 obtain ⟨g, o, ea, cs', _, hc, a1, n1, c1, a2, n2, c2, q1, i1, i2⟩ := h5 k hk
 subst q1
 exact ⟨g, o, ea, a1, n1, c1, a2, n2, c2, hc 0 (by decide), hc 1 (by decide), i1, i2⟩
theorem slice_data {n : Nat} {t e : TypeId} {ad : Option Addr} {len cap : Nat} {y : DataW H × List MemPlace} (ht : Tryz.prog.underlying t = some (.slice e)) (h : DataW.trod enc Tryz.prog W 0 (fun _ => true) held n t [.slice ad len cap] = some y) : len = 0 ∨ ∃ es sp, y.1 = .slice es sp ∧ es.length = len := by
 rcases DataW.trod_slice ht h with ⟨h1, _⟩ | ⟨a, l', c', el, rs, m, _, h1, hx, _, _, _, hel, _⟩
 · left
   simp at h1
   exact h1.2.1
 · right
   simp at h1
   refine ⟨el.map (·.1), rs.map (·.1), by rw [hx], ?_⟩
   rw [List.length_map, hel]
   exact h1.2.1.symm
end
end Go.Proofs.YtdmicblafmhflaaGreatDoor
/- slices.Clone at strings; a table's Facts. -/
namespace Go.Proofs.YtdmicblafmhflaaGreatDoor
open Go.RowKit
open Go.Sort (grow)
theorem Tryz.infoStrT : (Tryz.prog.info? 9).map (fun i => (i.zero, i.size, i.bytes)) = some (some (.string ByteArray.empty), 1, 16) := by kernel_rfl
set_option maxRecDepth 100000 in
set_option maxHeartbeats 2000000 in
theorem cloneStr_any (w : World) (a : Addr) (names : List ByteArray) (c : Nat) (hc : ∀ (j : Nat) u, (strCells names)[j]? = some u → w.cell? (a.add j) = some u) (hl : names.length ≤ 3) (h0 : 0 < names.length) (hcap : names.length ≤ c) (hcm : c ≤ 1000) :
 Calls Tryz.prog 73 #[.slice (some a) names.length c] w fun e w' => ∃ rd' rc', e = .returned (.slice rd' names.length rc') ∧ w'.ownsRow w.heap.size 9 1 (.slice rd' names.length rc') names.length (strCells names) ∧ Below w.heap.size w w' := by
 obtain ⟨i0, hi0, hz0, hz1, hz2⟩ := info_parts Tryz.infoStrT
 have HI : Hid (Tryz.prog.info? 9 = some i0) := hi0
 have H0 : Hid (i0.zero = some (.string ByteArray.empty)) := hz0
 have H1 : Hid (i0.size = 1) := hz1
 have H2 : Hid (i0.bytes = 16) := hz2
 clear hi0 hz0 hz1 hz2
 have hlen : (strCells names).length = names.length * 1 := by simp [strCells]
 have hone : ∀ u ∈ strCells names, u.oneCell' = true := by
  intro u hu
  obtain ⟨x, _, rfl⟩ := List.mem_map.1 hu
  rfl
 have hnil : ∀ (w : World) (a : Option Addr) (n c : Nat), (binOp .eql 46 (.slice a n c) (.slice none 0 0)).run Tryz.prog w = .ok (.bool a.isNone) w := fun w a n c => Lib.run_eql_slice_nil w 46 9 a n c 0 0 Tryz.underlying46
 have hnews : Hid (∀ (j : Nat) u, (strCells names)[j]? = some u → (w.alloc (.cells #[] 9)).cell? (a.add j) = some u) := fun j u hj => by
  have h9 := hc j u hj
  have h8 : (w.alloc (.cells #[] 9)).cell? (a.add j) = w.cell? (a.add j) := World.cell?_alloc_lt _ _ _ (World.block_lt_of_cell? _ _ h9)
  rw [h8]
  exact h9
 have hown : (w.alloc (.cells #[] 9)).ownsRow w.heap.size 9 1 (.slice (some ⟨w.heap.size, 0, none⟩) 0 0) 0 [] := World.ownsRow_made w #[] 0 (Nat.le_refl _) (by unfold maxLen; omega) rfl
 clear hc
 generalize hX : strCells names = X at *
 generalize names.length = m at *
 go_enter Tryz.func73, Tryz.ntmps73
 go_wp2_with (at_builtin; refine wpList_append_own _ rfl (.tmp 5) (.tmp 6) 46 rfl w.heap.size 9 i0 _ 1 16 Tryz.underlying46 HI.out H0.out H1.out H2.out rfl (by decide) _ _ _ rfl hown a m c X rfl hlen hnews.out hone (by unfold maxLen; omega) (by omega) (by simp) ?_; intro v2 w2 hown2 hgrow2 _)
 go_ret
 rw [Nat.zero_add, List.nil_append] at hown2
 obtain ⟨rd', rc', rfl⟩ := ownsRow_shape hown2
 refine ⟨rd', rc', rfl, hown2, ?_⟩
 exact ((Below.refl _ _).alloc (Nat.le_refl _) _).grown hgrow2 (by simp) (fun q hq => by have hq' : some w.heap.size = some q := hq; simp only [Option.some.injEq] at hq'; omega)
end Go.Proofs.YtdmicblafmhflaaGreatDoor
/- A table's Facts, walked. -/
namespace Go.Proofs.YtdmicblafmhflaaGreatDoor
open Go.RowKit
open Go.Sort (grow)
def zFacts (n : Nat) : List Value := (List.replicate n [Value.string ByteArray.empty, .slice none 0 0]).flatten
theorem zFacts_succ (n : Nat) : zFacts (n + 1) = .string ByteArray.empty :: .slice none 0 0 :: zFacts n := by simp [zFacts, List.replicate_succ]
theorem fiCells_len (l : List FI) : (fiCells l).length = l.length * 2 := by
 induction l with
 | nil => rfl
 | cons a l ih =>
  have e : fiCells (a :: l) = .string a.pred :: a.av :: fiCells l := rfl
  rw [e]
  simp [ih]
  omega
theorem made_facts (n : Nat) : (madeCells (#[Value.string ByteArray.empty, .slice none 0 0]) (n * 2)).toList = zFacts n := by
 induction n with
 | zero => simp [madeCells, zFacts]
 | succ n ih =>
  have e1 : (madeCells (#[Value.string ByteArray.empty, .slice none 0 0]) ((n + 1) * 2)).toList = (madeCells (#[Value.string ByteArray.empty, .slice none 0 0]) (n * 2)).toList ++ [.string ByteArray.empty, .slice none 0 0] := by
   unfold madeCells
   rw [show (n + 1) * 2 = n * 2 + 1 + 1 by omega, Array.range_succ, Array.range_succ]
   simp
  rw [e1, ih]
  have e2 : ∀ m, zFacts m ++ [.string ByteArray.empty, .slice none 0 0] = zFacts (m + 1) := by
   intro m
   induction m with
   | zero => rfl
   | succ m ih2 => rw [zFacts_succ, zFacts_succ (m + 1), ← ih2]; rfl
  exact e2 n
structure FcW (w wr : World) (lb n : Nat) (D : List (ByteArray × List ByteArray)) (F : List FI) : Prop where
 blk : wr.heap[lb]? = some (.cells (fiCells F ++ zFacts (n - F.length)).toArray 48 (0, 0))
 each : ∀ f, f ∈ F → wr.ownsRow w.heap.size 9 1 f.av f.args.length (strCells f.args)
 data : F.map (fun f => (f.pred, f.args)) = D
 bel : Below w.heap.size w wr
 ge : w.heap.size ≤ lb
 le : F.length ≤ n
theorem FcW.below {w wr w' : World} {lb n : Nat} {D : List (ByteArray × List ByteArray)} {F : List FI} (h : FcW w wr lb n D F) (hb : Below wr.heap.size wr w') : FcW w w' lb n D F :=
 ⟨by rw [hb.block _ (lt_of_heap h.blk)]; exact h.blk, fun f hf => ownsRow_below (h.each f hf) hb, h.data, h.bel.trans (hb.mono h.bel.size), h.ge, h.le⟩
theorem FcW.cells {w wr : World} {lb n : Nat} {D : List (ByteArray × List ByteArray)} {F : List FI} (h : FcW w wr lb n D F) {k : Nat} (hk : F.length = k) (hlt : k < n) : wr.cell? ⟨lb, k * 2, none⟩ = some (.string ByteArray.empty) ∧ wr.cell? ⟨lb, k * 2 + 1, none⟩ = some (.slice none 0 0) ∧ (∀ o, wr.frozen? ⟨lb, o, none⟩ = false) ∧ lb < wr.heap.size := by
 have e : n - F.length = (n - F.length - 1) + 1 := by omega
 have hb := h.blk
 rw [e, zFacts_succ] at hb
 refine ⟨?_, ?_, fun o => by simp [World.frozen?, hb], lt_of_heap hb⟩
 · rw [cell_of_row _ _ _ _ _ _ hb, List.getElem?_toArray, List.getElem?_append_right (by rw [fiCells_len]; omega), fiCells_len]
   simp [hk]
 · rw [cell_of_row _ _ _ _ _ _ hb, List.getElem?_toArray, List.getElem?_append_right (by rw [fiCells_len]; omega), fiCells_len]
   have : k * 2 + 1 - F.length * 2 = 1 := by omega
   rw [this]
   rfl
theorem FcW.step {w wr : World} {lb n : Nat} {D : List (ByteArray × List ByteArray)} {F : List FI} (h : FcW w wr lb n D F) (hlt : F.length < n) (f : FI) (hf : wr.ownsRow w.heap.size 9 1 f.av f.args.length (strCells f.args)) : FcW w ((wr.setCell ⟨lb, F.length * 2, none⟩ (.string f.pred)).setCell ⟨lb, F.length * 2 + 1, none⟩ f.av) lb n (D ++ [(f.pred, f.args)]) (F ++ [f]) := by
 have hk : Kb [lb] wr ((wr.setCell ⟨lb, F.length * 2, none⟩ (.string f.pred)).setCell ⟨lb, F.length * 2 + 1, none⟩ f.av) := (Kb.setCell wr ⟨lb, F.length * 2, none⟩ _).trans (Kb.setCell _ ⟨lb, F.length * 2 + 1, none⟩ _)
 have hrow : ∀ f', wr.ownsRow w.heap.size 9 1 (FI.av f') f'.args.length (strCells f'.args) → ((wr.setCell ⟨lb, F.length * 2, none⟩ (.string f.pred)).setCell ⟨lb, F.length * 2 + 1, none⟩ f.av).ownsRow w.heap.size 9 1 f'.av f'.args.length (strCells f'.args) := fun f' h' => hk.row_type h' (fun b cur fz hb e => by
  simp at hb
  subst hb
  rw [h.blk] at e
  simp at e)
 refine ⟨?_, ?_, by rw [List.map_append, h.data]; rfl, hk.to_below h.bel h.bel.size (by simpa using h.ge), h.ge, by rw [List.length_append]; exact hlt⟩
 · have hb := h.blk
   rw [show n - F.length = (n - F.length - 1) + 1 by omega, zFacts_succ] at hb
   rw [setCell_heap _ (setCell_heap wr hb (F.length * 2) (.string f.pred)) (F.length * 2 + 1) f.av]
   congr 2
   rw [List.setIfInBounds_toArray, List.setIfInBounds_toArray]
   congr 1
   rw [List.set_append_right _ _ (by rw [fiCells_len]; omega), fiCells_len, Nat.sub_self, List.set_cons_zero, List.set_append_right _ _ (by rw [fiCells_len]; omega), fiCells_len]
   rw [show F.length * 2 + 1 - F.length * 2 = 1 by omega, List.set_cons_succ, List.set_cons_zero]
   rw [show n - (F ++ [f]).length = n - F.length - 1 by rw [List.length_append]; simp; omega, fiCells_snoc]
   simp
 · intro f' hf'
   rcases List.mem_append.1 hf' with hf' | hf'
   · exact hrow f' (h.each f' hf')
   · simp only [List.mem_singleton] at hf'
     subst hf'
     exact hrow _ hf
theorem FcW.all {w wr : World} {lb n : Nat} {D : List (ByteArray × List ByteArray)} {F : List FI} (h : FcW w wr lb n D F) (hn : F.length = n) (hm : n ≤ 999999) : FactsIn wr (some ⟨lb, 0, none⟩) n F := by
 refine ⟨?_, fun f hf => ownsRow_base (h.each f hf) (Nat.zero_le _)⟩
 have hb := h.blk
 rw [hn, Nat.sub_self] at hb
 refine ⟨fiCells_len F, .inr ⟨lb, n, _, by rw [hn], Nat.zero_le _, hb, by omega, by unfold maxLen; omega, by simp [zFacts, fiCells_len, hn], ?_⟩⟩
 simp [zFacts, fiCells_len, List.take_of_length_le]
set_option maxRecDepth 100000 in
set_option maxHeartbeats 4000000 in
theorem facts_any (w : World) (g : Nat) (T : TypeId) (nm : ByteArray) (pl : Nat) (rd : Option Addr) (rc : Nat) (L : List (List ByteArray)) (rest : List Value) (h : TabAt w g T nm pl rd rc L rest) (hL : L.length ≤ 999999) (h1 : 1 ≤ pl) (h3 : pl ≤ 3) :
 Calls Tryz.prog 40 #[.pointer (some ⟨g, 0, none⟩)] w fun e w' => ∃ lb F, e = .returned (.slice (some ⟨lb, 0, none⟩) L.length L.length) ∧ FactsIn w' (some ⟨lb, 0, none⟩) L.length F ∧ F.length = L.length ∧ F.map (fun f => (f.pred, f.args)) = L.map (fun r => (nm, r.take pl)) ∧ Below w.heap.size w w' := by
 obtain ⟨i0, hi0, hz0, hz1, hz2⟩ := info_parts Tryz.infoApiFact
 obtain ⟨k2, kf, k1, k0⟩ := h.cell2
 have hgl := lt_of_heap h.blk
 have HT : Hid (TabAt w g T nm pl rd rc L rest) := h
 have hcap := ownsRow_le h.rows.own
 have hrcap : L.length ≤ rc := by
  rcases h.rows.own.2 with ⟨e1, e2⟩ | ⟨g', cap, cur, e1, _, hg, hc, hm, _⟩
  · omega
  · simp only [Value.slice.injEq] at e1
    omega
 clear h
 go_enter Tryz.func40, Tryz.ntmps40
 go_wp2_with (at_make; refine wpList_make_full _ rfl _ _ 37 rfl w.heap.size 48 i0 _ 2 Tryz.underlying37 hi0 hz0 hz1 .i64 .i64 L.length L.length L.length rfl rfl rfl rfl (by rw [hz2]; omega) (by unfold maxLen; omega) (Nat.le_refl _) ?_; intro w1 hown1 hgrow1; have hb1 : Below w.heap.size w w1 := (Below.refl _ _).grown hgrow1 (Nat.le_refl _) (fun q hq => by cases hq); have m2 : w1.cell? ⟨g, 2, none⟩ = some (.slice rd L.length rc) := (by rw [hb1.cell hgl]; exact k2); have hgl1 : g < w1.heap.size := Nat.lt_of_lt_of_le hgl hb1.size)
 have HF1 : Hid (FcW w w1 w.heap.size L.length ((L.take 0).map fun r => (nm, r.take pl)) []) := by
  refine ⟨?_, (fun f hf => by cases hf), rfl, hb1, Nat.le_refl _, Nat.zero_le _⟩
  obtain ⟨_, ⟨e1, _⟩ | ⟨g', cap, cur, e1, _, e3, _, _, e6, e7⟩⟩ := hown1
  · cases e1
  · simp only [Value.slice.injEq, Option.some.injEq, Addr.mk.injEq, and_true, true_and] at e1
    obtain ⟨rfl, rfl⟩ := e1
    rw [List.take_of_length_le (by rw [Array.length_toList, e6]; exact Nat.le_refl _)] at e7
    have e8 : cur.toList = zFacts L.length := by rw [e7]; exact made_facts L.length
    rw [e3]
    have e9 : cur = (fiCells [] ++ zFacts (L.length - ([] : List FI).length)).toArray := by
     rw [List.length_nil, Nat.sub_zero, ← e8]
     simp [fiCells]
    rw [← e9]
 clear hown1 hgrow1 hi0 hz0 hz1 hz2 hb1
 go_loopw [17] (fun i wr => ∃ (k : Nat) (F : List FI), k ≤ L.length ∧ i = .int .i64 k ∧ F.length = k ∧ FcW w wr w.heap.size L.length ((L.take k).map fun r => (nm, r.take pl)) F) (fun i _ => L.length - (intOf i).toNat)
 case atStart => exact ⟨0, [], Nat.zero_le _, rfl, rfl, HF1.out⟩
 case round =>
  obtain ⟨k, F, hk, rfl, hFk, hF⟩ := hrel
  have HF : Hid (FcW w wr w.heap.size L.length ((L.take k).map fun r => (nm, r.take pl)) F) := hF
  clear HF1
  by_cases hlt : k < L.length
  · have hTr := HT.out.below hF.bel
    obtain ⟨j2, jf, j1, j0⟩ := hTr.cell2
    obtain ⟨rg, rfl, hrg, hrc, hcs⟩ := row_cells hTr.rows.own (by omega)
    obtain ⟨s0, s1, s2, hrow⟩ : ∃ s0 s1 s2, L[k] = [s0, s1, s2] := by
     have h9 := hTr.rows.three L[k] (List.getElem_mem hlt)
     match hLk : L[k], h9 with
     | [x, y, z], _ => exact ⟨x, y, z, rfl⟩
    obtain ⟨r0, r1, r2⟩ := rowCells_get hTr.rows.three hlt hrow
    have c0 := hcs _ _ r0
    have c1 := hcs _ _ r1
    have c2 := hcs _ _ r2
    have hnl : ([s0, s1, s2].take pl).length = pl := by rw [List.length_take]; simp; omega
    have HNX : Hid ((L.take (k + 1)).map (fun r => (nm, r.take pl)) = (L.take k).map (fun r => (nm, r.take pl)) ++ [(nm, [s0, s1, s2].take pl)]) := by
     have e0 : L.take (k + 1) = L.take k ++ [L[k]] := by rw [List.take_add_one, List.getElem?_eq_getElem hlt]; rfl
     have e1 : (L.take (k + 1)).map (fun r => (nm, r.take pl)) = (L.take k).map (fun r => (nm, r.take pl)) ++ [(nm, [s0, s1, s2].take pl)] := by rw [e0, List.map_append, hrow]; rfl
     exact e1
    obtain ⟨wA, hwA⟩ : ∃ wA, wA = wr.alloc (.cells #[.string s0, .string s1, .string s2] 119) := ⟨_, rfl⟩
    have hbA : Below wr.heap.size wr wA := by rw [hwA]; exact (Below.refl _ _).alloc (Nat.le_refl _) _
    have hgA : wA.heap[wr.heap.size]? = some (.cells #[.string s0, .string s1, .string s2] 119 (0, 0)) := by rw [hwA]; exact heap_alloc_new wr _
    have HCL : Hid (∀ W, Below wA.heap.size wA W → Calls Tryz.prog 73 #[.slice (some ⟨wr.heap.size, 0, none⟩) pl 3] W fun e w5 => ∃ xd xc, e = .returned (.slice xd pl xc) ∧ w5.cell? ⟨g, 0, none⟩ = some (.string nm) ∧ w5.cell? ⟨g, 1, none⟩ = some (.int .i64 (pl : Nat)) ∧ w5.cell? ⟨w.heap.size, k * 2, none⟩ = some (.string ByteArray.empty) ∧ w5.cell? ⟨w.heap.size, k * 2 + 1, none⟩ = some (.slice none 0 0) ∧ (∀ o, w5.frozen? ⟨w.heap.size, o, none⟩ = false) ∧ w.heap.size < w5.heap.size ∧ Hid (FcW w w5 w.heap.size L.length ((L.take k).map fun r => (nm, r.take pl)) F ∧ w5.ownsRow w.heap.size 9 1 (.slice xd pl xc) pl (strCells ([s0, s1, s2].take pl)))) := by
     intro W hW
     have hg9 : W.heap[wr.heap.size]? = some (.cells #[.string s0, .string s1, .string s2] 119 (0, 0)) := by rw [hW.block _ (lt_of_heap hgA)]; exact hgA
     have hcl := cloneStr_any W ⟨wr.heap.size, 0, none⟩ ([s0, s1, s2].take pl) 3 (fun j u hu => by
      rw [Addr.add_lit, cell_of_row _ _ _ _ _ _ hg9]
      have h9 : (strCells [s0, s1, s2])[j]? = some u := by
       have e : strCells ([s0, s1, s2].take pl) = (strCells [s0, s1, s2]).take pl := by simp [strCells, List.map_take]
       rw [e, List.getElem?_take] at hu
       split at hu
       · exact hu
       · cases hu
      simpa [strCells] using h9) (by rw [hnl]; exact h3) (by rw [hnl]; omega) (by rw [hnl]; exact h3) (by decide)
     rw [hnl] at hcl
     refine hcl.mono ?_
     rintro e w5 ⟨xd, xc, rfl, q1, q2⟩
     have hb5 : Below wr.heap.size wr w5 := (hbA.trans (hW.mono hbA.size)).trans (q2.mono (by have := hbA.size; have := hW.size; omega))
     have hF5 := HF.out.below hb5
     obtain ⟨y1, y2, y3, y4⟩ := hF5.cells hFk hlt
     obtain ⟨_, _, z1, z0⟩ := (HT.out.below hF5.bel).cell2
     exact ⟨xd, xc, rfl, z0, z1, y1, y2, y3, y4, hF5, ownsRow_base q1 (by have := HF.out.bel.size; have := hbA.size; have := hW.size; omega)⟩
    have x0 : wA.cell? ⟨g, 0, none⟩ = some (.string nm) := by rw [hbA.cell (block_lt_of_cell j0)]; exact j0
    have x1 : wA.cell? ⟨g, 1, none⟩ = some (.int .i64 (pl : Nat)) := by rw [hbA.cell (block_lt_of_cell j1)]; exact j1
    have hgl9 : g < wA.heap.size := block_lt_of_cell x0
    clear hF hTr hcs r0 r1 r2 hrow hgA
    have hgn1 : g ≠ w.heap.size := by omega
    have hgn2 : w.heap.size ≠ g := by omega
    have b1 : (0 : Int) ≤ (pl : Int) := by omega
    have b2 : (pl : Int) ≤ 3 := by omega
    have b3 : (0 : Int) ≤ (k : Int) := by omega
    have b4 : (k : Int) < (L.length : Int) := by omega
    go_wp2_with fail
    rw [← hwA]
    clear hwA j0 j1 j2 jf c0 c1 c2 m2 hgl1
    go_region_held3 (fun W => W.cell? ⟨g, 0, none⟩ = some (.string nm) ∧ W.cell? ⟨g, 1, none⟩ = some (.int .i64 (pl : Nat))) (go_keep) ((go_at_call 73; refine (HCL.out _ (by exact (Below.refl _ _).drew)).mono ?_; rintro e w5 ⟨xd, xc, rfl, z0, z1, y1, y2, y3, y4, HF5⟩; have f0 := y3 (k * 2); have f1 := y3 (k * 2 + 1)))
    all_goals
     (have HX : Hid (FcW w ((w5.setCell ⟨w.heap.size, k * 2, none⟩ (.string nm)).setCell ⟨w.heap.size, k * 2 + 1, none⟩ (.slice xd pl xc)) w.heap.size L.length ((L.take (k + 1)).map fun r => (nm, r.take pl)) (F ++ [⟨nm, [s0, s1, s2].take pl, .slice xd pl xc⟩])) := by
       rw [HNX.out]
       have h9 := HF5.out.1.step (by rw [hFk]; exact hlt) ⟨nm, [s0, s1, s2].take pl, .slice xd pl xc⟩ (by rw [hnl]; exact HF5.out.2)
       rw [hFk] at h9
       exact h9
      have HL9 : Hid ((F ++ [(⟨nm, [s0, s1, s2].take pl, .slice xd pl xc⟩ : FI)]).length = k + 1) := by
       have e : (F ++ [(⟨nm, [s0, s1, s2].take pl, .slice xd pl xc⟩ : FI)]).length = k + 1 := by rw [List.length_append, hFk]; rfl
       exact e
      go_wp2_with fail
      go_roundw
      case rel => exact ⟨k + 1, _, hlt, by go_num, HL9.out, HX.out⟩
      case measure => (simp [intOf]; omega))
  · have HE : Hid (FactsIn wr (some ⟨w.heap.size, 0, none⟩) L.length F ∧ F.length = L.length ∧ F.map (fun f => (f.pred, f.args)) = L.map (fun r => (nm, r.take pl)) ∧ Below w.heap.size w wr) := by
     have e : k = L.length := by omega
     have h9 := hF.data
     rw [e, List.take_length] at h9
     exact ⟨hF.all (by omega) hL, by omega, h9, hF.bel⟩
    clear hF HF
    go_wp2_with fail
    go_ret
    exact ⟨_, F, rfl, HE.out⟩
end Go.Proofs.YtdmicblafmhflaaGreatDoor
