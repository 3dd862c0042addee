/- The card of Canonical holds: for all rules and both scripts of a bulk up to the given bound, two engines to which the same is given in the end are written as the same bytes, but for the head. Condition: that bound, and the three tables as the program's text lays them. -/
import Derived.Test.YtdmicblafmhflaaGreatDoorC42
import Derived.Test.YtdmicblafmhflaaGreatDoorC47
import Derived.Test.YtdmicblafmhflaaGreatDoorC48
import Derived.Test.YtdmicblafmhflaaGreatDoorCards
import Derived.Test.YtdmicblafmhflaaGreatDoorTie
import Derived.WalkKit
import Derived.ProofKit
import Derived.OpenShut
import Derived.WideKeyArgs
import Derived.Deep.DeepHandedRow
import Derived.Lib.LaidTab
import Derived.Lib.LaidU8T
set_option linter.unusedSimpArgs false
set_option linter.unusedVariables false
namespace Go.Proofs.YtdmicblafmhflaaGreatDoor.canonical
open Go.ChangeShapes Go.WideShapes Go.ChangeAt Go.RowKit
theorem own : ownKnob Tryz.prog.godebug = none := by kernel_rfl
theorem laidOut : laidOutB Tryz.prog = true := by kernel_rfl
def rwName : String := (Rows.canonicalUptoRow.laid.headD ("", .nil)).1
theorem gRound : Tryz.prog.globalNamed rwName = some 0 := by kernel_rfl
theorem gRoundType : (Tryz.prog.globals[0]?).map (·.type) = some 234 := by kernel_rfl
theorem cellsRound : Tryz.prog.cellsOf 234 = 64 := by kernel_rfl
theorem cellsU32 : Tryz.prog.cellsOf 228 = 1 := by kernel_rfl
def nums (d : DataW Unit) : List Int := match d with
 | .agg l => l.map fun x => match x with
  | .lit (.int _ z) => z
  | _ => 0
 | _ => []
def roundZs : List Int := nums Rows.laid_axiom_digest_roundWords
theorem round_is : (Rows.laid_axiom_digest_roundWords : DataW Unit) = Lib.tabData .u32 roundZs := by kernel_rfl
theorem round_len : roundZs.length = 64 := by kernel_rfl
theorem accept_is : (Rows.laid_unicode_utf8_acceptRanges : DataW Unit) = Lib.acceptData := by kernel_rfl
theorem first_is : Rows.laid_unicode_utf8_first = Lib.firstData := by kernel_rfl
def K : Nat → Int := fun i => roundZs.getD i 0
theorem tab_of {W : World} (h : laidMetH Tryz.prog Rows.canonicalUptoRow.laid W) : Dg.Tab W K := by
 have h1 : laidMet Tryz.prog ((rwName, Rows.laid_axiom_digest_roundWords) :: [("unicode/utf8.acceptRanges", Rows.laid_unicode_utf8_acceptRanges), ("unicode/utf8.first", Rows.laid_unicode_utf8_first)]) W := h
 rw [round_is] at h1
 have h2 := Lib.tabIs_of_head gRound gRoundType Tryz.underlying234 Tryz.underlying228 cellsU32 cellsRound h1
 intro i hi
 exact h2.cell gRound i (by rw [round_len]; exact hi)
theorem u8types : U8Types Tryz.prog decRen where
 t5 := Tryz.underlying5
 t119 := Tryz.underlying404
 t138 := Tryz.underlying406
 t139 := Tryz.underlying407
theorem utabs_of {W : World} (h : laidMetH Tryz.prog Rows.canonicalUptoRow.laid W) : UTabs W := by
 have h1 : laidMet Tryz.prog [(rwName, Rows.laid_axiom_digest_roundWords), ("unicode/utf8.acceptRanges", Rows.laid_unicode_utf8_acceptRanges), ("unicode/utf8.first", Rows.laid_unicode_utf8_first)] W := h
 rw [accept_is, first_is] at h1
 exact utf8Tabs_of_readsT (ρ := decRen) u8types ⟨by kernel_rfl, by kernel_rfl, by kernel_rfl, by kernel_rfl, by kernel_rfl, by kernel_rfl, by kernel_rfl⟩ (Lib.laidMet.reads h1 (.tail _ (.tail _ (.head _)))) (Lib.laidMet.reads h1 (.tail _ (.head _)))
theorem one_le {H : Type} (d : DataW H) : 1 ≤ Rows.uptoBulk d := by
 cases d with
 | lit l => cases l <;> simp [Rows.uptoBulk]
 | nil => simp [Rows.uptoBulk]
 | ptr d => simp [Rows.uptoBulk]
 | slice elems spare => simp [Rows.uptoBulk]
 | agg parts => simp [Rows.uptoBulk]
 | iface t d => simp [Rows.uptoBulk]
 | map entries => simp [Rows.uptoBulk]
 | held h => simp [Rows.uptoBulk]
theorem length_le {H : Type} (l : List (DataW H)) : l.length ≤ Rows.uptoBulkAll l := by
 induction l with
 | nil => simp [Rows.uptoBulkAll]
 | cons x r ih => have := one_le x; simp only [Rows.uptoBulkAll, List.length_cons]; omega
theorem script_le {H : Type} {d0 d2 : DataW H} {es sp : List (DataW H)} (hk : Rows.uptoSmall H [d0, .slice es sp, d2] = true) : es.length ≤ 1048576 := by
 have h : Rows.uptoBulkAll [d0, DataW.slice es sp, d2] ≤ 1048576 := of_decide_eq_true hk
 simp only [Rows.uptoBulkAll, Rows.uptoBulk] at h
 have := length_le es
 omega
theorem more_le {H : Type} {d0 d1 : DataW H} {es sp : List (DataW H)} (hk : Rows.uptoSmall H [d0, d1, .slice es sp] = true) : es.length ≤ 1048576 := by
 have h : Rows.uptoBulkAll [d0, d1, DataW.slice es sp] ≤ 1048576 := of_decide_eq_true hk
 simp only [Rows.uptoBulkAll, Rows.uptoBulk] at h
 have := length_le es
 omega
set_option maxRecDepth 100000 in
theorem contract (H : Type) (enc : TypeId × Value → H) (W : World) (base : Nat) (args : Array Value) (ds gs : List (DataW H)) (before : List MemPlace)
 (hval : ∀ (j : Nat) t v, Tryz.f8.params[j]? = some t → args[j]? = some v → Value.okWide Tryz.prog W .any base t v)
 (hW : DataW.Whole enc Tryz.prog Tryz.f8.params.toList Rows.canonicalSpec.vars false W args.toList ds gs before) (hk : Rows.uptoSmall H (ds ++ gs) = true) (hL : laidMetH Tryz.prog Rows.canonicalUptoRow.laid W) :
 Calls Tryz.prog 8 args W fun e W' => ∃ v, e = .returned v ∧ Rows.canonicalSpec.post enc Tryz.prog Tryz.f8 false true false false W args v W' := by
 have hW' := hW
 obtain ⟨p, q, hA0, hV, rfl, hfz, hnd⟩ := hW
 have hA : DataW.TrodAll enc Tryz.prog W 0 (fun _ => true) true Tryz.f8.params.toList args.toList ds p := hA0
 rw [Tryz.params8] at hA hval
 obtain ⟨v0, vs0, d0, ds0, p0, q0, hargs, rfl, rfl, h0, r0⟩ := trodAll_cons hA
 obtain ⟨v1, vs1, d1, ds1, p1, q1, rfl, rfl, rfl, h1, r1⟩ := trodAll_cons r0
 obtain ⟨v2, vs2, d2, ds2, p2, q2, rfl, rfl, rfl, h2, r2⟩ := trodAll_cons r1
 obtain ⟨rfl, rfl, rfl⟩ := trodAll_nil r2
 obtain rfl : args = #[v0, v1, v2] := by cases args; simp_all
 obtain ⟨rfl, rfl⟩ := trodVars_none hV
 obtain ⟨b0, n0, c0, rfl⟩ := okWide_slice Tryz.underlying25 (hval 0 25 v0 rfl rfl)
 obtain ⟨b1, n1, c1, rfl⟩ := okWide_slice Tryz.underlying26 (hval 1 26 v1 rfl rfl)
 obtain ⟨b2, n2, c2, rfl⟩ := okWide_slice Tryz.underlying26 (hval 2 26 v2 rfl rfl)
 have h0k := h0
 have h1k := h1
 have h2k := h2
 obtain ⟨fuel0, hf0⟩ := h0
 obtain ⟨fuel1, hf1⟩ := h1
 obtain ⟨fuel2, hf2⟩ := h2
 have hsl : n1 ≤ 1048576 := by
  have hf1' : DataW.trod enc Tryz.prog W 0 (fun _ => true) true fuel1 26 [.slice b1 n1 c1] = some (d1, p1) := hf1
  rcases slice_data Tryz.underlying26 hf1' with h9 | ⟨es, sp, e9, l9⟩
  · omega
  · have e9' : d1 = .slice es sp := e9
    rw [e9', List.append_nil] at hk
    have := script_le (H := H) (d0 := d0) (d2 := d2) (es := es) (sp := sp) hk
    omega
 have htl : n2 ≤ 1048576 := by
  have hf2' : DataW.trod enc Tryz.prog W 0 (fun _ => true) true fuel2 26 [.slice b2 n2 c2] = some (d2, p2) := hf2
  rcases slice_data Tryz.underlying26 hf2' with h9 | ⟨es, sp, e9, l9⟩
  · omega
  · have e9' : d2 = .slice es sp := e9
    rw [e9', List.append_nil] at hk
    have := more_le (H := H) (d0 := d0) (d1 := d1) (es := es) (sp := sp) hk
    omega
 obtain ⟨ad, n, c, l, e0, hR⟩ := rules_at hf0
 obtain ⟨sd, sn, sc, sl, e1, hS⟩ := steps_at hf1
 obtain ⟨td, tn, tc, tl, e2, hT⟩ := steps_at hf2
 simp [Value.cells] at e0 e1 e2
 obtain ⟨rfl, rfl, rfl⟩ := e0
 obtain ⟨rfl, rfl, rfl⟩ := e1
 obtain ⟨rfl, rfl, rfl⟩ := e2
 clear hA0 hf0 hf1 hf2
 simp only [List.append_nil] at hW'
 have hlt : ∀ x ∈ p0 ++ (p1 ++ p2), x.block < W.heap.size := fun x hx => hW'.lt x (by simpa using hx)
 refine (canonical_walk K W b0 n0 c0 l hR b1 n1 c1 sl hS (by rw [hS.len]; omega) b2 n2 c2 tl hT (by rw [hT.len]; omega) (tab_of hL) (utabs_of hL)).mono fun e W' ⟨he, hg⟩ => ?_
 subst he
 have s0 : DataW.Trod enc Tryz.prog W' 0 (fun b => decide (b < W.heap.size)) true 25 (.slice b0 n0 c0) d0 p0 :=
  WideElems.Trod_stays laidOut (by kernel_rfl) (of_decide_eq_true (by kernel_rfl)) h0k (fun x hx => hg.same (hlt x (by simp [hx]))) (fun x hx => by simpa using hlt x (by simp [hx]))
 have s1 : DataW.Trod enc Tryz.prog W' 0 (fun b => decide (b < W.heap.size)) true 26 (.slice b1 n1 c1) d1 p1 :=
  WideElems.Trod_stays laidOut (by kernel_rfl) (of_decide_eq_true (by kernel_rfl)) h1k (fun x hx => hg.same (hlt x (by simp [hx]))) (fun x hx => by simpa using hlt x (by simp [hx]))
 have s2 : DataW.Trod enc Tryz.prog W' 0 (fun b => decide (b < W.heap.size)) true 26 (.slice b2 n2 c2) d2 p2 :=
  WideElems.Trod_stays laidOut (by kernel_rfl) (of_decide_eq_true (by kernel_rfl)) h2k (fun x hx => hg.same (hlt x (by simp [hx]))) (fun x hx => by simpa using hlt x (by simp [hx]))
 exact ⟨_, rfl, _, _, _, [], _, [], hW', trodAll_cons_mk (shut_bool Tryz.underlying4 _) trodAll_mk0, trodAll_cons_mk s0 (trodAll_cons_mk s1 (trodAll_cons_mk s2 trodAll_mk0)), rfl, hg.frame _, fun h => by cases h⟩
def laidWorld (P : Program) (os : Os) : World :=
 let w0 := World.holding P os ⟨#[], #[], []⟩
 let put (h : Array Obj) (g : Nat) (cs : Array Value) : Array Obj := h.modify g fun
  | .cells _ t frozen => .cells cs t frozen
  | o => o
 let h1 := put w0.heap 0 (roundZs.map fun z => Value.int .u32 z).toArray
 let h2 := put h1 3 ((List.range 16).flatMap fun i => [Value.int .u8 (Lib.accLo i), Value.int .u8 (Lib.accHi i)]).toArray
 let h3 := put h2 2 (Lib.firstTab.map fun z => Value.int .u8 z).toArray
 { w0 with heap := h3 }
theorem laid_met (os : Os) : laidMet Tryz.prog Rows.canonicalUptoRow.laid ((laidWorld Tryz.prog os).forCall (fun _ _ => 0) ⟨#[], #[.slice none 0 0, .slice none 0 0, .slice none 0 0], []⟩).memory :=
 laidMet_of_run' 8 (by kernel_rfl) (by kernel_rfl)
theorem reads (os : Os) {H : Type} (enc : TypeId × Value → H) : ∃ places, DataW.whole enc Tryz.prog ((laidWorld Tryz.prog os).forCall (fun _ _ => 0) ⟨#[], #[.slice none 0 0, .slice none 0 0, .slice none 0 0], []⟩).memory Tryz.f8.params.toList Rows.canonicalSpec.vars false #[Value.slice none 0 0, Value.slice none 0 0, Value.slice none 0 0].toList 8 = some ([.nil, .nil, .nil], [], places) :=
 ⟨[], by kernel_rfl⟩
set_option maxRecDepth 100000 in
theorem lifted (os : Os) (started : os.Started) (H : Type) (enc : TypeId × Value → H) (F : Stop.Interp) :
 ReturnsInHanded {} Tryz.checked os 8 .any ((Rows.OpenSpec.upto Rows.canonicalSpec).preRow enc Tryz.prog Tryz.f8 Rows.canonicalUptoRow.domain false Rows.canonicalUptoRow.laid) (((Rows.OpenSpec.upto Rows.canonicalSpec).at F).post enc Tryz.prog Tryz.f8 false true false false) := by
 obtain ⟨places, hx⟩ := reads os enc
 refine returnsInHanded_of_row (C := Tryz.checked) (s := Rows.OpenSpec.upto Rows.canonicalSpec) own started (by kernel_rfl) Tryz.func8
  (witness_row_at (enc := enc) (C := Tryz.checked) false (laidWorld Tryz.prog os) #[.slice none 0 0, .slice none 0 0, .slice none 0 0] rfl (by kernel_rfl) (by kernel_rfl) (by kernel_rfl)
    (OpenSpec.preRow_of_cond 8 hx (by kernel_rfl) (fun k hk => by cases hk; kernel_rfl) (by kernel_rfl) (laid_met os))) ?_
 intro W base args ds gs before hval hW _ hcond _ hL _ _
 exact contract H enc W base args ds gs before hval hW (hcond _ rfl) hL
theorem said : Rows.CanonicalUptoSaid :=
 OpenClaim.holds_of_cond 8 Tryz.f8 rfl rfl rfl rfl rfl rfl rfl ⟨rfl, rfl, rfl, rfl, rfl⟩ rfl rfl rfl rfl rfl (by kernel_rfl) Tryz.func8 canonical_closed
  (of_decide_eq_true (by kernel_rfl)) (by unfold Func.isWrapper; first | (rw [if_pos (by decide +kernel)]; kernel_rfl) | (rw [if_neg (by decide +kernel)]; exact ⟨rfl, rfl⟩))
  (fun os started H enc _ F => by rw [OpenClaim.pre_eq_preRow]; exact lifted os started H enc F)
theorem plain (f : FuncId) (fn : Func) (hf : Tryz.pinned.checked.prog.funcNamed Rows.canonicalUptoRow.func = some f) (hfn : Tryz.pinned.checked.prog.funcs[f]? = some fn) :
 false = Tryz.pinned.checked.prog.looks [] ∧ ∀ (j : Nat) t, fn.params[j]? = some t → Tryz.pinned.checked.prog.wantsStandIn t = false := by
 obtain rfl : f = 8 := Option.some.inj ((show Tryz.prog.funcNamed Rows.canonicalUptoRow.func = some 8 by kernel_rfl).symm.trans hf) |>.symm
 obtain rfl : fn = Tryz.f8 := (Option.some.inj (Tryz.func8.symm.trans hfn)).symm
 refine ⟨by kernel_rfl, fun j t ht => ?_⟩
 rw [Tryz.params8] at ht
 have hm : t = 25 ∨ t = 26 := by simpa using Array.mem_of_getElem? ht
 rcases hm with rfl | rfl
 · exact (show Tryz.prog.wantsStandIn 25 = false by kernel_rfl)
 · exact (show Tryz.prog.wantsStandIn 26 = false by kernel_rfl)
theorem card : Rows.CanonicalUptoCardSaid :=
 Claim7.holds_tied_plain_at .later [] _ _ _ _ said (fun _ h => by cases h) (by kernel_rfl) (fun _ h => by cases h) canonicalUpto_row_tie rfl ⟨rfl, rfl⟩ (by kernel_rfl) rfl plain (by kernel_rfl)
end Go.Proofs.YtdmicblafmhflaaGreatDoor.canonical
namespace Go.Proofs.YtdmicblafmhflaaGreatDoor
theorem canonical_holds : Rows.CanonicalUptoCardSaid := canonical.card
end Go.Proofs.YtdmicblafmhflaaGreatDoor
