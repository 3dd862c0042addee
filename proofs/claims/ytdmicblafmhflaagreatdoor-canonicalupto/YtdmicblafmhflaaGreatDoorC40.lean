/- axiomkeep.facts. -/
import Derived.Test.YtdmicblafmhflaaGreatDoorC39
import Derived.Deep.RegionHeld3
import Derived.BigQuiet
set_option linter.unusedSimpArgs false
set_option linter.unusedVariables false
namespace Go.Proofs.YtdmicblafmhflaaGreatDoor
open Go.RowKit
structure IntsA (w : World) (ad : Option Addr) (n c : Nat) (l : List Int) : Prop where
 len : l.length = n
 cap : n ≤ c
 max : c ≤ maxLen
 at_ : ∀ k (h : k < l.length), ∃ g o, ad = some ⟨g, o, none⟩ ∧ w.cell? ⟨g, o + k, none⟩ = some (.int .i64 l[k]) ∧ Fit64 l[k]
theorem IntsA.below {w w' : World} {ad : Option Addr} {n c : Nat} {l : List Int} (h : IntsA w ad n c l) (hb : Below w.heap.size w w') : IntsA w' ad n c l :=
 ⟨h.len, h.cap, h.max, fun k hk => let ⟨g, o, e, c1, f⟩ := h.at_ k hk; ⟨g, o, e, cell_below hb c1, f⟩⟩
structure FacW (w wr : World) (a : Value) (l : List FI) (D : List (ByteArray × List ByteArray)) : Prop where
 row : wr.ownsRow w.heap.size 48 2 a l.length (fiCells l)
 each : ∀ f, f ∈ l → wr.ownsRow w.heap.size 9 1 f.av f.args.length (strCells f.args)
 data : l.map (fun f => (f.pred, f.args)) = D
 bel : Below w.heap.size w wr
theorem FacW.nil (w : World) : FacW w w (.slice none 0 0) [] [] := ⟨World.ownsRow_nil _ _ _ _, by simp, rfl, Below.refl _ _⟩
theorem FacW.below {w wr w' : World} {a : Value} {l : List FI} {D : List (ByteArray × List ByteArray)} (h : FacW w wr a l D) (hb : Below wr.heap.size wr w') : FacW w w' a l D :=
 ⟨ownsRow_below h.row hb, fun f hf => ownsRow_below (h.each f hf) hb, h.data, h.bel.trans (hb.mono h.bel.size)⟩
theorem FacW.step {w wr w2 : World} {a v2 : Value} {l : List FI} {D : List (ByteArray × List ByteArray)} (h : FacW w wr a l D) (f : FI) (hf0 : wr.ownsRow w.heap.size 9 1 f.av f.args.length (strCells f.args))
 (hown : w2.ownsRow w.heap.size 48 2 v2 (l.length + 1) (fiCells l ++ [.string f.pred, f.av])) {o : Obj} (hg : (wr.alloc o).grownBy w2 a.ownBlock) : FacW w w2 v2 (l ++ [f]) (D ++ [(f.pred, f.args)]) := by
 have hs := h.bel.size
 have hb2 : Below wr.heap.size wr (wr.alloc o) := (Below.refl _ _).alloc (Nat.le_refl _) _
 have hk := Kb.of_grown hg
 have hlt : ∀ q, a.ownBlock = some q → w.heap.size ≤ q ∧ q < wr.heap.size := fun q hq => h.row.lt q hq
 have hkeep : ∀ u : FI, wr.ownsRow w.heap.size 9 1 u.av u.args.length (strCells u.args) → w2.ownsRow w.heap.size 9 1 u.av u.args.length (strCells u.args) := fun u hu => by
  refine hk.row (ownsRow_below hu hb2) (fun b hb hc => ?_)
  rw [Option.mem_toList] at hc
  obtain ⟨c1, e1⟩ := block_type hu hb
  obtain ⟨c2, e2⟩ := block_type h.row hc
  rw [e1] at e2
  simp at e2
 refine ⟨?_, ?_, ?_, ?_⟩
 · rw [fiCells_snoc, List.length_append]
   exact hown
 · intro u hu
   rcases List.mem_append.1 hu with hu | hu
   · exact hkeep u (h.each u hu)
   · simp only [List.mem_singleton] at hu
     subst hu
     exact hkeep _ hf0
 · rw [List.map_append, h.data]
   simp
 · exact hk.to_below (h.bel.trans (hb2.mono hs)) (by simp; omega) (fun q hq => by rw [Option.mem_toList] at hq; exact (hlt q hq).1)
def fdats (l : List Int) : List (ByteArray × List ByteArray) := (l.take 30).map fun c => dat (Ax.gpick c 36)
set_option maxRecDepth 100000 in
set_option maxHeartbeats 4000000 in
theorem kfacts_any (w : World) (ad : Option Addr) (n c : Nat) (L : List Int) (hL : IntsA w ad n c L) : Calls Tryz.prog 39 #[.slice ad n c] w fun e w' => ∃ v l, e = .returned v ∧ FacW w w' v l (fdats L) := by
 obtain ⟨i0, hi, hz0, hz1, hz2⟩ := info_parts Tryz.infoApiFact
 have hln := hL.len
 subst hln
 have HL : Hid (IntsA w ad L.length c L) := hL
 have hcap := hL.cap
 have hmax := hL.max
 have hm : maxLen = 9223372036854775807 := rfl
 clear hL
 go_enter Tryz.func39, Tryz.ntmps39
 go_wp2_with fail
 go_loopw [3, 4] (fun a i wr => ∃ (k : Nat) (l : List FI), k ≤ L.length ∧ k ≤ 30 ∧ i = .int .i64 k ∧ FacW w wr a l ((L.take k).map fun c => dat (Ax.gpick c 36))) (fun _ i _ => 30 - (intOf i).toNat)
 case atStart => exact ⟨0, [], by omega, by omega, rfl, FacW.nil w⟩
 case round =>
  obtain ⟨k, l, hk, hk30, rfl, hF⟩ := hrel
  obtain ⟨bd, bc, rfl⟩ := ownsRow_shape hF.row
  have HF : Hid (FacW w wr (.slice bd l.length bc) l ((L.take k).map fun c => dat (Ax.gpick c 36))) := hF
  have hll : l.length ≤ 30 := by
   have := congrArg List.length hF.data
   simp at this
   omega
  clear hF
  by_cases hlt : k < L.length
  · by_cases h30 : k < 30
    · obtain ⟨g, o, rfl, ca, hfit⟩ := (HL.out.below HF.out.bel).at_ k hlt
      have HNX : Hid ((L.take (k + 1)).map (fun c => dat (Ax.gpick c 36)) = (L.take k).map (fun c => dat (Ax.gpick c 36)) ++ [dat (Ax.gpick L[k] 36)]) := by
       have e0 : L.take (k + 1) = L.take k ++ [L[k]] := by rw [List.take_add_one, List.getElem?_eq_getElem hlt]; rfl
       have e1 : (L.take (k + 1)).map (fun c => dat (Ax.gpick c 36)) = (L.take k).map (fun c => dat (Ax.gpick c 36)) ++ [dat (Ax.gpick L[k] 36)] := by rw [e0, List.map_append]; rfl
       exact e1
      have hfa := kfact_any wr L[k] hfit
      generalize L[k] = x at ca hfa HNX
      have HFA : Hid (Calls Tryz.prog 72 #[.int .i64 x] wr fun e w' => ∃ f : FI, e = .returned (.agg #[.string f.pred, f.av]) ∧ Hid ((f.pred, f.args) = dat (Ax.gpick x 36) ∧ w'.ownsRow w.heap.size 9 1 f.av f.args.length (strCells f.args) ∧ FacW w w' (.slice bd l.length bc) l ((L.take k).map fun c => dat (Ax.gpick c 36)))) := by
       refine hfa.mono ?_
       rintro e w' ⟨f, rfl, q1, q2, q3⟩
       exact ⟨f, rfl, q1, ownsRow_base q2 HF.out.bel.size, HF.out.below q3⟩
      clear hfa hfit
      go_wp2_with (first | (go_at_call 72; refine HFA.out.mono ?_; rintro e w3 ⟨f, rfl, HQ⟩; obtain ⟨fp, fa, fv⟩ := f; simp only at HQ ⊢; obtain ⟨xd, xc, hfv⟩ := ownsRow_shape HQ.out.2.1; subst hfv) | (at_builtin; refine wpList_append_own _ rfl (.tmp 15) (.tmp 21) 37 rfl w.heap.size 48 i0 _ 2 40 Tryz.underlying37 hi hz0 hz1 hz2 rfl (by decide) _ _ _ rfl (HQ.out.2.2.row.alloc _) ⟨w3.heap.size, 0, none⟩ 1 1 [.string fp, .slice xd fa.length xc] rfl rfl (new_cells _ _ _) (by simp [Value.oneCell']) (by unfold maxLen; omega) (by omega) (by have := HQ.out.2.2.bel.size; simp; omega) ?_; intro v2 w2 hown2 hgrow _))
      have HX : Hid (FacW w w2 v2 (l ++ [⟨fp, fa, .slice xd fa.length xc⟩]) ((L.take (k + 1)).map fun c => dat (Ax.gpick c 36))) := by
       rw [HNX.out, ← HQ.out.1]
       exact HQ.out.2.2.step ⟨fp, fa, .slice xd fa.length xc⟩ HQ.out.2.1 hown2 hgrow
      go_roundw
      case rel => exact ⟨k + 1, _, hlt, h30, by go_num, HX.out⟩
      case measure => simp [intOf]; omega
    · have HE : Hid (FacW w wr (.slice bd l.length bc) l (fdats L)) := by
       have e : k = 30 := by omega
       have h9 := HF.out
       rw [e] at h9
       exact h9
      go_wp2_with fail
      go_ret
      exact ⟨_, l, rfl, HE.out⟩
  · have HE : Hid (FacW w wr (.slice bd l.length bc) l (fdats L)) := by
     have h9 := HF.out
     have e1 : L.take k = L.take 30 := by rw [List.take_of_length_le (by omega), List.take_of_length_le (by omega)]
     rw [e1] at h9
     exact h9
    go_wp2_with fail
    go_ret
    exact ⟨_, l, rfl, HE.out⟩
end Go.Proofs.YtdmicblafmhflaaGreatDoor
/- axiomkeep.Shop.truths. -/
namespace Go.Proofs.YtdmicblafmhflaaGreatDoor
open Go.RowKit Go.Maps
theorem Tryz.infoTruth : (Tryz.prog.info? 52).map (fun i => (i.zero, i.size, i.bytes)) = some (some (.agg #[.bool false, .bool false, .int .i64 0]), 3, 16) := by kernel_rfl
structure TI (wr : World) (b : Option Nat) (W : World) : Prop where
 bel : Below wr.heap.size wr W
 blk : ∀ x, b = some x → wr.heap.size ≤ x ∧ W.heap[x]? = some (.cells #[.bool false, .bool false, .int .i64 0] 52 (0, 0))
theorem TI.below {wr W w' : World} {b : Option Nat} (h : TI wr b W) (hb : Below W.heap.size W w') : TI wr b w' := by
 refine ⟨h.bel.trans (hb.mono h.bel.size), ?_⟩
 intro x hx
 obtain ⟨h1, h2⟩ := h.blk x hx
 exact ⟨h1, by rw [hb.block _ (lt_of_heap h2)]; exact h2⟩
theorem TI.drew {wr W : World} {b : Option Nat} (h : TI wr b W) : TI wr b W.drew := h.below (Below.refl _ _).drew
theorem TI.alloc {wr W : World} (h : TI wr none W) : TI wr (some W.heap.size) (W.alloc (.cells #[.bool false, .bool false, .int .i64 0] 52)) := by
 refine ⟨h.bel.alloc h.bel.size _, ?_⟩
 intro x hx
 simp only [Option.some.injEq] at hx
 subst hx
 exact ⟨h.bel.size, heap_alloc_new _ _⟩
theorem TI.cells {wr W : World} {x : Nat} (h : TI wr (some x) W) : W.cell? ⟨x, 0, none⟩ = some (.bool false) ∧ W.cell? ⟨x, 1, none⟩ = some (.bool false) ∧ W.cell? ⟨x, 2, none⟩ = some (.int .i64 0) ∧ W.frozen? ⟨x, 0, none⟩ = false ∧ W.frozen? ⟨x, 1, none⟩ = false ∧ W.frozen? ⟨x, 2, none⟩ = false ∧ x < W.heap.size := by
 obtain ⟨h1, h2⟩ := h.blk x rfl
 exact ⟨by rw [cell_of_row _ _ _ _ _ _ h2]; rfl, by rw [cell_of_row _ _ _ _ _ _ h2]; rfl, by rw [cell_of_row _ _ _ _ _ _ h2]; rfl, by simp [World.frozen?, h2], by simp [World.frozen?, h2], by simp [World.frozen?, h2], lt_of_heap h2⟩
structure TCut (wr : World) (g h : Bool) (c : Nat) (v7 v8 : Value) (wx : World) : Prop where
 v8 : v8 = .int .i64 0
 out : ∃ tb, v7 = .pointer (some ⟨tb, 0, none⟩) ∧ wx.heap[tb]? = some (.cells #[.bool g, .bool h, .int .i64 (c : Nat)] 52 (0, 0)) ∧ Below wr.heap.size wr wx
theorem TI.cut_a {wr W : World} {x : Nat} (h : TI wr (some x) W) (g k : Bool) (c : Nat) : TCut wr g k c (.pointer (some ⟨x, 0, none⟩)) (.int .i64 0) (((W.setCell ⟨x, 0, none⟩ (.bool g)).setCell ⟨x, 1, none⟩ (.bool k)).setCell ⟨x, 2, none⟩ (.int .i64 (c : Nat))) := by
 obtain ⟨h1, h2⟩ := h.blk x rfl
 exact ⟨rfl, x, rfl, stores3 h2 _ _ _, ((h.bel.setCell (p := ⟨x, 0, none⟩) h1 _).setCell (p := ⟨x, 1, none⟩) h1 _).setCell (p := ⟨x, 2, none⟩) h1 _⟩
theorem TI.cut_b {wr W : World} (h : TI wr none W) (g k : Bool) (c : Nat) : TCut wr g k c (.pointer (some ⟨W.heap.size, 0, none⟩)) (.int .i64 0) (W.alloc (.cells #[.bool g, .bool k, .int .i64 (c : Nat)] 52)) :=
 ⟨rfl, W.heap.size, rfl, heap_alloc_new _ _, h.bel.alloc h.bel.size _⟩
structure TrW (w wr : World) (out : Value) (k : Nat) (xs : List Value) : Prop where
 row : wr.ownsRow w.heap.size 52 3 out k xs
 bel : Below w.heap.size w wr
set_option maxRecDepth 100000 in
set_option maxHeartbeats 4000000 in
theorem truths_any (w : World) (B sb eg : Nat) (rv : Value) (kl : List Ax.KRule) (gv : Nat → Bool) (n : Nat) (hS : ShopIs w sb eg rv gv) (hE : Eng w B eg kl gv n) (hg : GvOk gv) (hU : UTabs w) :
 Calls Tryz.prog 36 #[.pointer (some ⟨sb, 0, none⟩)] w fun e w' => ∃ od oc, e = .returned (.tuple #[.slice od 36 oc, .bool true]) ∧ w'.ownsRow w.heap.size 52 3 (.slice od 36 oc) 36 (trCells kl gv 36) ∧ Below w.heap.size w w' := by
 obtain ⟨i0, hi, hz0, hz1, hz2⟩ := info_parts Tryz.infoTruth
 have HSH : Hid (∀ W, Below w.heap.size w W → W.cell? ⟨sb, 0, none⟩ = some (.pointer (some ⟨eg, 0, none⟩)) ∧ ∀ i, i < 36 → W.cell? ⟨sb, 2 + i, none⟩ = some (.bool (gv i))) := fun W hW => ⟨(hS.below hW).cells.1, (hS.below hW).cells.2.2⟩
 have HASK : Hid (∀ wr i av b W, Below w.heap.size w wr → i < 36 → wr.ownsRow 0 9 1 av (dat i).2.length (strCells (dat i).2) → TI wr b W → Calls Tryz.prog 21 #[.pointer (some ⟨eg, 0, none⟩), .agg #[.string (dat i).1, av]] W fun e w' => e = .returned (.tuple #[.agg #[.bool (gv i), .bool (En.leastN (En.nRules kl) gv i), .int .i64 (cnN kl gv i : Nat)], .int .i64 0]) ∧ TI wr b w') := by
  intro wr i av b W hwr hi hav hW
  have hb := hwr.trans (hW.bel.mono hwr.size)
  refine (ask_eng (hE.below hb) hg (Utf8Tabs_below hU hb) hi (ownsRow_below hav hW.bel)).mono ?_
  rintro e w' ⟨rfl, hb'⟩
  exact ⟨rfl, hW.below hb'⟩
 have hsbl := lt_of_heap hS
 clear hS hE hg hU
 go_enter Tryz.func36, Tryz.ntmps36
 go_wp2_with (go_at_call 65; refine (all_any _).mono ?_; rintro e w1 ⟨v, l, rfl, hA⟩; obtain ⟨ad, ac, hv⟩ := ownsRow_shape hA.row; subst hv)
 have HA : Hid (AllW w w1 (.slice ad l.length ac) 36 l) := hA
 have HL : Hid (l.length = 36) := hA.len
 have hll : l.length ≤ 36 := by rw [HL.out]; exact Nat.le_refl _
 clear hA
 go_loopw [5, 6] (fun o i wr => ∃ (k : Nat), k ≤ l.length ∧ i = .int .i64 k ∧ TrW w1 wr o k (trCells kl gv k)) (fun _ i _ => l.length - (intOf i).toNat)
 case atStart => exact ⟨0, Nat.zero_le _, rfl, ⟨World.ownsRow_nil _ _ _ _, Below.refl _ _⟩⟩
 case round =>
  obtain ⟨k, hk, rfl, hT⟩ := hrel
  have hb1 := hT.bel
  have hbw : Below w.heap.size w wr := HA.out.bel.trans (hb1.mono HA.out.bel.size)
  obtain ⟨od, oc, rfl⟩ := ownsRow_shape hT.row
  by_cases hlt : k < l.length
  · have hk36 : k < 36 := by omega
    have hAr := HA.out.below hb1
    obtain ⟨g, rfl, hgl, hcc, hcs⟩ := row_cells hAr.row (by omega)
    have c0 := hcs _ _ (fiCells_get l k hlt).1
    have c1 := hcs _ _ (fiCells_get l k hlt).2
    have hd := congrArg (fun x => x[k]?) hAr.data
    simp only [List.getElem?_map, List.getElem?_eq_getElem hlt, Option.map_some, List.getElem?_range hk36, Option.some.injEq] at hd
    have hav := hAr.each _ (List.getElem_mem hlt)
    have e1 : (l[k]).pred = (dat k).1 := congrArg Prod.fst hd
    have e2 : (l[k]).args = (dat k).2 := congrArg Prod.snd hd
    rw [e2] at hav
    rw [e1] at c0
    obtain ⟨xd, xc, hxv⟩ := ownsRow_shape hav
    rw [hxv] at c1 hav
    have HAK : Hid (∀ b W, TI wr b W → Calls Tryz.prog 21 #[.pointer (some ⟨eg, 0, none⟩), .agg #[.string (dat k).1, .slice xd (dat k).2.length xc]] W fun e w' => e = .returned (.tuple #[.agg #[.bool (gv k), .bool (En.leastN (En.nRules kl) gv k), .int .i64 (cnN kl gv k : Nat)], .int .i64 0]) ∧ TI wr b w') := fun b W hW => HASK.out wr k _ b W hbw hk36 (ownsRow_base hav (Nat.zero_le _)) hW
    have HNX : Hid (trCells kl gv (k + 1) = trCells kl gv k ++ [.bool (gv k), .bool (En.leastN (En.nRules kl) gv k), .int .i64 (cnN kl gv k : Nat)]) := trCells_succ kl gv k
    have HBW : Hid (Below w.heap.size w wr) := hbw
    have hs0 := (HSH.out wr hbw).1
    have hI1 : TI wr none wr := ⟨Below.refl _ _, fun x h => by cases h⟩
    have HCE : Hid (∀ W, Below wr.heap.size wr W → W.cell? ⟨sb, 0, none⟩ = some (.pointer (some ⟨eg, 0, none⟩)) ∧ W.cell? ⟨g, k * 2, none⟩ = some (.string (dat k).1) ∧ W.cell? ⟨g, k * 2 + 1, none⟩ = some (.slice xd (dat k).2.length xc)) := fun W hW => ⟨by rw [hW.cell (block_lt_of_cell hs0)]; exact hs0, by rw [hW.cell (block_lt_of_cell c0)]; exact c0, by rw [hW.cell (block_lt_of_cell c1)]; exact c1⟩
    have HTR : Hid (TrW w1 wr (.slice od k oc) k (trCells kl gv k)) := hT
    have HSG : Hid (∀ W, Below wr.heap.size wr W → W.cell? ⟨sb, 2 + k, none⟩ = some (.bool (gv k))) := fun W hW => (HSH.out W (HBW.out.trans (hW.mono HBW.out.size))).2 k hk36
    clear hT hAr hcs hd hav e1 e2 hxv HASK HSH hb1 hbw
    generalize trCells kl gv k = X0 at *
    generalize En.leastN (En.nRules kl) gv k = hk1 at *
    generalize cnN kl gv k = ck1 at *
    generalize gv k = gk1 at *
    generalize (dat k).1 = pk1 at *
    generalize (dat k).2.length = nk1 at *
    go_upto_region 6 with fail
    go_cut [7, 8] from 10 to 44 (fun v7 v8 wx => Hid (TCut wr gk1 hk1 ck1 v7 v8 wx))
    case first =>
     go_region_held3 (fun W => W.cell? ⟨sb, 0, none⟩ = some (.pointer (some ⟨eg, 0, none⟩)) ∧ W.cell? ⟨g, k * 2, none⟩ = some (.string pk1) ∧ W.cell? ⟨g, k * 2 + 1, none⟩ = some (.slice xd nk1 xc)) (first | (exact HCE.out _ (TI.bel (by assumption))) | (exact HCE.out _ (TI.bel (TI.drew (by assumption)))) | (exact HCE.out _ (TI.bel (TI.alloc (by assumption)))) | (exact HCE.out _ (TI.bel (TI.alloc (TI.drew (by assumption))))) | (exact HCE.out _ (by obtain ⟨_, _, _, _, hbb⟩ := TI.cut_a (by assumption) gk1 hk1 ck1; exact hbb)) | (exact HCE.out _ (by obtain ⟨_, _, _, _, hbb⟩ := TI.cut_b (by assumption) gk1 hk1 ck1; exact hbb))) ((go_at_call 21; refine (HAK.out _ _ (by first | assumption | exact TI.drew (by assumption) | exact TI.alloc (by assumption) | exact TI.alloc (TI.drew (by assumption)))).mono ?_; rintro e wn ⟨rfl, hTn⟩; (try (obtain ⟨z0, z1, z2, f0, f1, f2, zl⟩ := TI.cells hTn; (try simp only [World.size_drew] at z0 z1 z2 f0 f1 f2 zl)))))
     all_goals
      (go_wp2_with fail
       go_meet
       first
       | exact TI.cut_a (by assumption) _ _ _
       | exact TI.cut_b (by assumption) _ _ _)
    case rest =>
     obtain ⟨hv8, tb, hv7, htb, hbx⟩ := hcut.out
     subst hv8
     subst hv7
     have d0 : wc.cell? ⟨tb, 0, none⟩ = some (.bool gk1) := by rw [cell_of_row _ _ _ _ _ _ htb]; rfl
     have d1 : wc.cell? ⟨tb, 1, none⟩ = some (.bool hk1) := by rw [cell_of_row _ _ _ _ _ _ htb]; rfl
     have d2 : wc.cell? ⟨tb, 2, none⟩ = some (.int .i64 (ck1 : Nat)) := by rw [cell_of_row _ _ _ _ _ _ htb]; rfl
     have sg := HSG.out wc hbx
     have HTC : Hid (TrW w1 wc (.slice od k oc) k X0) := ⟨ownsRow_below HTR.out.row hbx, HTR.out.bel.trans (hbx.mono HTR.out.bel.size)⟩
     clear hcut htb hbx HSG HCE HAK HTR HBW hI1 hs0 c0 c1
     go_upto_region 7 with fail
     go_quiet (fail)
     obtain ⟨w9, hw9⟩ : ∃ w9, w9 = wc.drewN nq := ⟨_, rfl⟩
     have b9 : Below wc.heap.size wc w9 := by rw [hw9]; exact ⟨rfl, rfl, rfl, Nat.le_refl _, fun _ _ => rfl⟩
     have g0 : w9.cell? ⟨tb, 0, none⟩ = some (.bool gk1) := by rw [b9.cell (block_lt_of_cell d0)]; exact d0
     have g1 : w9.cell? ⟨tb, 1, none⟩ = some (.bool hk1) := by rw [b9.cell (block_lt_of_cell d1)]; exact d1
     have g2 : w9.cell? ⟨tb, 2, none⟩ = some (.int .i64 (ck1 : Nat)) := by rw [b9.cell (block_lt_of_cell d2)]; exact d2
     have HT9 : Hid (TrW w1 w9 (.slice od k oc) k X0) := ⟨ownsRow_below HTC.out.row b9, HTC.out.bel.trans (b9.mono HTC.out.bel.size)⟩
     rw [← hw9]
     clear hw9 b9 d0 d1 d2 sg HTC
     go_wp2_with (at_builtin; refine wpList_append_own _ rfl (.tmp 41) (.tmp 43) 85 rfl w1.heap.size 52 i0 _ 3 16 Tryz.underlying85 hi hz0 hz1 hz2 rfl (by decide) _ _ _ rfl (HT9.out.row.alloc _) ⟨w9.heap.size, 0, none⟩ 1 1 [.bool gk1, .bool hk1, .int .i64 (ck1 : Nat)] rfl rfl (new_cells _ _ _) (by simp [Value.oneCell']) (by unfold maxLen; omega) (by omega) (by have := HT9.out.bel.size; simp; omega) ?_; intro v2 w2 hown2 hgrow _)
     have HX : Hid (TrW w1 w2 v2 (k + 1) (trCells kl gv (k + 1))) := by
      refine ⟨?_, (HT9.out.bel.alloc HT9.out.bel.size _).grown hgrow (by have := HT9.out.bel.size; simp; omega) (fun q hq => (HT9.out.row.lt q hq).1)⟩
      rw [HNX.out]
      exact hown2
     go_roundw
     case rel => exact ⟨k + 1, hlt, by go_num, HX.out⟩
     case measure => simp [intOf]; omega
  · have hke : k = l.length := by omega
    have HE9 : Hid (wr.ownsRow w.heap.size 52 3 (.slice od 36 oc) 36 (trCells kl gv 36) ∧ Below w.heap.size w wr) := by
     have e : k = 36 := by rw [hke]; exact HL.out
     rw [e] at hT
     exact ⟨ownsRow_base hT.row HA.out.bel.size, hbw⟩
    have hk36 : Hid (k = 36) := by
     have e : k = 36 := by rw [hke]; exact HL.out
     exact e
    clear hT hke hb1 hbw
    go_wp2_with fail
    go_ret2
    exact ⟨od, oc, by rw [hk36.out]; rfl, HE9.out⟩
end Go.Proofs.YtdmicblafmhflaaGreatDoor
/- axiomkeep.Shop.right: what its loops work out. -/
namespace Go.Proofs.YtdmicblafmhflaaGreatDoor
open Go.RowKit
def b3 (H : Nat → Bool) (C : Nat → Nat) (i : Nat) : Nat → Nat := fun x => (if x < i ∧ (H x && H (4 + 5 * x)) = true then 1 else 0) + ((if x < i ∧ (H x && H (20 + 5 * x)) = true then 1 else 0) + C x)
end Go.Proofs.YtdmicblafmhflaaGreatDoor
/- axiomkeep.Shop.apply: what it keeps. -/
namespace Go.Proofs.YtdmicblafmhflaaGreatDoor
open Go.RowKit Go.Maps
def idxs (L : List Int) : List Nat := (L.take 30).map fun c => Ax.gpick c 36
theorem idxs_lt (L : List Int) : ∀ i, i ∈ idxs L → i < 36 := by
 intro i hi
 obtain ⟨c, _, rfl⟩ := List.mem_map.1 hi
 exact Ax.gpick_lt c 36 (by decide)
theorem idxs_len (L : List Int) : (idxs L).length ≤ 30 := by simp [idxs]; omega
theorem idxs_take {L : List Int} {k : Nat} (h1 : k < L.length) (h2 : k < 30) : (idxs L).take (k + 1) = (idxs L).take k ++ [Ax.gpick L[k] 36] := by
 unfold idxs
 rw [← List.map_take, ← List.map_take, List.take_take, List.take_take, Nat.min_eq_left (by omega), Nat.min_eq_left (by omega), List.take_add_one, List.getElem?_eq_getElem h1, List.map_append]
 rfl
theorem idxs_all {L : List Int} {k : Nat} (h : ¬ (k < L.length ∧ k < 30)) : (idxs L).take k = idxs L := by
 refine List.take_of_length_le ?_
 simp [idxs]
 omega
structure FOK (L : List Int) (fd : Option Addr) (fc : Nat) (l : List FI) (W : World) : Prop where
 inn : FactsIn W fd fc l
 idx : FIdx l (idxs L)
theorem FOK.below {L : List Int} {fd : Option Addr} {fc : Nat} {l : List FI} {W W' : World} (h : FOK L fd fc l W) (hb : Below W.heap.size W W') : FOK L fd fc l W' := ⟨h.inn.below hb, h.idx⟩
theorem FOK.len {L : List Int} {fd : Option Addr} {fc : Nat} {l : List FI} {W : World} (h : FOK L fd fc l W) : l.length ≤ 30 := by
 rw [← h.idx.len]
 exact idxs_len L
theorem fok_of {W w' : World} {v : Value} {l : List FI} {L : List Int} (h : FacW W w' v l (fdats L)) : ∃ fd fc, v = .slice fd l.length fc ∧ FOK L fd fc l w' := by
 obtain ⟨fd, fc, rfl⟩ := ownsRow_shape h.row
 refine ⟨fd, fc, rfl, ⟨ownsRow_base h.row (Nat.zero_le _), fun f hf => ownsRow_base (h.each f hf) (Nat.zero_le _)⟩, ?_, idxs_lt L⟩
 rw [h.data]
 unfold fdats idxs
 rw [List.map_map]
 rfl
structure ShW (B : Nat) (w : World) (sb eg : Nat) (rv : Value) (kl : List Ax.KRule) (gs ge : Nat → Bool) (n : Nat) : Prop where
 shop : ShopIs w sb eg rv gs
 eng : Eng w B eg kl ge n
 le : B ≤ sb
theorem ShW.below {B : Nat} {w w' : World} {sb eg : Nat} {rv : Value} {kl : List Ax.KRule} {gs ge : Nat → Bool} {n : Nat} (h : ShW B w sb eg rv kl gs ge n) (hb : Below w.heap.size w w') : ShW B w' sb eg rv kl gs ge n := ⟨h.shop.below hb, h.eng.below hb, h.le⟩
theorem Eng.off {w w' : World} {B eg : Nat} {kl : List Ax.KRule} {gv : Nat → Bool} {n : Nat} (h : Eng w B eg kl gv n) {x : Nat} (hk : Kb [x] w w') {Z : Array Value} {f : Nat × Nat} (hx : w.heap[x]? = some (.cells Z 43 f)) : Eng w' B eg kl gv n := by
 obtain ⟨pl, rd, rc, l, gm, G, hm, T, s, hd, lv, ln, lx, eb, hin, he, hG, hR, hH, hI, hT, hd32, hlog, hln, hpl9⟩ := h.at_
 have hne : eg ≠ x := blk_ne eb hx (by decide)
 refine ⟨⟨pl, rd, rc, l, gm, G, hm, T, s, hd, lv, ln, lx, hk.heap eb (by simpa using hne), hin.kept hk ?_, he, hG.kept hk (hG.type_out hx (by decide) (by decide)), hR, hH.kept hk ?_, hI, hT, hd32, hk.row_type hlog ?_, hln, hpl9⟩, h.ge⟩
 · intro b cur U hb e
   simp only [List.mem_cons, List.not_mem_nil, or_false] at hb
   subst hb
   rw [hx] at e
   simp at e
   rw [← e.2.1]
   decide
 · intro b hb e
   simp only [List.mem_cons, List.not_mem_nil, or_false] at e
   subst e
   unfold hallfoot at hb
   rcases List.mem_cons.1 hb with rfl | hb
   · obtain ⟨es, ck, e⟩ := hH.map.block
     rw [e] at hx
     cases hx
   · obtain ⟨u, hu, hb⟩ := List.mem_flatMap.1 hb
     obtain ⟨cur, T, e, hT⟩ := (hH.tabs u hu).types hb
     rw [e] at hx
     simp at hx
     rcases hT with rfl | rfl | rfl
     · exact absurd hx.2.1 (by decide)
     · exact absurd hx.2.1 (by decide)
     · exact absurd hx.2.1 (by decide)
 · intro b cur fz hb e
   simp only [List.mem_cons, List.not_mem_nil, or_false] at hb
   subst hb
   rw [hx] at e
   simp at e
theorem shCells_set (eg : Nat) (rv : Value) (gv : Nat → Bool) (i : Nat) (b : Bool) : (shCells eg rv gv).setIfInBounds (2 + i) (.bool b) = shCells eg rv (setG gv i b) := by
 unfold shCells
 have h := bCells_set gv i b
 rw [List.setIfInBounds_toArray] at h
 have h2 : (bCells gv).set i (.bool b) = bCells (setG gv i b) := by simpa using congrArg Array.toList h
 rw [List.setIfInBounds_toArray, List.set_append_right _ _ (by simp)]
 have e : 2 + i - [Value.pointer (some ⟨eg, 0, none⟩), rv].length = i := by simp
 rw [e, h2]
theorem ShW.set {B : Nat} {w : World} {sb eg : Nat} {rv : Value} {kl : List Ax.KRule} {gs ge : Nat → Bool} {n : Nat} (h : ShW B w sb eg rv kl gs ge n) (i : Nat) (b : Bool) : ShW B (w.setCell ⟨sb, 2 + i, none⟩ (.bool b)) sb eg rv kl (setG gs i b) ge n ∧ Below B w (w.setCell ⟨sb, 2 + i, none⟩ (.bool b)) := by
 have hs := h.shop
 unfold ShopIs at hs
 have hk : Kb [sb] w (w.setCell ⟨sb, 2 + i, none⟩ (.bool b)) := Kb.setCell w ⟨sb, 2 + i, none⟩ _
 refine ⟨⟨?_, h.eng.off hk hs, h.le⟩, (Below.refl _ _).setCell (p := ⟨sb, 2 + i, none⟩) h.le _⟩
 unfold ShopIs
 rw [setCell_heap w hs (2 + i), shCells_set]
theorem ShW.cell {B : Nat} {w : World} {sb eg : Nat} {rv : Value} {kl : List Ax.KRule} {gs ge : Nat → Bool} {n : Nat} (h : ShW B w sb eg rv kl gs ge n) {i : Nat} (hi : i < 36) : w.cell? ⟨sb, 2 + i, none⟩ = some (.bool (gs i)) ∧ w.frozen? ⟨sb, 2 + i, none⟩ = false ∧ sb < w.heap.size := by
 have hs := h.shop
 unfold ShopIs at hs
 exact ⟨h.shop.cells.2.2 i hi, by simp [World.frozen?, hs], lt_of_heap hs⟩
end Go.Proofs.YtdmicblafmhflaaGreatDoor
