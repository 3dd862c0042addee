/- axiomkeep.Shop.truths. -/
import Derived.Test.YtdmicblafmhflaaGreatDoorC41
import Derived.Test.YtdmicblafmhflaaGreatDoorC42
import Derived.Deep.RegionHeld3
import Derived.BigQuiet

namespace Go.Proofs.YtdmicblafmhflaaGreatDoor
set_option linter.unusedSimpArgs false
set_option linter.unusedVariables false
open Go.RowKit Go.Maps
theorem Tryz.infoTruth : (Tryz.prog.info? 52).map (fun i => (i.zero, i.size, i.bytes)) = some (some (.agg #[.bool false, .bool false, .int .i64 0]), 3, 16) := by kernel_rfl
/-- the region of Ask: b the block of its answer, if it is made -/
structure TI (wr : World) (b : Option Nat) (W : World) : Prop where
  bel : Below wr.heap.size wr W
  blk : ∀ x, b = some x → wr.heap.size ≤ x ∧ W.heap[x]? = some (.cells #[.bool false, .bool false, .int .i64 0] 52 (0, 0))
theorem TI.below {wr W w' : World} {b : Option Nat} (h : TI wr b W) (hb : Below W.heap.size W w') : TI wr b w' := by
  refine ⟨h.bel.trans (hb.mono h.bel.size), ?_⟩
  intro x hx
  obtain ⟨h1, h2⟩ := h.blk x hx
  exact ⟨h1, by rw [hb.block _ (lt_of_heap h2)]; exact h2⟩
theorem TI.drew {wr W : World} {b : Option Nat} (h : TI wr b W) : TI wr b W.drew := h.below (Below.refl _ _).drew
theorem TI.alloc {wr W : World} (h : TI wr none W) : TI wr (some W.heap.size) (W.alloc (.cells #[.bool false, .bool false, .int .i64 0] 52)) := by
  refine ⟨h.bel.alloc h.bel.size _, ?_⟩
  intro x hx
  simp only [Option.some.injEq] at hx
  subst hx
  exact ⟨h.bel.size, heap_alloc_new _ _⟩
theorem TI.cells {wr W : World} {x : Nat} (h : TI wr (some x) W) : W.cell? ⟨x, 0, none⟩ = some (.bool false) ∧ W.cell? ⟨x, 1, none⟩ = some (.bool false) ∧ W.cell? ⟨x, 2, none⟩ = some (.int .i64 0) ∧ W.frozen? ⟨x, 0, none⟩ = false ∧ W.frozen? ⟨x, 1, none⟩ = false ∧ W.frozen? ⟨x, 2, none⟩ = false ∧ x < W.heap.size := by
  obtain ⟨h1, h2⟩ := h.blk x rfl
  exact ⟨by rw [cell_of_row _ _ _ _ _ _ h2]; rfl, by rw [cell_of_row _ _ _ _ _ _ h2]; rfl, by rw [cell_of_row _ _ _ _ _ _ h2]; rfl, by simp [World.frozen?, h2], by simp [World.frozen?, h2], by simp [World.frozen?, h2], lt_of_heap h2⟩
/-- the answer lies -/
structure TCut (wr : World) (g h : Bool) (c : Nat) (v7 v8 : Value) (wx : World) : Prop where
  v8 : v8 = .int .i64 0
  out : ∃ tb, v7 = .pointer (some ⟨tb, 0, none⟩) ∧ wx.heap[tb]? = some (.cells #[.bool g, .bool h, .int .i64 (c : Nat)] 52 (0, 0)) ∧ Below wr.heap.size wr wx
theorem TI.cut_a {wr W : World} {x : Nat} (h : TI wr (some x) W) (g k : Bool) (c : Nat) : TCut wr g k c (.pointer (some ⟨x, 0, none⟩)) (.int .i64 0) (((W.setCell ⟨x, 0, none⟩ (.bool g)).setCell ⟨x, 1, none⟩ (.bool k)).setCell ⟨x, 2, none⟩ (.int .i64 (c : Nat))) := by
  obtain ⟨h1, h2⟩ := h.blk x rfl
  exact ⟨rfl, x, rfl, stores3 h2 _ _ _, ((h.bel.setCell (p := ⟨x, 0, none⟩) h1 _).setCell (p := ⟨x, 1, none⟩) h1 _).setCell (p := ⟨x, 2, none⟩) h1 _⟩
theorem TI.cut_b {wr W : World} (h : TI wr none W) (g k : Bool) (c : Nat) : TCut wr g k c (.pointer (some ⟨W.heap.size, 0, none⟩)) (.int .i64 0) (W.alloc (.cells #[.bool g, .bool k, .int .i64 (c : Nat)] 52)) :=
  ⟨rfl, W.heap.size, rfl, heap_alloc_new _ _, h.bel.alloc h.bel.size _⟩
/-- the list as it grows -/
structure TrW (w wr : World) (out : Value) (k : Nat) (xs : List Value) : Prop where
  row : wr.ownsRow w.heap.size 52 3 out k xs
  bel : Below w.heap.size w wr
set_option maxRecDepth 100000 in
set_option maxHeartbeats 4000000 in
theorem truths_any (w : World) (B sb eg : Nat) (rv : Value) (kl : List Ax.KRule) (gv : Nat → Bool) (n : Nat) (hS : ShopIs w sb eg rv gv) (hE : Eng w B eg kl gv n) (hg : GvOk gv) (hU : UTabs w) :
    Calls Tryz.prog 36 #[.pointer (some ⟨sb, 0, none⟩)] w fun e w' => ∃ od oc, e = .returned (.tuple #[.slice od 36 oc, .bool true]) ∧ w'.ownsRow w.heap.size 52 3 (.slice od 36 oc) 36 (trCells kl gv 36) ∧ Below w.heap.size w w' := by
  obtain ⟨i0, hi, hz0, hz1, hz2⟩ := info_parts Tryz.infoTruth
  have HSH : Hid (∀ W, Below w.heap.size w W → W.cell? ⟨sb, 0, none⟩ = some (.pointer (some ⟨eg, 0, none⟩)) ∧ ∀ i, i < 36 → W.cell? ⟨sb, 2 + i, none⟩ = some (.bool (gv i))) := fun W hW => ⟨(hS.below hW).cells.1, (hS.below hW).cells.2.2⟩
  have HASK : Hid (∀ wr i av b W, Below w.heap.size w wr → i < 36 → wr.ownsRow 0 9 1 av (dat i).2.length (strCells (dat i).2) → TI wr b W → Calls Tryz.prog 21 #[.pointer (some ⟨eg, 0, none⟩), .agg #[.string (dat i).1, av]] W fun e w' => e = .returned (.tuple #[.agg #[.bool (gv i), .bool (En.leastN (En.nRules kl) gv i), .int .i64 (cnN kl gv i : Nat)], .int .i64 0]) ∧ TI wr b w') := by
    intro wr i av b W hwr hi hav hW
    have hb := hwr.trans (hW.bel.mono hwr.size)
    refine (ask_eng (hE.below hb) hg (Utf8Tabs_below hU hb) hi (ownsRow_below hav hW.bel)).mono ?_
    rintro e w' ⟨rfl, hb'⟩
    exact ⟨rfl, hW.below hb'⟩
  have hsbl := lt_of_heap hS
  clear hS hE hg hU
  go_enter Tryz.func36, Tryz.ntmps36
  go_wp2_with (go_at_call 65; refine (all_any _).mono ?_; rintro e w1 ⟨v, l, rfl, hA⟩; obtain ⟨ad, ac, hv⟩ := ownsRow_shape hA.row; subst hv)
  have HA : Hid (AllW w w1 (.slice ad l.length ac) 36 l) := hA
  have HL : Hid (l.length = 36) := hA.len
  have hll : l.length ≤ 36 := by rw [HL.out]; exact Nat.le_refl _
  clear hA
  go_loopw [5, 6] (fun o i wr => ∃ (k : Nat), k ≤ l.length ∧ i = .int .i64 k ∧ TrW w1 wr o k (trCells kl gv k)) (fun _ i _ => l.length - (intOf i).toNat)
  case atStart => exact ⟨0, Nat.zero_le _, rfl, ⟨World.ownsRow_nil _ _ _ _, Below.refl _ _⟩⟩
  case round =>
    obtain ⟨k, hk, rfl, hT⟩ := hrel
    have hb1 := hT.bel
    have hbw : Below w.heap.size w wr := HA.out.bel.trans (hb1.mono HA.out.bel.size)
    obtain ⟨od, oc, rfl⟩ := ownsRow_shape hT.row
    by_cases hlt : k < l.length
    · have hk36 : k < 36 := by omega
      have hAr := HA.out.below hb1
      obtain ⟨g, rfl, hgl, hcc, hcs⟩ := row_cells hAr.row (by omega)
      have c0 := hcs _ _ (fiCells_get l k hlt).1
      have c1 := hcs _ _ (fiCells_get l k hlt).2
      have hd := congrArg (fun x => x[k]?) hAr.data
      simp only [List.getElem?_map, List.getElem?_eq_getElem hlt, Option.map_some, List.getElem?_range hk36, Option.some.injEq] at hd
      have hav := hAr.each _ (List.getElem_mem hlt)
      have e1 : (l[k]).pred = (dat k).1 := congrArg Prod.fst hd
      have e2 : (l[k]).args = (dat k).2 := congrArg Prod.snd hd
      rw [e2] at hav
      rw [e1] at c0
      obtain ⟨xd, xc, hxv⟩ := ownsRow_shape hav
      rw [hxv] at c1 hav
      have HAK : Hid (∀ b W, TI wr b W → Calls Tryz.prog 21 #[.pointer (some ⟨eg, 0, none⟩), .agg #[.string (dat k).1, .slice xd (dat k).2.length xc]] W fun e w' => e = .returned (.tuple #[.agg #[.bool (gv k), .bool (En.leastN (En.nRules kl) gv k), .int .i64 (cnN kl gv k : Nat)], .int .i64 0]) ∧ TI wr b w') := fun b W hW => HASK.out wr k _ b W hbw hk36 (ownsRow_base hav (Nat.zero_le _)) hW
      have HNX : Hid (trCells kl gv (k + 1) = trCells kl gv k ++ [.bool (gv k), .bool (En.leastN (En.nRules kl) gv k), .int .i64 (cnN kl gv k : Nat)]) := trCells_succ kl gv k
      have HBW : Hid (Below w.heap.size w wr) := hbw
      have hs0 := (HSH.out wr hbw).1
      have hI1 : TI wr none wr := ⟨Below.refl _ _, fun x h => by cases h⟩
      have HCE : Hid (∀ W, Below wr.heap.size wr W → W.cell? ⟨sb, 0, none⟩ = some (.pointer (some ⟨eg, 0, none⟩)) ∧ W.cell? ⟨g, k * 2, none⟩ = some (.string (dat k).1) ∧ W.cell? ⟨g, k * 2 + 1, none⟩ = some (.slice xd (dat k).2.length xc)) := fun W hW => ⟨by rw [hW.cell (block_lt_of_cell hs0)]; exact hs0, by rw [hW.cell (block_lt_of_cell c0)]; exact c0, by rw [hW.cell (block_lt_of_cell c1)]; exact c1⟩
      have HTR : Hid (TrW w1 wr (.slice od k oc) k (trCells kl gv k)) := hT
      have HSG : Hid (∀ W, Below wr.heap.size wr W → W.cell? ⟨sb, 2 + k, none⟩ = some (.bool (gv k))) := fun W hW => (HSH.out W (HBW.out.trans (hW.mono HBW.out.size))).2 k hk36
      clear hT hAr hcs hd hav e1 e2 hxv HASK HSH hb1 hbw
      generalize trCells kl gv k = X0 at *
      generalize En.leastN (En.nRules kl) gv k = hk1 at *
      generalize cnN kl gv k = ck1 at *
      generalize gv k = gk1 at *
      generalize (dat k).1 = pk1 at *
      generalize (dat k).2.length = nk1 at *
      go_upto_region 6 with fail
      go_cut [7, 8] from 10 to 44 (fun v7 v8 wx => Hid (TCut wr gk1 hk1 ck1 v7 v8 wx))
      case first =>
        go_region_held3 (fun W => W.cell? ⟨sb, 0, none⟩ = some (.pointer (some ⟨eg, 0, none⟩)) ∧ W.cell? ⟨g, k * 2, none⟩ = some (.string pk1) ∧ W.cell? ⟨g, k * 2 + 1, none⟩ = some (.slice xd nk1 xc)) (first | (exact HCE.out _ (TI.bel (by assumption))) | (exact HCE.out _ (TI.bel (TI.drew (by assumption)))) | (exact HCE.out _ (TI.bel (TI.alloc (by assumption)))) | (exact HCE.out _ (TI.bel (TI.alloc (TI.drew (by assumption))))) | (exact HCE.out _ (by obtain ⟨_, _, _, _, hbb⟩ := TI.cut_a (by assumption) gk1 hk1 ck1; exact hbb)) | (exact HCE.out _ (by obtain ⟨_, _, _, _, hbb⟩ := TI.cut_b (by assumption) gk1 hk1 ck1; exact hbb))) ((go_at_call 21; refine (HAK.out _ _ (by first | assumption | exact TI.drew (by assumption) | exact TI.alloc (by assumption) | exact TI.alloc (TI.drew (by assumption)))).mono ?_; rintro e wn ⟨rfl, hTn⟩; (try (obtain ⟨z0, z1, z2, f0, f1, f2, zl⟩ := TI.cells hTn; (try simp only [World.size_drew] at z0 z1 z2 f0 f1 f2 zl)))))
        all_goals
          (go_wp2_with fail
           go_meet
           first
           | exact TI.cut_a (by assumption) _ _ _
           | exact TI.cut_b (by assumption) _ _ _)
      case rest =>
        obtain ⟨hv8, tb, hv7, htb, hbx⟩ := hcut.out
        subst hv8
        subst hv7
        have d0 : wc.cell? ⟨tb, 0, none⟩ = some (.bool gk1) := by rw [cell_of_row _ _ _ _ _ _ htb]; rfl
        have d1 : wc.cell? ⟨tb, 1, none⟩ = some (.bool hk1) := by rw [cell_of_row _ _ _ _ _ _ htb]; rfl
        have d2 : wc.cell? ⟨tb, 2, none⟩ = some (.int .i64 (ck1 : Nat)) := by rw [cell_of_row _ _ _ _ _ _ htb]; rfl
        have sg := HSG.out wc hbx
        have HTC : Hid (TrW w1 wc (.slice od k oc) k X0) := ⟨ownsRow_below HTR.out.row hbx, HTR.out.bel.trans (hbx.mono HTR.out.bel.size)⟩
        clear hcut htb hbx HSG HCE HAK HTR HBW hI1 hs0 c0 c1
        go_upto_region 7 with fail
        go_quiet (fail)
        obtain ⟨w9, hw9⟩ : ∃ w9, w9 = wc.drewN nq := ⟨_, rfl⟩
        have b9 : Below wc.heap.size wc w9 := by rw [hw9]; exact ⟨rfl, rfl, rfl, Nat.le_refl _, fun _ _ => rfl⟩
        have g0 : w9.cell? ⟨tb, 0, none⟩ = some (.bool gk1) := by rw [b9.cell (block_lt_of_cell d0)]; exact d0
        have g1 : w9.cell? ⟨tb, 1, none⟩ = some (.bool hk1) := by rw [b9.cell (block_lt_of_cell d1)]; exact d1
        have g2 : w9.cell? ⟨tb, 2, none⟩ = some (.int .i64 (ck1 : Nat)) := by rw [b9.cell (block_lt_of_cell d2)]; exact d2
        have HT9 : Hid (TrW w1 w9 (.slice od k oc) k X0) := ⟨ownsRow_below HTC.out.row b9, HTC.out.bel.trans (b9.mono HTC.out.bel.size)⟩
        rw [← hw9]
        clear hw9 b9 d0 d1 d2 sg HTC
        go_wp2_with (at_builtin; refine wpList_append_own _ rfl (.tmp 41) (.tmp 43) 85 rfl w1.heap.size 52 i0 _ 3 16 Tryz.underlying85 hi hz0 hz1 hz2 rfl (by decide) _ _ _ rfl (HT9.out.row.alloc _) ⟨w9.heap.size, 0, none⟩ 1 1 [.bool gk1, .bool hk1, .int .i64 (ck1 : Nat)] rfl rfl (new_cells _ _ _) (by simp [Value.oneCell']) (by unfold maxLen; omega) (by omega) (by have := HT9.out.bel.size; simp; omega) ?_; intro v2 w2 hown2 hgrow _)
        have HX : Hid (TrW w1 w2 v2 (k + 1) (trCells kl gv (k + 1))) := by
          refine ⟨?_, (HT9.out.bel.alloc HT9.out.bel.size _).grown hgrow (by have := HT9.out.bel.size; simp; omega) (fun q hq => (HT9.out.row.lt q hq).1)⟩
          rw [HNX.out]
          exact hown2
        go_roundw
        case rel => exact ⟨k + 1, hlt, by go_num, HX.out⟩
        case measure => simp [intOf]; omega
    · have hke : k = l.length := by omega
      have HE9 : Hid (wr.ownsRow w.heap.size 52 3 (.slice od 36 oc) 36 (trCells kl gv 36) ∧ Below w.heap.size w wr) := by
        have e : k = 36 := by rw [hke]; exact HL.out
        rw [e] at hT
        exact ⟨ownsRow_base hT.row HA.out.bel.size, hbw⟩
      have hk36 : Hid (k = 36) := by
        have e : k = 36 := by rw [hke]; exact HL.out
        exact e
      clear hT hke hb1 hbw
      go_wp2_with fail
      go_ret2
      exact ⟨od, oc, by rw [hk36.out]; rfl, HE9.out⟩
end Go.Proofs.YtdmicblafmhflaaGreatDoor

/- axiomkeep.Shop.right: what its loops work out. -/
namespace Go.Proofs.YtdmicblafmhflaaGreatDoor
set_option linter.unusedSimpArgs false
set_option linter.unusedVariables false
open Go.RowKit
def nCells (C : Nat → Nat) : List Value := (List.range 36).map fun i => .int .i64 (C i : Nat)
theorem nCells_at (C : Nat → Nat) {i : Nat} (h : i < 36) : (nCells C)[i]? = some (.int .i64 (C i : Nat)) := by simp [nCells, h]
theorem nCells_len (C : Nat → Nat) : (nCells C).length = 36 := by simp [nCells]
theorem nCells_ext {H K : Nat → Nat} (h : ∀ i, i < 36 → H i = K i) : nCells H = nCells K := by
  unfold nCells
  refine List.map_congr_left ?_
  intro i hi
  rw [h i (by simpa using hi)]
def setN (C : Nat → Nat) (x n : Nat) : Nat → Nat := fun j => if j = x then n else C j
theorem nCells_set (H : Nat → Nat) (x n : Nat) : (nCells H).toArray.setIfInBounds x (.int .i64 (n : Nat)) = (nCells (setN H x n)).toArray := by
  rw [List.setIfInBounds_toArray]
  congr 1
  apply List.ext_getElem?
  intro i
  rw [List.getElem?_set]
  by_cases hi : i < 36
  · by_cases e : x = i
    · subst e
      rw [if_pos rfl, if_pos (by rw [nCells_len]; exact hi), nCells_at _ hi]
      simp [setN]
    · rw [if_neg e, nCells_at _ hi, nCells_at _ hi]
      simp [setN, Ne.symm e]
  · have h1 : (nCells H)[i]? = none := List.getElem?_eq_none (by rw [nCells_len]; omega)
    have h2 : (nCells (setN H x n))[i]? = none := List.getElem?_eq_none (by rw [nCells_len]; omega)
    rw [h1, h2]
    by_cases e : x = i
    · subst e
      rw [if_pos rfl, if_neg (by rw [nCells_len]; omega)]
    · rw [if_neg e]
def CntIs (w : World) (cb : Nat) (C : Nat → Nat) : Prop := w.heap[cb]? = some (.cells (nCells C).toArray 88 (0, 0))
/-- the counts, while they are made: behind w2 -/
structure RiW (w2 wr : World) (C : Nat → Nat) : Prop where
  cnt : CntIs wr w2.heap.size C
  bel : Below w2.heap.size w2 wr
theorem RiW.below {w2 wr w' : World} {C : Nat → Nat} (h : RiW w2 wr C) (hb : Below wr.heap.size wr w') : RiW w2 w' C := by
  refine ⟨?_, h.bel.trans (hb.mono h.bel.size)⟩
  have := h.cnt
  unfold CntIs at this ⊢
  rw [hb.block _ (lt_of_heap this)]
  exact this
theorem RiW.set {w2 wr : World} {C : Nat → Nat} (h : RiW w2 wr C) (x n : Nat) : RiW w2 (wr.setCell ⟨w2.heap.size, x, none⟩ (.int .i64 (n : Nat))) (setN C x n) := by
  refine ⟨?_, h.bel.setCell (p := ⟨w2.heap.size, x, none⟩) (Nat.le_refl _) _⟩
  unfold CntIs
  rw [setCell_heap wr h.cnt x, nCells_set]
theorem RiW.ext {w2 wr : World} {C D : Nat → Nat} (h : RiW w2 wr C) (e : ∀ i, i < 36 → C i = D i) : RiW w2 wr D := by
  refine ⟨?_, h.bel⟩
  have := h.cnt
  unfold CntIs at this ⊢
  rw [← nCells_ext e]
  exact this
theorem RiW.cell {w2 wr : World} {C : Nat → Nat} (h : RiW w2 wr C) {i : Nat} (hi : i < 36) : wr.cell? ⟨w2.heap.size, i, none⟩ = some (.int .i64 (C i : Nat)) ∧ wr.frozen? ⟨w2.heap.size, i, none⟩ = false ∧ w2.heap.size < wr.heap.size := by
  have h2 := h.cnt
  unfold CntIs at h2
  refine ⟨?_, by simp [World.frozen?, h2], lt_of_heap h2⟩
  rw [cell_of_row _ _ _ _ _ _ h2]
  simpa using nCells_at C hi
/-- the instances of the first i rules -/
def sumR (R : List En.NRule) (H : Nat → Bool) (i : Nat) : Nat → Nat := fun x => ((R.take i).map fun r => En.countN (En.instN r H) x).sum
theorem sumR_succ {R : List En.NRule} {H : Nat → Bool} {i : Nat} (hi : i < R.length) (x : Nat) : sumR R H (i + 1) x = sumR R H i x + En.countN (En.instN R[i] H) x := by
  unfold sumR
  rw [List.take_add_one, List.getElem?_eq_getElem hi, List.map_append, List.sum_append]
  simp
theorem instN_len (r : En.NRule) (H : Nat → Bool) : (En.instN r H).length ≤ 64 := by
  unfold En.instN En.okH En.vs
  rw [List.length_map]
  refine Nat.le_trans (List.length_filter_le _ _) (Nat.le_trans (List.length_filter_le _ _) (by simp))
theorem sumR_le (R : List En.NRule) (H : Nat → Bool) (x : Nat) : ∀ i, sumR R H i x ≤ 64 * i
  | 0 => Nat.le_refl _
  | i + 1 => by
    by_cases hi : i < R.length
    · rw [sumR_succ hi]
      have h1 := sumR_le R H x i
      have h2 : En.countN (En.instN R[i] H) x ≤ 64 := Nat.le_trans List.count_le_length (instN_len _ _)
      omega
    · have : sumR R H (i + 1) x = sumR R H i x := by
        unfold sumR
        rw [List.take_of_length_le (by omega), List.take_of_length_le (by omega)]
      rw [this]
      have h1 := sumR_le R H x i
      omega
/-- and, of the list L, the first k -/
def addL (C : Nat → Nat) (L : List Nat) (k : Nat) : Nat → Nat := fun x => C x + En.countN (L.take k) x
theorem addL_succ {C : Nat → Nat} {L : List Nat} {k : Nat} (hk : k < L.length) : setN (addL C L k) L[k] (addL C L k L[k] + 1) = addL C L (k + 1) := by
  funext x
  unfold setN addL En.countN
  rw [List.take_add_one, List.getElem?_eq_getElem hk, List.count_append]
  by_cases e : x = L[k]
  · subst e
    rw [if_pos rfl]
    simp
    omega
  · rw [if_neg e]
    simp [Ne.symm e]
/-- the two rules that say nothing new, the first i facts of n -/
def b3 (H : Nat → Bool) (C : Nat → Nat) (i : Nat) : Nat → Nat := fun x => (if x < i ∧ (H x && H (4 + 5 * x)) = true then 1 else 0) + ((if x < i ∧ (H x && H (20 + 5 * x)) = true then 1 else 0) + C x)
theorem b3_0 (H : Nat → Bool) (C : Nat → Nat) : b3 H C 0 = C := by
  funext x
  simp [b3]
/-- with the first of the two said -/
def b3a (H : Nat → Bool) (C : Nat → Nat) (i : Nat) : Nat → Nat := setN (b3 H C i) i (b3 H C i i + (if (H i && H (4 + 5 * i)) = true then 1 else 0))
theorem b3_at (H : Nat → Bool) (C : Nat → Nat) (i : Nat) : b3 H C i i = C i := by simp [b3]
theorem b3_succ (H : Nat → Bool) (C : Nat → Nat) (i : Nat) : setN (b3a H C i) i (b3a H C i i + (if (H i && H (20 + 5 * i)) = true then 1 else 0)) = b3 H C (i + 1) := by
  funext x
  unfold setN
  by_cases e : x = i
  · subst e
    rw [if_pos rfl]
    have : b3a H C x x = C x + (if (H x && H (4 + 5 * x)) = true then 1 else 0) := by simp [b3a, setN, b3_at]
    rw [this]
    unfold b3
    have h1 : x < x + 1 := by omega
    simp only [h1, true_and]
    omega
  · rw [if_neg e]
    have h1 : (x < i + 1) = (x < i) := by
      rw [eq_iff_iff]
      omega
    unfold b3a setN
    rw [if_neg e]
    unfold b3
    simp only [h1]
theorem setN_self (C : Nat → Nat) (i : Nat) : setN C i (C i + 0) = C := by
  funext x
  unfold setN
  by_cases e : x = i
  · subst e; simp
  · rw [if_neg e]
theorem b3_4 (kl : List Ax.KRule) (gv : Nat → Bool) (x : Nat) : b3 (En.leastN (En.nRules kl) gv) (sumR (En.nRules kl) (En.leastN (En.nRules kl) gv) (En.nRules kl).length) 4 x = cnN kl gv x := by
  unfold b3 cnN sumR
  rw [List.take_length]
/-- what does not hold is not said -/
theorem cnN_zero {kl : List Ax.KRule} {gv : Nat → Bool} (hg : GvOk gv) {i : Nat} (h : En.leastN (En.nRules kl) gv i = false) : cnN kl gv i = 0 := by
  unfold cnN
  rw [h]
  simp only [Bool.false_and, Bool.false_eq_true, and_false, if_false, Nat.zero_add]
  have hc := En.least_closed (En.nRules_ok kl) hg
  rw [List.sum_eq_zero_iff_forall_eq_nat]
  intro y hy
  obtain ⟨r, hr, rfl⟩ := List.mem_map.1 hy
  unfold En.countN
  rw [List.count_eq_zero]
  intro hi
  obtain ⟨n, hn, rfl⟩ := List.mem_map.1 hi
  unfold En.okH at hn
  rw [List.mem_filter, List.all_eq_true] at hn
  have h9 : En.leastN (En.nRules kl) gv (En.atN (En.vOf n) r.head) = true := hc r hr n hn.1 (fun b hb => hn.2 b hb)
  rw [h] at h9
  cases h9
theorem trCells_len (kl : List Ax.KRule) (gv : Nat → Bool) : ∀ n, (trCells kl gv n).length = n * 3
  | 0 => rfl
  | n + 1 => by
    rw [trCells_succ, List.length_append, trCells_len kl gv n]
    simp
    omega
theorem trCells_get (kl : List Ax.KRule) (gv : Nat → Bool) : ∀ (k : Nat), k < 36 → (trCells kl gv 36)[k * 3 + 1]? = some (.bool (En.leastN (En.nRules kl) gv k)) ∧ (trCells kl gv 36)[k * 3 + 2]? = some (.int .i64 (cnN kl gv k : Nat)) := by
  have key : ∀ n k, k < n → (trCells kl gv n)[k * 3 + 1]? = some (.bool (En.leastN (En.nRules kl) gv k)) ∧ (trCells kl gv n)[k * 3 + 2]? = some (.int .i64 (cnN kl gv k : Nat)) := by
    intro n
    induction n with
    | zero => intro k hk; omega
    | succ n ih =>
      intro k hk
      have hl := trCells_len kl gv n
      rw [trCells_succ]
      by_cases e : k < n
      · rw [List.getElem?_append_left (by omega), List.getElem?_append_left (by omega)]
        exact ih k e
      · have : k = n := by omega
        subst this
        rw [List.getElem?_append_right (by omega), List.getElem?_append_right (by omega), hl]
        have e1 : k * 3 + 1 - k * 3 = 1 := by omega
        have e2 : k * 3 + 2 - k * 3 = 2 := by omega
        rw [e1, e2]
        exact ⟨rfl, rfl⟩
  exact key 36
end Go.Proofs.YtdmicblafmhflaaGreatDoor
