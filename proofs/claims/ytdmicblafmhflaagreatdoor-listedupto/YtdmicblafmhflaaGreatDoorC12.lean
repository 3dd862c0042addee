/- axiomkeep: head, walked. -/
import Derived.Test.YtdmicblafmhflaaGreatDoorC11
import Derived.Test.YtdmicblafmhflaaGreatDoorC04

namespace Go.Proofs.YtdmicblafmhflaaGreatDoor
set_option linter.unusedSimpArgs false
set_option linter.unusedVariables false
open Go.RowKit
theorem box_world {w w1 : World} {o : Obj} (hb : Below (w.alloc o).heap.size (w.alloc o) w1) : w1.heap[w.heap.size]? = some o ∧ Below w.heap.size w w1 ∧ w.heap.size + 1 ≤ w1.heap.size := by
  have hs := hb.size
  simp only [World.size_alloc] at hs
  exact ⟨(hb.block _ (by simp)).trans (heap_alloc_new _ _), ((Below.refl _ _).alloc (Nat.le_refl _) _).trans (hb.mono (by simp)), by omega⟩
theorem box_below {w wr w1 : World} {o : Obj} (r : wr.heap[w.heap.size]? = some o) (hb : Below w.heap.size w wr) (h1 : Below wr.heap.size wr w1) : w1.heap[w.heap.size]? = some o ∧ Below w.heap.size w w1 :=
  ⟨(h1.block _ (lt_of_heap r)).trans r, hb.trans (h1.mono hb.size)⟩
theorem box_grown {w w1 w2 : World} {o : Obj} {row : Option Nat} (r : w1.heap[w.heap.size]? = some o) (hb : Below w.heap.size w w1) (hg : w1.grownBy w2 row) (hr : ∀ k, row = some k → w.heap.size + 1 ≤ k) : w2.heap[w.heap.size]? = some o ∧ Below w.heap.size w w2 := by
  refine ⟨?_, hb.grown hg hb.size (fun k hk => by have := hr k hk; omega)⟩
  rw [hg.block _ (lt_of_heap r) (fun e => by have := hr _ e.symm; omega)]
  exact r
set_option maxRecDepth 100000 in
set_option maxHeartbeats 4000000 in
theorem head_any (w : World) (r : Ax.KRule) (ad : Option Addr) (n c : Nat) (hB : BodyAt w ad n c r.body) (h0 : Fit64 r.head.pred) (h1 : Fit64 r.head.a) (h2 : Fit64 r.head.b) :
    Calls Tryz.prog 62 #[.agg #[.int .i64 r.head.pred, .int .i64 r.head.a, .int .i64 r.head.b, .slice ad n c]] w fun e w' => ∃ d c', e = .returned (.slice d (Ax.ghead r).length c') ∧ w'.ownsRow w.heap.size 3 1 (.slice d (Ax.ghead r).length c') (Ax.ghead r).length (natCells (Ax.ghead r)) ∧ Below w.heap.size w w' := by
  have hbody := body_val hB r.head.pred r.head.a r.head.b
  have hB2 := hB.two
  have hcm : c ≤ 9223372036854775807 := hB.max
  obtain ⟨m, hm⟩ : ∃ m, min n 2 = m := ⟨_, rfl⟩
  have hm2 : m ≤ 2 := by omega
  rw [hm] at hbody hB2
  clear hm hB
  have htm := fun w => terms_any' w r.head h0 h1 h2
  have hgh : Ax.ghead r = (Ax.gterms r.head).map (fv ((Ax.gbody r).flatMap Ax.gterms)) := rfl
  have hT2 := gterms_two r.head
  rw [hgh]
  clear hgh
  generalize Ax.gbody r = gb at *
  generalize Ax.gterms r.head = T at *
  rcases r with ⟨⟨p, a, b⟩, bd⟩
  simp only at *
  clear h0 h1 h2 bd
  obtain ⟨R, hR⟩ : ∃ R, gb.flatMap Ax.gterms = R := ⟨_, rfl⟩
  rw [hR]
  have HR : Hid (gb.flatMap Ax.gterms = R) := hR
  clear hR
  rw [List.length_map]
  obtain ⟨i0, hi, hz0, hz1, hz2⟩ := info_parts Tryz.infoIntV
  have HI : Hid (Tryz.prog.info? 3 = some i0) := hi
  have HZ0 : Hid (i0.zero = some (.int .i64 0)) := hz0
  have HZ1 : Hid (i0.size = 1) := hz1
  have HZ2 : Hid (i0.bytes = 8) := hz2
  clear hi hz0 hz1 hz2
  go_enter Tryz.func62, Tryz.ntmps62
  go_wp2_with (go_at_call 63; refine (hbody _).mono ?_; rintro e w1 ⟨rfl, hb1⟩)
  obtain ⟨r1, bw1, sz1⟩ := box_world hb1
  clear hb1
  go_loopw [3, 5] (fun lv iv wr => ∃ (i : Nat) (ld : Option Addr) (lc : Nat) (L : List Nat), i ≤ m ∧ lv = .slice ld L.length lc ∧ iv = .int .i64 i ∧ L.length ≤ 2 * i ∧ (gb.take i).flatMap Ax.gterms = L ∧ wr.heap[w.heap.size]? = some (.cells #[.int .i64 p, .int .i64 a, .int .i64 b, .slice ad n c] 94 (0, 0)) ∧ Below w.heap.size w wr ∧ w.heap.size + 1 ≤ wr.heap.size ∧ wr.ownsRow (w.heap.size + 1) 3 1 (.slice ld L.length lc) L.length (natCells L)) (fun _ iv _ => m - (intOf iv).toNat)
  case atStart => exact ⟨0, none, 0, [], Nat.zero_le _, rfl, rfl, Nat.zero_le _, rfl, r1, bw1, sz1, ⟨by simp [natCells], .inl ⟨rfl, rfl⟩⟩⟩
  case round =>
    obtain ⟨i, ld, lc, L, hi, rfl, rfl, hL2, hL, hbox, hbel, hsz, hown⟩ := hrel
    have HL : Hid ((gb.take i).flatMap Ax.gterms = L) := hL
    clear hL r1 bw1 sz1
    have hbs := hbel.size
    by_cases hlt : i < m
    · have hlen := hB2.len
      obtain ⟨g, o, had, ha⟩ := hB2.at_ i (by omega)
      subst had
      have ha := ha.below hbel
      have HN : Hid ((gb.take (i + 1)).flatMap Ax.gterms = L ++ Ax.gterms gb[i]) := by
        show _ = _
        rw [vars_next gb (by omega), HL.out]
      generalize gb[i] = x at *
      obtain ⟨e0, e1, e2, f0, f1, f2⟩ := ha
      have hta := fun w => terms_any' w x f0 f1 f2
      obtain ⟨hx1, hx2⟩ := gterms_two x
      generalize Ax.gterms x = X at *
      rcases x with ⟨xp, xa, xb⟩
      simp only at e0 e1 e2 hta
      clear f0 f1 f2 hB2 hbody htm hlen
      go_wp2_with (first | (go_at_call 64; refine (hta _).mono ?_; rintro e w2 ⟨d2, c2, rfl, hown2, hb2⟩; obtain ⟨g2, rfl, hg2, hc2, hcs2⟩ := row_cells hown2 hx1; have hownL := ownsRow_below hown hb2; have hbs2 := hb2.size) | (at_builtin; refine wpList_append_lies _ rfl (.tmp 23) (.tmp 24) 31 rfl (w.heap.size + 1) 3 i0 _ 1 8 Tryz.underlying31 HI.out HZ0.out HZ1.out HZ2.out rfl (by decide) _ _ _ rfl hownL ⟨g2, 0, none⟩ X.length c2 (natCells X) rfl (by rw [natCells_length, Nat.mul_one]) (fun j u hu => by rw [Addr.add_lit, Nat.zero_add]; exact hcs2 j u hu) (natCells_oneV X) hx1 (by unfold maxLen; omega) (by omega) (by omega) _ rfl ?_; intro g3 cap3 w3 hown3 hgrow3 _ hlt3))
      obtain ⟨r2, bw2⟩ := box_below hbox hbel hb2
      obtain ⟨r3, bw3⟩ := box_grown r2 bw2 hgrow3 (fun k hk => (hownL.lt k hk).1)
      go_roundw
      case rel =>
        refine ⟨i + 1, some ⟨g3, 0, none⟩, cap3, L ++ X, by omega, by rw [List.length_append], by go_num, by rw [List.length_append]; omega, HN.out, r3, bw3, by have := hgrow3.size; omega, ?_⟩
        rw [List.length_append, ← natCells_append]
        exact hown3
      case measure => simp [intOf]; omega
    · obtain ⟨wA, rfl⟩ : ∃ x, x = wr := ⟨wr, rfl⟩
      have hlen := hB2.len
      have hLR : L = R := by rw [← HL.out, ← HR.out, List.take_of_length_le (by omega)]
      subst hLR
      clear HL HR hB2 hbody
      have k0 := cell_at hbox 0
      have k1 := cell_at hbox 1
      have k2 := cell_at hbox 2
      have k3 := cell_at hbox 3
      simp only [List.getElem?_toArray, List.getElem?_cons_zero, List.getElem?_cons_succ] at k0 k1 k2 k3
      go_wp2_with (go_at_call 64; refine (htm _).mono ?_; rintro e w2 ⟨d2, c2, rfl, hown2, hb2⟩; obtain ⟨g2, rfl, hg2, hc2, hcs2⟩ := row_cells hown2 hT2.1; have hbs2 := hb2.size)
      clear k0 k1 k2 k3 hcs2 htm
      go_loopw [8] (fun iv wx => ∃ (j : Nat), j ≤ T.length ∧ iv = .int .i64 j ∧ Below wA.heap.size wA wx ∧ wx.ownsRow wA.heap.size 3 1 (.slice (some ⟨g2, 0, none⟩) T.length c2) T.length (natCells (hx T L j))) (fun iv _ => T.length - (intOf iv).toNat)
      case atStart => exact ⟨0, Nat.zero_le _, rfl, hb2, by rw [hx_zero]; exact hown2⟩
      case round =>
        obtain ⟨j, hj, rfl, hbx, hownx⟩ := hrel
        have hbsx := hbx.size
        by_cases hjl : j < T.length
        · have e0 := World.ownsRow.cells hownx (g := g2) rfl j _ (hx_get L hjl)
          rw [Addr.add_lit, Nat.zero_add] at e0
          have fz := hownx.frozenAt j
          have hin := in_any wr _ ld lc L (ownsRow_below hown hbx)
          have HK : Hid (fv L T[j] = T[j] → hx T L (j + 1) = hx T L j) := hx_keep L hjl
          have HO : Hid (∀ x : Nat, fv L T[j] = x → (wr.setCell ⟨g2, j, none⟩ (.int .i64 (x : Int))).ownsRow wA.heap.size 3 1 (.slice (some ⟨g2, 0, none⟩) T.length c2) T.length (natCells (hx T L (j + 1)))) := fun x hx0 => hx_own hjl hx0 hownx
          generalize T[j] = x at *
          have hin := hin x
          by_cases hx3 : x < 3
          · have hb3 : decide ((x : Int) < 3) = true := by simp; omega
            by_cases hm : x ∈ L
            · have hd : decide (x ∈ L) = true := by simpa using hm
              rw [hd] at hin
              have hf : fv L x = x := by simp [fv, hm]
              have HE := HK.out hf
              go_wp2_with (go_at_call 123; refine hin.mono ?_; rintro e w3 ⟨rfl, rfl⟩)
              go_roundw
              case rel => exact ⟨j + 1, by omega, by go_num, hbx, by rw [HE]; exact hownx⟩
              case measure => simp [intOf]; omega
            · have hd : decide (x ∈ L) = false := by simpa using hm
              rw [hd] at hin
              have hf : fv L x = x + 3 := by simp [fv, hm, hx3]
              have HE : Hid _ := HO.out _ hf
              clear HK HO
              go_wp2_with (go_at_call 123; refine hin.mono ?_; rintro e w3 ⟨rfl, rfl⟩)
              go_roundw
              case rel =>
                refine ⟨j + 1, by omega, by go_num, hbx.setCell (p := ⟨g2, j, none⟩) (hownx.lt g2 rfl).1 _, ?_⟩
                exact HE.out
              case measure => simp [intOf]; omega
          · have hb3 : decide ((x : Int) < 3) = false := by simp; omega
            have hf : fv L x = x := by simp [fv, hx3]
            have HE := HK.out hf
            generalize decide (x ∈ L) = B at hin
            go_wp2_with (go_at_call 123; refine hin.mono ?_; rintro e w3 ⟨rfl, rfl⟩)
            go_roundw
            case rel => exact ⟨j + 1, by omega, by go_num, hbx, by rw [HE]; exact hownx⟩
            case measure => simp [intOf]; omega
        · have hjT : j = T.length := by omega
          subst hjT
          rw [hx_all] at hownx
          go_wp2_with fail
          go_ret
          exact ⟨_, _, rfl, ownsRow_base hownx hbel.size, hbel.trans (hbx.mono hbel.size)⟩
end Go.Proofs.YtdmicblafmhflaaGreatDoor

/- axiomkeep.at. -/
namespace Go.Proofs.YtdmicblafmhflaaGreatDoor
set_option linter.unusedSimpArgs false
set_option linter.unusedVariables false
open Go.RowKit
theorem natCells_at (l : List Nat) (k : Nat) (h : k < l.length) : (natCells l)[k]? = some (.int .i64 (l[k] : Nat)) := by simp [natCells, h]
theorem natCells_snoc (l : List Nat) (n : Nat) : natCells (l ++ [n]) = natCells l ++ [.int .i64 (n : Nat)] := by simp [natCells]
set_option maxRecDepth 100000 in
set_option maxHeartbeats 2000000 in
theorem at_any (w : World) (c : Int) (hc : Fit64 c) (ts : List Nat) (v : Nat → Nat) (tv vv : Value) (ht : w.ownsRow 0 3 1 tv ts.length (natCells ts)) (hv : w.ownsRow 0 3 1 vv 3 (natCells [v 0, v 1, v 2])) (hl : ts.length = if Ax.gpick c 3 = 0 then 1 else 2) (hts : ∀ x, x ∈ ts → x < 7) (hvs : ∀ i, i < 3 → v i < 4) :
    Calls Tryz.prog 67 #[.int .i64 c, tv, vv] w fun e w' => e = .returned (.int .i64 (En.atN v (Ax.gpick c 3, ts) : Nat)) ∧ Below w.heap.size w w' := by
  obtain ⟨td, tc, rfl⟩ := ownsRow_shape ht
  obtain ⟨vd, vc, rfl⟩ := ownsRow_shape hv
  obtain ⟨i0, hi, hz0, hz1, hz2⟩ := info_parts Tryz.infoIntV
  have hlen : ts.length ≤ 2 := by split at hl <;> omega
  have HT : Hid (w.ownsRow 0 3 1 (.slice td ts.length tc) ts.length (natCells ts)) := ht
  have HV : Hid (w.ownsRow 0 3 1 (.slice vd 3 vc) 3 (natCells [v 0, v 1, v 2])) := hv
  have HTS : Hid (∀ x, x ∈ ts → x < 7) := hts
  have HVS : Hid (∀ i, i < 3 → v i < 4) := hvs
  have hpk := fun w => pick_any c 3 w hc (by decide) (by decide)
  have HEND : Hid (∀ W a, W.ownsRow w.heap.size 3 1 a ts.length (natCells (ts.map (En.tvN v))) → Calls Tryz.prog 125 #[.int .i64 (Ax.gpick c 3 : Nat), a] W fun e w' => e = .returned (.int .i64 (En.atN v (Ax.gpick c 3, ts) : Nat)) ∧ Below W.heap.size W w') := by
    intro W a ha
    have e : ts.length = (ts.map (En.tvN v)).length := by simp
    rw [e] at ha
    refine index_any W _ (Ax.gpick c 3) (ts.map (En.tvN v)) a ha (Ax.gpick_lt c 3 (by decide)) (by rw [← e]; exact hl) ?_
    intro x hx
    obtain ⟨y, hy, rfl⟩ := List.mem_map.1 hx
    have := HTS.out y hy
    unfold En.tvN
    split
    · exact HVS.out _ (by omega)
    · omega
  generalize Ax.gpick c 3 = P at hpk HEND ⊢
  generalize En.atN v (P, ts) = R at HEND ⊢
  clear ht hv hts hvs hl
  go_enter Tryz.func67, Tryz.ntmps67
  go_wp2_with fail
  go_loopw [7, 8] (fun a i wr => ∃ (k : Nat), k ≤ ts.length ∧ i = .int .i64 k ∧ wr.ownsRow w.heap.size 3 1 a k (natCells ((ts.take k).map (En.tvN v))) ∧ Below w.heap.size w wr) (fun _ i _ => ts.length - (intOf i).toNat)
  case atStart => exact ⟨0, Nat.zero_le _, rfl, by simpa [natCells] using World.ownsRow_nil _ _ _ _, Below.refl _ _⟩
  case round =>
    obtain ⟨k, hk, rfl, hown, hb⟩ := hrel
    obtain ⟨ad, ac, rfl⟩ := ownsRow_shape hown
    have HOWN : Hid (wr.ownsRow w.heap.size 3 1 (.slice ad k ac) k (natCells ((ts.take k).map (En.tvN v)))) := hown
    have HB : Hid (Below w.heap.size w wr) := hb
    by_cases hlt : k < ts.length
    · have hrow := ownsRow_below HT.out hb
      obtain ⟨g, rfl, hg, hc1, hcs⟩ := row_cells hrow (by omega)
      have ca := hcs k _ (natCells_at ts k hlt)
      have hx7 : ts[k] < 7 := HTS.out _ (List.getElem_mem hlt)
      have HNX : Hid (natCells ((ts.take (k + 1)).map (En.tvN v)) = natCells ((ts.take k).map (En.tvN v)) ++ [.int .i64 (En.tvN v ts[k] : Nat)]) := by
        have e0 : ts.take (k + 1) = ts.take k ++ [ts[k]] := by rw [List.take_add_one, List.getElem?_eq_getElem hlt]; rfl
        have e1 : natCells ((ts.take (k + 1)).map (En.tvN v)) = natCells ((ts.take k).map (En.tvN v)) ++ [.int .i64 (En.tvN v ts[k] : Nat)] := by rw [e0, List.map_append, List.map_cons, List.map_nil, natCells_snoc]
        exact e1
      generalize ts[k] = x at ca hx7 HNX
      by_cases h3 : x < 3
      · have hrv := ownsRow_below HV.out hb
        obtain ⟨gv, rfl, hgv, hcv, hcsv⟩ := row_cells hrv (by omega)
        have cv : wr.cell? ⟨gv, x, none⟩ = some (.int .i64 (v x : Nat)) := hcsv x _ (by
          match x, h3 with
          | 0, _ => rfl
          | 1, _ => rfl
          | 2, _ => rfl)
        have HE : Hid (En.tvN v x = v x) := by
          have e1 : En.tvN v x = v x := by unfold En.tvN; rw [if_pos h3]
          exact e1
        rw [HE.out] at HNX
        have hvx := HVS.out x h3
        clear hcs hcsv hrow hrv hown hb
        go_wp2_with (at_builtin; refine wpList_append_own _ rfl (.tmp 20) (.tmp 28) 31 rfl w.heap.size 3 i0 _ 1 8 Tryz.underlying31 hi hz0 hz1 hz2 rfl (by decide) _ _ _ rfl (HOWN.out.alloc _) ⟨wr.heap.size, 0, none⟩ 1 1 [.int .i64 (v x : Nat)] rfl rfl (new_cells _ _ _) (by simp [Value.oneCell']) (by unfold maxLen; omega) (by omega) (by have := HB.out.size; simp; omega) ?_; intro v2 w2 hown2 hgrow _)
        have HX : Hid (w2.ownsRow w.heap.size 3 1 v2 (k + 1) (natCells ((ts.take (k + 1)).map (En.tvN v))) ∧ Below w.heap.size w w2) := by
          refine ⟨?_, (HB.out.alloc HB.out.size _).grown hgrow (by have := HB.out.size; simp; omega) (fun q hq => (HOWN.out.lt q hq).1)⟩
          rw [HNX.out]
          exact hown2
        go_roundw
        case rel => exact ⟨k + 1, hlt, by go_num, HX.out.1, HX.out.2⟩
        case measure => simp [intOf]; omega
      · have HE : Hid (((En.tvN v x : Nat) : Int) = (x : Int) - 3) := by
          have e1 : ((En.tvN v x : Nat) : Int) = (x : Int) - 3 := by unfold En.tvN; rw [if_neg h3]; omega
          exact e1
        rw [HE.out] at HNX
        clear hcs hrow hown hb
        go_wp2_with (at_builtin; refine wpList_append_own _ rfl (.tmp 30) (.tmp 36) 31 rfl w.heap.size 3 i0 _ 1 8 Tryz.underlying31 hi hz0 hz1 hz2 rfl (by decide) _ _ _ rfl (HOWN.out.alloc _) ⟨wr.heap.size, 0, none⟩ 1 1 [.int .i64 ((x : Int) - 3)] rfl rfl (new_cells _ _ _) (by simp [Value.oneCell']) (by unfold maxLen; omega) (by omega) (by have := HB.out.size; simp; omega) ?_; intro v2 w2 hown2 hgrow _)
        have HX : Hid (w2.ownsRow w.heap.size 3 1 v2 (k + 1) (natCells ((ts.take (k + 1)).map (En.tvN v))) ∧ Below w.heap.size w w2) := by
          refine ⟨?_, (HB.out.alloc HB.out.size _).grown hgrow (by have := HB.out.size; simp; omega) (fun q hq => (HOWN.out.lt q hq).1)⟩
          rw [HNX.out]
          exact hown2
        go_roundw
        case rel => exact ⟨k + 1, hlt, by go_num, HX.out.1, HX.out.2⟩
        case measure => simp [intOf]; omega
    · have hke : k = ts.length := by omega
      have HEN : Hid (Calls Tryz.prog 125 #[.int .i64 (P : Nat), .slice ad k ac] wr fun e w' => e = .returned (.int .i64 (R : Nat)) ∧ Hid (Below w.heap.size w w')) := by
        have h9 := HOWN.out
        rw [hke, List.take_length] at h9
        rw [hke]
        refine (HEND.out wr _ h9).mono ?_
        rintro e w' ⟨rfl, hb'⟩
        exact ⟨rfl, HB.out.trans (hb'.mono HB.out.size)⟩
      clear hown hb hke
      go_wp2_with (first | (go_at_call 27; refine (hpk _).mono ?_; rintro e w' ⟨rfl, rfl⟩) | (go_at_call 125; refine HEN.out.mono ?_; rintro e w5 ⟨rfl, HB5⟩))
      go_ret
      exact ⟨rfl, HB5.out⟩
end Go.Proofs.YtdmicblafmhflaaGreatDoor

/- axiomkeep.uses. -/
namespace Go.Proofs.YtdmicblafmhflaaGreatDoor
set_option linter.unusedSimpArgs false
set_option linter.unusedVariables false
open Go.RowKit
/-- does a rule have a variable? -/
def usesB (r : Ax.KRule) (v : Nat) : Bool := (Ax.gbody r).any fun a => decide (v ∈ Ax.gterms a)
set_option maxRecDepth 100000 in
set_option maxHeartbeats 2000000 in
theorem uses_any (w : World) (r : Ax.KRule) (ad : Option Addr) (n c : Nat) (hB : BodyAt w ad n c r.body) (p a b : Int) (v : Nat) :
    Calls Tryz.prog 66 #[.agg #[.int .i64 p, .int .i64 a, .int .i64 b, .slice ad n c], .int .i64 v] w fun e w' => e = .returned (.bool (usesB r v)) ∧ Below w.heap.size w w' := by
  have h2 := hB.two
  have hl2 : (Ax.gbody r).length ≤ 2 := by unfold Ax.gbody; simp; omega
  have hlen := h2.len
  have hbv := body_val hB p a b
  obtain ⟨m, hm⟩ : ∃ m, m = min n 2 := ⟨_, rfl⟩
  rw [← hm] at h2 hlen hbv
  have hU : Hid (usesB r v = (Ax.gbody r).any fun a => decide (v ∈ Ax.gterms a)) := rfl
  generalize usesB r v = R at hU ⊢
  have HB2 : Hid (BodyAt w ad m c (Ax.gbody r)) := h2
  have hcap := h2.cap
  have hmax := h2.max
  generalize Ax.gbody r = L at hU HB2 hlen hl2
  subst hlen
  obtain ⟨w0, hw0⟩ : ∃ w0, w0 = w.alloc (.cells #[.int .i64 p, .int .i64 a, .int .i64 b, .slice ad n c] 94) := ⟨_, rfl⟩
  have HB0 : Hid (Below w.heap.size w w0) := by
    have e : Below w.heap.size w w0 := by rw [hw0]; exact (Below.refl _ _).alloc (Nat.le_refl _) _
    exact e
  have HBV : Hid (Calls Tryz.prog 63 #[.agg #[.int .i64 p, .int .i64 a, .int .i64 b, .slice ad n c]] w0 fun e w' => e = .returned (.slice ad L.length c) ∧ Hid (Below w.heap.size w w')) := by
    refine (hbv w0).mono ?_
    rintro e w' ⟨rfl, hb⟩
    exact ⟨rfl, HB0.out.trans (hb.mono HB0.out.size)⟩
  clear h2 hbv hm hB
  go_enter Tryz.func66, Tryz.ntmps66
  go_wp2_with fail
  rw [← hw0]
  refine HBV.out.mono ?_
  rintro e w1 ⟨rfl, HB1⟩
  clear hw0
  go_wp2_with fail
  go_loopw [6] (fun i wr => ∃ (k : Nat), k ≤ L.length ∧ i = .int .i64 k ∧ ((L.take k).any fun a => decide (v ∈ Ax.gterms a)) = false ∧ Below w.heap.size w wr) (fun i _ => L.length - (intOf i).toNat)
  case atStart => exact ⟨0, Nat.zero_le _, rfl, rfl, HB1.out⟩
  case round =>
    obtain ⟨k, hk, rfl, hno, hb⟩ := hrel
    have HNO : Hid (((L.take k).any fun a => decide (v ∈ Ax.gterms a)) = false) := hno
    have HB : Hid (Below w.heap.size w wr) := hb
    clear hno
    by_cases hlt : k < L.length
    · obtain ⟨g, o, rfl, ha⟩ := (HB2.out.below hb).at_ k hlt
      obtain ⟨c0, c1, c2, f0, f1, f2⟩ := ha
      have HNX : Hid (((L.take (k + 1)).any fun a => decide (v ∈ Ax.gterms a)) = (((L.take k).any fun a => decide (v ∈ Ax.gterms a)) || decide (v ∈ Ax.gterms L[k]))) := by
        have e0 : L.take (k + 1) = L.take k ++ [L[k]] := by rw [List.take_add_one, List.getElem?_eq_getElem hlt]; rfl
        have e1 : ((L.take (k + 1)).any fun a => decide (v ∈ Ax.gterms a)) = (((L.take k).any fun a => decide (v ∈ Ax.gterms a)) || decide (v ∈ Ax.gterms L[k])) := by rw [e0, List.any_append]; simp
        exact e1
      have HIN : Hid (v ∈ Ax.gterms L[k] → L.any (fun a => decide (v ∈ Ax.gterms a)) = true) := fun h => List.any_eq_true.2 ⟨L[k], List.getElem_mem hlt, by simpa using h⟩
      have hte := terms_any' wr L[k] f0 f1 f2
      generalize L[k] = at' at *
      obtain ⟨ap, aa, ab⟩ := at'
      simp only at c0 c1 c2 hte f0 f1 f2
      generalize Ax.gterms ⟨ap, aa, ab⟩ = tl at hte HNX HIN
      have HTE : Hid (Calls Tryz.prog 64 #[.agg #[.int .i64 ap, .int .i64 aa, .int .i64 ab]] wr fun e w' => ∃ d c, e = .returned (.slice d tl.length c) ∧ Hid (w'.ownsRow wr.heap.size 3 1 (.slice d tl.length c) tl.length (natCells tl)) ∧ Hid (Below w.heap.size w w')) := by
        refine hte.mono ?_
        rintro e w' ⟨d, c, rfl, q1, q2⟩
        exact ⟨d, c, rfl, q1, HB.out.trans (q2.mono HB.out.size)⟩
      clear hte hb f0 f1 f2
      by_cases hmem : v ∈ tl
      · have hd : decide (v ∈ tl) = true := by simpa using hmem
        have hR : Hid (R = true) := by
          have e : R = true := by rw [hU.out]; exact HIN.out hmem
          exact e
        go_wp2_with (first | (go_at_call 64; refine HTE.out.mono ?_; rintro e w5 ⟨d5, c5, rfl, HO5, HB5⟩) | (go_at_call 123; refine (in_any _ _ _ _ _ HO5.out v).mono ?_; rintro e w6 ⟨rfl, rfl⟩; rw [hd]))
        go_ret
        exact ⟨by rw [hR.out]; rfl, HB5.out⟩
      · have hd : decide (v ∈ tl) = false := by simpa using hmem
        rw [hd, HNO.out] at HNX
        go_wp2_with (first | (go_at_call 64; refine HTE.out.mono ?_; rintro e w5 ⟨d5, c5, rfl, HO5, HB5⟩) | (go_at_call 123; refine (in_any _ _ _ _ _ HO5.out v).mono ?_; rintro e w6 ⟨rfl, rfl⟩; rw [hd]))
        go_roundw
        case rel => exact ⟨k + 1, hlt, by go_num, HNX.out, HB5.out⟩
        case measure => simp [intOf]; omega
    · have hR : Hid (R = false) := by
        have e : R = false := by
          rw [hU.out]
          have := HNO.out
          rwa [List.take_of_length_le (by omega)] at this
        exact e
      clear hb
      go_wp2_with fail
      go_ret
      exact ⟨by rw [hR.out]; rfl, HB.out⟩
end Go.Proofs.YtdmicblafmhflaaGreatDoor

/- The blanks that Plain lays between the tokens. No program here. -/
namespace Go.Proofs.YtdmicblafmhflaaGreatDoor.Ax
set_option linter.unusedSimpArgs false
set_option linter.unusedVariables false
/-- so many of two blanks, a line end, a blank -/
def blk (c : Int) : List UInt8 := [32, 32, 10, 32].take (gpick c 4)
end Go.Proofs.YtdmicblafmhflaaGreatDoor.Ax

/- What the search finds is what axiomkeep's least works out, and as often. No program here. -/
namespace Go.Proofs.YtdmicblafmhflaaGreatDoor.En
set_option linter.unusedSimpArgs false
set_option linter.unusedVariables false
open Ax (gname gpred gvar gterm KFit)
def b0 : NRule := ⟨(0, [0]), [(0, [0]), (1, [0, 0])]⟩
def b1 : NRule := ⟨(0, [0]), [(0, [0]), (2, [0, 0])]⟩
theorem b0_ok : NOk b0 where
  head := ⟨⟨by decide, rfl⟩, by decide⟩
  body := by
    intro b hb
    simp [b0] at hb
    rcases hb with rfl | rfl
    · exact ⟨⟨by decide, rfl⟩, by decide⟩
    · exact ⟨⟨by decide, rfl⟩, by decide⟩
  two := by decide
  safe := fun n hn _ => ⟨(0, [0]), by simp [b0], hn⟩
theorem b1_ok : NOk b1 where
  head := ⟨⟨by decide, rfl⟩, by decide⟩
  body := by
    intro b hb
    simp [b1] at hb
    rcases hb with rfl | rfl
    · exact ⟨⟨by decide, rfl⟩, by decide⟩
    · exact ⟨⟨by decide, rfl⟩, by decide⟩
  two := by decide
  safe := fun n hn _ => ⟨(0, [0]), by simp [b1], hn⟩
def eR (R : List NRule) : List NRule := b0 :: b1 :: R
def sR (R : List NRule) : List (SRule Fct) := (eR R).map fun r => srule (toRule r)
theorem eR_ok {R : List NRule} (h : ∀ r, r ∈ R → NOk r) : ∀ r, r ∈ eR R → NOk r := by
  intro r hr
  rcases List.mem_cons.1 hr with rfl | hr
  · exact b0_ok
  · rcases List.mem_cons.1 hr with rfl | hr
    · exact b1_ok
    · exact h r hr
theorem k_toRule (r : NRule) : (srule (toRule r)).k = r.body.length := by simp [srule, toRule]
theorem sR_two {R : List NRule} (h : ∀ r, r ∈ R → NOk r) : ∀ r, r ∈ sR R → r.k ≤ 2 := by
  intro r hr
  obtain ⟨q, hq, rfl⟩ := List.mem_map.1 hr
  rw [k_toRule]
  exact (eR_ok h q hq).two
theorem inst_lt {R : List NRule} {r : NRule} (hr : NOk r) {H : Nat → Bool} {i : Nat} (hi : i ∈ instN r H) : i < 36 := by
  obtain ⟨n, hn, rfl⟩ := List.mem_map.1 hi
  unfold okH at hn
  exact atN_lt (fun j _ => vOf_lt (mem_vs.1 (List.mem_filter.1 hn).1).1 j) hr.head
theorem oneRound_out : ∀ (R : List NRule), (∀ r, r ∈ R → NOk r) → ∀ (H : Nat → Bool) (i : Nat), 36 ≤ i → H i = false → oneRound R H i = false
  | [], _, _, _, _, h => h
  | r :: R, hR, H, i, hi, h => by
    show oneRound R (setAll H (instN r H)) i = false
    refine oneRound_out R (fun q hq => hR q (by simp [hq])) _ i hi ?_
    simp only [setAll, h, Bool.false_or, decide_eq_false_iff_not]
    intro hc
    have := inst_lt (R := R) (hR r (by simp)) hc
    omega
/-- what least tells -/
def leastN (R : List NRule) (G : Nat → Bool) : Nat → Bool := rounds R 37 G
theorem least_closed {R : List NRule} (hR : ∀ r, r ∈ R → NOk r) {G : Nat → Bool} (hG : ∀ i, 36 ≤ i → G i = false) : ClosedN R (fun i => leastN R G i = true) := by
  intro r hr n hn hb
  have hs := rounds_stop (oneRound_out R hR) 37 G hG (by omega)
  show rounds R 37 G _ = true
  rw [← hs]
  refine oneRound_has R _ r hr _ (List.mem_map.2 ⟨n, ?_, rfl⟩)
  unfold okH
  rw [List.mem_filter, List.all_eq_true]
  exact ⟨hn, hb⟩
theorem least_closed_e {R : List NRule} (hR : ∀ r, r ∈ R → NOk r) {G : Nat → Bool} (hG : ∀ i, 36 ≤ i → G i = false) : ClosedN (eR R) (fun i => leastN R G i = true) := by
  intro r hr n hn hb
  rcases List.mem_cons.1 hr with rfl | hr
  · exact hb (0, [0]) (by simp [b0])
  · rcases List.mem_cons.1 hr with rfl | hr
    · exact hb (0, [0]) (by simp [b1])
    · exact least_closed hR hG r hr n hn hb
/-- what is given, as facts -/
def gF (G : Nat → Bool) (f : Fct) : Prop := ∃ i, i < 36 ∧ G i = true ∧ f = uF i
/-- a set of places, as facts -/
def XF (X : Nat → Prop) (f : Fct) : Prop := ∃ i, i < 36 ∧ X i ∧ f = uF i
theorem closed_XF {E : List NRule} (hE : ∀ r, r ∈ E → NOk r) {X : Nat → Prop} (hX : ClosedN E X) : Closed (E.map fun r => srule (toRule r)) (XF X) := by
  intro r' hr' fs hl hfs h hi
  obtain ⟨r, hr, rfl⟩ := List.mem_map.1 hr'
  have hok := hE r hr
  have hcan : ∀ f, f ∈ fs → Can f := by
    intro f hf
    obtain ⟨i, hi, _, rfl⟩ := hfs f hf
    exact uF_can hi
  obtain ⟨n, hn, e⟩ := tup_of hok hcan hi
  have h64 := (mem_vs.1 hn).1
  have hv : ∀ j, j < 3 → vOf n j < 4 := fun j _ => vOf_lt h64 j
  have hh : h = subst (vOf n) r.head := by
    have h1 : rinst (toRule r) fs = some h := hi
    rw [← e, inst_tup hok h64] at h1
    exact (Option.some.inj h1).symm
  refine ⟨atN (vOf n) r.head, atN_lt hv hok.head, ?_, by rw [hh, uF_atN hv hok.head]⟩
  apply hX r hr n hn
  intro b hb
  have hm : subst (vOf n) b ∈ fs := by rw [← e]; exact List.mem_map.2 ⟨b, hb, rfl⟩
  obtain ⟨i, hi36, hXi, ei⟩ := hfs _ hm
  rw [← uF_atN hv (hok.body b hb)] at ei
  rw [uF_inj (atN_lt hv (hok.body b hb)) hi36 ei]
  exact hXi
theorem found_can {R : List NRule} (hR : ∀ r, r ∈ R → NOk r) {G : Nat → Bool} {s : Sea Fct} {n : Nat} (hs : Inv (sR R) (gF G) s n) : ∀ f, f ∈ s.found → Can f := by
  intro f hf
  have hX : ClosedN (eR R) (fun i => i < 36) := fun r hr n hn _ => atN_lt (fun j _ => vOf_lt (mem_vs.1 hn).1 j) (eR_ok hR r hr).head
  obtain ⟨i, hi, _, rfl⟩ := hs.least (XF fun i => i < 36) (closed_XF (eR_ok hR) hX) (fun f ⟨i, hi, _, e⟩ => ⟨i, hi, hi, e⟩) f hf
  exact uF_can hi
/-- just those facts are found that least tells -/
theorem found_iff {R : List NRule} (hR : ∀ r, r ∈ R → NOk r) {G : Nat → Bool} (hG : ∀ i, 36 ≤ i → G i = false) {s : Sea Fct} (hs : Inv (sR R) (gF G) s s.found.length) {i : Nat} (hi : i < 36) : uF i ∈ s.found ↔ leastN R G i = true := by
  constructor
  · intro hm
    obtain ⟨j, hj, hX, e⟩ := hs.least (XF fun i => leastN R G i = true) (closed_XF (eR_ok hR) (least_closed_e hR hG)) (fun f ⟨i, hi, hg, e⟩ => ⟨i, hi, rounds_ge 37 G i hg, e⟩) _ hm
    rw [uF_inj hi hj e]
    exact hX
  · intro hl
    refine rounds_least (R := R) (X := fun i => i < 36 → uF i ∈ s.found) ?_ 37 G ?_ i hl hi
    · intro r hr n hn hb _
      have hok := hR r hr
      have h64 := (mem_vs.1 hn).1
      have hv : ∀ j, j < 3 → vOf n j < 4 := fun j _ => vOf_lt h64 j
      have hmem : srule (toRule r) ∈ sR R := List.mem_map.2 ⟨r, by simp [eR, hr], rfl⟩
      rw [uF_atN hv hok.head]
      refine hs.done _ hmem (tup r n) ?_ _ (inst_tup hok h64)
      rw [List.take_length, mem_allT (sR_two hR _ hmem), k_toRule]
      refine ⟨by simp [tup], ?_⟩
      intro f hf
      obtain ⟨b, hb', rfl⟩ := List.mem_map.1 hf
      rw [← uF_atN hv (hok.body b hb')]
      exact hb b hb' (atN_lt hv (hok.body b hb'))
    · intro j hj hj36
      exact hs.given _ ⟨j, hj36, hj, rfl⟩
def countN (l : List Nat) (i : Nat) : Nat := l.count i
theorem lcount_map {α : Type} {f : α → Nat} : ∀ (l : List α), (∀ x, x ∈ l → f x < 36) → ∀ {i : Nat}, i < 36 → lcount (l.map fun x => uF (f x)) (uF i) = countN (l.map f) i
  | [], _, _, _ => rfl
  | x :: l, h, i, hi => by
    have ih := lcount_map l (fun y hy => h y (by simp [hy])) hi
    rw [List.map_cons, List.map_cons, lcount_cons, ih]
    unfold countN
    rw [List.count_cons]
    by_cases e : f x = i
    · subst e; simp
    · have e2 : ¬ uF (f x) = uF i := fun hc => e (uF_inj (h x (by simp)) hi hc)
      simp [e, e2]
theorem okL_okH {R : List NRule} (hR : ∀ r, r ∈ R → NOk r) {G : Nat → Bool} (hG : ∀ i, 36 ≤ i → G i = false) {s : Sea Fct} (hs : Inv (sR R) (gF G) s s.found.length) {r : NRule} (hr : NOk r) : okL r s.found = okH r (leastN R G) := by
  unfold okL okH
  apply List.filter_congr
  intro n hn
  have h64 := (mem_vs.1 hn).1
  have hv : ∀ j, j < 3 → vOf n j < 4 := fun j _ => vOf_lt h64 j
  unfold tup
  rw [List.all_map]
  apply Bool.eq_iff_iff.2
  rw [List.all_eq_true, List.all_eq_true]
  have key : ∀ b, b ∈ r.body → (hasB s.found (subst (vOf n) b) = true ↔ leastN R G (atN (vOf n) b) = true) := by
    intro b hb
    rw [hasB_iff, ← uF_atN hv (hr.body b hb)]
    exact found_iff hR hG hs (atN_lt hv (hr.body b hb))
  constructor
  · intro h b hb
    exact (key b hb).1 (h b hb)
  · intro h b hb
    exact (key b hb).2 (h b hb)
theorem cnt_instN {R : List NRule} (hR : ∀ r, r ∈ R → NOk r) {G : Nat → Bool} (hG : ∀ i, 36 ≤ i → G i = false) {s : Sea Fct} (hs : Inv (sR R) (gF G) s s.found.length) {r : NRule} (hr : NOk r) {i : Nat} (hi : i < 36) :
    cnt (srule (toRule r)) (allT (srule (toRule r)).k s.found) (uF i) = countN (instN r (leastN R G)) i := by
  rw [k_toRule, cnt_vs hr hs.nodup (found_can hR hs), okL_okH hR hG hs hr]
  have e : ((okH r (leastN R G)).map fun n => subst (vOf n) r.head) = (okH r (leastN R G)).map fun n => uF (atN (vOf n) r.head) := by
    apply List.map_congr_left
    intro n hn
    unfold okH at hn
    exact (uF_atN (fun j _ => vOf_lt (mem_vs.1 (List.mem_filter.1 hn).1).1 j) hr.head).symm
  rw [e]
  exact lcount_map _ (fun n hn => by
    unfold okH at hn
    exact atN_lt (fun j _ => vOf_lt (mem_vs.1 (List.mem_filter.1 hn).1).1 j) hr.head) hi
/-- .. each as often as right counts -/
theorem found_count {R : List NRule} (hR : ∀ r, r ∈ R → NOk r) {G : Nat → Bool} (hG : ∀ i, 36 ≤ i → G i = false) {s : Sea Fct} (hs : Inv (sR R) (gF G) s s.found.length) {i : Nat} (hi : i < 36) :
    s.count (uF i) = countN (instN b0 (leastN R G)) i + (countN (instN b1 (leastN R G)) i + (R.map fun r => countN (instN r (leastN R G)) i).sum) := by
  rw [hs.counts, List.take_length]
  unfold total sR eR
  simp only [List.map_cons, List.sum_cons, List.map_map]
  rw [cnt_instN hR hG hs b0_ok hi, cnt_instN hR hG hs b1_ok hi]
  congr 3
  apply List.map_congr_left
  intro r hr
  exact cnt_instN hR hG hs (hR r hr) hi
theorem vs_b0 : vs b0 = [0, 1, 2, 3] := by decide
theorem vs_b1 : vs b1 = [0, 1, 2, 3] := by decide
theorem four {n : Nat} (h : n ∈ [0, 1, 2, 3]) : n = 0 ∨ n = 1 ∨ n = 2 ∨ n = 3 := by simpa using h
theorem instN_b0 (H : Nat → Bool) : instN b0 H = [0, 1, 2, 3].filter fun x => H x && H (4 + 5 * x) := by
  unfold instN okH
  rw [vs_b0]
  have e1 : ([0, 1, 2, 3].filter fun n => b0.body.all fun b => H (atN (vOf n) b)) = [0, 1, 2, 3].filter fun x => H x && H (4 + 5 * x) := by
    apply List.filter_congr
    intro n hn
    rcases four hn with rfl | rfl | rfl | rfl <;> simp [b0, atN, idxN, tvN, vOf]
  rw [e1]
  have e2 : ∀ n, n ∈ [0, 1, 2, 3].filter (fun x => H x && H (4 + 5 * x)) → atN (vOf n) b0.head = id n := by
    intro n hn
    rcases four (List.mem_filter.1 hn).1 with rfl | rfl | rfl | rfl <;> rfl
  rw [List.map_congr_left e2, List.map_id]
theorem instN_b1 (H : Nat → Bool) : instN b1 H = [0, 1, 2, 3].filter fun x => H x && H (20 + 5 * x) := by
  unfold instN okH
  rw [vs_b1]
  have e1 : ([0, 1, 2, 3].filter fun n => b1.body.all fun b => H (atN (vOf n) b)) = [0, 1, 2, 3].filter fun x => H x && H (20 + 5 * x) := by
    apply List.filter_congr
    intro n hn
    rcases four hn with rfl | rfl | rfl | rfl <;> simp [b1, atN, idxN, tvN, vOf]
  rw [e1]
  have e2 : ∀ n, n ∈ [0, 1, 2, 3].filter (fun x => H x && H (20 + 5 * x)) → atN (vOf n) b1.head = id n := by
    intro n hn
    rcases four (List.mem_filter.1 hn).1 with rfl | rfl | rfl | rfl <;> rfl
  rw [List.map_congr_left e2, List.map_id]
theorem count_four (p : Nat → Bool) (i : Nat) : countN ([0, 1, 2, 3].filter p) i = if i < 4 ∧ p i = true then 1 else 0 := by
  unfold countN
  by_cases hp : p i = true
  · rw [List.count_filter hp]
    by_cases hi : i < 4
    · rw [if_pos ⟨hi, hp⟩]
      have : i = 0 ∨ i = 1 ∨ i = 2 ∨ i = 3 := by omega
      rcases this with rfl | rfl | rfl | rfl <;> rfl
    · rw [if_neg (fun h => hi h.1)]
      rw [List.count_eq_zero]
      simp
      omega
  · rw [if_neg (fun h => hp h.2), List.count_eq_zero]
    intro hc
    exact hp (List.mem_filter.1 hc).2
/-- the counts, as right works them out -/
theorem found_count' {R : List NRule} (hR : ∀ r, r ∈ R → NOk r) {G : Nat → Bool} (hG : ∀ i, 36 ≤ i → G i = false) {s : Sea Fct} (hs : Inv (sR R) (gF G) s s.found.length) {i : Nat} (hi : i < 36) :
    s.count (uF i) = (if i < 4 ∧ (leastN R G i && leastN R G (4 + 5 * i)) = true then 1 else 0) + ((if i < 4 ∧ (leastN R G i && leastN R G (20 + 5 * i)) = true then 1 else 0) + (R.map fun r => countN (instN r (leastN R G)) i).sum) := by
  rw [found_count hR hG hs hi, instN_b0, instN_b1, count_four, count_four]
/-- the search comes to an end -/
theorem search_done {R : List NRule} (hR : ∀ r, r ∈ R → NOk r) {G : Nat → Bool} {s : Sea Fct} (hs : Inv (sR R) (gF G) s 0) (fuel : Nat) (hf : 200 < fuel) : ∃ s', search (sR R) 200 fuel 0 s = some s' := by
  have hX : ClosedN (eR R) (fun i => i < 36) := fun r hr n hn _ => atN_lt (fun j _ => vOf_lt (mem_vs.1 hn).1 j) (eR_ok hR r hr).head
  have hU : ∀ f, f ∈ (List.range 36).map uF ↔ XF (fun i => i < 36) f := by
    intro f
    rw [List.mem_map]
    constructor
    · rintro ⟨i, hi, rfl⟩
      exact ⟨i, by simpa using hi, by simpa using hi, rfl⟩
    · rintro ⟨i, hi, _, rfl⟩
      exact ⟨i, by simpa using hi, rfl⟩
  have hc : Closed (sR R) (· ∈ (List.range 36).map uF) := by
    intro r hr fs hl hfs h hi
    exact (hU h).2 (closed_XF (eR_ok hR) hX r hr fs hl (fun f hf => (hU f).1 (hfs f hf)) h hi)
  exact search_ends (sR_two hR) ((List.range 36).map uF) (by simp) hc (fun f ⟨i, hi, _, e⟩ => (hU f).2 ⟨i, hi, hi, e⟩) fuel 0 s hs (Nat.zero_le _) (by omega)
end Go.Proofs.YtdmicblafmhflaaGreatDoor.En
