/- axiomkeep: head, walked. -/
import Derived.Test.YtdmicblafmhflaaV6
namespace Go.Proofs.Ytdmicblafmhflaa
set_option linter.unusedSimpArgs false
set_option linter.unusedVariables false
open Go.RowKit

theorem box_world {w w1 : World} {o : Obj} (hb : Below (w.alloc o).heap.size (w.alloc o) w1) : w1.heap[w.heap.size]? = some o ∧ Below w.heap.size w w1 ∧ w.heap.size + 1 ≤ w1.heap.size := by
  have hs := hb.size
  simp only [World.size_alloc] at hs
  exact ⟨(hb.block _ (by simp)).trans (heap_alloc_new _ _), ((Below.refl _ _).alloc (Nat.le_refl _) _).trans (hb.mono (by simp)), by omega⟩
theorem box_below {w wr w1 : World} {o : Obj} (r : wr.heap[w.heap.size]? = some o) (hb : Below w.heap.size w wr) (h1 : Below wr.heap.size wr w1) : w1.heap[w.heap.size]? = some o ∧ Below w.heap.size w w1 :=
  ⟨(h1.block _ (lt_of_heap r)).trans r, hb.trans (h1.mono hb.size)⟩
theorem box_grown {w w1 w2 : World} {o : Obj} {row : Option Nat} (r : w1.heap[w.heap.size]? = some o) (hb : Below w.heap.size w w1) (hg : w1.grownBy w2 row) (hr : ∀ k, row = some k → w.heap.size + 1 ≤ k) : w2.heap[w.heap.size]? = some o ∧ Below w.heap.size w w2 := by
  refine ⟨?_, hb.grown hg hb.size (fun k hk => by have := hr k hk; omega)⟩
  rw [hg.block _ (lt_of_heap r) (fun e => by have := hr _ e.symm; omega)]
  exact r

set_option maxRecDepth 100000 in
set_option maxHeartbeats 4000000 in
theorem head_any (w : World) (r : Ax.KRule) (ad : Option Addr) (n c : Nat) (hB : BodyAt w ad n c r.body) (h0 : Fit64 r.head.pred) (h1 : Fit64 r.head.a) (h2 : Fit64 r.head.b) :
    Calls Try.prog 12 #[.agg #[.int .i64 r.head.pred, .int .i64 r.head.a, .int .i64 r.head.b, .slice ad n c]] w fun e w' => ∃ d c', e = .returned (.slice d (Ax.ghead r).length c') ∧ w'.ownsRow w.heap.size 3 1 (.slice d (Ax.ghead r).length c') (Ax.ghead r).length (natCells (Ax.ghead r)) ∧ Below w.heap.size w w' := by
  have hbody := body_val hB r.head.pred r.head.a r.head.b
  have hB2 := hB.two
  have hcm : c ≤ 9223372036854775807 := hB.max
  obtain ⟨m, hm⟩ : ∃ m, min n 2 = m := ⟨_, rfl⟩
  have hm2 : m ≤ 2 := by omega
  rw [hm] at hbody hB2
  clear hm hB
  have htm := fun w => terms_any' w r.head h0 h1 h2
  have hgh : Ax.ghead r = (Ax.gterms r.head).map (fv ((Ax.gbody r).flatMap Ax.gterms)) := rfl
  have hT2 := gterms_two r.head
  rw [hgh]
  clear hgh
  generalize Ax.gbody r = gb at *
  generalize Ax.gterms r.head = T at *
  rcases r with ⟨⟨p, a, b⟩, bd⟩
  simp only at *
  clear h0 h1 h2 bd
  obtain ⟨R, hR⟩ : ∃ R, gb.flatMap Ax.gterms = R := ⟨_, rfl⟩
  rw [hR]
  have HR : Hid (gb.flatMap Ax.gterms = R) := hR
  clear hR
  rw [List.length_map]
  obtain ⟨i0, hi, hz0, hz1, hz2⟩ := info_parts Try.infoInt
  have HI : Hid (Try.prog.info? 3 = some i0) := hi
  have HZ0 : Hid (i0.zero = some (.int .i64 0)) := hz0
  have HZ1 : Hid (i0.size = 1) := hz1
  have HZ2 : Hid (i0.bytes = 8) := hz2
  clear hi hz0 hz1 hz2
  go_enter Try.func12, Try.ntmps12
  go_wp2_with (go_at_call 13; refine (hbody _).mono ?_; rintro e w1 ⟨rfl, hb1⟩)
  obtain ⟨r1, bw1, sz1⟩ := box_world hb1
  clear hb1
  go_loopw [3, 5] (fun lv iv wr => ∃ (i : Nat) (ld : Option Addr) (lc : Nat) (L : List Nat), i ≤ m ∧ lv = .slice ld L.length lc ∧ iv = .int .i64 i ∧ L.length ≤ 2 * i ∧ (gb.take i).flatMap Ax.gterms = L ∧ wr.heap[w.heap.size]? = some (.cells #[.int .i64 p, .int .i64 a, .int .i64 b, .slice ad n c] 39 (0, 0)) ∧ Below w.heap.size w wr ∧ w.heap.size + 1 ≤ wr.heap.size ∧ wr.ownsRow (w.heap.size + 1) 3 1 (.slice ld L.length lc) L.length (natCells L)) (fun _ iv _ => m - (intOf iv).toNat)
  case atStart => exact ⟨0, none, 0, [], Nat.zero_le _, rfl, rfl, Nat.zero_le _, rfl, r1, bw1, sz1, ⟨by simp [natCells], .inl ⟨rfl, rfl⟩⟩⟩
  case round =>
    obtain ⟨i, ld, lc, L, hi, rfl, rfl, hL2, hL, hbox, hbel, hsz, hown⟩ := hrel
    have HL : Hid ((gb.take i).flatMap Ax.gterms = L) := hL
    clear hL r1 bw1 sz1
    have hbs := hbel.size
    by_cases hlt : i < m
    · have hlen := hB2.len
      obtain ⟨g, o, had, ha⟩ := hB2.at_ i (by omega)
      subst had
      have ha := ha.below hbel
      have HN : Hid ((gb.take (i + 1)).flatMap Ax.gterms = L ++ Ax.gterms gb[i]) := by
        show _ = _
        rw [vars_next gb (by omega), HL.out]
      generalize gb[i] = x at *
      obtain ⟨e0, e1, e2, f0, f1, f2⟩ := ha
      have hta := fun w => terms_any' w x f0 f1 f2
      obtain ⟨hx1, hx2⟩ := gterms_two x
      generalize Ax.gterms x = X at *
      rcases x with ⟨xp, xa, xb⟩
      simp only at e0 e1 e2 hta
      clear f0 f1 f2 hB2 hbody htm hlen
      go_wp2_with (first | (go_at_call 14; refine (hta _).mono ?_; rintro e w2 ⟨d2, c2, rfl, hown2, hb2⟩; obtain ⟨g2, rfl, hg2, hc2, hcs2⟩ := row_cells hown2 hx1; have hownL := ownsRow_below hown hb2; have hbs2 := hb2.size) | (at_builtin; refine wpList_append_lies _ rfl (.tmp 23) (.tmp 24) 24 rfl (w.heap.size + 1) 3 i0 _ 1 8 Try.underlying24 HI.out HZ0.out HZ1.out HZ2.out rfl (by decide) _ _ _ rfl hownL ⟨g2, 0, none⟩ X.length c2 (natCells X) rfl (by rw [natCells_length, Nat.mul_one]) (fun j u hu => by rw [Addr.add_lit, Nat.zero_add]; exact hcs2 j u hu) (natCells_one X) hx1 (by unfold maxLen; omega) (by omega) (by omega) _ rfl ?_; intro g3 cap3 w3 hown3 hgrow3 _ hlt3))
      obtain ⟨r2, bw2⟩ := box_below hbox hbel hb2
      obtain ⟨r3, bw3⟩ := box_grown r2 bw2 hgrow3 (fun k hk => (hownL.lt k hk).1)
      go_roundw
      case rel =>
        refine ⟨i + 1, some ⟨g3, 0, none⟩, cap3, L ++ X, by omega, by rw [List.length_append], by go_num, by rw [List.length_append]; omega, HN.out, r3, bw3, by have := hgrow3.size; omega, ?_⟩
        rw [List.length_append, ← natCells_append]
        exact hown3
      case measure => simp [intOf]; omega
    · obtain ⟨wA, rfl⟩ : ∃ x, x = wr := ⟨wr, rfl⟩
      have hlen := hB2.len
      have hLR : L = R := by rw [← HL.out, ← HR.out, List.take_of_length_le (by omega)]
      subst hLR
      clear HL HR hB2 hbody
      have k0 := cell_at hbox 0
      have k1 := cell_at hbox 1
      have k2 := cell_at hbox 2
      have k3 := cell_at hbox 3
      simp only [List.getElem?_toArray, List.getElem?_cons_zero, List.getElem?_cons_succ] at k0 k1 k2 k3
      go_wp2_with (go_at_call 14; refine (htm _).mono ?_; rintro e w2 ⟨d2, c2, rfl, hown2, hb2⟩; obtain ⟨g2, rfl, hg2, hc2, hcs2⟩ := row_cells hown2 hT2.1; have hbs2 := hb2.size)
      clear k0 k1 k2 k3 hcs2 htm
      go_loopw [8] (fun iv wx => ∃ (j : Nat), j ≤ T.length ∧ iv = .int .i64 j ∧ Below wA.heap.size wA wx ∧ wx.ownsRow wA.heap.size 3 1 (.slice (some ⟨g2, 0, none⟩) T.length c2) T.length (natCells (hx T L j))) (fun iv _ => T.length - (intOf iv).toNat)
      case atStart => exact ⟨0, Nat.zero_le _, rfl, hb2, by rw [hx_zero]; exact hown2⟩
      case round =>
        obtain ⟨j, hj, rfl, hbx, hownx⟩ := hrel
        have hbsx := hbx.size
        by_cases hjl : j < T.length
        · have e0 := World.ownsRow.cells hownx (g := g2) rfl j _ (hx_get L hjl)
          rw [Addr.add_lit, Nat.zero_add] at e0
          have fz := hownx.frozenAt j
          have hin := in_any wr _ ld lc L (ownsRow_below hown hbx)
          have HK : Hid (fv L T[j] = T[j] → hx T L (j + 1) = hx T L j) := hx_keep L hjl
          have HO : Hid (∀ x : Nat, fv L T[j] = x → (wr.setCell ⟨g2, j, none⟩ (.int .i64 (x : Int))).ownsRow wA.heap.size 3 1 (.slice (some ⟨g2, 0, none⟩) T.length c2) T.length (natCells (hx T L (j + 1)))) := fun x hx0 => hx_own hjl hx0 hownx
          generalize T[j] = x at *
          have hin := hin x
          by_cases hx3 : x < 3
          · have hb3 : decide ((x : Int) < 3) = true := by simp; omega
            by_cases hm : x ∈ L
            · have hd : decide (x ∈ L) = true := by simpa using hm
              rw [hd] at hin
              have hf : fv L x = x := by simp [fv, hm]
              have HE := HK.out hf
              go_wp2_with (go_at_call 19; refine hin.mono ?_; rintro e w3 ⟨rfl, rfl⟩)
              go_roundw
              case rel => exact ⟨j + 1, by omega, by go_num, hbx, by rw [HE]; exact hownx⟩
              case measure => simp [intOf]; omega
            · have hd : decide (x ∈ L) = false := by simpa using hm
              rw [hd] at hin
              have hf : fv L x = x + 3 := by simp [fv, hm, hx3]
              have HE : Hid _ := HO.out _ hf
              clear HK HO
              go_wp2_with (go_at_call 19; refine hin.mono ?_; rintro e w3 ⟨rfl, rfl⟩)
              go_roundw
              case rel =>
                refine ⟨j + 1, by omega, by go_num, hbx.setCell (p := ⟨g2, j, none⟩) (hownx.lt g2 rfl).1 _, ?_⟩
                exact HE.out
              case measure => simp [intOf]; omega
          · have hb3 : decide ((x : Int) < 3) = false := by simp; omega
            have hf : fv L x = x := by simp [fv, hx3]
            have HE := HK.out hf
            generalize decide (x ∈ L) = B at hin
            go_wp2_with (go_at_call 19; refine hin.mono ?_; rintro e w3 ⟨rfl, rfl⟩)
            go_roundw
            case rel => exact ⟨j + 1, by omega, by go_num, hbx, by rw [HE]; exact hownx⟩
            case measure => simp [intOf]; omega
        · have hjT : j = T.length := by omega
          subst hjT
          rw [hx_all] at hownx
          go_wp2_with fail
          go_ret
          exact ⟨_, _, rfl, ownsRow_base hownx hbel.size, hbel.trans (hbx.mono hbel.size)⟩
end Go.Proofs.Ytdmicblafmhflaa
