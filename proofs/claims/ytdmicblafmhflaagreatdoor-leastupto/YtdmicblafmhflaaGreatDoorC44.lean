/- axiomkeep.Shop.right, walked. -/
import Derived.Test.YtdmicblafmhflaaGreatDoorC43

namespace Go.Proofs.YtdmicblafmhflaaGreatDoor
set_option linter.unusedSimpArgs false
set_option linter.unusedVariables false
open Go.RowKit Go.Maps
set_option maxRecDepth 100000 in
set_option maxHeartbeats 4000000 in
theorem right_any (w : World) (B sb eg : Nat) (ad : Option Addr) (m c : Nat) (kl : List Ax.KRule) (gv : Nat → Bool) (n : Nat) (hS : ShopIs w sb eg (.slice ad m c) gv) (hR : RulesAt w ad m c (kl.take 6)) (hE : Eng w B eg kl gv n) (hg : GvOk gv) (hU : UTabs w) :
    Calls Tryz.prog 14 #[.pointer (some ⟨sb, 0, none⟩)] w fun e w' => e = .returned (.bool true) ∧ Below w.heap.size w w' := by
  have hm6 : m ≤ 6 := by rw [← hR.len]; simp; omega
  have hsbl := lt_of_heap hS
  have hmc := hR.cap
  have hcm : c ≤ 9223372036854775807 := hR.max
  have HTU : Hid (Calls Tryz.prog 36 #[.pointer (some ⟨sb, 0, none⟩)] w fun e w' => ∃ od oc, e = .returned (.tuple #[.slice od 36 oc, .bool true]) ∧ Hid (w'.ownsRow 0 52 3 (.slice od 36 oc) 36 (trCells kl gv 36) ∧ Below w.heap.size w w')) := by
    refine (truths_any w B sb eg _ kl gv n hS hE hg hU).mono ?_
    rintro e w' ⟨od, oc, rfl, q1, q2⟩
    exact ⟨od, oc, rfl, ownsRow_base q1 (Nat.zero_le _), q2⟩
  have HLE : Hid (∀ W, Below w.heap.size w W → Calls Tryz.prog 16 #[.pointer (some ⟨sb, 0, none⟩)] W fun e w' => ∃ hb, e = .returned (.slice (some ⟨hb, 0, none⟩) 36 36) ∧ Hid (HoldIs w' hb (En.leastN (En.nRules kl) gv) ∧ Below W.heap.size W w')) := by
    intro W hW
    refine (kleast_any W sb eg ad m c kl gv (hS.below hW) (hR.below hW)).mono ?_
    rintro e w' ⟨hb, rfl, q1, q2⟩
    exact ⟨hb, rfl, q1, q2⟩
  have HSH : Hid (∀ W, Below w.heap.size w W → W.cell? ⟨sb, 1, none⟩ = some (.slice ad m c)) := fun W hW => (hS.below hW).cells.2.1
  have HRU : Hid (RulesAt w ad m c (kl.take 6)) := hR
  have HML : Hid ((kl.take 6).length = m) := hR.len
  have HZ : Hid (∀ i, En.leastN (En.nRules kl) gv i = false → cnN kl gv i = 0) := fun i h => cnN_zero hg h
  have HB4 : Hid (∀ x, b3 (En.leastN (En.nRules kl) gv) (sumR (En.nRules kl) (En.leastN (En.nRules kl) gv) (En.nRules kl).length) 4 x = cnN kl gv x) := b3_4 kl gv
  have HINS : Hid (∀ W hb H i (hi : i < (kl.take 6).length) g o, Below w.heap.size w W → HoldIs W hb H → ad = some ⟨g, o, none⟩ → ∃ p a b bd bn bc, W.cell? ⟨g, o + i * 4, none⟩ = some (.int .i64 p) ∧ W.cell? ⟨g, o + i * 4 + 1, none⟩ = some (.int .i64 a) ∧ W.cell? ⟨g, o + i * 4 + 2, none⟩ = some (.int .i64 b) ∧ W.cell? ⟨g, o + i * 4 + 3, none⟩ = some (.slice bd bn bc) ∧ Calls Tryz.prog 37 #[.agg #[.int .i64 p, .int .i64 a, .int .i64 b, .slice bd bn bc], .slice (some ⟨hb, 0, none⟩) 36 36] W fun e w' => ∃ d n cc, e = .returned (.slice d n cc) ∧ Hid (w'.ownsRow 0 3 1 (.slice d n cc) n (natCells (En.instN (En.nOf (kl.take 6)[i]) H)) ∧ Below W.heap.size W w' ∧ n = (En.instN (En.nOf (kl.take 6)[i]) H).length)) := by
    intro W hb H i hi g o hW hH had
    obtain ⟨g', o', e, hr⟩ := (hR.below hW).at_ i hi
    rw [had] at e
    simp only [Option.some.injEq, Addr.mk.injEq, and_true] at e
    obtain ⟨rfl, rfl⟩ := e
    obtain ⟨bd, bn, bc, h3, hB⟩ := hr.body
    refine ⟨_, _, _, bd, bn, bc, hr.head.c0, hr.head.c1, hr.head.c2, h3, ?_⟩
    refine (instances_any W (kl.take 6)[i] H bd bn bc hB hr.head.f0 hr.head.f1 hr.head.f2 hb hH).mono ?_
    rintro e w' ⟨v, rfl, q1, q2⟩
    obtain ⟨d, cc, rfl⟩ := ownsRow_shape q1
    exact ⟨d, _, cc, rfl, ownsRow_base q1 (Nat.zero_le _), q2, rfl⟩
  clear hS hR hE hg hU
  obtain ⟨LH, hLH⟩ : ∃ LH, LH = En.leastN (En.nRules kl) gv := ⟨_, rfl⟩
  rw [← hLH] at HLE HZ HB4
  have HTC : Hid (∀ k, k < 36 → (trCells kl gv 36)[k * 3 + 1]? = some (.bool (LH k)) ∧ (trCells kl gv 36)[k * 3 + 2]? = some (.int .i64 (cnN kl gv k : Nat))) := by
    rw [hLH]
    exact trCells_get kl gv
  generalize trCells kl gv 36 = TC at HTU HTC
  clear hLH
  go_enter Tryz.func14, Tryz.ntmps14
  go_wp2_with (first | (go_at_call 36; refine HTU.out.mono ?_; rintro e w1 ⟨od, oc, rfl, HT1⟩) | (go_at_call 16; refine (HLE.out _ HT1.out.2).mono ?_; rintro e w2 ⟨hb, rfl, HH2⟩))
  have HB2 : Hid (Below w.heap.size w w2) := HT1.out.2.trans (HH2.out.2.mono HT1.out.2.size)
  have HHO : Hid (∀ W, Below w2.heap.size w2 W → HoldIs W hb LH) := fun W hW => HH2.out.1.below hW
  have HTR : Hid (∀ W, Below w2.heap.size w2 W → W.ownsRow 0 52 3 (.slice od 36 oc) 36 TC) := fun W hW => ownsRow_below (ownsRow_below HT1.out.1 HH2.out.2) hW
  clear HT1 HH2 HTU HLE
  go_loopw [7] (fun i wr => ∃ (i' : Nat), i' ≤ m ∧ i = .int .i64 i' ∧ RiW w2 wr (sumR (En.nRules kl) LH i')) (fun i _ => m - (intOf i).toNat)
  case atStart => exact ⟨0, Nat.zero_le _, rfl, ⟨heap_alloc_new w2 _, (Below.refl _ _).alloc (Nat.le_refl _) _⟩⟩
  case round =>
    obtain ⟨i, hi, rfl, hL⟩ := hrel
    have hbwr : Below w.heap.size w wr := HB2.out.trans (hL.bel.mono HB2.out.size)
    have s1 := HSH.out wr hbwr
    by_cases hit : i < m
    · have hdi : decide ((i : Int) < (m : Int)) = true := decide_eq_true (by omega)
      have hil : i < (kl.take 6).length := by rw [HML.out]; exact hit
      obtain ⟨hin, hget⟩ := nRules_get hil
      obtain ⟨g, o, had, _⟩ := (HRU.out.below hbwr).at_ i hil
      obtain ⟨p, a, b, bd, bn, bc, r0, r1, r2, r3, hins⟩ := HINS.out wr hb LH i hil g o hbwr (HHO.out wr hL.bel) had
      have HPS : Hid (∀ x, sumR (En.nRules kl) LH (i + 1) x = sumR (En.nRules kl) LH i x + En.countN (En.instN (En.nOf (kl.take 6)[i]) LH) x) := fun x => by
        have h9 := sumR_succ (H := LH) hin x
        rw [hget] at h9
        exact h9
      have HLT : Hid ((∀ x, x ∈ En.instN (En.nOf (kl.take 6)[i]) LH → x < 36) ∧ (En.instN (En.nOf (kl.take 6)[i]) LH).length ≤ 64) := ⟨fun x hx => En.inst_lt (R := []) (En.nOf_ok _) hx, instN_len _ _⟩
      have HSL : Hid (∀ x, sumR (En.nRules kl) LH i x ≤ 384) := fun x => by
        have h9 := sumR_le (En.nRules kl) LH x i
        have h8 : sumR (En.nRules kl) LH i x ≤ 384 := by omega
        exact h8
      subst had
      have HIS : Hid _ := hins
      have HL : Hid (RiW w2 wr (sumR (En.nRules kl) LH i)) := hL
      clear hins hget hL HINS HSH hbwr
      generalize En.instN (En.nOf (kl.take 6)[i]) LH = L at HIS HPS HLT
      go_wp2_with (go_at_call 37; refine (show Calls Tryz.prog 37 _ _ _ from HIS.out).mono ?_; rintro e w5 ⟨d5, n5, c5, rfl, HO⟩)
      have HL5 : Hid (RiW w2 w5 (addL (sumR (En.nRules kl) LH i) L 0)) := by
        have h9 : RiW w2 w5 (addL (sumR (En.nRules kl) LH i) L 0) := (HL.out.below HO.out.2.1).ext (fun x _ => by simp [addL, En.countN])
        exact h9
      have HR5 : Hid (w5.ownsRow 0 3 1 (.slice d5 n5 c5) n5 (natCells L)) := HO.out.1
      have HN5 : Hid (n5 = L.length) := HO.out.2.2
      have hn5 := ownsRow_le HR5.out
      clear HO HIS r0 r1 r2 r3 s1 HL
      generalize hC0 : sumR (En.nRules kl) LH i = C0 at HL5 HPS HSL
      clear hC0
      go_loopw [9] (fun i wr => ∃ (q : Nat), q ≤ n5 ∧ i = .int .i64 q ∧ RiW w2 wr (addL C0 L q) ∧ wr.ownsRow 0 3 1 (.slice d5 n5 c5) n5 (natCells L)) (fun i _ => n5 - (intOf i).toNat)
      case atStart => exact ⟨0, Nat.zero_le _, rfl, HL5.out, HR5.out⟩
      case round =>
        obtain ⟨q, hq, rfl, hL, hrow⟩ := hrel
        clear HL5 HR5
        by_cases hqt : q < n5
        · have hql : q < L.length := by rw [← HN5.out]; exact hqt
          obtain ⟨gx, rfl, hgx, hcx, hcs⟩ := row_cells hrow (by omega)
          have cx := hcs q _ (natCells_at L q hql)
          have hx36 : L[q] < 36 := HLT.out.1 _ (List.getElem_mem hql)
          obtain ⟨l1, l2, l3⟩ := hL.cell hx36
          have hle : addL C0 L q L[q] ≤ 1000 := by
            unfold addL
            have h1 := HSL.out L[q]
            have h2 : En.countN (L.take q) L[q] ≤ (L.take q).length := List.count_le_length
            have h3 := HLT.out.2
            rw [List.length_take] at h2
            omega
          have HX : Hid (RiW w2 (wr.setCell ⟨w2.heap.size, L[q], none⟩ (.int .i64 ((addL C0 L q L[q] : Nat) + 1))) (addL C0 L (q + 1)) ∧ (wr.setCell ⟨w2.heap.size, L[q], none⟩ (.int .i64 ((addL C0 L q L[q] : Nat) + 1))).ownsRow 0 3 1 (.slice (some ⟨gx, 0, none⟩) n5 c5) n5 (natCells L)) := by
            refine ⟨?_, ?_⟩
            · have h9 := hL.set L[q] (addL C0 L q L[q] + 1)
              rw [addL_succ hql] at h9
              exact h9
            · refine (Kb.setCell wr ⟨w2.heap.size, L[q], none⟩ _).row_type hrow ?_
              intro b' cur fz hb' e
              simp at hb'
              subst hb'
              have h9 := hL.cnt
              unfold CntIs at h9
              rw [h9] at e
              simp at e
          clear hcs hrow hL
          generalize addL C0 L q L[q] = cq at *
          generalize L[q] = x at *
          go_wp2_with fail
          go_roundw
          case rel => exact ⟨q + 1, hqt, by go_num, HX.out.1, HX.out.2⟩
          case measure => simp [intOf]; omega
        · have HXE : Hid (RiW w2 wr (sumR (En.nRules kl) LH (i + 1))) := by
            have h8 : RiW w2 wr (sumR (En.nRules kl) LH (i + 1)) := hL.ext (fun x _ => by
              rw [HPS.out x]
              unfold addL
              rw [List.take_of_length_le (by rw [← HN5.out]; omega)])
            exact h8
          clear hL hrow
          go_wp2_with fail
          all_goals
            (go_roundw
             case rel => exact ⟨i + 1, hit, by go_num, HXE.out⟩
             case measure => (simp [intOf]; omega))
    · have HL : Hid (RiW w2 wr (b3 LH (sumR (En.nRules kl) LH (En.nRules kl).length) 0)) := by
        have e : i = (En.nRules kl).length := by rw [nRules_len, HML.out]; omega
        have h8 : RiW w2 wr (b3 LH (sumR (En.nRules kl) LH (En.nRules kl).length) 0) := by
          rw [b3_0, ← e]
          exact hL
        exact h8
      have HSL : Hid (∀ x, sumR (En.nRules kl) LH (En.nRules kl).length x ≤ 384) := fun x => by
        have h9 := sumR_le (En.nRules kl) LH x (En.nRules kl).length
        have h7 : (En.nRules kl).length ≤ 6 := by rw [nRules_len, HML.out]; exact hm6
        have h8 : sumR (En.nRules kl) LH (En.nRules kl).length x ≤ 384 := by omega
        exact h8
      clear hL HINS HRU
      generalize hS0 : sumR (En.nRules kl) LH (En.nRules kl).length = S0 at HL HSL HB4
      clear hS0
      go_wp2_with fail
      clear s1
      go_loopw [10] (fun i wr => ∃ (k : Nat), k ≤ 4 ∧ i = .int .i64 k ∧ RiW w2 wr (b3 LH S0 k)) (fun i _ => 4 - (intOf i).toNat)
      case atStart => exact ⟨0, by omega, rfl, HL.out⟩
      case round =>
        obtain ⟨k, hk, rfl, hL⟩ := hrel
        clear HL
        by_cases hkt : k < 4
        · have hH := HHO.out wr hL.bel
          have hbl : hb < wr.heap.size := lt_of_heap hH
          have hb2l : hb < w2.heap.size := lt_of_heap (HHO.out w2 (Below.refl _ _))
          have hbn1 : hb ≠ w2.heap.size := by omega
          have hbn2 : w2.heap.size ≠ hb := by omega
          have h1 := hH.cell (i := k) (by omega)
          have h2 := hH.cell (i := 4 + 5 * k) (by omega)
          have h3 := hH.cell (i := 20 + 5 * k) (by omega)
          obtain ⟨l1, l2, l3⟩ := hL.cell (i := k) (by omega)
          have hc0 : b3 LH S0 k k ≤ 1000 := by
            rw [b3_at]
            have := HSL.out k
            omega
          have HSU : Hid (setN (b3a LH S0 k) k (b3a LH S0 k k + (if (LH k && LH (20 + 5 * k)) = true then 1 else 0)) = b3 LH S0 (k + 1)) := b3_succ LH S0 k
          have HA0 : Hid ((LH k && LH (4 + 5 * k)) = false → b3a LH S0 k = b3 LH S0 k) := fun h => by
            unfold b3a
            rw [h]
            exact setN_self _ _
          have HA1 : Hid ((LH k && LH (4 + 5 * k)) = true → b3a LH S0 k = setN (b3 LH S0 k) k (b3 LH S0 k k + 1)) := fun h => by
            unfold b3a
            rw [h]
            rfl
          have HAK : Hid (∀ v, setN (b3 LH S0 k) k v k = v) := fun v => by simp [setN]
          have w1k : (0 : Int) ≤ 4 + 5 * (k : Int) := by omega
          have w2k : 4 + 5 * (k : Int) < 36 := by omega
          have w3k : ((4 : Int) + 5 * (k : Int)).toNat = 4 + 5 * k := by omega
          have w4k : (0 : Int) ≤ 20 + 5 * (k : Int) := by omega
          have w5k : 20 + 5 * (k : Int) < 36 := by omega
          have w6k : ((20 : Int) + 5 * (k : Int)).toNat = 20 + 5 * k := by omega
          have HL : Hid (RiW w2 wr (b3 LH S0 k)) := hL
          clear hH hL
          cases hx1 : LH k with
          | false =>
            have HX : Hid (RiW w2 wr (b3 LH S0 (k + 1))) := by
              rw [hx1, Bool.false_and] at HSU HA0
              have h9 := HSU.out
              rw [HA0.out rfl] at h9
              have h8 : setN (b3 LH S0 k) k (b3 LH S0 k k + 0) = b3 LH S0 (k + 1) := h9
              rw [setN_self] at h8
              rw [← h8]
              exact HL.out
            rw [hx1] at h1
            clear h2 h3 l1 HSU HA0 HA1 HAK
            go_wp2_with fail
            all_goals
              (go_roundw
               case rel => exact ⟨k + 1, hkt, by go_num, HX.out⟩
               case measure => (simp [intOf]; omega))
          | true =>
            rw [hx1] at h1
            cases hx2 : LH (4 + 5 * k) with
            | false =>
              rw [hx2] at h2
              cases hx3 : LH (20 + 5 * k) with
              | false =>
                rw [hx3] at h3
                have HX : Hid (RiW w2 wr (b3 LH S0 (k + 1))) := by
                  rw [hx1, hx2] at HA0
                  rw [hx1, hx3] at HSU
                  have h9 := HSU.out
                  rw [HA0.out rfl] at h9
                  have h8 : setN (b3 LH S0 k) k (b3 LH S0 k k + 0) = b3 LH S0 (k + 1) := h9
                  rw [setN_self] at h8
                  rw [← h8]
                  exact HL.out
                clear l1 HSU HA0 HA1 HAK
                go_wp2_with fail
                all_goals
                  (go_roundw
                   case rel => exact ⟨k + 1, hkt, by go_num, HX.out⟩
                   case measure => (simp [intOf]; omega))
              | true =>
                rw [hx3] at h3
                have HX : Hid (RiW w2 (wr.setCell ⟨w2.heap.size, k, none⟩ (.int .i64 (((b3 LH S0 k k : Nat) : Int) + 1))) (b3 LH S0 (k + 1))) := by
                  rw [hx1, hx2] at HA0
                  rw [hx1, hx3] at HSU
                  have h9 := HSU.out
                  rw [HA0.out rfl] at h9
                  have h8 : setN (b3 LH S0 k) k (b3 LH S0 k k + 1) = b3 LH S0 (k + 1) := h9
                  rw [← h8]
                  exact HL.out.set k _
                clear HSU HA0 HA1 HAK
                generalize b3 LH S0 k k = c0 at *
                go_wp2_with fail
                all_goals
                  (go_roundw
                   case rel => exact ⟨k + 1, hkt, by go_num, HX.out⟩
                   case measure => (simp [intOf]; omega))
            | true =>
              rw [hx2] at h2
              cases hx3 : LH (20 + 5 * k) with
              | false =>
                rw [hx3] at h3
                have HX : Hid (RiW w2 (wr.setCell ⟨w2.heap.size, k, none⟩ (.int .i64 (((b3 LH S0 k k : Nat) : Int) + 1))) (b3 LH S0 (k + 1))) := by
                  rw [hx1, hx2] at HA1
                  rw [hx1, hx3] at HSU
                  have h9 := HSU.out
                  rw [HA1.out rfl] at h9
                  have h8 : setN (setN (b3 LH S0 k) k (b3 LH S0 k k + 1)) k (setN (b3 LH S0 k) k (b3 LH S0 k k + 1) k + 0) = b3 LH S0 (k + 1) := h9
                  rw [setN_self] at h8
                  rw [← h8]
                  exact HL.out.set k _
                clear HSU HA0 HA1 HAK
                generalize b3 LH S0 k k = c0 at *
                go_wp2_with fail
                all_goals
                  (go_roundw
                   case rel => exact ⟨k + 1, hkt, by go_num, HX.out⟩
                   case measure => (simp [intOf]; omega))
              | true =>
                rw [hx3] at h3
                have HX : Hid (RiW w2 ((wr.setCell ⟨w2.heap.size, k, none⟩ (.int .i64 (((b3 LH S0 k k : Nat) : Int) + 1))).setCell ⟨w2.heap.size, k, none⟩ (.int .i64 (((b3 LH S0 k k : Nat) : Int) + 1 + 1))) (b3 LH S0 (k + 1))) := by
                  rw [hx1, hx2] at HA1
                  rw [hx1, hx3] at HSU
                  have h9 := HSU.out
                  rw [HA1.out rfl] at h9
                  have h8 : setN (setN (b3 LH S0 k) k (b3 LH S0 k k + 1)) k (setN (b3 LH S0 k) k (b3 LH S0 k k + 1) k + 1) = b3 LH S0 (k + 1) := h9
                  rw [HAK.out] at h8
                  rw [← h8]
                  exact (HL.out.set k (b3 LH S0 k k + 1)).set k (b3 LH S0 k k + 1 + 1)
                clear HSU HA0 HA1 HAK
                generalize b3 LH S0 k k = c0 at *
                go_wp2_with fail
                all_goals
                  (go_roundw
                   case rel => exact ⟨k + 1, hkt, by go_num, HX.out⟩
                   case measure => (simp [intOf]; omega))
        · have HL : Hid (RiW w2 wr (cnN kl gv)) := by
            have e : k = 4 := by omega
            rw [e] at hL
            have h8 : RiW w2 wr (cnN kl gv) := hL.ext (fun x _ => HB4.out x)
            exact h8
          clear hL HB4
          go_wp2_with fail
          go_loopw [11] (fun i wr => ∃ (k : Nat), k ≤ 36 ∧ i = .int .i64 k ∧ RiW w2 wr (cnN kl gv)) (fun i _ => 36 - (intOf i).toNat)
          case atStart => exact ⟨0, by omega, rfl, HL.out⟩
          case round =>
            obtain ⟨k, hk, rfl, hL⟩ := hrel
            clear HL
            have HL : Hid (RiW w2 wr (cnN kl gv)) := hL
            by_cases hkt : k < 36
            · have hH := HHO.out wr hL.bel
              have hbl : hb < wr.heap.size := lt_of_heap hH
              have h1 := hH.cell (i := k) hkt
              obtain ⟨l1, l2, l3⟩ := hL.cell (i := k) hkt
              obtain ⟨gt, hod, hgt, hct, hcs⟩ := row_cells (HTR.out wr hL.bel) (by omega)
              subst hod
              obtain ⟨e1, e2⟩ := HTC.out k hkt
              have t1 := hcs _ _ e1
              have t2 := hcs _ _ e2
              clear hH hL hcs e1 e2 HTR
              have HZK : Hid (LH k = false → cnN kl gv k = 0) := HZ.out k
              generalize hck : cnN kl gv k = ck at l1 t2 HZK
              clear hck
              cases hx : LH k with
              | false =>
                rw [hx] at h1 t1
                have hck0 : ck = 0 := HZK.out hx
                subst hck0
                go_upto_region 24 with fail
                go_quiet (fail)
                have HL9 : Hid (RiW w2 (wr.drewN nq) (cnN kl gv)) := HL.out.below ⟨rfl, rfl, rfl, Nat.le_refl _, fun _ _ => rfl⟩
                go_wp2_with fail
                go_roundw
                case rel => exact ⟨k + 1, hkt, by go_num, HL9.out⟩
                case measure => (simp [intOf]; omega)
              | true =>
                rw [hx] at h1 t1
                go_upto_region 24 with fail
                go_quiet (fail)
                have HL9 : Hid (RiW w2 (wr.drewN nq) (cnN kl gv)) := HL.out.below ⟨rfl, rfl, rfl, Nat.le_refl _, fun _ _ => rfl⟩
                go_wp2_with fail
                go_roundw
                case rel => exact ⟨k + 1, hkt, by go_num, HL9.out⟩
                case measure => (simp [intOf]; omega)
            · have HBE : Hid (Below w.heap.size w wr) := HB2.out.trans (hL.bel.mono HB2.out.size)
              clear hL
              go_wp2_with fail
              go_ret
              exact ⟨rfl, HBE.out⟩
end Go.Proofs.YtdmicblafmhflaaGreatDoor

/- axiomkeep.Shop.apply: what it keeps. -/
namespace Go.Proofs.YtdmicblafmhflaaGreatDoor
set_option linter.unusedSimpArgs false
set_option linter.unusedVariables false
open Go.RowKit Go.Maps
/-- which facts raw numbers speak of -/
def idxs (L : List Int) : List Nat := (L.take 30).map fun c => Ax.gpick c 36
theorem idxs_lt (L : List Int) : ∀ i, i ∈ idxs L → i < 36 := by
  intro i hi
  obtain ⟨c, _, rfl⟩ := List.mem_map.1 hi
  exact Ax.gpick_lt c 36 (by decide)
theorem idxs_len (L : List Int) : (idxs L).length ≤ 30 := by simp [idxs]; omega
theorem idxs_take {L : List Int} {k : Nat} (h1 : k < L.length) (h2 : k < 30) : (idxs L).take (k + 1) = (idxs L).take k ++ [Ax.gpick L[k] 36] := by
  unfold idxs
  rw [← List.map_take, ← List.map_take, List.take_take, List.take_take, Nat.min_eq_left (by omega), Nat.min_eq_left (by omega), List.take_add_one, List.getElem?_eq_getElem h1, List.map_append]
  rfl
theorem idxs_all {L : List Int} {k : Nat} (h : ¬ (k < L.length ∧ k < 30)) : (idxs L).take k = idxs L := by
  refine List.take_of_length_le ?_
  simp [idxs]
  omega
/-- facts of raw numbers, as they lie -/
structure FOK (L : List Int) (fd : Option Addr) (fc : Nat) (l : List FI) (W : World) : Prop where
  inn : FactsIn W fd fc l
  idx : FIdx l (idxs L)
theorem FOK.below {L : List Int} {fd : Option Addr} {fc : Nat} {l : List FI} {W W' : World} (h : FOK L fd fc l W) (hb : Below W.heap.size W W') : FOK L fd fc l W' := ⟨h.inn.below hb, h.idx⟩
theorem FOK.len {L : List Int} {fd : Option Addr} {fc : Nat} {l : List FI} {W : World} (h : FOK L fd fc l W) : l.length ≤ 30 := by
  rw [← h.idx.len]
  exact idxs_len L
theorem fok_of {W w' : World} {v : Value} {l : List FI} {L : List Int} (h : FacW W w' v l (fdats L)) : ∃ fd fc, v = .slice fd l.length fc ∧ FOK L fd fc l w' := by
  obtain ⟨fd, fc, rfl⟩ := ownsRow_shape h.row
  refine ⟨fd, fc, rfl, ⟨ownsRow_base h.row (Nat.zero_le _), fun f hf => ownsRow_base (h.each f hf) (Nat.zero_le _)⟩, ?_, idxs_lt L⟩
  rw [h.data]
  unfold fdats idxs
  rw [List.map_map]
  rfl
/-- a shop and its engine: gs what the shop has as given, ge what is given to the engine -/
structure ShW (B : Nat) (w : World) (sb eg : Nat) (rv : Value) (kl : List Ax.KRule) (gs ge : Nat → Bool) (n : Nat) : Prop where
  shop : ShopIs w sb eg rv gs
  eng : Eng w B eg kl ge n
  le : B ≤ sb
theorem ShW.below {B : Nat} {w w' : World} {sb eg : Nat} {rv : Value} {kl : List Ax.KRule} {gs ge : Nat → Bool} {n : Nat} (h : ShW B w sb eg rv kl gs ge n) (hb : Below w.heap.size w w') : ShW B w' sb eg rv kl gs ge n := ⟨h.shop.below hb, h.eng.below hb, h.le⟩
theorem Eng.off {w w' : World} {B eg : Nat} {kl : List Ax.KRule} {gv : Nat → Bool} {n : Nat} (h : Eng w B eg kl gv n) {x : Nat} (hk : Kb [x] w w') {Z : Array Value} {f : Nat × Nat} (hx : w.heap[x]? = some (.cells Z 43 f)) : Eng w' B eg kl gv n := by
  obtain ⟨pl, rd, rc, l, gm, G, hm, T, s, hd, lv, ln, lx, eb, hin, he, hG, hR, hH, hI, hT, hd32, hlog, hln⟩ := h.at_
  have hne : eg ≠ x := blk_ne eb hx (by decide)
  refine ⟨⟨pl, rd, rc, l, gm, G, hm, T, s, hd, lv, ln, lx, hk.heap eb (by simpa using hne), hin.kept hk ?_, he, hG.kept hk (hG.type_out hx (by decide) (by decide)), hR, hH.kept hk ?_, hI, hT, hd32, hk.row_type hlog ?_, hln⟩, h.ge⟩
  · intro b cur U hb e
    simp only [List.mem_cons, List.not_mem_nil, or_false] at hb
    subst hb
    rw [hx] at e
    simp at e
    rw [← e.2.1]
    decide
  · intro b hb e
    simp only [List.mem_cons, List.not_mem_nil, or_false] at e
    subst e
    unfold hallfoot at hb
    rcases List.mem_cons.1 hb with rfl | hb
    · obtain ⟨es, ck, e⟩ := hH.map.block
      rw [e] at hx
      cases hx
    · obtain ⟨u, hu, hb⟩ := List.mem_flatMap.1 hb
      obtain ⟨cur, T, e, hT⟩ := (hH.tabs u hu).types hb
      rw [e] at hx
      simp at hx
      rcases hT with rfl | rfl | rfl
      · exact absurd hx.2.1 (by decide)
      · exact absurd hx.2.1 (by decide)
      · exact absurd hx.2.1 (by decide)
  · intro b cur fz hb e
    simp only [List.mem_cons, List.not_mem_nil, or_false] at hb
    subst hb
    rw [hx] at e
    simp at e
theorem shCells_set (eg : Nat) (rv : Value) (gv : Nat → Bool) (i : Nat) (b : Bool) : (shCells eg rv gv).setIfInBounds (2 + i) (.bool b) = shCells eg rv (setG gv i b) := by
  unfold shCells
  have h := bCells_set gv i b
  rw [List.setIfInBounds_toArray] at h
  have h2 : (bCells gv).set i (.bool b) = bCells (setG gv i b) := by simpa using congrArg Array.toList h
  rw [List.setIfInBounds_toArray, List.set_append_right _ _ (by simp)]
  have e : 2 + i - [Value.pointer (some ⟨eg, 0, none⟩), rv].length = i := by simp
  rw [e, h2]
theorem ShW.set {B : Nat} {w : World} {sb eg : Nat} {rv : Value} {kl : List Ax.KRule} {gs ge : Nat → Bool} {n : Nat} (h : ShW B w sb eg rv kl gs ge n) (i : Nat) (b : Bool) : ShW B (w.setCell ⟨sb, 2 + i, none⟩ (.bool b)) sb eg rv kl (setG gs i b) ge n ∧ Below B w (w.setCell ⟨sb, 2 + i, none⟩ (.bool b)) := by
  have hs := h.shop
  unfold ShopIs at hs
  have hk : Kb [sb] w (w.setCell ⟨sb, 2 + i, none⟩ (.bool b)) := Kb.setCell w ⟨sb, 2 + i, none⟩ _
  refine ⟨⟨?_, h.eng.off hk hs, h.le⟩, (Below.refl _ _).setCell (p := ⟨sb, 2 + i, none⟩) h.le _⟩
  unfold ShopIs
  rw [setCell_heap w hs (2 + i), shCells_set]
theorem ShW.cell {B : Nat} {w : World} {sb eg : Nat} {rv : Value} {kl : List Ax.KRule} {gs ge : Nat → Bool} {n : Nat} (h : ShW B w sb eg rv kl gs ge n) {i : Nat} (hi : i < 36) : w.cell? ⟨sb, 2 + i, none⟩ = some (.bool (gs i)) ∧ w.frozen? ⟨sb, 2 + i, none⟩ = false ∧ sb < w.heap.size := by
  have hs := h.shop
  unfold ShopIs at hs
  exact ⟨h.shop.cells.2.2 i hi, by simp [World.frozen?, hs], lt_of_heap hs⟩
end Go.Proofs.YtdmicblafmhflaaGreatDoor
