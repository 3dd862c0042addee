/- axiomkeep.Shop.least, walked. -/
import Derived.Test.YtdmicblafmhflaaGreatDoorC41
import Derived.Test.YtdmicblafmhflaaGreatDoorC37
import Derived.Deep.RegionHeld3
import Derived.BigQuiet
set_option linter.unusedSimpArgs false
set_option linter.unusedVariables false
namespace Go.Proofs.YtdmicblafmhflaaGreatDoor
open Go.RowKit
theorem Tryz.infoBoolY : (Tryz.prog.info? 4).map (fun i => (i.zero, i.size, i.bytes)) = some (some (.bool false), 1, 1) := by kernel_rfl
set_option maxRecDepth 100000 in
set_option maxHeartbeats 4000000 in
theorem kleast_any (w : World) (sb eg : Nat) (ad : Option Addr) (m c : Nat) (kl : List Ax.KRule) (gv : Nat → Bool) (hS : ShopIs w sb eg (.slice ad m c) gv) (hR : RulesAt w ad m c (kl.take 6)) :
 Calls Tryz.prog 16 #[.pointer (some ⟨sb, 0, none⟩)] w fun e w' => ∃ hb, e = .returned (.slice (some ⟨hb, 0, none⟩) 36 36) ∧ HoldIs w' hb (En.leastN (En.nRules kl) gv) ∧ Below w.heap.size w w' := by
 have hm6 : m ≤ 6 := by rw [← hR.len]; simp; omega
 have hsbl := lt_of_heap hS
 have hmc := hR.cap
 have hcm : c ≤ 9223372036854775807 := hR.max
 have HSH : Hid (∀ W, Below w.heap.size w W → W.cell? ⟨sb, 1, none⟩ = some (.slice ad m c) ∧ ∀ i, i < 36 → W.cell? ⟨sb, 2 + i, none⟩ = some (.bool (gv i))) := fun W hW => ⟨(hS.below hW).cells.2.1, (hS.below hW).cells.2.2⟩
 have HRU : Hid (RulesAt w ad m c (kl.take 6)) := hR
 have HML : Hid ((kl.take 6).length = m) := hR.len
 have HFIN : Hid (En.rounds (En.nRules kl) 37 gv = En.leastN (En.nRules kl) gv) := (rfl : En.rounds (En.nRules kl) 37 gv = En.leastN (En.nRules kl) gv)
 have HINS : Hid (∀ W hb H i (hi : i < (kl.take 6).length) g o, LeW w W hb H → ad = some ⟨g, o, none⟩ → ∃ p a b bd bn bc, W.cell? ⟨g, o + i * 4, none⟩ = some (.int .i64 p) ∧ W.cell? ⟨g, o + i * 4 + 1, none⟩ = some (.int .i64 a) ∧ W.cell? ⟨g, o + i * 4 + 2, none⟩ = some (.int .i64 b) ∧ W.cell? ⟨g, o + i * 4 + 3, none⟩ = some (.slice bd bn bc) ∧ Calls Tryz.prog 37 #[.agg #[.int .i64 p, .int .i64 a, .int .i64 b, .slice bd bn bc], .slice (some ⟨hb, 0, none⟩) 36 36] W fun e w' => ∃ d n cc, e = .returned (.slice d n cc) ∧ Hid (w'.ownsRow W.heap.size 3 1 (.slice d n cc) n (natCells (En.instN (En.nOf (kl.take 6)[i]) H)) ∧ LeW w w' hb H ∧ n = (En.instN (En.nOf (kl.take 6)[i]) H).length)) := by
  intro W hb H i hi g o hW had
  obtain ⟨g', o', e, hr⟩ := (hR.below hW.bel).at_ i hi
  rw [had] at e
  simp only [Option.some.injEq, Addr.mk.injEq, and_true] at e
  obtain ⟨rfl, rfl⟩ := e
  obtain ⟨bd, bn, bc, h3, hB⟩ := hr.body
  refine ⟨_, _, _, bd, bn, bc, hr.head.c0, hr.head.c1, hr.head.c2, h3, ?_⟩
  refine (instances_any W (kl.take 6)[i] H bd bn bc hB hr.head.f0 hr.head.f1 hr.head.f2 hb hW.hold).mono ?_
  rintro e w' ⟨v, rfl, q1, q2⟩
  obtain ⟨d, cc, rfl⟩ := ownsRow_shape q1
  exact ⟨d, _, cc, rfl, q1, hW.below q2, rfl⟩
 clear hS hR
 go_enter Tryz.func16, Tryz.ntmps16
 obtain ⟨i0, hi0, hz0, hz1, hz2⟩ := info_parts Tryz.infoBoolY
 go_wp2_with (at_make; refine wpList_make_full _ rfl _ _ 35 rfl w.heap.size 4 i0 _ 1 Tryz.underlying35 hi0 hz0 hz1 .i64 .i64 36 36 36 rfl rfl rfl rfl (by rw [hz2]; decide) (by unfold maxLen; decide) (Nat.le_refl _) ?_; intro w1 hown1 hgrow1)
 have HW1 : Hid (LeW w w1 w.heap.size (upG gv 0)) := by
  have h9 : LeW w w1 w.heap.size (upG gv 0) := ⟨(hold_made hown1).ext (fun i _ => by simp [upG]), (Below.refl _ _).grown hgrow1 (Nat.le_refl _) (fun q hq => by cases hq), Nat.le_refl _⟩
  exact h9
 clear hown1 hgrow1 hi0 hz0 hz1 hz2
 go_loopw [4] (fun i wr => ∃ (k : Nat), k ≤ 36 ∧ i = .int .i64 k ∧ LeW w wr w.heap.size (upG gv k)) (fun i _ => 36 - (intOf i).toNat)
 case atStart => exact ⟨0, by omega, rfl, HW1.out⟩
 case round =>
  obtain ⟨k, hk, rfl, hL⟩ := hrel
  clear HW1
  by_cases hlt : k < 36
  · obtain ⟨s1, s2⟩ := HSH.out wr hL.bel
    have s3 := s2 k hlt
    obtain ⟨l1, l2, l3⟩ := hL.cell hlt
    have HX : Hid (LeW w (wr.setCell ⟨w.heap.size, k, none⟩ (.bool (gv k))) w.heap.size (upG gv (k + 1))) := by
     have h9 := hL.set k (gv k)
     rw [upG_succ] at h9
     exact h9
    generalize upG gv k k = ok at l1
    clear s1 s2 hL HINS HSH
    generalize gv k = gk at *
    go_wp2_with fail
    go_roundw
    case rel => exact ⟨k + 1, hlt, by go_num, HX.out⟩
    case measure => simp [intOf]; omega
  · have HL : Hid (LeW w wr w.heap.size (En.rounds (En.nRules kl) 0 gv)) := ⟨hL.hold.ext (fun i hi => by unfold upG; rw [decide_eq_true (by omega), Bool.true_and]; rfl), hL.bel, hL.ge⟩
    clear hL
    go_wp2_with fail
    go_loopw [5] (fun i wr => ∃ (j : Nat), j ≤ 37 ∧ i = .int .i64 j ∧ LeW w wr w.heap.size (En.rounds (En.nRules kl) j gv)) (fun i _ => 37 - (intOf i).toNat)
    case atStart => exact ⟨0, by omega, rfl, HL.out⟩
    case round =>
     obtain ⟨j, hj, rfl, hL⟩ := hrel
     clear HL
     by_cases hjt : j < 37
     · have hdj : decide ((j : Int) < 37) = true := decide_eq_true (by omega)
       have HRS : Hid (En.rounds (En.nRules kl) (j + 1) gv = partR (En.nRules kl) (En.nRules kl).length (En.rounds (En.nRules kl) j gv)) := by
        have e : En.rounds (En.nRules kl) (j + 1) gv = partR (En.nRules kl) (En.nRules kl).length (En.rounds (En.nRules kl) j gv) := by rw [rounds_succ, partR_all]
        exact e
       have HL : Hid (LeW w wr w.heap.size (partR (En.nRules kl) 0 (En.rounds (En.nRules kl) j gv))) := hL
       clear hL
       go_wp2_with fail
       go_loopw [6] (fun i wr => ∃ (i' : Nat), i' ≤ m ∧ i = .int .i64 i' ∧ LeW w wr w.heap.size (partR (En.nRules kl) i' (En.rounds (En.nRules kl) j gv))) (fun i _ => m - (intOf i).toNat)
       case atStart => exact ⟨0, Nat.zero_le _, rfl, HL.out⟩
       case round =>
        obtain ⟨i, hi, rfl, hL⟩ := hrel
        clear HL
        obtain ⟨s1, _⟩ := HSH.out wr hL.bel
        by_cases hit : i < m
        · have hdi : decide ((i : Int) < (m : Int)) = true := decide_eq_true (by omega)
          have hil : i < (kl.take 6).length := by rw [HML.out]; exact hit
          obtain ⟨hin, hget⟩ := nRules_get hil
          obtain ⟨g, o, had, _⟩ := (HRU.out.below hL.bel).at_ i hil
          obtain ⟨p, a, b, bd, bn, bc, r0, r1, r2, r3, hins⟩ := HINS.out wr w.heap.size _ i hil g o hL had
          have HPS : Hid (partR (En.nRules kl) (i + 1) (En.rounds (En.nRules kl) j gv) = En.setAll (partR (En.nRules kl) i (En.rounds (En.nRules kl) j gv)) (En.instN (En.nOf (kl.take 6)[i]) (partR (En.nRules kl) i (En.rounds (En.nRules kl) j gv)))) := by
           have h9 := partR_succ hin (En.rounds (En.nRules kl) j gv)
           rw [hget] at h9
           exact h9
          have HLT : Hid (∀ x, x ∈ En.instN (En.nOf (kl.take 6)[i]) (partR (En.nRules kl) i (En.rounds (En.nRules kl) j gv)) → x < 36) := fun x hx => En.inst_lt (R := []) (En.nOf_ok _) hx
          subst had
          have HIS : Hid _ := hins
          clear hins hget hL HINS HSH
          generalize En.instN (En.nOf (kl.take 6)[i]) (partR (En.nRules kl) i (En.rounds (En.nRules kl) j gv)) = L at HIS HPS HLT
          go_wp2_with (go_at_call 37; refine (show Calls Tryz.prog 37 _ _ _ from HIS.out).mono ?_; rintro e w5 ⟨d5, n5, c5, rfl, HO⟩)
          have HL5 : Hid (LeW w w5 w.heap.size (En.setAll (partR (En.nRules kl) i (En.rounds (En.nRules kl) j gv)) (L.take 0))) := by
           have h9 : LeW w w5 w.heap.size (En.setAll (partR (En.nRules kl) i (En.rounds (En.nRules kl) j gv)) (L.take 0)) := by
            rw [List.take_zero, setAll_nil]
            exact HO.out.2.1
           exact h9
          have HR5 : Hid (w5.ownsRow 0 3 1 (.slice d5 n5 c5) n5 (natCells L)) := ownsRow_base HO.out.1 (Nat.zero_le _)
          have HN5 : Hid (n5 = L.length) := HO.out.2.2
          have hn5 := ownsRow_le HR5.out
          clear HO HIS r0 r1 r2 r3 s1
          generalize partR (En.nRules kl) i (En.rounds (En.nRules kl) j gv) = H0 at HL5 HPS
          go_loopw [8] (fun i wr => ∃ (q : Nat), q ≤ n5 ∧ i = .int .i64 q ∧ LeW w wr w.heap.size (En.setAll H0 (L.take q)) ∧ wr.ownsRow 0 3 1 (.slice d5 n5 c5) n5 (natCells L)) (fun i _ => n5 - (intOf i).toNat)
          case atStart => exact ⟨0, Nat.zero_le _, rfl, HL5.out, HR5.out⟩
          case round =>
           obtain ⟨q, hq, rfl, hL, hrow⟩ := hrel
           clear HL5 HR5
           by_cases hqt : q < n5
           · have hql : q < L.length := by rw [← HN5.out]; exact hqt
             obtain ⟨gx, rfl, hgx, hcx, hcs⟩ := row_cells hrow (by omega)
             have cx := hcs q _ (natCells_at L q hql)
             have hx36 : L[q] < 36 := HLT.out _ (List.getElem_mem hql)
             obtain ⟨l1, l2, l3⟩ := hL.cell hx36
             have HX : Hid (LeW w (wr.setCell ⟨w.heap.size, L[q], none⟩ (.bool true)) w.heap.size (En.setAll H0 (L.take (q + 1))) ∧ (wr.setCell ⟨w.heap.size, L[q], none⟩ (.bool true)).ownsRow 0 3 1 (.slice (some ⟨gx, 0, none⟩) n5 c5) n5 (natCells L)) := by
              refine ⟨?_, ?_⟩
              · have e0 : L.take (q + 1) = L.take q ++ [L[q]] := by rw [List.take_add_one, List.getElem?_eq_getElem hql]; rfl
                rw [e0, setAll_snoc]
                exact hL.set _ true
              · refine (Kb.setCell wr ⟨w.heap.size, L[q], none⟩ (.bool true)).row_type hrow ?_
                intro b' cur fz hb' e
                simp at hb'
                subst hb'
                have h9 := hL.hold
                unfold HoldIs at h9
                rw [h9] at e
                simp at e
             generalize En.setAll H0 (L.take q) L[q] = ox at l1
             clear hcs hrow hL
             generalize L[q] = x at *
             go_wp2_with fail
             go_roundw
             case rel => exact ⟨q + 1, hqt, by go_num, HX.out.1, HX.out.2⟩
             case measure => simp [intOf]; omega
           · have HXE : Hid (LeW w wr w.heap.size (partR (En.nRules kl) (i + 1) (En.rounds (En.nRules kl) j gv))) := by
              have h9 := hL
              rw [List.take_of_length_le (by rw [← HN5.out]; omega)] at h9
              have h8 : LeW w wr w.heap.size (partR (En.nRules kl) (i + 1) (En.rounds (En.nRules kl) j gv)) := by
               rw [HPS.out]
               exact h9
              exact h8
             clear hL hrow
             go_wp2_with fail
             all_goals
              (go_roundw
               case rel => exact ⟨i + 1, hit, by go_num, HXE.out⟩
               case measure => (simp [intOf]; omega))
        · have HXE : Hid (LeW w wr w.heap.size (En.rounds (En.nRules kl) (j + 1) gv)) := by
           have e : i = (En.nRules kl).length := by rw [nRules_len, HML.out]; omega
           have h8 : LeW w wr w.heap.size (En.rounds (En.nRules kl) (j + 1) gv) := by
            rw [HRS.out, ← e]
            exact hL
           exact h8
          clear hL
          go_wp2_with fail
          all_goals
           (go_roundw
            case rel => exact ⟨j + 1, hjt, by go_num, HXE.out⟩
            case measure => (simp [intOf]; omega))
     · have hje : j = 37 := by omega
       subst hje
       rw [HFIN.out] at hL
       have HL : Hid (LeW w wr w.heap.size (En.leastN (En.nRules kl) gv)) := hL
       clear hL
       go_wp2_with fail
       go_ret
       exact ⟨w.heap.size, rfl, HL.out.hold, HL.out.bel⟩
end Go.Proofs.YtdmicblafmhflaaGreatDoor
/- axiomkeep.all. -/
namespace Go.Proofs.YtdmicblafmhflaaGreatDoor
open Go.RowKit
theorem Tryz.infoApiFact : (Tryz.prog.info? 48).map (fun i => (i.zero, i.size, i.bytes)) = some (some (.agg #[.string ByteArray.empty, .slice none 0 0]), 2, 40) := by kernel_rfl
theorem fit_small {n : Nat} (h : n < 1000) : Fit64 (n : Int) := by constructor <;> omega
def cntA (p a b : Nat) : Nat := if p = 0 then a + (if b = 0 then 0 else 1) else 4 + 16 * (p - 1) + 4 * a + b
set_option maxRecDepth 100000 in
set_option maxHeartbeats 4000000 in
theorem all_any (w : World) : Calls Tryz.prog 65 #[] w fun e w' => ∃ v l, e = .returned v ∧ AllW w w' v 36 l := by
 obtain ⟨i0, hi, hz0, hz1, hz2⟩ := info_parts Tryz.infoApiFact
 go_enter Tryz.func65, Tryz.ntmps65
 go_wp2_with fail
 go_loopw [1, 2] (fun a i wr => ∃ (p : Nat) (l : List FI), p ≤ 3 ∧ i = .int .i64 p ∧ AllW w wr a (cntA p 0 0) l) (fun _ i _ => 3 - (intOf i).toNat)
 case atStart => exact ⟨0, [], by omega, rfl, AllW.nil w⟩
 case round =>
  obtain ⟨p, l, hp, rfl, hA⟩ := hrel
  obtain ⟨ad, ac, rfl⟩ := ownsRow_shape hA.row
  by_cases hp3 : p < 3
  · have HA : Hid (AllW w wr (.slice ad l.length ac) (cntA p 0 0) l) := hA
    have hdp : decide ((p : Int) < 3) = true := decide_eq_true (by omega)
    clear hA
    go_wp2_with fail
    go_loopw [1, 3] (fun a i wr => ∃ (a' : Nat) (l : List FI), a' ≤ 4 ∧ i = .int .i64 a' ∧ AllW w wr a (cntA p a' 0) l) (fun _ i _ => 4 - (intOf i).toNat)
    case atStart => exact ⟨0, l, by omega, rfl, HA.out⟩
    case round =>
     obtain ⟨a, l2, ha, rfl, hA2⟩ := hrel
     obtain ⟨bd, bc, rfl⟩ := ownsRow_shape hA2.row
     have HA2 : Hid (AllW w wr (.slice bd l2.length bc) (cntA p a 0) l2) := hA2
     clear hA2
     by_cases ha4 : a < 4
     · have hda : decide ((a : Int) < 4) = true := decide_eq_true (by omega)
       go_wp2_with fail
       go_loopw [1, 4] (fun a0 i wr => ∃ (b' : Nat) (l : List FI), b' ≤ 4 ∧ i = .int .i64 b' ∧ AllW w wr a0 (cntA p a b') l) (fun _ i _ => 4 - (intOf i).toNat)
       case atStart => exact ⟨0, l2, by omega, rfl, HA2.out⟩
       case round =>
        obtain ⟨b, l3, hb, rfl, hA3⟩ := hrel
        obtain ⟨bd, bc, rfl⟩ := ownsRow_shape hA3.row
        have HA3 : Hid (AllW w wr (.slice bd l3.length bc) (cntA p a b) l3) := hA3
        have hll := hA3.len
        have hcl : cntA p a b ≤ 40 := by unfold cntA; split <;> (try split) <;> omega
        have hl3 : l3.length ≤ 40 := by omega
        clear hA3 hll hcl
        by_cases hb4 : b < 4
        · have hna := fun W => gen_name (a : Int) W (fit_small (by omega))
          have hnb := fun W => gen_name (b : Int) W (fit_small (by omega))
          have hpd := fun W => gen_pred (p : Int) W (fit_small (by omega))
          have hpl := fun W => places_any (p : Int) W (fit_small (by omega))
          rw [gpick_small ha4] at hna
          rw [gpick_small hb4] at hnb
          rw [gpick_small hp3] at hpd hpl
          by_cases hp0 : p = 0
          · rw [if_pos hp0] at hpl
            by_cases hb0 : b = 0
            · have hbn : ((b : Int) == 0) = true := beq_iff_eq.2 (by omega)
              have HD : Hid (dat (cntA p a b) = (Ax.gpred p, [Ax.gname a])) := by
               have e : dat (cntA p a b) = (Ax.gpred p, [Ax.gname a]) := by
                have e1 : cntA p a b = a := by simp [cntA, hp0, hb0]
                rw [e1, dat_0 ha4 0, hp0]
                rfl
               exact e
              have HC : Hid (cntA p a (b + 1) = cntA p a b + 1) := by
               have e : cntA p a (b + 1) = cntA p a b + 1 := by simp [cntA, hp0, hb0]
               exact e
              clear hp0 hb0
              go_wp2_with (first | (go_at_call 19; refine (hpl _).mono ?_; rintro e w' ⟨rfl, rfl⟩) | (go_at_call 18; refine (hpd _).mono ?_; rintro e w3 ⟨rfl, hb3⟩) | (go_at_call 122; refine (hna _).mono ?_; rintro e w4 ⟨rfl, hb4'⟩; have HA4 : Hid (AllW w w4 (.slice bd l3.length bc) (cntA p a b) l3) := (HA3.out.below hb3).below hb4') | (at_builtin; refine wpList_append_own _ rfl (.tmp 24) (.tmp 31) 37 rfl w.heap.size 48 i0 _ 2 40 Tryz.underlying37 hi hz0 hz1 hz2 rfl (by decide) _ _ _ rfl ((HA4.out.row.alloc _).alloc _) ⟨w4.heap.size + 1, 0, none⟩ 1 1 [.string (Ax.gpred p), .slice (some ⟨w4.heap.size, 0, none⟩) 1 1] rfl rfl (new_cells2 _ _ _ _) (by simp [Value.oneCell']) (by unfold maxLen; omega) (by omega) (by have := HA4.out.bel.size; simp; omega) ?_; intro v2 w2 hown2 hgrow _))
              have HX : Hid (AllW w w' v2 (cntA p a (b + 1)) (l3 ++ [⟨Ax.gpred p, [Ax.gname a], .slice (some ⟨w4.heap.size, 0, none⟩) 1 1⟩])) := by
               rw [HC.out]
               exact HA4.out.step (args := [Ax.gname a]) HD.out (by simp) (by simp) hown2 hgrow
              go_roundw
              case rel => exact ⟨b + 1, _, by omega, by go_num, HX.out⟩
              case measure => simp [intOf]; omega
            · have hbn : ((b : Int) == 0) = false := beq_eq_false_iff_ne.2 (by omega)
              have HA5 : Hid (AllW w wr (.slice bd l3.length bc) (cntA p a (b + 1)) l3) := by
               have e : cntA p a (b + 1) = cntA p a b := by simp [cntA, hp0, hb0]
               rw [e]
               exact HA3.out
              clear hp0 hb0
              go_wp2_with (go_at_call 19; refine (hpl _).mono ?_; rintro e w' ⟨rfl, rfl⟩)
              go_roundw
              case rel => exact ⟨b + 1, l3, by omega, by go_num, HA5.out⟩
              case measure => simp [intOf]; omega
          · rw [if_neg hp0] at hpl
            have HD : Hid (dat (cntA p a b) = (Ax.gpred p, [Ax.gname a, Ax.gname b])) := by
             have e : dat (cntA p a b) = (Ax.gpred p, [Ax.gname a, Ax.gname b]) := by
              have e1 : cntA p a b = 4 + 16 * (p - 1) + 4 * a + b := by simp [cntA, hp0]
              rw [e1, dat_1 (by omega) ha4 hb4]
              simp [fdat, hp0]
             exact e
            have HC : Hid (cntA p a (b + 1) = cntA p a b + 1) := by
             have e : cntA p a (b + 1) = cntA p a b + 1 := by simp [cntA, hp0]; omega
             exact e
            have HNM : Hid (∀ W (x : Nat), x < 4 → Calls Tryz.prog 122 #[.int .i64 (x : Nat)] W fun e w' => e = .returned (.string (Ax.gname x)) ∧ Below W.heap.size W w') := by
             intro W x hx
             have h9 := gen_name (x : Int) W (fit_small (by omega))
             rw [gpick_small hx] at h9
             exact h9
            clear hp0 hna hnb
            go_wp2_with (first | (go_at_call 19; refine (hpl _).mono ?_; rintro e w' ⟨rfl, rfl⟩) | (go_at_call 18; refine (hpd _).mono ?_; rintro e w3 ⟨rfl, hb3⟩; have HA4 : Hid (AllW w w3 (.slice bd l3.length bc) (cntA p a b) l3) := HA3.out.below hb3) | (go_at_call 122; refine (HNM.out _ _ (by assumption)).mono ?_; rintro e w4 ⟨rfl, hb4'⟩; replace HA4 : Hid (AllW w w4 (.slice bd l3.length bc) (cntA p a b) l3) := HA4.out.below hb4') | (at_builtin; refine wpList_append_own _ rfl (.tmp 36) (.tmp 45) 37 rfl w.heap.size 48 i0 _ 2 40 Tryz.underlying37 hi hz0 hz1 hz2 rfl (by decide) _ _ _ rfl ((HA4.out.row.alloc _).alloc _) ⟨w4.heap.size + 1, 0, none⟩ 1 1 [.string (Ax.gpred p), .slice (some ⟨w4.heap.size, 0, none⟩) 2 2] rfl rfl (new_cells2 _ _ _ _) (by simp [Value.oneCell']) (by unfold maxLen; omega) (by omega) (by have := HA4.out.bel.size; simp; omega) ?_; intro v2 w2 hown2 hgrow _))
            have HX : Hid (AllW w w2 v2 (cntA p a (b + 1)) (l3 ++ [⟨Ax.gpred p, [Ax.gname a, Ax.gname b], .slice (some ⟨w4.heap.size, 0, none⟩) 2 2⟩])) := by
             rw [HC.out]
             exact HA4.out.step (args := [Ax.gname a, Ax.gname b]) HD.out (by simp) (by simp) hown2 hgrow
            go_roundw
            case rel => exact ⟨b + 1, _, by omega, by go_num, HX.out⟩
            case measure => simp [intOf]; omega
        · have hbe : b = 4 := by omega
          subst hbe
          have HA5 : Hid (AllW w wr (.slice bd l3.length bc) (cntA p (a + 1) 0) l3) := by
           have e : cntA p (a + 1) 0 = cntA p a 4 := by unfold cntA; split <;> (try simp) <;> omega
           rw [e]
           exact HA3.out
          go_wp2_with fail
          go_roundw
          case rel => exact ⟨a + 1, l3, by omega, by go_num, HA5.out⟩
          case measure => simp [intOf]; omega
     · have hae : a = 4 := by omega
       subst hae
       have HA5 : Hid (AllW w wr (.slice bd l2.length bc) (cntA (p + 1) 0 0) l2) := by
        have e : cntA (p + 1) 0 0 = cntA p 4 0 := by unfold cntA; split <;> (try simp) <;> (try split) <;> omega
        rw [e]
        exact HA2.out
       go_wp2_with fail
       go_roundw
       case rel => exact ⟨p + 1, l2, by omega, by go_num, HA5.out⟩
       case measure => simp [intOf]; omega
  · have hpe : p = 3 := by omega
    subst hpe
    have HA : Hid (AllW w wr (.slice ad l.length ac) 36 l) := hA
    clear hA
    go_wp2_with fail
    go_ret
    exact ⟨_, l, rfl, HA.out⟩
end Go.Proofs.YtdmicblafmhflaaGreatDoor
/- axiomkeep.fact. -/
namespace Go.Proofs.YtdmicblafmhflaaGreatDoor
open Go.RowKit
set_option maxRecDepth 100000 in
set_option maxHeartbeats 2000000 in
theorem kfact_any (w : World) (c : Int) (hc : Fit64 c) : Calls Tryz.prog 72 #[.int .i64 c] w fun e w' => ∃ f : FI, e = .returned (.agg #[.string f.pred, f.av]) ∧ (f.pred, f.args) = dat (Ax.gpick c 36) ∧
 w'.ownsRow w.heap.size 9 1 f.av f.args.length (strCells f.args) ∧ Below w.heap.size w w' := by
 have hpk := fun w => pick_any c 36 w hc (by decide) (by decide)
 have hlt := Ax.gpick_lt c 36 (by decide)
 generalize Ax.gpick c 36 = k at hpk hlt ⊢
 obtain ⟨w0, hw0⟩ : ∃ w0, w0 = w.alloc (.cells #[.string ⟨#[]⟩, .slice none 0 0] 48) := ⟨_, rfl⟩
 have hb0 : Below w.heap.size w w0 := by rw [hw0]; exact (Below.refl _ _).alloc (Nat.le_refl _) _
 have hg0 : w0.heap[w.heap.size]? = some (.cells #[.string ⟨#[]⟩, .slice none 0 0] 48 (0, 0)) := by rw [hw0]; exact heap_alloc_new w _
 have HAL : Hid (Calls Tryz.prog 65 #[] w0 fun e w' => ∃ c g, ∃ f : FI, e = .returned (.slice (some ⟨g, 0, none⟩) 36 c) ∧ Hid ((f.pred, f.args) = dat k ∧ w'.ownsRow (w.heap.size + 1) 9 1 f.av f.args.length (strCells f.args) ∧ Below w.heap.size w w' ∧ w'.heap[w.heap.size]? = some (.cells #[.string ⟨#[]⟩, .slice none 0 0] 48 (0, 0))) ∧ g < w'.heap.size ∧ 36 ≤ c ∧ w'.cell? ⟨g, k * 2, none⟩ = some (.string f.pred) ∧ w'.cell? ⟨g, k * 2 + 1, none⟩ = some f.av ∧
  w'.cell? ⟨w.heap.size, 0, none⟩ = some (.string ⟨#[]⟩) ∧ w'.cell? ⟨w.heap.size, 1, none⟩ = some (.slice none 0 0) ∧ (∀ o, w'.frozen? ⟨w.heap.size, o, none⟩ = false)) := by
  refine (all_any w0).mono ?_
  rintro e w' ⟨v, l, rfl, hA⟩
  have hl := hA.len
  have hk : k < l.length := by omega
  obtain ⟨d, c, rfl⟩ := ownsRow_shape hA.row
  obtain ⟨g, rfl, hg, hc1, hcs⟩ := row_cells hA.row (by omega)
  have hb' : Below w0.heap.size w0 w' := hA.bel
  have h1 : w'.heap[w.heap.size]? = some (.cells #[.string ⟨#[]⟩, .slice none 0 0] 48 (0, 0)) := by rw [hb'.block _ (lt_of_heap hg0)]; exact hg0
  have hsz : w0.heap.size = w.heap.size + 1 := by rw [hw0]; simp
  refine ⟨c, g, l[k], by rw [hl], ⟨?_, by rw [← hsz]; exact hA.each _ (List.getElem_mem hk), hb0.trans (hb'.mono hb0.size), h1⟩, hg, by omega, hcs _ _ (fiCells_get l k hk).1, hcs _ _ (fiCells_get l k hk).2, by rw [cell_of_row _ _ _ _ _ _ h1]; rfl, by rw [cell_of_row _ _ _ _ _ _ h1]; rfl, fun o => by simp [World.frozen?, h1]⟩
  have h9 := congrArg (fun z => z[k]?) hA.data
  simp [hlt, hk] at h9
  exact h9
 clear hb0 hg0
 go_enter Tryz.func72, Tryz.ntmps72
 go_wp2_with fail
 rw [← hw0]
 clear hw0
 refine HAL.out.mono ?_
 rintro e w1 ⟨cc, g, f, rfl, HF, hg, h36, c0, c1, d0, d1, df⟩
 have df0 := df 0
 have df1 := df 1
 obtain ⟨fp, fa, fv⟩ := f
 simp only at c0 c1 HF
 obtain ⟨xd, xc, hfv⟩ := ownsRow_shape HF.out.2.1
 subst hfv
 go_wp2_with (go_at_call 27; refine (hpk _).mono ?_; rintro e w' ⟨rfl, hw⟩; subst hw)
 obtain ⟨e1, e2, e3, e4⟩ := HF.out
 have k1 := setCell_heap _ e4 0 (.string fp)
 have k2 := setCell_heap _ k1 1 (.slice xd fa.length xc)
 have k3 : Kb [w.heap.size] w' ((w'.setCell ⟨w.heap.size, 0, none⟩ (.string fp)).setCell ⟨w.heap.size, 1, none⟩ (.slice xd fa.length xc)) := (Kb.setCell w' ⟨w.heap.size, 0, none⟩ _).trans (Kb.setCell _ ⟨w.heap.size, 1, none⟩ _)
 refine bodyPost_ret (v := .agg #[.string fp, .slice xd fa.length xc]) ?_ rfl ⟨⟨fp, fa, .slice xd fa.length xc⟩, rfl, e1, ownsRow_base (k3.row e2 (fun b hb => by have := (e2.lt b hb).1; simp; omega)) (by omega), k3.to_below e3 e3.size (by simp)⟩
 exact results_cell_row rfl _ _ _ _ _ _ _ rfl k2 Tryz.underlying48 rfl (by kernel_rfl)
end Go.Proofs.YtdmicblafmhflaaGreatDoor
/- axiomkeep.facts. -/
namespace Go.Proofs.YtdmicblafmhflaaGreatDoor
open Go.RowKit
structure IntsA (w : World) (ad : Option Addr) (n c : Nat) (l : List Int) : Prop where
 len : l.length = n
 cap : n ≤ c
 max : c ≤ maxLen
 at_ : ∀ k (h : k < l.length), ∃ g o, ad = some ⟨g, o, none⟩ ∧ w.cell? ⟨g, o + k, none⟩ = some (.int .i64 l[k]) ∧ Fit64 l[k]
theorem IntsA.below {w w' : World} {ad : Option Addr} {n c : Nat} {l : List Int} (h : IntsA w ad n c l) (hb : Below w.heap.size w w') : IntsA w' ad n c l :=
 ⟨h.len, h.cap, h.max, fun k hk => let ⟨g, o, e, c1, f⟩ := h.at_ k hk; ⟨g, o, e, cell_below hb c1, f⟩⟩
structure FacW (w wr : World) (a : Value) (l : List FI) (D : List (ByteArray × List ByteArray)) : Prop where
 row : wr.ownsRow w.heap.size 48 2 a l.length (fiCells l)
 each : ∀ f, f ∈ l → wr.ownsRow w.heap.size 9 1 f.av f.args.length (strCells f.args)
 data : l.map (fun f => (f.pred, f.args)) = D
 bel : Below w.heap.size w wr
theorem FacW.nil (w : World) : FacW w w (.slice none 0 0) [] [] := ⟨World.ownsRow_nil _ _ _ _, by simp, rfl, Below.refl _ _⟩
theorem FacW.below {w wr w' : World} {a : Value} {l : List FI} {D : List (ByteArray × List ByteArray)} (h : FacW w wr a l D) (hb : Below wr.heap.size wr w') : FacW w w' a l D :=
 ⟨ownsRow_below h.row hb, fun f hf => ownsRow_below (h.each f hf) hb, h.data, h.bel.trans (hb.mono h.bel.size)⟩
theorem FacW.step {w wr w2 : World} {a v2 : Value} {l : List FI} {D : List (ByteArray × List ByteArray)} (h : FacW w wr a l D) (f : FI) (hf0 : wr.ownsRow w.heap.size 9 1 f.av f.args.length (strCells f.args))
 (hown : w2.ownsRow w.heap.size 48 2 v2 (l.length + 1) (fiCells l ++ [.string f.pred, f.av])) {o : Obj} (hg : (wr.alloc o).grownBy w2 a.ownBlock) : FacW w w2 v2 (l ++ [f]) (D ++ [(f.pred, f.args)]) := by
 have hs := h.bel.size
 have hb2 : Below wr.heap.size wr (wr.alloc o) := (Below.refl _ _).alloc (Nat.le_refl _) _
 have hk := Kb.of_grown hg
 have hlt : ∀ q, a.ownBlock = some q → w.heap.size ≤ q ∧ q < wr.heap.size := fun q hq => h.row.lt q hq
 have hkeep : ∀ u : FI, wr.ownsRow w.heap.size 9 1 u.av u.args.length (strCells u.args) → w2.ownsRow w.heap.size 9 1 u.av u.args.length (strCells u.args) := fun u hu => by
  refine hk.row (ownsRow_below hu hb2) (fun b hb hc => ?_)
  rw [Option.mem_toList] at hc
  obtain ⟨c1, e1⟩ := block_type hu hb
  obtain ⟨c2, e2⟩ := block_type h.row hc
  rw [e1] at e2
  simp at e2
 refine ⟨?_, ?_, ?_, ?_⟩
 · rw [fiCells_snoc, List.length_append]
   exact hown
 · intro u hu
   rcases List.mem_append.1 hu with hu | hu
   · exact hkeep u (h.each u hu)
   · simp only [List.mem_singleton] at hu
     subst hu
     exact hkeep _ hf0
 · rw [List.map_append, h.data]
   simp
 · exact hk.to_below (h.bel.trans (hb2.mono hs)) (by simp; omega) (fun q hq => by rw [Option.mem_toList] at hq; exact (hlt q hq).1)
def fdats (l : List Int) : List (ByteArray × List ByteArray) := (l.take 30).map fun c => dat (Ax.gpick c 36)
set_option maxRecDepth 100000 in
set_option maxHeartbeats 4000000 in
theorem kfacts_any (w : World) (ad : Option Addr) (n c : Nat) (L : List Int) (hL : IntsA w ad n c L) : Calls Tryz.prog 39 #[.slice ad n c] w fun e w' => ∃ v l, e = .returned v ∧ FacW w w' v l (fdats L) := by
 obtain ⟨i0, hi, hz0, hz1, hz2⟩ := info_parts Tryz.infoApiFact
 have hln := hL.len
 subst hln
 have HL : Hid (IntsA w ad L.length c L) := hL
 have hcap := hL.cap
 have hmax := hL.max
 have hm : maxLen = 9223372036854775807 := rfl
 clear hL
 go_enter Tryz.func39, Tryz.ntmps39
 go_wp2_with fail
 go_loopw [3, 4] (fun a i wr => ∃ (k : Nat) (l : List FI), k ≤ L.length ∧ k ≤ 30 ∧ i = .int .i64 k ∧ FacW w wr a l ((L.take k).map fun c => dat (Ax.gpick c 36))) (fun _ i _ => 30 - (intOf i).toNat)
 case atStart => exact ⟨0, [], by omega, by omega, rfl, FacW.nil w⟩
 case round =>
  obtain ⟨k, l, hk, hk30, rfl, hF⟩ := hrel
  obtain ⟨bd, bc, rfl⟩ := ownsRow_shape hF.row
  have HF : Hid (FacW w wr (.slice bd l.length bc) l ((L.take k).map fun c => dat (Ax.gpick c 36))) := hF
  have hll : l.length ≤ 30 := by
   have := congrArg List.length hF.data
   simp at this
   omega
  clear hF
  by_cases hlt : k < L.length
  · by_cases h30 : k < 30
    · obtain ⟨g, o, rfl, ca, hfit⟩ := (HL.out.below HF.out.bel).at_ k hlt
      have HNX : Hid ((L.take (k + 1)).map (fun c => dat (Ax.gpick c 36)) = (L.take k).map (fun c => dat (Ax.gpick c 36)) ++ [dat (Ax.gpick L[k] 36)]) := by
       have e0 : L.take (k + 1) = L.take k ++ [L[k]] := by rw [List.take_add_one, List.getElem?_eq_getElem hlt]; rfl
       have e1 : (L.take (k + 1)).map (fun c => dat (Ax.gpick c 36)) = (L.take k).map (fun c => dat (Ax.gpick c 36)) ++ [dat (Ax.gpick L[k] 36)] := by rw [e0, List.map_append]; rfl
       exact e1
      have hfa := kfact_any wr L[k] hfit
      generalize L[k] = x at ca hfa HNX
      have HFA : Hid (Calls Tryz.prog 72 #[.int .i64 x] wr fun e w' => ∃ f : FI, e = .returned (.agg #[.string f.pred, f.av]) ∧ Hid ((f.pred, f.args) = dat (Ax.gpick x 36) ∧ w'.ownsRow w.heap.size 9 1 f.av f.args.length (strCells f.args) ∧ FacW w w' (.slice bd l.length bc) l ((L.take k).map fun c => dat (Ax.gpick c 36)))) := by
       refine hfa.mono ?_
       rintro e w' ⟨f, rfl, q1, q2, q3⟩
       exact ⟨f, rfl, q1, ownsRow_base q2 HF.out.bel.size, HF.out.below q3⟩
      clear hfa hfit
      go_wp2_with (first | (go_at_call 72; refine HFA.out.mono ?_; rintro e w3 ⟨f, rfl, HQ⟩; obtain ⟨fp, fa, fv⟩ := f; simp only at HQ ⊢; obtain ⟨xd, xc, hfv⟩ := ownsRow_shape HQ.out.2.1; subst hfv) | (at_builtin; refine wpList_append_own _ rfl (.tmp 15) (.tmp 21) 37 rfl w.heap.size 48 i0 _ 2 40 Tryz.underlying37 hi hz0 hz1 hz2 rfl (by decide) _ _ _ rfl (HQ.out.2.2.row.alloc _) ⟨w3.heap.size, 0, none⟩ 1 1 [.string fp, .slice xd fa.length xc] rfl rfl (new_cells _ _ _) (by simp [Value.oneCell']) (by unfold maxLen; omega) (by omega) (by have := HQ.out.2.2.bel.size; simp; omega) ?_; intro v2 w2 hown2 hgrow _))
      have HX : Hid (FacW w w2 v2 (l ++ [⟨fp, fa, .slice xd fa.length xc⟩]) ((L.take (k + 1)).map fun c => dat (Ax.gpick c 36))) := by
       rw [HNX.out, ← HQ.out.1]
       exact HQ.out.2.2.step ⟨fp, fa, .slice xd fa.length xc⟩ HQ.out.2.1 hown2 hgrow
      go_roundw
      case rel => exact ⟨k + 1, _, hlt, h30, by go_num, HX.out⟩
      case measure => simp [intOf]; omega
    · have HE : Hid (FacW w wr (.slice bd l.length bc) l (fdats L)) := by
       have e : k = 30 := by omega
       have h9 := HF.out
       rw [e] at h9
       exact h9
      go_wp2_with fail
      go_ret
      exact ⟨_, l, rfl, HE.out⟩
  · have HE : Hid (FacW w wr (.slice bd l.length bc) l (fdats L)) := by
     have h9 := HF.out
     have e1 : L.take k = L.take 30 := by rw [List.take_of_length_le (by omega), List.take_of_length_le (by omega)]
     rw [e1] at h9
     exact h9
    go_wp2_with fail
    go_ret
    exact ⟨_, l, rfl, HE.out⟩
end Go.Proofs.YtdmicblafmhflaaGreatDoor
/- axiomkeep.Shop.truths. -/
namespace Go.Proofs.YtdmicblafmhflaaGreatDoor
open Go.RowKit Go.Maps
structure TI (wr : World) (b : Option Nat) (W : World) : Prop where
 bel : Below wr.heap.size wr W
 blk : ∀ x, b = some x → wr.heap.size ≤ x ∧ W.heap[x]? = some (.cells #[.bool false, .bool false, .int .i64 0] 52 (0, 0))
theorem TI.below {wr W w' : World} {b : Option Nat} (h : TI wr b W) (hb : Below W.heap.size W w') : TI wr b w' := by
 refine ⟨h.bel.trans (hb.mono h.bel.size), ?_⟩
 intro x hx
 obtain ⟨h1, h2⟩ := h.blk x hx
 exact ⟨h1, by rw [hb.block _ (lt_of_heap h2)]; exact h2⟩
theorem TI.drew {wr W : World} {b : Option Nat} (h : TI wr b W) : TI wr b W.drew := h.below (Below.refl _ _).drew
theorem TI.alloc {wr W : World} (h : TI wr none W) : TI wr (some W.heap.size) (W.alloc (.cells #[.bool false, .bool false, .int .i64 0] 52)) := by
 refine ⟨h.bel.alloc h.bel.size _, ?_⟩
 intro x hx
 simp only [Option.some.injEq] at hx
 subst hx
 exact ⟨h.bel.size, heap_alloc_new _ _⟩
theorem TI.cells {wr W : World} {x : Nat} (h : TI wr (some x) W) : W.cell? ⟨x, 0, none⟩ = some (.bool false) ∧ W.cell? ⟨x, 1, none⟩ = some (.bool false) ∧ W.cell? ⟨x, 2, none⟩ = some (.int .i64 0) ∧ W.frozen? ⟨x, 0, none⟩ = false ∧ W.frozen? ⟨x, 1, none⟩ = false ∧ W.frozen? ⟨x, 2, none⟩ = false ∧ x < W.heap.size := by
 obtain ⟨h1, h2⟩ := h.blk x rfl
 exact ⟨by rw [cell_of_row _ _ _ _ _ _ h2]; rfl, by rw [cell_of_row _ _ _ _ _ _ h2]; rfl, by rw [cell_of_row _ _ _ _ _ _ h2]; rfl, by simp [World.frozen?, h2], by simp [World.frozen?, h2], by simp [World.frozen?, h2], lt_of_heap h2⟩
structure TCut (wr : World) (g h : Bool) (c : Nat) (v7 v8 : Value) (wx : World) : Prop where
 v8 : v8 = .int .i64 0
 out : ∃ tb, v7 = .pointer (some ⟨tb, 0, none⟩) ∧ wx.heap[tb]? = some (.cells #[.bool g, .bool h, .int .i64 (c : Nat)] 52 (0, 0)) ∧ Below wr.heap.size wr wx
theorem TI.cut_a {wr W : World} {x : Nat} (h : TI wr (some x) W) (g k : Bool) (c : Nat) : TCut wr g k c (.pointer (some ⟨x, 0, none⟩)) (.int .i64 0) (((W.setCell ⟨x, 0, none⟩ (.bool g)).setCell ⟨x, 1, none⟩ (.bool k)).setCell ⟨x, 2, none⟩ (.int .i64 (c : Nat))) := by
 obtain ⟨h1, h2⟩ := h.blk x rfl
 exact ⟨rfl, x, rfl, stores3 h2 _ _ _, ((h.bel.setCell (p := ⟨x, 0, none⟩) h1 _).setCell (p := ⟨x, 1, none⟩) h1 _).setCell (p := ⟨x, 2, none⟩) h1 _⟩
theorem TI.cut_b {wr W : World} (h : TI wr none W) (g k : Bool) (c : Nat) : TCut wr g k c (.pointer (some ⟨W.heap.size, 0, none⟩)) (.int .i64 0) (W.alloc (.cells #[.bool g, .bool k, .int .i64 (c : Nat)] 52)) :=
 ⟨rfl, W.heap.size, rfl, heap_alloc_new _ _, h.bel.alloc h.bel.size _⟩
end Go.Proofs.YtdmicblafmhflaaGreatDoor
/- axiomkeep.Shop.right: what its loops work out. -/
namespace Go.Proofs.YtdmicblafmhflaaGreatDoor
open Go.RowKit
def b3 (H : Nat → Bool) (C : Nat → Nat) (i : Nat) : Nat → Nat := fun x => (if x < i ∧ (H x && H (4 + 5 * x)) = true then 1 else 0) + ((if x < i ∧ (H x && H (20 + 5 * x)) = true then 1 else 0) + C x)
end Go.Proofs.YtdmicblafmhflaaGreatDoor
