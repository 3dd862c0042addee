/- axiomkeep.instances, walked. -/
import Derived.Test.YtdmicblafmhflaaGreatDoorC13
import Derived.Deep.RegionHeld3
import Derived.Deep.AppendLies
import Derived.Test.YtdmicblafmhflaaGreatDoorC04
import Derived.Shelf.Unicode.DecodeAny
import Derived.Test.YtdmicblafmhflaaGreatDoorC05
import Derived.Test.YtdmicblafmhflaaGreatDoorC06
import Derived.Lib.Builder
import Derived.Lib.AppendStr
import Derived.Lib.UnsafeStr
import Derived.Lib.Strings
import Derived.Lib.Walk
import Derived.Lib.BufferWrite
import Derived.Lib.Hide
import Derived.Laws.MakeOwn
import Derived.WalkKit

namespace Go.Proofs.YtdmicblafmhflaaGreatDoor
set_option linter.unusedSimpArgs false
set_option linter.unusedVariables false
open Go.RowKit
theorem beq0 (x : Nat) : ((x : Int) == 0) = decide (x = 0) := by
  rw [Bool.eq_iff_iff]
  simp
theorem InsV.drew {w wr : World} {rc : Array Value} {out : Value} {xs : List Nat} {n vb : Nat} (h : InsV w wr rc out xs n vb) : InsV w wr.drew rc out xs n vb := h.below (Below.refl _ _).drew
theorem InsV.alloc {w wr : World} {rc : Array Value} {out : Value} {xs : List Nat} {n vb : Nat} {Z : Array Value} {t : TypeId} (h : InsV w wr rc out xs n vb) : InsV w (wr.alloc (.cells Z t)) rc out xs n vb := h.below ((Below.refl _ _).alloc (Nat.le_refl _) _)
theorem InsW.box4' {w wr : World} {a b c d : Value} {out : Value} {xs : List Nat} (h : InsW w wr #[a, b, c, d] out xs) : wr.cell? ⟨w.heap.size, 0, none⟩ = some a ∧ wr.cell? ⟨w.heap.size, 1, none⟩ = some b ∧ wr.cell? ⟨w.heap.size, 2, none⟩ = some c ∧ wr.cell? ⟨w.heap.size, 3, none⟩ = some d :=
  ⟨by rw [cell_of_row _ _ _ _ _ _ h.box]; rfl, by rw [cell_of_row _ _ _ _ _ _ h.box]; rfl, by rw [cell_of_row _ _ _ _ _ _ h.box]; rfl, by rw [cell_of_row _ _ _ _ _ _ h.box]; rfl⟩
set_option maxRecDepth 100000 in
set_option maxHeartbeats 4000000 in
theorem instances_any (w : World) (r : Ax.KRule) (H : Nat → Bool) (ad : Option Addr) (n c : Nat) (hB : BodyAt w ad n c r.body) (h0 : Fit64 r.head.pred) (h1 : Fit64 r.head.a) (h2 : Fit64 r.head.b) (hb : Nat) (hH : HoldIs w hb H) :
    Calls Tryz.prog 37 #[.agg #[.int .i64 r.head.pred, .int .i64 r.head.a, .int .i64 r.head.b, .slice ad n c], .slice (some ⟨hb, 0, none⟩) 36 36] w fun e w' => ∃ v, e = .returned v ∧ w'.ownsRow w.heap.size 3 1 v (En.instN (En.nOf r) H).length (natCells (En.instN (En.nOf r) H)) ∧ Below w.heap.size w w' := by
  obtain ⟨i0, hi, hz0, hz1, hz2⟩ := info_parts Tryz.infoIntV
  have hbl : hb < w.heap.size := lt_of_heap hH
  have HB2 : Hid (BodyAt w ad (min n 2) c (Ax.gbody r)) := hB.two
  have hL2 : (Ax.gbody r).length ≤ 2 := by unfold Ax.gbody; simp; omega
  have hLn : (Ax.gbody r).length = min n 2 := hB.two.len
  have hcap : (Ax.gbody r).length ≤ c := by rw [hLn]; exact hB.two.cap
  have hmax := hB.max
  have hm : maxLen = 9223372036854775807 := rfl
  have HUS : Hid (∀ out xs m vb W (i : Nat), InsV w W #[.int .i64 r.head.pred, .int .i64 r.head.a, .int .i64 r.head.b, .slice ad n c] out xs m vb → Calls Tryz.prog 66 #[.agg #[.int .i64 r.head.pred, .int .i64 r.head.a, .int .i64 r.head.b, .slice ad n c], .int .i64 i] W fun e w' => e = .returned (.bool (usesB r i)) ∧ InsV w w' #[.int .i64 r.head.pred, .int .i64 r.head.a, .int .i64 r.head.b, .slice ad n c] out xs m vb) := by
    intro out xs m vb W i hW
    refine (uses_any W r ad n c (hB.below hW.iw.bel) _ _ _ i).mono ?_
    rintro e w' ⟨rfl, hb'⟩
    exact ⟨rfl, hW.below hb'⟩
  have HBO : Hid (∀ out xs m vb W, InsV w W #[.int .i64 r.head.pred, .int .i64 r.head.a, .int .i64 r.head.b, .slice ad n c] out xs m vb → Calls Tryz.prog 63 #[.agg #[.int .i64 r.head.pred, .int .i64 r.head.a, .int .i64 r.head.b, .slice ad n c]] W fun e w' => e = .returned (.slice ad (Ax.gbody r).length c) ∧ InsV w w' #[.int .i64 r.head.pred, .int .i64 r.head.a, .int .i64 r.head.b, .slice ad n c] out xs m vb) := by
    intro out xs m vb W hW
    refine (body_val hB r.head.pred r.head.a r.head.b W).mono ?_
    rintro e w' ⟨rfl, hb'⟩
    exact ⟨by rw [hLn], hW.below hb'⟩
  have HHD : Hid (∀ out xs m vb W, InsV w W #[.int .i64 r.head.pred, .int .i64 r.head.a, .int .i64 r.head.b, .slice ad n c] out xs m vb → Calls Tryz.prog 62 #[.agg #[.int .i64 r.head.pred, .int .i64 r.head.a, .int .i64 r.head.b, .slice ad n c]] W fun e w' => ∃ d c', e = .returned (.slice d (Ax.ghead r).length c') ∧ Hid (w'.ownsRow 0 3 1 (.slice d (Ax.ghead r).length c') (Ax.ghead r).length (natCells (Ax.ghead r))) ∧ InsV w w' #[.int .i64 r.head.pred, .int .i64 r.head.a, .int .i64 r.head.b, .slice ad n c] out xs m vb) := by
    intro out xs m vb W hW
    refine (head_any W r ad n c (hB.below hW.iw.bel) h0 h1 h2).mono ?_
    rintro e w' ⟨d, c', rfl, q1, q2⟩
    exact ⟨d, c', rfl, ownsRow_base q1 (Nat.zero_le _), hW.below q2⟩
  have HAT : Hid (∀ out xs m vb W (x : Int) (tv : Value) (ts : List Nat), m < 64 → Fit64 x → W.ownsRow 0 3 1 tv ts.length (natCells ts) → En.NFit (Ax.gpick x 3, ts) → InsV w W #[.int .i64 r.head.pred, .int .i64 r.head.a, .int .i64 r.head.b, .slice ad n c] out xs m vb → Calls Tryz.prog 67 #[.int .i64 x, tv, .slice (some ⟨vb, 0, none⟩) 3 3] W fun e w' => e = .returned (.int .i64 (En.atN (En.vOf m) (Ax.gpick x 3, ts) : Nat)) ∧ En.atN (En.vOf m) (Ax.gpick x 3, ts) < 36 ∧ w'.cell? ⟨hb, En.atN (En.vOf m) (Ax.gpick x 3, ts), none⟩ = some (.bool (H (En.atN (En.vOf m) (Ax.gpick x 3, ts)))) ∧ hb < w'.heap.size ∧ InsV w w' #[.int .i64 r.head.pred, .int .i64 r.head.a, .int .i64 r.head.b, .slice ad n c] out xs m vb) := by
    intro out xs m vb W x tv ts hm64 hx hrow hfit hW
    have hlt := En.atN_lt (v := En.vOf m) (fun i _ => En.vOf_lt hm64 i) hfit
    refine (at_any W x hx ts (En.vOf m) tv _ hrow hW.row hfit.1.2 hfit.2 (fun i _ => En.vOf_lt hm64 i)).mono ?_
    rintro e w' ⟨rfl, hb'⟩
    have hW' := hW.below hb'
    exact ⟨rfl, hlt, (hH.below hW'.iw.bel).cell hlt, Nat.lt_of_lt_of_le hbl hW'.iw.bel.size, hW'⟩
  have HHC : Hid (∀ W, Below w.heap.size w W → ∀ z : Nat, z < 36 → W.cell? ⟨hb, z, none⟩ = some (.bool (H z))) := fun W hW z hz => (hH.below hW).cell hz
  have HN64 : Hid (instU r H 64 = En.instN (En.nOf r) H) := instU_64 r H
  have HHF : Hid (En.NFit (Ax.gpick r.head.pred 3, Ax.ghead r)) := (En.nOf_ok r).head
  have hpn : (En.nOf r).head = (Ax.gpick r.head.pred 3, Ax.ghead r) := rfl
  generalize hR : En.instN (En.nOf r) H = RES at HN64 ⊢
  clear hR
  generalize r.head.pred = rp at *
  generalize r.head.a = ra at *
  generalize r.head.b = rb at *
  clear hB h1 h2 hH hLn
  go_enter Tryz.func37, Tryz.ntmps37
  go_wp2_with fail
  go_loopw [5, 6] (fun a i wr => ∃ (m : Nat), m ≤ 64 ∧ i = .int .i64 m ∧ InsW w wr #[.int .i64 rp, .int .i64 ra, .int .i64 rb, .slice ad n c] a (instU r H m)) (fun _ i _ => 64 - (intOf i).toNat)
  case atStart => exact ⟨0, by omega, rfl, heap_alloc_new _ _, World.ownsRow_nil _ _ _ _, (Below.refl _ _).alloc (Nat.le_refl _) _⟩
  case round =>
    obtain ⟨m, hm64, rfl, hW⟩ := hrel
    obtain ⟨od, oc, rfl⟩ := ownsRow_shape hW.row
    by_cases hlt : m < 64
    · obtain ⟨w1, hw1⟩ : ∃ w1, w1 = wr.alloc (.cells #[.int .i64 ((m : Int) % 4), .int .i64 ((m : Int) / 4 % 4), .int .i64 ((m : Int) / 16)] 3) := ⟨_, rfl⟩
      have HV0 : Hid (InsV w w1 #[.int .i64 rp, .int .i64 ra, .int .i64 rb, .slice ad n c] (.slice od (instU r H m).length oc) (instU r H m) m wr.heap.size) := by
        have e : #[Value.int .i64 ((m : Int) % 4), .int .i64 ((m : Int) / 4 % 4), .int .i64 ((m : Int) / 16)] = (natCells [En.vOf m 0, En.vOf m 1, En.vOf m 2]).toArray := by
          simp [natCells, En.vOf]
        rw [hw1]
        refine ⟨hW.below ((Below.refl _ _).alloc (Nat.le_refl _) _), ?_⟩
        rw [e]
        exact ownsRow_lits rfl (by omega) (Nat.zero_le _)
      have hdm : decide ((m : Int) < 64) = true := decide_eq_true (by omega)
      have HXL : Hid ((instU r H m).length ≤ 64) := Nat.le_trans (instU_len r H m) (by omega)
      clear hW
      go_wp2_with fail
      rw [← hw1]
      clear hw1
      generalize wr.heap.size = vb at *
      go_loopw [8, 9] (fun o i wr => ∃ (k : Nat), k ≤ 3 ∧ i = .int .i64 k ∧ o = .bool (ok2 r m k) ∧ InsV w wr #[.int .i64 rp, .int .i64 ra, .int .i64 rb, .slice ad n c] (.slice od (instU r H m).length oc) (instU r H m) m vb) (fun _ i _ => 3 - (intOf i).toNat)
      case atStart => exact ⟨0, by omega, rfl, rfl, HV0.out⟩
      case round =>
        obtain ⟨k, hk3, rfl, rfl, hV⟩ := hrel
        obtain ⟨x0, x1, x2, x3, xl⟩ := hV.box4
        have HV : Hid (InsV w wr #[.int .i64 rp, .int .i64 ra, .int .i64 rb, .slice ad n c] (.slice od (instU r H m).length oc) (instU r H m) m vb) := hV
        by_cases hk : k < 3
        · obtain ⟨cv, vl⟩ := hV.cell hk
          have hdk : decide ((k : Int) < 3) = true := decide_eq_true (by omega)
          have HS : Hid (ok2 r m (k + 1) = (ok2 r m k && (usesB r k || decide (En.vOf m k = 0)))) := rfl
          have HU := HUS.out (.slice od (instU r H m).length oc) (instU r H m) m vb wr k hV
          have HCV : Hid (∀ W, InsV w W #[.int .i64 rp, .int .i64 ra, .int .i64 rb, .slice ad n c] (.slice od (instU r H m).length oc) (instU r H m) m vb → W.cell? ⟨vb, k, none⟩ = some (.int .i64 (En.vOf m k : Nat)) ∧ vb < W.heap.size) := fun W hW => hW.cell hk
          clear hV HUS HBO HHD HAT
          generalize ok2 r m k = o1 at HS ⊢
          generalize usesB r k = o2 at HS HU
          generalize En.vOf m k = xk at HS HCV cv
          cases o1 with
          | false =>
            rw [Bool.false_and] at HS
            cases o2 <;>
            · go_wp2_with (go_at_call 66; refine HU.mono ?_; rintro e w5 ⟨rfl, hV5⟩)
              go_roundw
              case rel => exact ⟨k + 1, hk, by go_num, by rw [HS.out], hV5⟩
              case measure => simp [intOf]; omega
          | true =>
            rw [Bool.true_and] at HS
            cases o2 with
            | true =>
              rw [Bool.true_or] at HS
              go_wp2_with (go_at_call 66; refine HU.mono ?_; rintro e w5 ⟨rfl, hV5⟩)
              go_roundw
              case rel => exact ⟨k + 1, hk, by go_num, by rw [HS.out], hV5⟩
              case measure => simp [intOf]; omega
            | false =>
              rw [Bool.false_or] at HS
              go_wp2_with (go_at_call 66; refine HU.mono ?_; rintro e w5 ⟨rfl, hV5⟩; obtain ⟨cv5, vl5⟩ := HCV.out w5 hV5)
              go_roundw
              case rel => exact ⟨k + 1, hk, by go_num, by rw [HS.out]; simp; exact beq0 _, hV5⟩
              case measure => simp [intOf]; omega
        · have hke : k = 3 := by omega
          subst hke
          clear hV
          have HL0 : Hid (ok3 r H m 0 = ok2 r m 3) := ok3_0 r H m
          rw [← HL0.out]
          go_wp2_with (go_at_call 63; refine (HBO.out _ _ _ _ _ HV.out).mono ?_; rintro e w5 ⟨rfl, hV5⟩)
          have HV5 : Hid (InsV w w5 #[.int .i64 rp, .int .i64 ra, .int .i64 rb, .slice ad n c] (.slice od (instU r H m).length oc) (instU r H m) m vb) := hV5
          clear hV5 HV HL0 x0 x1 x2 x3 xl HBO HUS
          go_loopw [8, 12] (fun o i wr => ∃ (k : Nat), k ≤ (Ax.gbody r).length ∧ i = .int .i64 k ∧ o = .bool (ok3 r H m k) ∧ InsV w wr #[.int .i64 rp, .int .i64 ra, .int .i64 rb, .slice ad n c] (.slice od (instU r H m).length oc) (instU r H m) m vb) (fun _ i _ => (Ax.gbody r).length - (intOf i).toNat)
          case atStart => exact ⟨0, Nat.zero_le _, rfl, rfl, HV5.out⟩
          case round =>
            obtain ⟨k, hkl, rfl, rfl, hV⟩ := hrel
            have HV : Hid (InsV w wr #[.int .i64 rp, .int .i64 ra, .int .i64 rb, .slice ad n c] (.slice od (instU r H m).length oc) (instU r H m) m vb) := hV
            cases hok : ok3 r H m k with
            | false =>
              have HNO : Hid (instU r H (m + 1) = instU r H m) := instU_no (ok3_false hok)
              clear hok hV HHD HAT HHF
              by_cases hk : k < (Ax.gbody r).length
              · have hdk : decide ((k : Int) < ((Ax.gbody r).length : Int)) = true := decide_eq_true (by omega)
                go_wp2_with fail
                all_goals
                  (go_roundw
                   case rel => exact ⟨m + 1, hlt, by go_num, by rw [HNO.out]; exact HV.out.iw⟩
                   case measure => (simp [intOf]; omega))
              · have hdk : decide ((k : Int) < ((Ax.gbody r).length : Int)) = false := decide_eq_false (by omega)
                go_wp2_with fail
                all_goals
                  (go_roundw
                   case rel => exact ⟨m + 1, hlt, by go_num, by rw [HNO.out]; exact HV.out.iw⟩
                   case measure => (simp [intOf]; omega))
            | true =>
              by_cases hk : k < (Ax.gbody r).length
              · have hdk : decide ((k : Int) < ((Ax.gbody r).length : Int)) = true := decide_eq_true (by omega)
                obtain ⟨g, o', rfl, ha⟩ := (HB2.out.below hV.iw.bel).at_ k hk
                have HSU : Hid (ok3 r H m (k + 1) = H (En.atN (En.vOf m) (Ax.gpick ((Ax.gbody r)[k]).pred 3, Ax.gterms (Ax.gbody r)[k]))) := ok3_succ hk hok
                have HCE : Hid (∀ W, InsV w W #[.int .i64 rp, .int .i64 ra, .int .i64 rb, .slice (some ⟨g, o', none⟩) n c] (.slice od (instU r H m).length oc) (instU r H m) m vb → W.cell? ⟨g, o' + k * 3, none⟩ = some (.int .i64 ((Ax.gbody r)[k]).pred) ∧ W.cell? ⟨g, o' + k * 3 + 1, none⟩ = some (.int .i64 ((Ax.gbody r)[k]).a) ∧ W.cell? ⟨g, o' + k * 3 + 2, none⟩ = some (.int .i64 ((Ax.gbody r)[k]).b) ∧ ∀ z : Nat, z < 36 → W.cell? ⟨hb, z, none⟩ = some (.bool (H z))) := by
                  intro W hW
                  obtain ⟨g', o2, e, ha'⟩ := (HB2.out.below hW.iw.bel).at_ k hk
                  simp only [Option.some.injEq, Addr.mk.injEq, and_true] at e
                  obtain ⟨rfl, rfl⟩ := e
                  exact ⟨ha'.c0, ha'.c1, ha'.c2, fun z hz => HHC.out W hW.iw.bel z hz⟩
                have HTE : Hid (∀ W, InsV w W #[.int .i64 rp, .int .i64 ra, .int .i64 rb, .slice (some ⟨g, o', none⟩) n c] (.slice od (instU r H m).length oc) (instU r H m) m vb → Calls Tryz.prog 64 #[.agg #[.int .i64 ((Ax.gbody r)[k]).pred, .int .i64 ((Ax.gbody r)[k]).a, .int .i64 ((Ax.gbody r)[k]).b]] W fun e w' => ∃ d c', e = .returned (.slice d (Ax.gterms (Ax.gbody r)[k]).length c') ∧ Hid (w'.ownsRow 0 3 1 (.slice d (Ax.gterms (Ax.gbody r)[k]).length c') (Ax.gterms (Ax.gbody r)[k]).length (natCells (Ax.gterms (Ax.gbody r)[k]))) ∧ InsV w w' #[.int .i64 rp, .int .i64 ra, .int .i64 rb, .slice (some ⟨g, o', none⟩) n c] (.slice od (instU r H m).length oc) (instU r H m) m vb) := by
                  intro W hW
                  refine (terms_any' W (Ax.gbody r)[k] ha.f0 ha.f1 ha.f2).mono ?_
                  rintro e w' ⟨d, c', rfl, q1, q2⟩
                  exact ⟨d, c', rfl, ownsRow_base q1 (Nat.zero_le _), hW.below q2⟩
                have HAX : Hid (∀ W tv, W.ownsRow 0 3 1 tv (Ax.gterms (Ax.gbody r)[k]).length (natCells (Ax.gterms (Ax.gbody r)[k])) → InsV w W #[.int .i64 rp, .int .i64 ra, .int .i64 rb, .slice (some ⟨g, o', none⟩) n c] (.slice od (instU r H m).length oc) (instU r H m) m vb → Calls Tryz.prog 67 #[.int .i64 ((Ax.gbody r)[k]).pred, tv, .slice (some ⟨vb, 0, none⟩) 3 3] W fun e w' => ∃ R : Nat, e = .returned (.int .i64 (R : Nat)) ∧ R < 36 ∧ (0 : Int) ≤ (R : Int) ∧ (R : Int) < 36 ∧ w'.cell? ⟨hb, R, none⟩ = some (.bool (H R)) ∧ hb < w'.heap.size ∧ Hid (ok3 r H m (k + 1) = H R) ∧ InsV w w' #[.int .i64 rp, .int .i64 ra, .int .i64 rb, .slice (some ⟨g, o', none⟩) n c] (.slice od (instU r H m).length oc) (instU r H m) m vb) := by
                  intro W tv hrow hW
                  refine (HAT.out _ _ m vb W ((Ax.gbody r)[k]).pred tv _ hlt ha.f0 hrow ⟨Ax.kfit_terms _, En.gterms_lt _⟩ hW).mono ?_
                  rintro e w' ⟨rfl, q1, q2, q3, q4⟩
                  exact ⟨_, rfl, q1, by omega, by omega, q2, q3, HSU.out, q4⟩
                obtain ⟨c0, c1, c2, _, _, _⟩ := ha
                clear HHD HAT HHF HSU hok
                generalize Ax.gterms (Ax.gbody r)[k] = tl at HTE HAX
                generalize ((Ax.gbody r)[k]).pred = ap at *
                generalize ((Ax.gbody r)[k]).a = aa at *
                generalize ((Ax.gbody r)[k]).b = ab at *
                go_wp2_with fail
                all_goals (go_region_held3 (fun W => W.cell? ⟨g, o' + k * 3, none⟩ = some (.int .i64 ap) ∧ W.cell? ⟨g, o' + k * 3 + 1, none⟩ = some (.int .i64 aa) ∧ W.cell? ⟨g, o' + k * 3 + 2, none⟩ = some (.int .i64 ab) ∧ ∀ z : Nat, z < 36 → W.cell? ⟨hb, z, none⟩ = some (.bool (H z))) (first | (exact HCE.out _ (by assumption)) | (exact HCE.out _ (InsV.drew (by assumption)))) (first | (go_at_call 64; refine (HTE.out _ (by first | assumption | exact InsV.drew (by assumption))).mono ?_; rintro e w6 ⟨d6, c6, rfl, HO6, hV6⟩) | (go_at_call 67; refine (HAX.out _ _ (by exact HO6.out) (by assumption)).mono ?_; rintro e w7 ⟨R, rfl, hRN, hR0, hR36, hcR, hbR, HSR, hV7⟩)))
                all_goals
                  (go_wp2_with fail
                   go_roundw
                   case rel => exact ⟨k + 1, hk, by go_num, by rw [HSR.out], hV7⟩
                   case measure => (simp [intOf]; omega))
              · have hdk : decide ((k : Int) < ((Ax.gbody r).length : Int)) = false := decide_eq_false (by omega)
                have hke : k = (Ax.gbody r).length := by omega
                have HYES : Hid (instU r H (m + 1) = instU r H m ++ [En.atN (En.vOf m) (Ax.gpick rp 3, Ax.ghead r)]) := by
                  rw [hke, ok3_end] at hok
                  have h9 := instU_yes hok
                  rw [hpn] at h9
                  exact h9
                have HAX : Hid (∀ W tv, W.ownsRow 0 3 1 tv (Ax.ghead r).length (natCells (Ax.ghead r)) → InsV w W #[.int .i64 rp, .int .i64 ra, .int .i64 rb, .slice ad n c] (.slice od (instU r H m).length oc) (instU r H m) m vb → Calls Tryz.prog 67 #[.int .i64 rp, tv, .slice (some ⟨vb, 0, none⟩) 3 3] W fun e w' => ∃ R : Nat, e = .returned (.int .i64 (R : Nat)) ∧ Hid (instU r H (m + 1) = instU r H m ++ [R]) ∧ InsV w w' #[.int .i64 rp, .int .i64 ra, .int .i64 rb, .slice ad n c] (.slice od (instU r H m).length oc) (instU r H m) m vb) := by
                  intro W tv hrow hW
                  refine (HAT.out _ _ m vb W rp tv _ hlt h0 hrow HHF.out hW).mono ?_
                  rintro e w' ⟨rfl, q1, q2, q3, q4⟩
                  exact ⟨_, rfl, HYES.out, q4⟩
                have HCE : Hid (∀ W, InsV w W #[.int .i64 rp, .int .i64 ra, .int .i64 rb, .slice ad n c] (.slice od (instU r H m).length oc) (instU r H m) m vb → W.cell? ⟨w.heap.size, 0, none⟩ = some (.int .i64 rp) ∧ W.cell? ⟨w.heap.size, 1, none⟩ = some (.int .i64 ra) ∧ W.cell? ⟨w.heap.size, 2, none⟩ = some (.int .i64 rb) ∧ W.cell? ⟨w.heap.size, 3, none⟩ = some (.slice ad n c)) := fun W hW => ⟨hW.box4.1, hW.box4.2.1, hW.box4.2.2.1, hW.box4.2.2.2.1⟩
                have hxl := HXL.out
                clear HAT HHF HYES hok hke
                generalize Ax.ghead r = tl at HHD HAX
                go_wp2_with fail
                all_goals (go_region_held3 (fun W => W.cell? ⟨w.heap.size, 0, none⟩ = some (.int .i64 rp) ∧ W.cell? ⟨w.heap.size, 1, none⟩ = some (.int .i64 ra) ∧ W.cell? ⟨w.heap.size, 2, none⟩ = some (.int .i64 rb) ∧ W.cell? ⟨w.heap.size, 3, none⟩ = some (.slice ad n c)) (first | (exact HCE.out _ (by assumption)) | (exact HCE.out _ (InsV.drew (by assumption))) | (exact HCE.out _ (InsV.alloc (by assumption))) | (exact HCB.out.box4')) (first | (go_at_call 62; refine (HHD.out _ _ _ _ _ (by first | assumption | exact InsV.drew (by assumption))).mono ?_; rintro e w6 ⟨d6, c6, rfl, HO6, hV6⟩) | (go_at_call 67; refine (HAX.out _ _ (by exact HO6.out) (by assumption)).mono ?_; rintro e w7 ⟨R, rfl, HYR, hV7⟩) | (refine step_append_lies _ rfl (.tmp 70) (.tmp 78) 31 rfl (w.heap.size + 1) 3 i0 _ 1 8 Tryz.underlying31 hi hz0 hz1 hz2 rfl (by decide) (.slice od (instU r H m).length oc) (instU r H m).length (natCells (instU r H m)) (by simp [Act.eval, Act.put]) (by exact hV7.iw.row.alloc _) ⟨w7.heap.size, 0, none⟩ 1 1 [.int .i64 (R : Nat)] (by simp [Act.eval, Act.put]) rfl (by exact new_cells _ _ _) (by simp [Value.oneCell']) (by decide) (by unfold maxLen; omega) (by omega) (by have := lt_of_heap hV7.iw.box; simp; omega) (w7.heap.size + 1) (by simp) ?_; intro g2 cap2 w8 hown8 hgrow8 _ hlt8; have HCB : Hid (InsW w w8 #[.int .i64 rp, .int .i64 ra, .int .i64 rb, .slice ad n c] (.slice (some ⟨g2, 0, none⟩) ((instU r H m).length + 1) cap2) (instU r H m ++ [R])) := (hV7.alloc (t := 3) (Z := #[.int .i64 (R : Nat)])).iw.grown hgrow8 hown8)))
                all_goals
                  (go_wp2_with fail
                   all_goals
                     (go_roundw
                      case rel => exact ⟨m + 1, hlt, by go_num, by rw [HYR.out]; exact HCB.out⟩
                      case measure => (simp [intOf]; omega)))
    · have hme : m = 64 := by omega
      subst hme
      have HE : Hid (wr.ownsRow w.heap.size 3 1 (.slice od (instU r H 64).length oc) RES.length (natCells RES) ∧ Below w.heap.size w wr) := by
        rw [← HN64.out]
        exact ⟨ownsRow_base hW.row (by omega), hW.bel⟩
      clear hW
      go_wp2_with fail
      go_ret
      exact ⟨_, rfl, HE.out⟩
end Go.Proofs.YtdmicblafmhflaaGreatDoor

/- utf8.DecodeRuneInString as it is laid by the shelf; program.IsName. -/
namespace Go.Proofs.YtdmicblafmhflaaGreatDoor
set_option linter.unusedSimpArgs false
set_option linter.unusedVariables false
open Go.Shelf Go.RowKit
set_option maxRecDepth 100000
def decRen : Ren := ⟨fun | 197 => 198 | 260 => 246 | n => n, fun | 0 => 0 | 3 => 3 | 4 => 4 | 5 => 5 | 9 => 9 | 21 => 21 | 46 => 246 | 105 => 334 | 119 => 404 | 138 => 406 | 139 => 407 | n => n, fun | 3 => 2 | 4 => 3 | n => n⟩
theorem decLaid : Lays.n197 Tryz.prog decRen where
  mixed := by kernel_rfl
  f197 := Tryz.func198.trans (congrArg some (by kernel_rfl))
  f260 := Tryz.func246.trans (congrArg some (by kernel_rfl))
  t0 := Tryz.underlying0
  a0 := Tryz.isAgg0
  z0 := Tryz.sizeOf0
  v0 := Tryz.zeroValue0
  t3 := Tryz.underlying3
  a3 := Tryz.isAgg3
  z3 := Tryz.sizeOf3
  v3 := Tryz.zeroValue3
  t4 := Tryz.underlying4
  a4 := Tryz.isAgg4
  z4 := Tryz.sizeOf4
  v4 := Tryz.zeroValue4
  t5 := Tryz.underlying5
  a5 := Tryz.isAgg5
  z5 := Tryz.sizeOf5
  v5 := Tryz.zeroValue5
  t9 := Tryz.underlying9
  a9 := Tryz.isAgg9
  z9 := Tryz.sizeOf9
  v9 := Tryz.zeroValue9
  t21 := Tryz.underlying21
  a21 := Tryz.isAgg21
  z21 := Tryz.sizeOf21
  v21 := Tryz.zeroValue21
  t46 := Tryz.underlying246
  a46 := Tryz.isAgg246
  z46 := Tryz.sizeOf246
  v46 := Tryz.zeroValue246
  t105 := Tryz.underlying334
  a105 := Tryz.isAgg334
  z105 := Tryz.sizeOf334
  v105 := Tryz.zeroValue334
  t119 := Tryz.underlying404
  a119 := Tryz.isAgg404
  z119 := Tryz.sizeOf404
  t138 := Tryz.underlying406
  a138 := Tryz.isAgg406
  z138 := Tryz.sizeOf406
  v138 := Tryz.zeroValue406
  t139 := Tryz.underlying407
  a139 := Tryz.isAgg407
  z139 := Tryz.sizeOf407
  v139 := Tryz.zeroValue407
  g3 := by kernel_rfl
  g4 := by kernel_rfl
/-- the tables of unicode/utf8, as they lie -/
abbrev UTabs (w : World) : Prop := Lib.Utf8Tabs 2 3 w
theorem decode_any (s : ByteArray) (w : World) (hT : UTabs w) :
    Calls Tryz.prog 198 #[.string s] w fun e w' => e = .returned (.tuple #[.int .i32 (Lib.decodeGo s).1, .int .i64 (Lib.decodeGo s).2]) ∧ Below w.heap.size w w' :=
  Any.utf8_DecodeRuneInString decLaid s w hT
namespace Ax
set_option linter.unusedSimpArgs false
set_option linter.unusedVariables false
/-- whether a text is a name, whole and alone -/
def isName (s : ByteArray) : Bool := ((firstTok s (Lib.decodeGo s).1).1 == 2) && (((firstTok s (Lib.decodeGo s).1).2 : Int) == (s.size : Int))
end Ax
set_option maxHeartbeats 1000000 in
theorem isName_any (s : ByteArray) (w : World) (hT : UTabs w) (hs : s.size ≤ maxLen) :
    Calls Tryz.prog 130 #[.string s] w fun e w' => e = .returned (.bool (Ax.isName s)) ∧ Below w.heap.size w w' := by
  have hd := decode_any s w hT
  have hn : Ax.isName s = (((Ax.firstTok s (Lib.decodeGo s).1).1 == 2) && (((Ax.firstTok s (Lib.decodeGo s).1).2 : Int) == (s.size : Int))) := rfl
  have hc : ∀ w1, Calls Tryz.prog 178 #[.string s, .int .i32 (Lib.decodeGo s).1] w1 fun e w' => e = .returned (.tuple #[.int .i64 (Ax.firstTok s (Lib.decodeGo s).1).1, .int .i64 (Ax.firstTok s (Lib.decodeGo s).1).2]) ∧ Below w1.heap.size w1 w' := fun w1 => firstToken_any s _ w1 hs
  generalize (Lib.decodeGo s).1 = R at hd hn hc
  generalize (Lib.decodeGo s).2 = K at hd
  generalize Ax.firstTok s R = FT at hn hc
  obtain ⟨a, b⟩ := FT
  simp only at hn hc
  rw [hn]
  clear hn
  cases ha : (a == 2)
  · go_enter Tryz.func130, Tryz.ntmps130
    go_wp2_with (first | (go_at_call 198; refine hd.mono ?_; rintro e w1 ⟨rfl, hb1⟩) | (go_at_call 178; refine (hc _).mono ?_; rintro e w2 ⟨rfl, hb2⟩))
    go_ret
    exact ⟨by simp, hb1.trans (hb2.mono hb1.size)⟩
  · go_enter Tryz.func130, Tryz.ntmps130
    go_wp2_with (first | (go_at_call 198; refine hd.mono ?_; rintro e w1 ⟨rfl, hb1⟩) | (go_at_call 178; refine (hc _).mono ?_; rintro e w2 ⟨rfl, hb2⟩))
    go_ret
    exact ⟨by simp, hb1.trans (hb2.mono hb1.size)⟩
end Go.Proofs.YtdmicblafmhflaaGreatDoor

/- strings.Builder: copyCheck, WriteString, String. -/
namespace Go.Proofs.YtdmicblafmhflaaGreatDoor
set_option linter.unusedSimpArgs false
set_option linter.unusedVariables false
open Go.RowKit
theorem Tryz.sizeBuilder : (Tryz.prog.info? 314).map (·.size) = some 2 := by kernel_rfl
theorem Tryz.liesBuilder : liesAt Tryz.prog Tryz.prog.depth 314 (2 / Tryz.prog.cellsOf 314) 0 314 1 = true := by kernel_rfl
theorem Tryz.infoByte : (Tryz.prog.info? 5).map (fun i => (i.zero, i.size, i.bytes)) = some (some (.int .u8 0), 1, 1) := by kernel_rfl
theorem Tryz.cellsByte : Tryz.prog.cellsOf 5 = 1 := by kernel_rfl
/-- a builder in block b -/
def Bld (B : Nat) (w : World) (b : Nat) (l : List UInt8) : Prop :=
  ∃ p v, (p = .pointer none ∨ p = .pointer (some ⟨b, 0, none⟩)) ∧ w.heap[b]? = some (.cells #[p, v] 314 (0, 0)) ∧ w.ownsRow B 5 1 v l.length (Lib.byteCells l) ∧ (l = [] → v = .slice none 0 0)
set_option maxRecDepth 100000 in
set_option maxHeartbeats 1000000 in
theorem copyCheck_used (b : Nat) (w : World) (h0 : w.cell? ⟨b, 0, none⟩ = some (.pointer (some ⟨b, 0, none⟩))) :
    Calls Tryz.prog 229 #[.pointer (some ⟨b, 0, none⟩)] w fun e w' => e = .returned (.tuple #[]) ∧ w' = w := by
  obtain ⟨j, hj, _⟩ := Option.map_eq_some_iff.1 Tryz.sizeBuilder
  go_enter Tryz.func229, Tryz.ntmps229
  have kn := Lib.run_neq_ptr_same (P := Tryz.prog) w ⟨b, 0, none⟩ Tryz.underlying312 hj
  clear hj
  go_wp2_with fail
  go_end0
  exact ⟨rfl, rfl⟩
set_option maxRecDepth 100000 in
set_option maxHeartbeats 1000000 in
theorem copyCheck_fresh (b : Nat) (w : World) (h0 : w.cell? ⟨b, 0, none⟩ = some (.pointer none)) (hsh : w.shape? b = some (314, 2)) (hfz : w.frozen? ⟨b, 0, none⟩ = false) :
    Calls Tryz.prog 229 #[.pointer (some ⟨b, 0, none⟩)] w fun e w' => e = .returned (.tuple #[]) ∧ w' = w.setCell ⟨b, 0, none⟩ (.pointer (some ⟨b, 0, none⟩)) := by
  obtain ⟨j, hj, hjs⟩ := Option.map_eq_some_iff.1 Tryz.sizeBuilder
  have k1 := fun w' (hs : w'.shape? b = some (314, 2)) => Lib.run_to_unsafe (P := Tryz.prog) w' ⟨b, 0, none⟩ Tryz.underlying312 Tryz.underlying390 hj (by rw [hjs]; decide) hs (Nat.zero_lt_succ 1)
  have k1' := k1 w hsh
  have k2 : (callFunc 263 #[.pointer (some ⟨b, 0, none⟩)]).run Tryz.prog w = .ok (.value (.pointer (some ⟨b, 0, none⟩))) w := by
    rw [run_callFunc_extern Tryz.func263 (by kernel_rfl) (by kernel_rfl) (by kernel_rfl) (e := Extern.AbiNoEscape.same) (by kernel_rfl), Lib.run_noEscape]
    rfl
  have k3 := Lib.run_from_unsafe (P := Tryz.prog) w ⟨b, 0, none⟩ Tryz.underlying390 Tryz.underlying312 hj hsh Tryz.liesBuilder
  clear k1 hj
  go_enter Tryz.func229, Tryz.ntmps229
  go_wp2_with fail
  go_end0
  exact ⟨rfl, rfl⟩
/-- what the builder's writers leave alone: all that is not the builder's block and no row of bytes -/
theorem copyCheck_any (B b : Nat) (w : World) (v : Value) (p : Value) (hp : p = .pointer none ∨ p = .pointer (some ⟨b, 0, none⟩)) (hb : w.heap[b]? = some (.cells #[p, v] 314 (0, 0))) (hB : B ≤ b) :
    Calls Tryz.prog 229 #[.pointer (some ⟨b, 0, none⟩)] w fun e w' => e = .returned (.tuple #[]) ∧ w'.heap[b]? = some (.cells #[.pointer (some ⟨b, 0, none⟩), v] 314 (0, 0)) ∧ Below B w w' ∧ w.grownBy w' (some b) := by
  rcases hp with rfl | rfl
  · refine (copyCheck_fresh b w ?_ ?_ (frozen_at hb 0)).mono ?_
    · rw [cell_at hb]; rfl
    · simp [World.shape?, hb]
    · rintro e w' ⟨rfl, rfl⟩
      exact ⟨rfl, by rw [heap_setCell_same hb]; rfl, (Below.refl _ _).setCell hB _, grownBy_setCell _ _⟩
  · refine (copyCheck_used b w ?_).mono ?_
    · rw [cell_at hb]; rfl
    · rintro e w' ⟨rfl, rfl⟩
      exact ⟨rfl, hb, Below.refl _ _, grownBy_refl _ _⟩
theorem byteCells_append (l m : List UInt8) : Lib.byteCells (l ++ m) = Lib.byteCells l ++ Lib.byteCells m := by simp [Lib.byteCells]
theorem size_zero {s : ByteArray} (h : s.data.toList = []) : s = ByteArray.empty := by
  rcases s with ⟨⟨l⟩⟩
  simp at h
  subst h
  rfl
theorem strCells_bytes (s : ByteArray) : Lib.strCells s = Lib.byteCells s.data.toList := rfl
set_option maxHeartbeats 2000000 in
set_option maxRecDepth 100000 in
theorem writeString_any (B b : Nat) (l : List UInt8) (s : ByteArray) (w : World) (h : Bld B w b l) (hB : B ≤ b) (hlen : l.length + s.size ≤ 1000000) :
    Calls Tryz.prog 184 #[.pointer (some ⟨b, 0, none⟩), .string s] w fun e w' => e = .returned (.tuple #[.int .i64 s.size, .nilIface]) ∧ Bld B w' b (l ++ s.data.toList) ∧ Below B w w' := by
  obtain ⟨p, v, hp, hb, hown, hnil⟩ := h
  have hlt := lt_of_heap hb
  go_enter Tryz.func184, Tryz.ntmps184
  go_wp2_with (go_at_call 229; refine (copyCheck_any B b _ v p hp hb hB).mono ?_)
  rintro e w1 ⟨rfl, hb1, hbel1, hg1⟩
  have hown1 : w1.ownsRow B 5 1 v l.length (Lib.byteCells l) := ownsRow_type hown hg1 (e' := 314) (fun k hk => by cases hk; exact ⟨_, _, hb⟩) (by decide)
  have hs1 := hg1.size
  have c0 := cell_at hb1 0
  have c1 := cell_at hb1 1
  simp only [List.getElem?_toArray, List.getElem?_cons_zero, List.getElem?_cons_succ] at c0 c1
  go_wp2_with (at_builtin; obtain ⟨i0, hi, hz0, hz1, hz2⟩ := info_parts Tryz.infoByte; refine Lib.wpList_append_own_string _ rfl _ _ 63 9 rfl B 5 i0 Tryz.underlying63 Tryz.underlying9 hi hz0 hz1 hz2 _ _ _ rfl hown1 s rfl (by unfold maxLen; omega) (by omega) (by omega) ?_)
  intro v' w2 hown2 hgrow hnil2
  have hb2 : w2.heap[b]? = some (.cells #[.pointer (some ⟨b, 0, none⟩), v] 314 (0, 0)) := by
    rw [hgrow.block b (by omega) ?_]
    · exact hb1
    · intro e
      obtain ⟨cur, fz, hk⟩ := ownsRow_kind hown1 b e.symm
      rw [hb1] at hk
      simp at hk
  have d1 := cell_at hb2 1
  have f1 := frozen_at hb2 1
  simp only [List.getElem?_toArray, List.getElem?_cons_zero, List.getElem?_cons_succ] at d1
  obtain ⟨ao, cap, rfl⟩ := ownsRow_shape hown2
  go_wp2_with fail
  go_ret2
  have hbel2 : Below B w w2 := hbel1.grown hgrow (by omega) (fun k hk => (hown1.lt k hk).1)
  refine ⟨rfl, ⟨_, _, .inr rfl, by rw [heap_setCell_same hb2]; rfl, ?_, ?_⟩, hbel2.setCell hB _⟩
  · rw [byteCells_append, ← strCells_bytes, List.length_append]
    refine ownsRow_type (by simpa using hown2) (grownBy_setCell _ _) (e' := 314) (fun k hk => by cases hk; exact ⟨_, _, hb2⟩) (by decide)
  · intro hl
    obtain ⟨rfl, hs0⟩ := List.append_eq_nil_iff.1 hl
    exact hnil2.2 ⟨hnil rfl, size_zero hs0⟩
end Go.Proofs.YtdmicblafmhflaaGreatDoor

/- strings.Clone: the same bytes. -/
namespace Go.Proofs.YtdmicblafmhflaaGreatDoor
set_option linter.unusedSimpArgs false
set_option linter.unusedVariables false
open Go.RowKit
set_option maxHeartbeats 4000000 in
set_option maxRecDepth 100000 in
theorem slite_clone (s : ByteArray) (w : World) (hlim : s.size ≤ 281474976710656) :
    Calls Tryz.prog 176 #[.string s] w fun e w' => e = .returned (.string s) ∧ Below w.heap.size w w' := by
  by_cases h0 : s.size = 0
  · have hs : s = ⟨#[]⟩ := by
      apply ByteArray.ext
      exact Array.eq_empty_of_size_eq_zero h0
    subst hs
    go_enter Tryz.func176, Tryz.ntmps176
    go_wp2_with fail
    go_ret
    exact ⟨rfl, Below.refl _ _⟩
  · have hb0 : (((s.size : Nat) : Int) == 0) = false := beq_eq_false_iff_ne.2 (by omega)
    obtain ⟨i0, hi, hz0, hz1, hz2⟩ := info_parts Tryz.infoByte
    have hinfo : (Tryz.prog.info? 5).map (·.size) = some 1 := by rw [hi]; simp [hz1]
    obtain ⟨M, hM⟩ : ∃ M, M = madeCells (Value.int .u8 0).cells (((s.size : Nat) : Int).toNat * i0.size) := ⟨_, rfl⟩
    have hMs : M.size = s.size := by rw [hM, size_madeCells, hz1]; simp
    have hmk : ∀ W : World, (Instr.makeSlice 63 (.int .i64 (s.size : Int)) (.int .i64 (s.size : Int))).run Tryz.prog W = .ok (.slice (some ⟨W.heap.size, 0, none⟩) s.size s.size) (W.alloc (.cells M 5)) := fun W => by
      have h := run_make (P := Tryz.prog) W 63 5 i0 (.int .u8 0) Tryz.underlying63 hi hz0 .i64 .i64 (s.size : Int) (s.size : Int) (by omega) (by omega) (by rw [hz2]; omega) (by omega)
      rw [← hM] at h
      simpa using h
    clear hM hi
    have hcp := Lib.run_copy_row_string (P := Tryz.prog) (w.alloc (.cells M 5)) 63 9 3 5 w.heap.size 0 s.size s.size s M 5 Tryz.underlying63 hinfo (heap_alloc_new w _) (Nat.le_refl _) (by omega)
    obtain ⟨Y, hY⟩ : ∃ Y, Y = (M.toList.take 0 ++ Lib.byteCells s.data.toList ++ M.toList.drop (0 + s.size)).toArray := ⟨_, rfl⟩
    rw [← hY] at hcp
    have hYl : Y.toList = Lib.byteCells s.data.toList := by
      rw [hY, List.toList_toArray, List.take_zero, List.nil_append, List.drop_of_length_le (by rw [Array.length_toList]; omega), List.append_nil]
    have hYs : Y.size = s.size := by rw [← Array.length_toList, hYl, Lib.byteCells_length, ← Lib.size_eq]
    have hgY : ((w.alloc (.cells M 5)).setRow w.heap.size Y).heap[w.heap.size]? = some (.cells Y 5 (0, 0)) := setRow_heap _ _ M _ 5 (0, 0) (heap_alloc_new w _)
    have hne : s.data.toList ≠ [] := fun e => h0 (by rw [Lib.size_eq, e]; rfl)
    have hUS := Lib.run_unsafeString_row (P := Tryz.prog) ((w.alloc (.cells M 5)).setRow w.heap.size Y) 351 3 9 5 Tryz.underlying351 Tryz.cellsByte w.heap.size Y.size (by unfold World.shape?; rw [hgY]) s.data.toList hne (by rw [← Lib.size_eq]; omega) (by rw [← Lib.size_eq]; omega)
      (fun j x hx => Lib.cells_of_row hgY Y.size j _ (by rw [List.take_of_length_le (by rw [Array.length_toList]; exact Nat.le_refl _), hYl]; simp [Lib.byteCells, hx]))
    rw [← Lib.size_eq] at hUS
    clear hY
    go_enter Tryz.func176, Tryz.ntmps176
    go_wp2_with fail
    go_ret
    have hb1 : Below w.heap.size w (w.alloc (.cells M 5)) := (Below.refl _ w).alloc (Nat.le_refl _) _
    have hb2 : Below w.heap.size (w.alloc (.cells M 5)) ((w.alloc (.cells M 5)).setRow w.heap.size Y) := ⟨rfl, rfl, rfl, by simp, fun k hk => setRow_other _ _ _ _ (by omega)⟩
    exact ⟨rfl, Lib.below_freeze (hb1.trans hb2) (p := ⟨w.heap.size, 0, none⟩) (Nat.le_refl _) _⟩
theorem clone_any (s : ByteArray) (w : World) (hlim : s.size ≤ 281474976710656) :
    Calls Tryz.prog 102 #[.string s] w fun e w' => e = .returned (.string s) ∧ Below w.heap.size w w' := by
  go_enter Tryz.func102, Tryz.ntmps102
  go_wp2_with (go_at_call 176; refine (slite_clone s _ hlim).mono ?_; rintro e w1 ⟨rfl, hb1⟩)
  go_ret
  exact ⟨rfl, hb1⟩
end Go.Proofs.YtdmicblafmhflaaGreatDoor
