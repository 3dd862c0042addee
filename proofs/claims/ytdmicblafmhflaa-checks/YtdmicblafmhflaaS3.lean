/- axiomref: many. -/
import Derived.Test.YtdmicblafmhflaaS2
namespace Go.Proofs.Ytdmicblafmhflaa
set_option linter.unusedSimpArgs false
set_option linter.unusedVariables false
open Go.RowKit

theorem Ax.addPreds_append (l1 l2 : List Ax.Atom) (ps : List ByteArray) : Ax.addPreds ps (l1 ++ l2) = Ax.addPreds (Ax.addPreds ps l1) l2 := by
  induction l1 generalizing ps with
  | nil => rfl
  | cons a l ih => simp only [List.cons_append, Ax.addPreds]; exact ih _

theorem QRsIn.take {w : World} {rd : Option Addr} {rc : Nat} {l : List QR} (h : QRsIn w rd rc l) {n : Nat} (hn : n ≤ l.length) (h0 : 0 < n) : QRsIn w rd rc (l.take n) := by
  refine ⟨?_, fun r hr => h.2 r (List.mem_of_mem_take hr)⟩
  have hlen : (l.take n).length = n := by simp; omega
  have hcells : ∀ (m : List QR), (qrCells m).length = m.length * 5 := by
    intro m; induction m with | nil => rfl | cons a l ih => simp [qrCells] at ih ⊢; omega
  have htake : qrCells (l.take n) = (qrCells l).take (n * 5) := by
    conv => rhs; rw [← List.take_append_drop n l]
    rw [show qrCells (l.take n ++ l.drop n) = qrCells (l.take n) ++ qrCells (l.drop n) by unfold qrCells; rw [List.flatMap_append], List.take_left' (by rw [hcells, hlen])]
  rw [hlen]
  refine ⟨by rw [hcells, hlen], ?_⟩
  rcases h.1.2 with ⟨e1, e2⟩ | ⟨g, cap, cur, hv, hg, hh, hc1, hc2, hc3, hc4⟩
  · omega
  · simp only [Value.slice.injEq] at hv
    obtain ⟨rfl, _, rfl⟩ := hv
    refine .inr ⟨g, rc, cur, rfl, hg, hh, by omega, hc2, hc3, ?_⟩
    rw [htake, ← hc4, List.take_take, Nat.min_eq_left (by omega)]

theorem rpreds_take (w : World) (rd : Option Addr) (rc : Nat) (l : List QR) (h : QRsIn w rd rc l) (hll : l.length ≤ 1000) (n : Nat) (hn : n ≤ l.length) (h0 : 0 < n) :
    Calls Try.prog 32 #[.slice rd n rc] w fun e w' => ∃ od oc o wn, e = .returned (.tuple #[.slice od (List.length o) oc, .int .i64 wn]) ∧ Hid (List.length o = (Ax.addPreds [] (((l.map QR.rule).take n).flatMap Ax.Rule.atoms)).length) ∧ PredsAt w w' od oc o := by
  have := rpreds_any w rd rc (l.take n) (h.take hn h0) (by simp; omega)
  rw [List.length_take, Nat.min_eq_left hn] at this
  refine this.mono ?_
  rintro e w' ⟨od, oc, o, rfl, ho, hp⟩
  refine ⟨od, oc, o, _, rfl, ?_, hp⟩
  show o.length = _
  rw [ho.out, ← Ax.rpreds_names, List.length_map, List.map_take]

theorem take_succ_atoms (l : List Ax.Rule) (i : Nat) (r : Ax.Rule) (h : l[i]? = some r) : Ax.addPreds [] ((l.take (i + 1)).flatMap Ax.Rule.atoms) = Ax.addPreds (Ax.addPreds [] ((l.take i).flatMap Ax.Rule.atoms)) r.atoms := by
  rw [List.take_add_one, h, List.flatMap_append, Ax.addPreds_append]
  simp

set_option maxRecDepth 100000 in
set_option maxHeartbeats 8000000 in
theorem rmany_any (w : World) (rd : Option Addr) (rc : Nat) (l : List QR) (h : QRsIn w rd rc l) (hll : l.length ≤ 1000) :
    Calls Try.prog 31 #[.slice rd l.length rc] w fun e w' => Below w.heap.size w w' ∧ ((∃ at_ : Nat, Ax.tooMany 0 [] (l.map QR.rule) = some at_ ∧ e = .returned (.int .i64 at_)) ∨ (Ax.tooMany 0 [] (l.map QR.rule) = none ∧ e = .returned (.int .i64 (-1)))) := by
  generalize hR : Ax.tooMany 0 [] (l.map QR.rule) = R
  go_enter Try.func31, Try.ntmps31
  go_wp2_with fail
  go_loopw [3] (fun iv wr => ∃ (i : Nat), i ≤ l.length ∧ iv = .int .i64 i ∧ Below w.heap.size w wr ∧ Ax.tooMany i (Ax.addPreds [] (((l.map QR.rule).take i).flatMap Ax.Rule.atoms)) ((l.map QR.rule).drop i) = R) (fun iv _ => l.length - (intOf iv).toNat)
  case atStart => exact ⟨0, Nat.zero_le _, rfl, Below.refl _ _, hR⟩
  case round =>
    obtain ⟨i, hi, rfl, hbel, hr⟩ := hrel
    have HR : Hid (Ax.tooMany i (Ax.addPreds [] (((l.map QR.rule).take i).flatMap Ax.Rule.atoms)) ((l.map QR.rule).drop i) = R) := hr
    clear hr hR
    obtain ⟨w0, rfl⟩ : ∃ x, x = wr := ⟨_, rfl⟩
    have hsz := hbel.size
    by_cases hlt : i < l.length
    · obtain ⟨g, r, rfl, hg, hcap, d0, d1, d2, d3, d4, hqr, hbl, hrule⟩ := (h.below hbel).at hlt
      have hget : (l.map QR.rule)[i]? = some r.rule := by simp [hlt, hrule.out]
      have hdrop : (l.map QR.rule).drop i = r.rule :: (l.map QR.rule).drop (i + 1) := by
        rw [List.drop_eq_getElem_cons (by simpa using hlt)]; simp [hrule.out]
      have HTK : Hid (Ax.addPreds [] (((l.map QR.rule).take (i + 1)).flatMap Ax.Rule.atoms) = Ax.addPreds (Ax.addPreds [] (((l.map QR.rule).take i).flatMap Ax.Rule.atoms)) r.rule.atoms) := take_succ_atoms _ _ _ hget
      rw [hdrop] at HR
      have HR2 : Hid ((if Ax.manyAt i (Ax.addPreds [] (((l.map QR.rule).take (i + 1)).flatMap Ax.Rule.atoms)) r.rule then some r.rule.head.at_ else Ax.tooMany (i + 1) (Ax.addPreds [] (((l.map QR.rule).take (i + 1)).flatMap Ax.Rule.atoms)) ((l.map QR.rule).drop (i + 1))) = R) := by
        rw [HTK.out]; exact HR.out
      clear hdrop hrule hget HR HTK
      go_wp2_with (first | (go_at_call 47; refine (qall_any _ r hqr hbl).mono ?_; rintro e w1 ⟨ad', c', rfl, hats, hoks, hb1⟩; have hbel1 := hbel.trans (hb1.mono hsz)) | (go_at_call 32; refine (rpreds_take _ _ _ l (h.below hbel1) hll (i + 1) (by omega) (by omega)).mono ?_; rintro e w2 ⟨od, oc, o, wn, rfl, ho, hpa⟩))
      have hb2 := hpa.bel
      have hsz1 := hb1.size
      have hsz2 := hb2.size
      have hats2 := ownsRow_below hats hb2
      have hoks2 := qas_below hoks hb2
      have hb02 := hb1.trans (hb2.mono hsz1)
      clear hats hoks hpa
      obtain ⟨WD, hWD⟩ : ∃ WD, Ax.anyWide r.rule.atoms = WD := ⟨_, rfl⟩
      have hlenL : (r.head :: r.body).length = r.body.length + 1 := rfl
      have hLm : Ax.anyWide ((r.head :: r.body).map QA.a) = WD := hWD
      have HM : Hid (Ax.manyAt i (Ax.addPreds [] (((l.map QR.rule).take (i + 1)).flatMap Ax.Rule.atoms)) r.rule = (decide (8 ≤ i) || decide (2 < r.body.length) || decide (6 < o.length) || WD)) := by
        show Ax.manyAt _ _ _ = _
        rw [Ax.manyAt, hWD, ← ho.out]
        simp [QR.rule]
      clear hWD ho
      rw [← hlenL] at hats2 ⊢
      generalize r.head :: r.body = L at *
      have HW : Hid ((false || ((L.map QA.a).drop 0).any Ax.wide) = WD) := by
        rw [Bool.false_or]; exact hLm
      clear hLm
      go_loopw [7, 8] (fun bv kv w3 => ∃ (b : Bool) (k : Nat), k ≤ L.length ∧ bv = .bool b ∧ kv = .int .i64 k ∧ Below w2.heap.size w2 w3 ∧ (b || ((L.map QA.a).drop k).any Ax.wide) = WD) (fun _ kv _ => L.length - (intOf kv).toNat)
      case atStart => exact ⟨false, 0, Nat.zero_le _, rfl, rfl, Below.refl _ _, HW.out⟩
      case round =>
        obtain ⟨b, k, hk, rfl, rfl, hb3, hw⟩ := hrel
        have HWk : Hid ((b || ((L.map QA.a).drop k).any Ax.wide) = WD) := hw
        clear hw HW
        have hsz3 := hb3.size
        by_cases hlk : k < L.length
        · obtain ⟨ag, had, hag, hac, hacs⟩ := row_cells (ownsRow_below hats2 hb3) (by omega)
          subst had
          obtain ⟨x0, x1, x2, x3⟩ := qaCells_get L k hlk
          have x1 := hacs _ _ x1
          have hyl := ownsRow_le (qas_below hoks2 hb3 _ (List.getElem_mem hlk)).1
          have hdrop : (L.map QA.a).drop k = (L[k]).a :: (L.map QA.a).drop (k + 1) := by
            rw [List.drop_eq_getElem_cons (by simpa using hlk)]; simp
          rw [hdrop, List.any_cons, ← Bool.or_assoc] at HWk
          clear hdrop hacs x0 x2 x3
          generalize L[k] = x at *
          rcases x with ⟨y, yt, ytc, yv, yvc⟩
          simp only [Ax.wide] at x1 HWk hyl
          cases b
          case true =>
            go_wp2_with fail
            go_roundw
            case rel => exact ⟨true, k + 1, by omega, rfl, by go_num, hb3, by have := HWk.out; simpa using this⟩
            case measure => simp [intOf]; omega
          case false =>
            go_wp2_with fail
            go_roundw
            case rel => exact ⟨decide (3 < y.terms.length), k + 1, by omega, by go_num, by go_num, hb3, by have := HWk.out; simpa using this⟩
            case measure => simp [intOf]; omega
        · have hbW : b = WD := by
            have := HWk.out
            rw [List.drop_eq_nil_of_le (by simp; omega)] at this
            simpa using this
          subst hbW
          clear HWk
          have hb03 := hb02.trans (hb3.mono hb02.size)
          have d33 := (hb03.cell (p := ⟨g, i * 5 + 3, none⟩) hg).trans d3
          have hyes : (decide (8 ≤ i) || decide (2 < r.body.length) || decide (6 < o.length) || b) = true → Hid (R = some r.head.a.at_) := by
            intro hm
            have := HR2.out
            rw [HM.out, hm, if_pos rfl] at this
            exact this.symm
          have hno : (decide (8 ≤ i) || decide (2 < r.body.length) || decide (6 < o.length) || b) = false → Hid (Ax.tooMany (i + 1) (Ax.addPreds [] (((l.map QR.rule).take (i + 1)).flatMap Ax.Rule.atoms)) ((l.map QR.rule).drop (i + 1)) = R) := by
            intro hm
            have := HR2.out
            rw [HM.out, hm] at this
            simpa [Hid] using this
          have HYES : Hid _ := hyes
          have HNO : Hid _ := hno
          clear hyes hno HR2 HM
          cases b
          case true =>
            have HRR := HYES.out (by simp)
            go_wp2_with fail
            go_ret
            exact ⟨hbel.trans (hb03.mono hsz), .inl ⟨r.head.a.at_, HRR.out, rfl⟩⟩
          case false =>
            by_cases h8 : 8 ≤ i
            · have h8b : decide ((8 : Int) < (i : Int) + 1) = true := by simp; omega
              have HRR := HYES.out (by simp [h8])
              go_wp2_with fail
              go_ret
              exact ⟨hbel.trans (hb03.mono hsz), .inl ⟨r.head.a.at_, HRR.out, rfl⟩⟩
            · have h8b : decide ((8 : Int) < (i : Int) + 1) = false := by simp; omega
              by_cases h2 : 2 < r.body.length
              · have h2b : decide ((2 : Int) < (L.length : Int) - 1) = true := by simp; omega
                have HRR := HYES.out (by simp [h2])
                go_wp2_with fail
                go_ret
                exact ⟨hbel.trans (hb03.mono hsz), .inl ⟨r.head.a.at_, HRR.out, rfl⟩⟩
              · have h2b : decide ((2 : Int) < (L.length : Int) - 1) = false := by simp; omega
                by_cases h6 : 6 < o.length
                · have h6b : decide ((6 : Int) < (o.length : Int)) = true := by simp; omega
                  have HRR := HYES.out (by simp [h6])
                  go_wp2_with fail
                  go_ret
                  exact ⟨hbel.trans (hb03.mono hsz), .inl ⟨r.head.a.at_, HRR.out, rfl⟩⟩
                · have h6b : decide ((6 : Int) < (o.length : Int)) = false := by simp; omega
                  have HN := HNO.out (by simp [h8, h2, h6])
                  go_wp2_with fail
                  go_roundw
                  case rel => exact ⟨i + 1, by omega, by go_num, hbel.trans (hb03.mono hsz), HN.out⟩
                  case measure => simp [intOf]; omega
    · have HE : Hid (R = none) := by
        have := HR.out
        rw [List.drop_eq_nil_of_le (by simp; omega)] at this
        exact this.symm
      go_wp2_with fail
      go_ret
      exact ⟨hbel, .inr ⟨HE.out, rfl⟩⟩
end Go.Proofs.Ytdmicblafmhflaa
