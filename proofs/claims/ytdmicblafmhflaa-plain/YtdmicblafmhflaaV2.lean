/- axiomkeep: written. -/
import Derived.Test.YtdmicblafmhflaaV1
namespace Go.Proofs.Ytdmicblafmhflaa
set_option linter.unusedSimpArgs false
set_option linter.unusedVariables false
open Go.RowKit

/-- a term's text -/
def gtx (x : Nat) : ByteArray := (Ax.gterm x).text
def wstep (i : Nat) (p : ByteArray) (x : Nat) : ByteArray := (if 0 < i then p ++ ⟨#[44]⟩ else p) ++ gtx x
def wloop : List Nat → Nat → ByteArray → ByteArray
  | [], _, p => p
  | x :: l, i, p => wloop l (i + 1) (wstep i p x)
theorem gtx_var {x : Nat} (h : x < 3) : (⟨#[88, 89, 90]⟩ : ByteArray).extract x (x + 1) = gtx x := by
  have : x = 0 ∨ x = 1 ∨ x = 2 := by omega
  rcases this with rfl | rfl | rfl <;> rfl
theorem gtx_name {x : Nat} (h : ¬ x < 3) : gtx x = Ax.gname (x - 3) := by simp [gtx, Ax.gterm, h]
theorem gtx_size (x : Nat) : (gtx x).size ≤ 2 := by
  unfold gtx Ax.gterm
  split
  · unfold Ax.gvar; simp only; split <;> decide
  · unfold Ax.gname; simp only; split <;> decide
theorem gpred_size (x : Nat) : (Ax.gpred x).size ≤ 3 := by unfold Ax.gpred; split <;> decide
theorem gpick_small {x n : Nat} (h : x < n) : Ax.gpick (x : Int) n = x := by
  unfold Ax.gpick
  rw [if_neg (by omega), Int.emod_eq_of_lt (by omega) (by omega)]
  omega
theorem name_val (x : Nat) (h3 : ¬ x < 3) (h7 : x < 7) (N : Int) (hN : N = (x : Int) - 3) : ∀ w, Calls Try.prog 18 #[.int .i64 N] w fun e w' => e = .returned (.string (gtx x)) ∧ Below w.heap.size w w' := by
  intro w
  have e : N = ((x - 3 : Nat) : Int) := by omega
  rw [e, gtx_name h3]
  have := gen_name ((x - 3 : Nat) : Int) w ⟨by omega, by omega⟩
  rw [gpick_small (by omega)] at this
  exact this

set_option maxRecDepth 100000 in
set_option maxHeartbeats 4000000 in
theorem written_any (w : World) (p : Int) (hp : Fit64 p) (b : Nat) (ld : Option Addr) (lc : Nat) (ts : List Nat) (h : w.ownsRow b 3 1 (.slice ld ts.length lc) ts.length (natCells ts)) (hl : ts.length ≤ 1000) (h7 : Hid (∀ x, x ∈ ts → x < 7)) (R : ByteArray) (HR : Hid (wloop ts 0 (Ax.gpred (Ax.gpick p 3) ++ ⟨#[40]⟩) = R)) :
    Calls Try.prog 11 #[.int .i64 p, .slice ld ts.length lc] w fun e w' => e = .returned (.string (R ++ ⟨#[41]⟩)) ∧ Below w.heap.size w w' := by
  have hpr := fun w => gen_pred p w hp
  have hps := gpred_size (Ax.gpick p 3)
  generalize Ax.gpred (Ax.gpick p 3) = P at *
  have HPR : Hid (∀ w, Calls Try.prog 17 #[.int .i64 p] w fun e w' => e = .returned (.string P) ∧ Below w.heap.size w w') := hpr
  clear hpr
  have hP1 : (P ++ ⟨#[40]⟩ : ByteArray).size ≤ 10 := by rw [ByteArray.size_append]; have : (⟨#[40]⟩ : ByteArray).size = 1 := rfl; omega
  go_enter Try.func11, Try.ntmps11
  go_wp2_with (go_at_call 17; refine (HPR.out _).mono ?_; rintro e w1 ⟨rfl, hb1⟩)
  go_loopw [5, 6] (fun sv iv wr => ∃ (i : Nat) (q : ByteArray), i ≤ ts.length ∧ sv = .string q ∧ iv = .int .i64 i ∧ Below w.heap.size w wr ∧ q.size ≤ 10 + 10 * i ∧ wloop (ts.drop i) i q = R) (fun _ iv _ => ts.length - (intOf iv).toNat)
  case atStart => exact ⟨0, _, Nat.zero_le _, rfl, rfl, hb1, by omega, HR.out⟩
  case round =>
    obtain ⟨i, q, hi, rfl, rfl, hbel, hqs, hr⟩ := hrel
    have HRi : Hid (wloop (ts.drop i) i q = R) := hr
    clear hr HR
    have hsz := hbel.size
    by_cases hlt : i < ts.length
    · obtain ⟨g, rfl, hg, hc, hcs⟩ := row_cells (ownsRow_below h hbel) (by omega)
      have c0 := hcs _ _ (natCells_get ts i hlt)
      clear hcs
      have hx7 := h7.out _ (List.getElem_mem hlt)
      have hdrop : ts.drop i = ts[i] :: ts.drop (i + 1) := List.drop_eq_getElem_cons hlt
      rw [hdrop] at HRi
      clear hdrop
      generalize ts[i] = x at *
      have HN : Hid (wloop (ts.drop (i + 1)) (i + 1) (wstep i q x) = R) := HRi
      clear HRi
      have hxs := gtx_size x
      have hcm : (⟨#[44]⟩ : ByteArray).size = 1 := rfl
      have HSZ : Hid ((wstep i q x).size ≤ 10 + 10 * (i + 1)) := by
        show (wstep i q x).size ≤ _
        unfold wstep
        split
        · rw [ByteArray.size_append, ByteArray.size_append]; omega
        · rw [ByteArray.size_append]; omega
      have hq1 : (q ++ ⟨#[44]⟩ : ByteArray).size ≤ 11 + 10 * i := by rw [ByteArray.size_append]; omega
      by_cases hx : x < 3
      · have hxb : decide ((x : Int) < 3) = true := by simp; omega
        have hex := gtx_var hx
        by_cases h0 : 0 < i
        · have h0b : decide ((0 : Int) < (i : Int)) = true := by simp; omega
          have HW : Hid (wstep i q x = q ++ ⟨#[44]⟩ ++ gtx x) := by simp [Hid, wstep, h0]
          go_wp2_with fail
          go_region
          all_goals (go_wp2_with fail)
          all_goals (go_roundw; (case rel => exact ⟨i + 1, wstep i q x, by omega, by rw [HW.out, ← hex], by go_num, hbel.drew, HSZ.out, HN.out⟩); (case measure => simp [intOf]; omega))
        · have h0b : decide ((0 : Int) < (i : Int)) = false := by simp; omega
          have HW : Hid (wstep i q x = q ++ gtx x) := by simp [Hid, wstep, h0]
          go_wp2_with fail
          go_region
          all_goals (go_wp2_with fail)
          all_goals (go_roundw; (case rel => exact ⟨i + 1, wstep i q x, by omega, by rw [HW.out, ← hex], by go_num, hbel.drew, HSZ.out, HN.out⟩); (case measure => simp [intOf]; omega))
      · have hxb : decide ((x : Int) < 3) = false := by simp; omega
        have hnm := name_val x hx hx7 ((x : Int) - 3) rfl
        have HNM : Hid (∀ w, Calls Try.prog 18 #[.int .i64 ((x : Int) - 3)] w fun e w' => e = .returned (.string (gtx x)) ∧ Below w.heap.size w w') := hnm
        clear hnm
        by_cases h0 : 0 < i
        · have h0b : decide ((0 : Int) < (i : Int)) = true := by simp; omega
          have HW : Hid (wstep i q x = q ++ ⟨#[44]⟩ ++ gtx x) := by simp [Hid, wstep, h0]
          go_wp2_with (go_at_call 18; refine (HNM.out _).mono ?_; rintro e w2 ⟨rfl, hb2⟩)
          go_roundw
          case rel => exact ⟨i + 1, wstep i q x, by omega, by rw [HW.out], by go_num, hbel.trans (hb2.mono hsz), HSZ.out, HN.out⟩
          case measure => simp [intOf]; omega
        · have h0b : decide ((0 : Int) < (i : Int)) = false := by simp; omega
          have HW : Hid (wstep i q x = q ++ gtx x) := by simp [Hid, wstep, h0]
          go_wp2_with (go_at_call 18; refine (HNM.out _).mono ?_; rintro e w2 ⟨rfl, hb2⟩)
          go_roundw
          case rel => exact ⟨i + 1, wstep i q x, by omega, by rw [HW.out], by go_num, hbel.trans (hb2.mono hsz), HSZ.out, HN.out⟩
          case measure => simp [intOf]; omega
    · have hqR : q = R := by
        have := HRi.out
        rw [List.drop_eq_nil_of_le (by omega)] at this
        exact this
      subst hqR
      clear HRi
      go_wp2_with fail
      go_ret
      exact ⟨rfl, hbel⟩
end Go.Proofs.Ytdmicblafmhflaa
