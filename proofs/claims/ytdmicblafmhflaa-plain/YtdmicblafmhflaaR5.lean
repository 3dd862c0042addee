/- axiomref: word. -/
import Derived.Test.YtdmicblafmhflaaR1
namespace Go.Proofs.Ytdmicblafmhflaa
set_option linter.unusedSimpArgs false
set_option linter.unusedVariables false
open Go.RowKit

theorem ret_nn2 {R : Nat × Nat} {a i n : Nat} (h : R = (i, n)) (hi : a ≤ i) : Ending.returned (.tuple #[.int .i64 ((i : Int) - a), .int .i64 n]) = .returned (.tuple #[.int .i64 ((R.1 : Int) - a), .int .i64 R.2]) := by rw [h]
theorem rok_of {s : ByteArray} {i n c sz : Nat} (h : Ax.pt s i = (c, sz)) : Ax.rok s i n = (decide (0 < sz) && (Ax.rsmall c || (decide (n = 0) && decide (65 ≤ c) && decide (c ≤ 90)) || (decide (0 < n) && decide (48 ≤ c) && decide (c ≤ 57)))) := by simp [Ax.rok, h]

set_option maxRecDepth 100000 in
set_option maxHeartbeats 2000000 in
theorem rword_any (s : ByteArray) (a : Nat) (w : World) (hs : s.size ≤ 600) (ha : a ≤ s.size) :
    Calls Try.prog 61 #[.string s, .int .i64 a] w fun e w' => e = .returned (.tuple #[.int .i64 (((Ax.rword s s.size a 0).1 : Int) - a), .int .i64 (Ax.rword s s.size a 0).2]) ∧ w' = w := by
  generalize hR : Ax.rword s s.size a 0 = R
  go_enter Try.func61, Try.ntmps61
  go_wp2_with fail
  go_loopg [6, 7] s.size (fun f iv nv wr => ∃ i n : Nat, a ≤ i ∧ i ≤ s.size ∧ n ≤ i ∧ s.size ≤ i + f ∧ iv = .int .i64 i ∧ nv = .int .i64 n ∧ Ax.rword s f i n = R ∧ w = wr)
  case atStart => exact ⟨a, 0, Nat.le_refl _, ha, Nat.zero_le _, by omega, rfl, rfl, hR, rfl⟩
  case round =>
    obtain ⟨i, n, hai, his, hni, hf, rfl, rfl, hr, hwr⟩ := hrel
    subst hwr
    have HR : Hid (Ax.rword s gk i n = R) := hr
    clear hr hR
    by_cases hlt : i < s.size
    · have hle := Ax.pt_le s i hlt
      obtain ⟨f, hfk⟩ : ∃ f, gk = f + 1 := ⟨gk - 1, by omega⟩
      subst hfk
      rcases hp : Ax.pt s i with ⟨c, sz⟩
      rw [hp] at hle
      simp only at hle
      have HP : Hid (Ax.pt s i = (c, sz)) := hp
      have hon : Ax.rok s i n = true → Ax.rword s f (i + sz) (n + 1) = R := by
        intro hk
        have := Ax.rword_on (f := f) hlt hk
        rw [hp] at this
        exact this.symm.trans HR.out
      have hstop : Ax.rok s i n = false → R = (i, n) := fun hk => HR.out.symm.trans (Ax.rword_stop hk)
      rw [rok_of hp] at hon hstop
      clear hp HR
      by_cases hz : 0 < sz
      · have hz' : 0 < sz := hz
        cases hsm : Ax.rsmall c
        case true =>
          have HN : Hid (Ax.rword s f (i + sz) (n + 1) = R) := hon (by simp [*])
          clear hon hstop
          go_wp2_with (first | (go_at_call 68; refine (point_any s i _ hs hlt).mono ?_; rintro e w' ⟨rfl, rfl⟩; rw [HP.out]) | (go_at_call 69; refine (rsmall_any _ _).mono ?_; rintro e w' ⟨rfl, rfl⟩))
          go_roundg f
          case measure => omega
          case rel => exact ⟨i + sz, n + 1, by omega, by omega, by omega, by omega, by go_num, by go_num, HN.out, rfl⟩
        case false =>
          by_cases hn0 : n = 0
          · have hnb : ((n : Int) == 0) = true := by simp [hn0]
            have hnz : ¬ 0 < n := by omega
            by_cases h65 : 65 ≤ c
            · have d65 : decide ((65 : Int) ≤ (c : Int)) = true := by simp; omega
              by_cases h90 : c ≤ 90
              · have d90 : decide ((c : Int) ≤ 90) = true := by simp; omega
                have HN : Hid (Ax.rword s f (i + sz) (n + 1) = R) := hon (by simp [hz, hsm, hn0, h65, h90])
                clear hon hstop hn0
                go_wp2_with (first | (go_at_call 68; refine (point_any s i _ hs hlt).mono ?_; rintro e w' ⟨rfl, rfl⟩; rw [HP.out]) | (go_at_call 69; refine (rsmall_any _ _).mono ?_; rintro e w' ⟨rfl, rfl⟩))
                go_roundg f
                case measure => omega
                case rel => exact ⟨i + sz, n + 1, by omega, by omega, by omega, by omega, by go_num, by go_num, HN.out, rfl⟩
              · have d90 : decide ((c : Int) ≤ 90) = false := by simp; omega
                have HE : Hid (R = (i, n)) := hstop (by simp [hsm, hn0, h90])
                clear hon hstop hn0
                go_wp2_with (first | (go_at_call 68; refine (point_any s i _ hs hlt).mono ?_; rintro e w' ⟨rfl, rfl⟩; rw [HP.out]) | (go_at_call 69; refine (rsmall_any _ _).mono ?_; rintro e w' ⟨rfl, rfl⟩))
                go_ret2
                exact ⟨ret_nn2 HE.out (by omega), rfl⟩
            · have d65 : decide ((65 : Int) ≤ (c : Int)) = false := by simp; omega
              have HE : Hid (R = (i, n)) := hstop (by simp [hsm, hn0, h65])
              clear hon hstop hn0
              go_wp2_with (first | (go_at_call 68; refine (point_any s i _ hs hlt).mono ?_; rintro e w' ⟨rfl, rfl⟩; rw [HP.out]) | (go_at_call 69; refine (rsmall_any _ _).mono ?_; rintro e w' ⟨rfl, rfl⟩))
              go_ret2
              exact ⟨ret_nn2 HE.out (by omega), rfl⟩
          · have hnb : ((n : Int) == 0) = false := by simp [hn0]
            have hnp : 0 < n := by omega
            by_cases h48 : 48 ≤ c
            · have d48 : decide ((48 : Int) ≤ (c : Int)) = true := by simp; omega
              by_cases h57 : c ≤ 57
              · have d57 : decide ((c : Int) ≤ 57) = true := by simp; omega
                have HN : Hid (Ax.rword s f (i + sz) (n + 1) = R) := hon (by simp [hz, hsm, hn0, hnp, h48, h57])
                clear hon hstop hn0
                go_wp2_with (first | (go_at_call 68; refine (point_any s i _ hs hlt).mono ?_; rintro e w' ⟨rfl, rfl⟩; rw [HP.out]) | (go_at_call 69; refine (rsmall_any _ _).mono ?_; rintro e w' ⟨rfl, rfl⟩))
                go_roundg f
                case measure => omega
                case rel => exact ⟨i + sz, n + 1, by omega, by omega, by omega, by omega, by go_num, by go_num, HN.out, rfl⟩
              · have d57 : decide ((c : Int) ≤ 57) = false := by simp; omega
                have HE : Hid (R = (i, n)) := hstop (by simp [hsm, hn0, h57])
                clear hon hstop hn0
                go_wp2_with (first | (go_at_call 68; refine (point_any s i _ hs hlt).mono ?_; rintro e w' ⟨rfl, rfl⟩; rw [HP.out]) | (go_at_call 69; refine (rsmall_any _ _).mono ?_; rintro e w' ⟨rfl, rfl⟩))
                go_ret2
                exact ⟨ret_nn2 HE.out (by omega), rfl⟩
            · have d48 : decide ((48 : Int) ≤ (c : Int)) = false := by simp; omega
              have HE : Hid (R = (i, n)) := hstop (by simp [hsm, hn0, h48])
              clear hon hstop hn0
              go_wp2_with (first | (go_at_call 68; refine (point_any s i _ hs hlt).mono ?_; rintro e w' ⟨rfl, rfl⟩; rw [HP.out]) | (go_at_call 69; refine (rsmall_any _ _).mono ?_; rintro e w' ⟨rfl, rfl⟩))
              go_ret2
              exact ⟨ret_nn2 HE.out (by omega), rfl⟩
      · have HE : Hid (R = (i, n)) := hstop (by simp [hz])
        clear hon hstop
        go_wp2_with (first | (go_at_call 68; refine (point_any s i _ hs hlt).mono ?_; rintro e w' ⟨rfl, rfl⟩; rw [HP.out]) | (go_at_call 69; refine (rsmall_any _ _).mono ?_; rintro e w' ⟨rfl, rfl⟩))
        go_ret2
        exact ⟨ret_nn2 HE.out (by omega), rfl⟩
    · have HE : Hid (R = (i, n)) := HR.out.symm.trans (Ax.rword_end hlt)
      go_wp2_with fail
      go_ret2
      exact ⟨ret_nn2 HE.out (by omega), rfl⟩
end Go.Proofs.Ytdmicblafmhflaa
