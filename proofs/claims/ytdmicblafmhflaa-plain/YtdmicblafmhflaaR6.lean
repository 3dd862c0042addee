/- axiomref: token. -/
import Derived.Test.YtdmicblafmhflaaR5
import Derived.Test.YtdmicblafmhflaaQQ
namespace Go.Proofs.Ytdmicblafmhflaa
set_option linter.unusedSimpArgs false
set_option linter.unusedVariables false
open Go.RowKit

def rtokVal (t : Ax.RTok) : Value := .agg #[.int .u8 t.kind, .string t.text, .int .i64 t.at_]

set_option maxRecDepth 100000 in
set_option maxHeartbeats 2000000 in
theorem token_any (s : ByteArray) (a0 : Nat) (w : World) (hs : s.size ≤ 600) (ha0 : a0 ≤ s.size) :
    Calls Try.prog 48 #[.string s, .int .i64 a0] w fun e w' => e = .returned (rtokVal (Ax.rtok s a0)) ∧ Below w.heap.size w w' := by
  unfold Ax.rtok
  generalize hA : Ax.rskip s s.size a0 = A
  generalize hV : Ax.rtokAt s A = V
  go_enter Try.func48, Try.ntmps48
  go_wp2_with fail
  go_loopg [1] s.size (fun f av wr => ∃ a : Nat, a ≤ s.size ∧ s.size ≤ a + f ∧ av = .int .i64 a ∧ Ax.rskip s f a = A ∧ w.alloc (.cells #[.int .u8 0, .string ⟨#[]⟩, .int .i64 0] 79) = wr)
  case atStart => exact ⟨a0, ha0, by omega, rfl, hA, rfl⟩
  case round =>
    obtain ⟨a, ha, hf, rfl, hr, hwr⟩ := hrel
    subst hwr
    have HR : Hid (Ax.rskip s gk a = A) := hr
    clear hr hA
    by_cases hlt : a < s.size
    · have hb := Ax.byte_get s a hlt
      have hbl := Ax.byte_lt s a
      by_cases hbk : Ax.byte s a = 32 ∨ Ax.byte s a = 10
      · obtain ⟨f, hfk⟩ : ∃ f, gk = f + 1 := ⟨gk - 1, by omega⟩
        subst hfk
        have HN : Hid (Ax.rskip s f (a + 1) = A) := (Ax.rskip_on hlt (by simp [Ax.isBl, hbk])).symm.trans HR.out
        clear HR
        rcases hbk with h32 | h10
        · have hc1 : ((Ax.byte s a : Int) == 32) = true := by simp [h32]
          clear h32
          go_wp2_with fail
          go_roundg f
          case measure => omega
          case rel => exact ⟨a + 1, by omega, by omega, by go_num, HN.out, rfl⟩
        · have hc1 : ((Ax.byte s a : Int) == 32) = false := by simp [h10]
          have hc2 : ((Ax.byte s a : Int) == 10) = true := by simp [h10]
          clear h10
          go_wp2_with fail
          go_roundg f
          case measure => omega
          case rel => exact ⟨a + 1, by omega, by omega, by go_num, HN.out, rfl⟩
      · obtain rfl : a = A := (Ax.rskip_stop (by simp [Ax.isBl]; omega)).symm.trans HR.out
        have hc1 : ((Ax.byte s a : Int) == 32) = false := by simp; omega
        have hc2 : ((Ax.byte s a : Int) == 10) = false := by simp; omega
        have hne : ((a : Int) == (s.size : Int)) = false := by simp; omega
        have hnn : ¬ a = s.size := by omega
        have hxg := Ax.rword_ge s s.size a 0
        have hxl := Ax.rword_le s s.size a 0 ha
        unfold Ax.rtokAt at hV
        rcases hx : Ax.rword s s.size a 0 with ⟨e0, n0⟩
        rw [hx] at hV hxg hxl
        have HX : Hid (Ax.rword s s.size a 0 = (e0, n0)) := hx
        have HVV : Hid (_ = V) := hV
        clear hV hx HR hbk
        simp only at hxg hxl
        generalize hc : Ax.byte s a = c at *
        clear hc
        by_cases h6 : 6 < n0
        · have hx6 : 6 < n0 := h6
          have HV : Hid (V = ⟨120, ⟨#[]⟩, a⟩) := by rw [← HVV.out]; simp [Hid, hnn, h6]
          clear HVV
          go_wp2_with (first | (go_at_call 61; refine (rword_any s a _ hs (by omega)).mono ?_; rintro e w' ⟨rfl, rfl⟩; rw [HX.out]))
          exact bodyPost_ret (v := .agg #[.int .u8 120, .string ⟨#[]⟩, .int .i64 a]) (by simp [results, Try.results48, go_sem]) rfl ⟨by rw [HV.out]; rfl, (Below.refl _ _).alloc (Nat.le_refl _) _⟩
        by_cases hn : 0 < n0
        · by_cases h65 : 65 ≤ c
          · have d65 : decide ((65 : Int) ≤ (c : Int)) = true := by simp; omega
            by_cases h90 : c ≤ 90
            · have d90 : decide ((c : Int) ≤ 90) = true := by simp; omega
              have HV : Hid (V = ⟨118, (s.extract a e0), a⟩) := by rw [← HVV.out]; simp [Hid, hnn, h6, hn, h65, h90]
              clear HVV
              go_wp2_with (first | (go_at_call 61; refine (rword_any s a _ hs (by omega)).mono ?_; rintro e w' ⟨rfl, rfl⟩; rw [HX.out]))
              exact bodyPost_ret (v := .agg #[.int .u8 118, .string (s.extract a e0), .int .i64 a]) (by simp [results, Try.results48, go_sem]) rfl ⟨by rw [HV.out]; rfl, (Below.refl _ _).alloc (Nat.le_refl _) _⟩
            · have d90 : decide ((c : Int) ≤ 90) = false := by simp; omega
              have HV : Hid (V = ⟨110, (s.extract a e0), a⟩) := by rw [← HVV.out]; simp [Hid, hnn, h6, hn, h90]
              clear HVV
              go_wp2_with (first | (go_at_call 61; refine (rword_any s a _ hs (by omega)).mono ?_; rintro e w' ⟨rfl, rfl⟩; rw [HX.out]))
              exact bodyPost_ret (v := .agg #[.int .u8 110, .string (s.extract a e0), .int .i64 a]) (by simp [results, Try.results48, go_sem]) rfl ⟨by rw [HV.out]; rfl, (Below.refl _ _).alloc (Nat.le_refl _) _⟩
          · have d65 : decide ((65 : Int) ≤ (c : Int)) = false := by simp; omega
            have HV : Hid (V = ⟨110, (s.extract a e0), a⟩) := by rw [← HVV.out]; simp [Hid, hnn, h6, hn, h65]
            clear HVV
            go_wp2_with (first | (go_at_call 61; refine (rword_any s a _ hs (by omega)).mono ?_; rintro e w' ⟨rfl, rfl⟩; rw [HX.out]))
            exact bodyPost_ret (v := .agg #[.int .u8 110, .string (s.extract a e0), .int .i64 a]) (by simp [results, Try.results48, go_sem]) rfl ⟨by rw [HV.out]; rfl, (Below.refl _ _).alloc (Nat.le_refl _) _⟩
        have hn0 : n0 = 0 := by omega
        by_cases h40 : c = 40
        · have b40 : ((c : Int) == 40) = true := by simp [h40]
          have HV : Hid (V = ⟨40, (s.extract a (a + 1)), a⟩) := by rw [← HVV.out]; simp [Hid, hnn, hn0, h40]
          clear HVV
          go_wp2_with (first | (go_at_call 61; refine (rword_any s a _ hs (by omega)).mono ?_; rintro e w' ⟨rfl, rfl⟩; rw [HX.out]))
          exact bodyPost_ret (v := .agg #[.int .u8 40, .string (s.extract a (a + 1)), .int .i64 a]) (by simp [results, Try.results48, go_sem]) rfl ⟨by rw [HV.out]; rfl, (Below.refl _ _).alloc (Nat.le_refl _) _⟩
        have b40 : ((c : Int) == 40) = false := by simp; omega
        by_cases h41 : c = 41
        · have b41 : ((c : Int) == 41) = true := by simp [h41]
          have HV : Hid (V = ⟨41, (s.extract a (a + 1)), a⟩) := by rw [← HVV.out]; simp [Hid, hnn, hn0, h41]
          clear HVV
          go_wp2_with (first | (go_at_call 61; refine (rword_any s a _ hs (by omega)).mono ?_; rintro e w' ⟨rfl, rfl⟩; rw [HX.out]))
          exact bodyPost_ret (v := .agg #[.int .u8 41, .string (s.extract a (a + 1)), .int .i64 a]) (by simp [results, Try.results48, go_sem]) rfl ⟨by rw [HV.out]; rfl, (Below.refl _ _).alloc (Nat.le_refl _) _⟩
        have b41 : ((c : Int) == 41) = false := by simp; omega
        by_cases h44 : c = 44
        · have b44 : ((c : Int) == 44) = true := by simp [h44]
          have HV : Hid (V = ⟨44, (s.extract a (a + 1)), a⟩) := by rw [← HVV.out]; simp [Hid, hnn, hn0, h44]
          clear HVV
          go_wp2_with (first | (go_at_call 61; refine (rword_any s a _ hs (by omega)).mono ?_; rintro e w' ⟨rfl, rfl⟩; rw [HX.out]))
          exact bodyPost_ret (v := .agg #[.int .u8 44, .string (s.extract a (a + 1)), .int .i64 a]) (by simp [results, Try.results48, go_sem]) rfl ⟨by rw [HV.out]; rfl, (Below.refl _ _).alloc (Nat.le_refl _) _⟩
        have b44 : ((c : Int) == 44) = false := by simp; omega
        by_cases h46 : c = 46
        · have b46 : ((c : Int) == 46) = true := by simp [h46]
          have HV : Hid (V = ⟨46, (s.extract a (a + 1)), a⟩) := by rw [← HVV.out]; simp [Hid, hnn, hn0, h46]
          clear HVV
          go_wp2_with (first | (go_at_call 61; refine (rword_any s a _ hs (by omega)).mono ?_; rintro e w' ⟨rfl, rfl⟩; rw [HX.out]))
          exact bodyPost_ret (v := .agg #[.int .u8 46, .string (s.extract a (a + 1)), .int .i64 a]) (by simp [results, Try.results48, go_sem]) rfl ⟨by rw [HV.out]; rfl, (Below.refl _ _).alloc (Nat.le_refl _) _⟩
        have b46 : ((c : Int) == 46) = false := by simp; omega
        by_cases h58 : c = 58
        · have b58 : ((c : Int) == 58) = true := by simp [h58]
          by_cases he : a + 1 < s.size
          · have hb1 := Ax.byte_get s (a + 1) he
            by_cases h45 : Ax.byte s (a + 1) = 45
            · have b45 : ((Ax.byte s (a + 1) : Int) == 45) = true := by simp [h45]
              have HV : Hid (V = ⟨58, ⟨#[58, 45]⟩, a⟩) := by rw [← HVV.out]; simp [Hid, hnn, hn0, h58, he, h45]
              clear HVV h45
              go_wp2_with (first | (go_at_call 61; refine (rword_any s a _ hs (by omega)).mono ?_; rintro e w' ⟨rfl, rfl⟩; rw [HX.out]))
              exact bodyPost_ret (v := .agg #[.int .u8 58, .string ⟨#[58, 45]⟩, .int .i64 a]) (by simp [results, Try.results48, go_sem]) rfl ⟨by rw [HV.out]; rfl, (Below.refl _ _).alloc (Nat.le_refl _) _⟩
            · have b45 : ((Ax.byte s (a + 1) : Int) == 45) = false := by simp; omega
              have HV : Hid (V = ⟨120, ⟨#[]⟩, a⟩) := by rw [← HVV.out]; simp [Hid, hnn, hn0, h58, h45]
              clear HVV h45
              go_wp2_with (first | (go_at_call 61; refine (rword_any s a _ hs (by omega)).mono ?_; rintro e w' ⟨rfl, rfl⟩; rw [HX.out]))
              exact bodyPost_ret (v := .agg #[.int .u8 120, .string ⟨#[]⟩, .int .i64 a]) (by simp [results, Try.results48, go_sem]) rfl ⟨by rw [HV.out]; rfl, (Below.refl _ _).alloc (Nat.le_refl _) _⟩
          · have HV : Hid (V = ⟨120, ⟨#[]⟩, a⟩) := by rw [← HVV.out]; simp [Hid, hnn, hn0, h58, he]
            clear HVV
            go_wp2_with (first | (go_at_call 61; refine (rword_any s a _ hs (by omega)).mono ?_; rintro e w' ⟨rfl, rfl⟩; rw [HX.out]))
            exact bodyPost_ret (v := .agg #[.int .u8 120, .string ⟨#[]⟩, .int .i64 a]) (by simp [results, Try.results48, go_sem]) rfl ⟨by rw [HV.out]; rfl, (Below.refl _ _).alloc (Nat.le_refl _) _⟩
        have b58 : ((c : Int) == 58) = false := by simp; omega
        have HV : Hid (V = ⟨120, ⟨#[]⟩, a⟩) := by rw [← HVV.out]; simp [Hid, hnn, hn0, h40, h41, h44, h46, h58]
        clear HVV
        go_wp2_with (first | (go_at_call 61; refine (rword_any s a _ hs (by omega)).mono ?_; rintro e w' ⟨rfl, rfl⟩; rw [HX.out]))
        exact bodyPost_ret (v := .agg #[.int .u8 120, .string ⟨#[]⟩, .int .i64 a]) (by simp [results, Try.results48, go_sem]) rfl ⟨by rw [HV.out]; rfl, (Below.refl _ _).alloc (Nat.le_refl _) _⟩
    · have hae : a = s.size := by omega
      have hA : a = A := (Ax.rskip_stop (by omega)).symm.trans HR.out
      have HV : Hid (V = ⟨101, ⟨#[]⟩, a⟩) := by rw [← hV, ← hA]; simp [Hid, Ax.rtokAt, hae]
      have hne : ((a : Int) == (s.size : Int)) = true := by simp [hae]
      clear hV hA HR hae
      go_wp2_with fail
      exact bodyPost_ret (v := .agg #[.int .u8 101, .string ⟨#[]⟩, .int .i64 a]) (by simp [results, Try.results48, go_sem]) rfl ⟨by rw [HV.out]; rfl, (Below.refl _ _).alloc (Nat.le_refl _) _⟩
end Go.Proofs.Ytdmicblafmhflaa
