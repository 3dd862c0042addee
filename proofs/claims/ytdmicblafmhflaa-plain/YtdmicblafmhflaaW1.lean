/- axiomkeep: Plain, walked. -/
import Derived.Test.YtdmicblafmhflaaV9
import Derived.Test.YtdmicblafmhflaaW0
import Derived.Test.YtdmicblafmhflaaNA
namespace Go.Proofs.Ytdmicblafmhflaa
set_option linter.unusedSimpArgs false
set_option linter.unusedVariables false
open Go.RowKit

/-- a list of numbers, somewhere -/
structure IntsAt (w : World) (ad : Option Addr) (n c : Nat) (l : List Int) : Prop where
  len : l.length = n
  cap : n ≤ c
  max : c ≤ maxLen
  at_ : ∀ k (h : k < l.length), ∃ g o, ad = some ⟨g, o, none⟩ ∧ w.cell? ⟨g, o + k, none⟩ = some (.int .i64 l[k]) ∧ Fit64 l[k]

theorem isSign_yes {s : ByteArray} {i : Nat} (hi : i < s.size) (h : Ax.byte s i = 40 ∨ Ax.byte s i = 41 ∨ Ax.byte s i = 44 ∨ Ax.byte s i = 46 ∨ Ax.byte s i = 58) : Ax.isSign s[i] = true := by
  have e := Ax.byte_get s i hi
  have key : ∀ k : Nat, k < 256 → Ax.byte s i = k → s[i] = UInt8.ofNat k := by
    intro k hk hb
    apply UInt8.toNat_inj.1
    rw [e, hb, UInt8.toNat_ofNat_of_lt' (by simpa using hk)]
  unfold Ax.isSign
  rcases h with h | h | h | h | h <;> rw [key _ (by decide) h] <;> decide
theorem isSign_no {s : ByteArray} {i : Nat} (hi : i < s.size) (h : ¬ (Ax.byte s i = 40 ∨ Ax.byte s i = 41 ∨ Ax.byte s i = 44 ∨ Ax.byte s i = 46 ∨ Ax.byte s i = 58)) : Ax.isSign s[i] = false := by
  have e := Ax.byte_get s i hi
  rw [Bool.eq_false_iff]
  intro hc
  apply h
  unfold Ax.isSign at hc
  rw [← e]
  simp only [Bool.or_eq_true, decide_eq_true_eq] at hc
  rcases hc with (((hc | hc) | hc) | hc) | hc <;> rw [hc] <;> decide

theorem check_val (s : ByteArray) (hs : s.size ≤ maxLen) (P : ByteArray) (E : Int) (A : Nat) (h : Ax.read s = (P, E, A)) : ∀ w, Calls Try.prog 8 #[.string s] w fun e w' => e = .returned (.tuple #[.string P, .int .i64 E, .int .i64 A]) ∧ Below w.heap.size w w' := by
  intro w
  have := check_any s w hs
  rw [h] at this
  exact this

theorem check_rel (w : World) (s : ByteArray) (hs : s.size ≤ maxLen) (P : ByteArray) (E : Int) (A : Nat) (h : Ax.read s = (P, E, A)) : ∀ W, Below w.heap.size w W → Calls Try.prog 8 #[.string s] W fun e w' => e = .returned (.tuple #[.string P, .int .i64 E, .int .i64 A]) ∧ Below w.heap.size w w' := by
  intro W hb
  refine (check_val s hs P E A h W).mono ?_
  rintro e w' ⟨rfl, hb'⟩
  exact ⟨rfl, hb.trans (hb'.mono hb.size)⟩

set_option maxRecDepth 100000 in
set_option maxHeartbeats 8000000 in
theorem plain_any (w : World) (ad : Option Addr) (n c : Nat) (l : List Ax.KRule) (h : RulesAt w ad n c l) (bd : Option Addr) (bn bc : Nat) (bs : List Int) (hI : IntsAt w bd bn bc bs) (raw : ByteArray) (hraw : raw.size ≤ maxLen) :
    Calls Try.prog 4 #[.slice ad n c, .slice bd bn bc, .string raw] w fun e w' => e = .returned (.bool true) ∧ Below w.heap.size w w' := by
  have hbm : bc ≤ 9223372036854775807 := hI.max
  have hbc := hI.cap
  have hbl := hI.len
  have htx := text_any w ad n c l h (Ax.gtext l) (text_bytes l)
  have hrd := Ax.spreadB_read l bs
  have hst := Ax.spInv_start (Ax.gtext l) bs
  obtain ⟨S, hS⟩ : ∃ S, Ax.gtext l = S := ⟨_, rfl⟩
  rw [hS] at htx hrd hst
  clear hS h
  have hTs : (Ax.spreadB S bs).size ≤ 4 * S.size := by
    have := Ax.spread_len S.data.toList bs
    have e : (Ax.spreadB S bs).size = (Ax.spread S.data.toList bs).toArray.size := rfl
    rw [e, List.size_toArray]
    have e2 : S.data.toList.length = S.size := by rw [Array.length_toList]; rfl
    omega
  generalize Ax.spreadB S bs = T at *
  have HST : Hid (Ax.SpInv S bs 0 0 ⟨#[]⟩ T) := hst
  have HRD : Hid (T.size ≤ 600 → Ax.read T = (S, 0, 0)) := hrd
  clear hst hrd
  go_enter Try.func4, Try.ntmps4
  go_wp2_with (go_at_call 6; refine htx.mono ?_; rintro e w1 ⟨rfl, hb1, hS3⟩)
  clear htx
  go_loopw [8, 9, 10] (fun tv nv iv wr => ∃ (i k : Nat) (t : ByteArray), i ≤ S.size ∧ k ≤ bn ∧ tv = .string t ∧ nv = .int .i64 k ∧ iv = .int .i64 i ∧ Below w.heap.size w wr ∧ Ax.SpInv S bs i k t T) (fun _ _ iv _ => S.size - (intOf iv).toNat)
  case atStart => exact ⟨0, 0, _, Nat.zero_le _, Nat.zero_le _, rfl, rfl, rfl, hb1, HST.out⟩
  case round =>
    obtain ⟨i, k, t, hi, hk, rfl, rfl, rfl, hbel, hinv⟩ := hrel
    have hts := Ax.spInv_le hinv
    have HV : Hid (Ax.SpInv S bs i k t T) := hinv
    clear hinv HST hb1
    by_cases hlt : i < S.size
    · have hby := Ax.byte_get S i hlt
      have hx1 : (S.extract i (i + 1)).size = 1 := by rw [ByteArray.size_extract]; omega
      by_cases hkb : k < bn
      · have hk1 : decide ((k : Int) < (bn : Int)) = true := by simp; omega
        have hk3 : (k : Int) < (bn : Int) := by omega
        obtain ⟨g, o, had, e0, f0⟩ := hI.at_ k (by omega)
        subst had
        by_cases hsg : Ax.byte S i = 40 ∨ Ax.byte S i = 41 ∨ Ax.byte S i = 44 ∨ Ax.byte S i = 46 ∨ Ax.byte S i = 58
        · have HV' : Hid _ := Ax.spInv_sign HV.out hlt (isSign_yes hlt hsg) (by omega)
          clear HV
          have hz4 := Ax.gpick_lt bs[k] 4 (by decide)
          have hpk := pick_val bs[k] 4 _ f0 (by decide) (by decide) rfl 4 rfl
          have E0 := cell_below hbel e0
          generalize Ax.gpick bs[k] 4 = z at *
          generalize bs[k] = x at *
          have hxz : (Ax.blanks4.extract 0 z).size ≤ 4 := by rw [ByteArray.size_extract]; omega
          have hz5 : (z : Int) ≤ 4 := by omega
          unfold Ax.blanks4 at HV' hxz
          have hs1 : (t ++ (⟨#[32, 32, 10, 32]⟩ : ByteArray).extract 0 z).size ≤ 1356 := by rw [ByteArray.size_append]; omega
          generalize Ax.byte S i = B at *
          rcases hsg with hB | hB | hB | hB | hB
          · have b0 : ((B : Int) == 40) = true := by simp [hB]
            clear hB
            go_wp2_with (go_at_call 7; refine (hpk _).mono ?_; rintro e w2 ⟨rfl, rfl⟩)
            go_roundw
            case rel => exact ⟨i + 1, k + 1, _, by omega, by omega, rfl, by go_num, by go_num, hbel, HV'.out⟩
            case measure => simp [intOf]; omega
          · have b0 : ((B : Int) == 40) = false := by simp [hB]
            have b1 : ((B : Int) == 41) = true := by simp [hB]
            clear hB
            go_wp2_with (go_at_call 7; refine (hpk _).mono ?_; rintro e w2 ⟨rfl, rfl⟩)
            go_roundw
            case rel => exact ⟨i + 1, k + 1, _, by omega, by omega, rfl, by go_num, by go_num, hbel, HV'.out⟩
            case measure => simp [intOf]; omega
          · have b0 : ((B : Int) == 40) = false := by simp [hB]
            have b1 : ((B : Int) == 41) = false := by simp [hB]
            have b2 : ((B : Int) == 44) = true := by simp [hB]
            clear hB
            go_wp2_with (go_at_call 7; refine (hpk _).mono ?_; rintro e w2 ⟨rfl, rfl⟩)
            go_roundw
            case rel => exact ⟨i + 1, k + 1, _, by omega, by omega, rfl, by go_num, by go_num, hbel, HV'.out⟩
            case measure => simp [intOf]; omega
          · have b0 : ((B : Int) == 40) = false := by simp [hB]
            have b1 : ((B : Int) == 41) = false := by simp [hB]
            have b2 : ((B : Int) == 44) = false := by simp [hB]
            have b3 : ((B : Int) == 46) = true := by simp [hB]
            clear hB
            go_wp2_with (go_at_call 7; refine (hpk _).mono ?_; rintro e w2 ⟨rfl, rfl⟩)
            go_roundw
            case rel => exact ⟨i + 1, k + 1, _, by omega, by omega, rfl, by go_num, by go_num, hbel, HV'.out⟩
            case measure => simp [intOf]; omega
          · have b0 : ((B : Int) == 40) = false := by simp [hB]
            have b1 : ((B : Int) == 41) = false := by simp [hB]
            have b2 : ((B : Int) == 44) = false := by simp [hB]
            have b3 : ((B : Int) == 46) = false := by simp [hB]
            have b4 : ((B : Int) == 58) = true := by simp [hB]
            clear hB
            go_wp2_with (go_at_call 7; refine (hpk _).mono ?_; rintro e w2 ⟨rfl, rfl⟩)
            go_roundw
            case rel => exact ⟨i + 1, k + 1, _, by omega, by omega, rfl, by go_num, by go_num, hbel, HV'.out⟩
            case measure => simp [intOf]; omega
        · have HV' : Hid _ := Ax.spInv_no HV.out hlt (.inl (isSign_no hlt hsg))
          clear HV
          generalize Ax.byte S i = B at *
          have b0 : ((B : Int) == 40) = false := by simp; omega
          have b1 : ((B : Int) == 41) = false := by simp; omega
          have b2 : ((B : Int) == 44) = false := by simp; omega
          have b3 : ((B : Int) == 46) = false := by simp; omega
          have b4 : ((B : Int) == 58) = false := by simp; omega
          go_wp2_with fail
          go_roundw
          case rel => exact ⟨i + 1, k, _, by omega, hk, rfl, rfl, by go_num, hbel, HV'.out⟩
          case measure => simp [intOf]; omega
      · have hk1 : decide ((k : Int) < (bn : Int)) = false := by simp; omega
        have HV' : Hid _ := Ax.spInv_no HV.out hlt (.inr (by omega))
        clear HV
        go_wp2_with fail
        go_roundw
        case rel => exact ⟨i + 1, k, _, by omega, hk, rfl, rfl, by go_num, hbel, HV'.out⟩
        case measure => simp [intOf]; omega
    · have htT := Ax.spInv_end HV.out (by omega)
      subst htT
      clear HV
      by_cases h6 : 600 < t.size
      · have hb6 : decide ((600 : Int) < (t.size : Int)) = true := by simp; omega
        go_wp2_with fail
        go_ret
        exact ⟨rfl, hbel⟩
      · have hb6 : decide ((600 : Int) < (t.size : Int)) = false := by simp; omega
        have hrt := HRD.out (by omega)
        have hct := check_rel w t (by unfold maxLen; omega) _ _ _ hrt
        have hcs := check_rel w S (by unfold maxLen; omega) _ _ _ (Ax.read_plain hrt)
        clear hrt HRD
        have hpl := Ax.read_place raw
        have hcr := check_rel w raw hraw (Ax.read raw).1 (Ax.read raw).2.1 (Ax.read raw).2.2 rfl
        rcases hR : Ax.read raw with ⟨u, E, A⟩
        rw [hR] at hpl hcr
        simp only at hpl hcr
        have hself : (S.toList == S.toList) = true := by simp
        rcases hpl with ⟨hE, hA⟩ | ⟨hE, hu, hA⟩
        · subst hE hA
          have hru := Ax.read_plain hR
          have hus := (Ax.read_ok hru).2.1
          have hcu := check_rel w u (by unfold maxLen; omega) _ _ _ hru
          have huself : (u.toList == u.toList) = true := by simp
          clear hR hru hus hTs hts
          go_wp2_with (first | (go_at_call_of 8 (Value.string t); refine (hct _ hbel).mono ?_; rintro e w2 ⟨rfl, hb2⟩) | (go_at_call_of 8 (Value.string S); refine (hcs _ hb2).mono ?_; rintro e w3 ⟨rfl, hb3⟩) | (go_at_call_of 8 (Value.string raw); refine (hcr _ hb3).mono ?_; rintro e w4 ⟨rfl, hb4⟩) | (go_at_call_of 8 (Value.string u); refine (hcu _ hb4).mono ?_; rintro e w5 ⟨rfl, hb5⟩))
          go_ret
          exact ⟨rfl, hb5⟩
        · have hE0 : (E == 0) = false := beq_eq_false_iff_ne.2 hE
          have hu' : u = ⟨#[]⟩ := hu
          subst hu'
          have hA1 : decide ((0 : Int) ≤ (A : Int)) = true := by simp
          have hA2 : decide ((A : Int) ≤ (raw.size : Int)) = true := by simp; omega
          have huself : ((⟨#[]⟩ : ByteArray).toList == (⟨#[]⟩ : ByteArray).toList) = true := by simp
          clear hR hu hE hTs hts
          go_wp2_with (first | (go_at_call_of 8 (Value.string t); refine (hct _ hbel).mono ?_; rintro e w2 ⟨rfl, hb2⟩) | (go_at_call_of 8 (Value.string S); refine (hcs _ hb2).mono ?_; rintro e w3 ⟨rfl, hb3⟩) | (go_at_call_of 8 (Value.string raw); refine (hcr _ hb3).mono ?_; rintro e w4 ⟨rfl, hb4⟩))
          go_ret
          exact ⟨rfl, hb4⟩
end Go.Proofs.Ytdmicblafmhflaa
