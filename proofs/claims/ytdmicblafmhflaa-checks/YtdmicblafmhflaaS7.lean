/- axiomref: read, but for its last answer. -/
import Derived.Test.YtdmicblafmhflaaS6
import Derived.Test.YtdmicblafmhflaaS3
import Derived.Test.YtdmicblafmhflaaS4
import Derived.Test.YtdmicblafmhflaaPP
namespace Go.Proofs.Ytdmicblafmhflaa
set_option linter.unusedSimpArgs false
set_option linter.unusedVariables false
open Go.RowKit

abbrev ZP : Obj := .cells #[.slice none 0 0, .slice none 0 0, .string ⟨#[]⟩] 51

theorem rrules_some (s : ByteArray) (w : World) (hs : s.size ≤ 600) (rs : List Ax.Rule) (j : Nat) (HR : Hid (Ax.pRules (Ax.split s) (Ax.split s).length 0 [] = (some rs, j))) :
    Calls Try.prog 30 #[.string s] w fun e w' => ∃ od oc out, e = .returned (.tuple #[.slice od (List.length out) oc, .int .i64 (-1)]) ∧ QRsIn w' od oc out ∧ Hid (List.map QR.rule out = rs) ∧ out.length ≤ 1000 ∧ Below w.heap.size w w' := by
  refine (rrules_any s w hs).mono ?_
  rintro e w' ⟨hb, hc⟩
  rw [HR.out] at hc
  rcases hc with ⟨od, oc, out, h1, rfl, hq, hl⟩ | ⟨t, h1, _⟩
  · simp only [Option.some.injEq] at h1
    exact ⟨od, oc, out, rfl, hq, h1.symm, hl, hb⟩
  · simp at h1
theorem rrules_none (s : ByteArray) (w : World) (hs : s.size ≤ 600) (j : Nat) (HR : Hid (Ax.pRules (Ax.split s) (Ax.split s).length 0 [] = (none, j))) (t : Ax.Tok) (ht : Hid ((Ax.split s)[j]? = some t)) :
    Calls Try.prog 30 #[.string s] w fun e w' => e = .returned (.tuple #[.slice none 0 0, .int .i64 t.at_]) ∧ Below w.heap.size w w' := by
  refine (rrules_any s w hs).mono ?_
  rintro e w' ⟨hb, hc⟩
  rw [HR.out] at hc
  rcases hc with ⟨od, oc, out, h1, _⟩ | ⟨t', h1, h2, rfl⟩
  · simp at h1
  · simp only [ht.out, Option.some.injEq] at h2
    subst h2
    exact ⟨rfl, hb⟩
theorem rmany_yes (w : World) (rd : Option Addr) (rc : Nat) (l : List QR) (h : QRsIn w rd rc l) (hll : l.length ≤ 1000) (p : Nat) (h3 : Hid (Ax.tooMany 0 [] (l.map QR.rule) = some p)) :
    Calls Try.prog 31 #[.slice rd l.length rc] w fun e w' => e = .returned (.int .i64 p) ∧ Below w.heap.size w w' := by
  refine (rmany_any w rd rc l h hll).mono ?_
  rintro e w' ⟨hb, ⟨p', e1, rfl⟩ | ⟨e1, _⟩⟩
  · rw [h3.out] at e1; simp only [Option.some.injEq] at e1; subst e1; exact ⟨rfl, hb⟩
  · rw [h3.out] at e1; simp at e1
theorem rmany_no (w : World) (rd : Option Addr) (rc : Nat) (l : List QR) (h : QRsIn w rd rc l) (hll : l.length ≤ 1000) (h3 : Hid (Ax.tooMany 0 [] (l.map QR.rule) = none)) :
    Calls Try.prog 31 #[.slice rd l.length rc] w fun e w' => e = .returned (.int .i64 (-1)) ∧ Below w.heap.size w w' := by
  refine (rmany_any w rd rc l h hll).mono ?_
  rintro e w' ⟨hb, ⟨p', e1, _⟩ | ⟨_, rfl⟩⟩
  · rw [h3.out] at e1; simp at e1
  · exact ⟨rfl, hb⟩
theorem loose_yes (w : World) (rd : Option Addr) (rc : Nat) (l : List QR) (h : QRsIn w rd rc l) (p : Nat) (h3 : Hid (Ax.openHead (l.map QR.rule) = some p)) :
    Calls Try.prog 33 #[.slice rd l.length rc] w fun e w' => e = .returned (.int .i64 p) ∧ Below w.heap.size w w' := by
  refine (loose_any w rd rc l h).mono ?_
  rintro e w' ⟨hb, ⟨p', e1, rfl⟩ | ⟨e1, _⟩⟩
  · rw [h3.out] at e1; simp only [Option.some.injEq] at e1; subst e1; exact ⟨rfl, hb⟩
  · rw [h3.out] at e1; simp at e1
theorem loose_no (w : World) (rd : Option Addr) (rc : Nat) (l : List QR) (h : QRsIn w rd rc l) (h3 : Hid (Ax.openHead (l.map QR.rule) = none)) :
    Calls Try.prog 33 #[.slice rd l.length rc] w fun e w' => e = .returned (.int .i64 (-1)) ∧ Below w.heap.size w w' := by
  refine (loose_any w rd rc l h).mono ?_
  rintro e w' ⟨hb, ⟨p', e1, _⟩ | ⟨_, rfl⟩⟩
  · rw [h3.out] at e1; simp at e1
  · exact ⟨rfl, hb⟩
theorem rpreds_yes (w : World) (rd : Option Addr) (rc : Nat) (l : List QR) (h : QRsIn w rd rc l) (hll : l.length ≤ 1000) (p : Nat) (h4 : Hid (Ax.twoAr [] ((l.map QR.rule).flatMap Ax.Rule.atoms) = some p)) :
    Calls Try.prog 32 #[.slice rd l.length rc] w fun e w' => ∃ od oc o, e = .returned (.tuple #[.slice od (List.length o) oc, .int .i64 p]) ∧ PredsAt w w' od oc o := by
  refine (rpreds_any w rd rc l h hll).mono ?_
  rintro e w' ⟨od, oc, o, rfl, _, hp⟩
  rw [Ax.rpreds_two, h4.out]
  exact ⟨od, oc, o, rfl, hp⟩
theorem rpreds_no (w : World) (rd : Option Addr) (rc : Nat) (l : List QR) (h : QRsIn w rd rc l) (hll : l.length ≤ 1000) (h4 : Hid (Ax.twoAr [] ((l.map QR.rule).flatMap Ax.Rule.atoms) = none)) :
    Calls Try.prog 32 #[.slice rd l.length rc] w fun e w' => ∃ od oc o, e = .returned (.tuple #[.slice od (List.length o) oc, .int .i64 (-1)]) ∧ PredsAt w w' od oc o := by
  refine (rpreds_any w rd rc l h hll).mono ?_
  rintro e w' ⟨od, oc, o, rfl, _, hp⟩
  rw [Ax.rpreds_two, h4.out]
  exact ⟨od, oc, o, rfl, hp⟩

theorem rd_world {w w1 : World} (hb : Below (w.alloc ZP).heap.size (w.alloc ZP) w1) : w1.heap[w.heap.size]? = some (.cells #[.slice none 0 0, .slice none 0 0, .string ⟨#[]⟩] 51 (0, 0)) ∧ Below w.heap.size w w1 ∧ w.heap.size < w1.heap.size :=
  ⟨(hb.block _ (by simp)).trans (heap_alloc_new _ _), ((Below.refl _ _).alloc (Nat.le_refl _) _).trans (hb.mono (by simp)), by have := hb.size; simp at this; omega⟩
theorem blk3_cells {w3 : World} {B : Nat} {a b c : Value} {t : TypeId} (h : w3.heap[B]? = some (.cells #[a, b, c] t (0, 0))) :
    w3.cell? ⟨B, 0, none⟩ = some a ∧ w3.cell? ⟨B, 1, none⟩ = some b ∧ w3.cell? ⟨B, 2, none⟩ = some c ∧ w3.frozen? ⟨B, 0, none⟩ = false ∧ w3.frozen? ⟨B, 1, none⟩ = false ∧ w3.frozen? ⟨B, 2, none⟩ = false := by
  refine ⟨?_, ?_, ?_, frozen_at h 0, frozen_at h 1, frozen_at h 2⟩ <;> rw [cell_at h] <;> rfl
theorem three_storesP {w w2 : World} {k : Nat} {a b c : Value} {T : TypeId} (r2 : w2.heap[k]? = some (.cells #[a, b, c] T (0, 0))) (x y z : Value) (gw : Below w.heap.size w w2) (hk : w.heap.size ≤ k) :
    (((w2.setCell ⟨k, 0, none⟩ x).setCell ⟨k, 1, none⟩ y).setCell ⟨k, 2, none⟩ z).heap[k]? = some (.cells #[x, y, z] T (0, 0)) ∧ Below w.heap.size w (((w2.setCell ⟨k, 0, none⟩ x).setCell ⟨k, 1, none⟩ y).setCell ⟨k, 2, none⟩ z) := by
  have h0 := heap_setCell_same (off := 0) r2 x
  have h1 := heap_setCell_same (off := 1) h0 y
  have h2 := heap_setCell_same (off := 2) h1 z
  exact ⟨by rw [h2]; rfl, ((gw.setCell hk _).setCell hk _).setCell hk _⟩

/-- what read answers -/
def RdPost (w : World) (R : ByteArray × Int × Nat) (e : Ending) (w' : World) : Prop := Below w.heap.size w w' ∧ ∃ od on oc pd pn pc, e = .returned (.tuple #[.agg #[.slice od on oc, .slice pd pn pc, .string R.1], .int .i64 R.2.1, .int .i64 R.2.2])

set_option maxRecDepth 100000 in
set_option maxHeartbeats 2000000 in
theorem rr_1 (s : ByteArray) (w : World) (h : 600 < s.size) (hm : s.size ≤ maxLen) : Calls Try.prog 16 #[.string s] w fun e w' => RdPost w (ByteArray.empty, 1, 0) e w' := by
  have hgt : (600 : Int) < (s.size : Int) := by omega
  go_enter Try.func16, Try.ntmps16
  go_wp2_with fail
  exact bodyPost_ret (v := .tuple #[.agg #[.slice none 0 0, .slice none 0 0, .string ⟨#[]⟩], .int .i64 1, .int .i64 0]) (by simp [results, Try.results16, go_sem]) rfl ⟨(Below.refl _ _).alloc (Nat.le_refl _) _, _, _, _, _, _, _, rfl⟩

set_option maxRecDepth 100000 in
set_option maxHeartbeats 2000000 in
theorem rr_2 (s : ByteArray) (w : World) (hsz : s.size ≤ 600) (j : Nat) (HR : Hid (Ax.pRules (Ax.split s) (Ax.split s).length 0 [] = (none, j))) (t : Ax.Tok) (ht : Hid ((Ax.split s)[j]? = some t)) : Calls Try.prog 16 #[.string s] w fun e w' => RdPost w (ByteArray.empty, 2, t.at_) e w' := by
  have hgt : ¬ (600 : Int) < (s.size : Int) := by omega
  go_enter Try.func16, Try.ntmps16
  go_wp2_with (first | (go_at_call 30; refine (rrules_none s _ hsz j HR t ht).mono ?_; rintro e w1 ⟨rfl, hb1⟩; obtain ⟨r1, gw1, lt1⟩ := rd_world hb1; obtain ⟨k0, k1, k2, f0, f1, f2⟩ := blk3_cells r1))
  obtain ⟨hu, bu⟩ := three_storesP r1 (.slice none 0 0) (.slice none 0 0) (.string ⟨#[]⟩) gw1 (Nat.le_refl _)
  exact bodyPost_ret (v := .tuple #[.agg #[.slice none 0 0, .slice none 0 0, .string ⟨#[]⟩], .int .i64 2, .int .i64 t.at_]) (by simp [results, Try.results16, go_sem, cell_at hu]) rfl ⟨bu, _, _, _, _, _, _, rfl⟩

set_option maxRecDepth 100000 in
set_option maxHeartbeats 2000000 in
theorem rr_3 (s : ByteArray) (w : World) (hsz : s.size ≤ 600) (rs : List Ax.Rule) (j : Nat) (HR : Hid (Ax.pRules (Ax.split s) (Ax.split s).length 0 [] = (some rs, j))) (p : Nat) (H3 : Hid (Ax.tooMany 0 [] rs = some p)) : Calls Try.prog 16 #[.string s] w fun e w' => RdPost w (ByteArray.empty, 3, p) e w' := by
  have hgt : ¬ (600 : Int) < (s.size : Int) := by omega
  go_enter Try.func16, Try.ntmps16
  go_wp2_with (first | (go_at_call 30; refine (rrules_some s _ hsz rs j HR).mono ?_; rintro e w1 ⟨od, oc, out, rfl, hq, hrs, hol, hb1⟩) | (go_at_call 31; refine (rmany_yes _ _ _ out hq hol p (by rw [hrs.out]; exact H3)).mono ?_; rintro e w2 ⟨rfl, hb2⟩; obtain ⟨r1, gw1, lt1⟩ := rd_world (hb1.trans (hb2.mono hb1.size)); obtain ⟨k0, k1, k2, f0, f1, f2⟩ := blk3_cells r1))
  obtain ⟨hu, bu⟩ := three_storesP r1 (.slice none 0 0) (.slice none 0 0) (.string ⟨#[]⟩) gw1 (Nat.le_refl _)
  exact bodyPost_ret (v := .tuple #[.agg #[.slice none 0 0, .slice none 0 0, .string ⟨#[]⟩], .int .i64 3, .int .i64 p]) (by simp [results, Try.results16, go_sem, cell_at hu]) rfl ⟨bu, _, _, _, _, _, _, rfl⟩

set_option maxRecDepth 100000 in
set_option maxHeartbeats 2000000 in
theorem rr_4 (s : ByteArray) (w : World) (hsz : s.size ≤ 600) (rs : List Ax.Rule) (j : Nat) (HR : Hid (Ax.pRules (Ax.split s) (Ax.split s).length 0 [] = (some rs, j))) (H3 : Hid (Ax.tooMany 0 [] rs = none)) (p : Nat) (H4 : Hid (Ax.twoAr [] (rs.flatMap Ax.Rule.atoms) = some p)) : Calls Try.prog 16 #[.string s] w fun e w' => RdPost w (ByteArray.empty, 4, p) e w' := by
  have hgt : ¬ (600 : Int) < (s.size : Int) := by omega
  go_enter Try.func16, Try.ntmps16
  go_wp2_with (first | (go_at_call 30; refine (rrules_some s _ hsz rs j HR).mono ?_; rintro e w1 ⟨od, oc, out, rfl, hq, hrs, hol, hb1⟩) | (go_at_call 31; refine (rmany_no _ _ _ out hq hol (by rw [hrs.out]; exact H3)).mono ?_; rintro e w2 ⟨rfl, hb2⟩; have hb12 := hb1.trans (hb2.mono hb1.size); have hq2 := hq.below hb2) | (go_at_call 32; refine (rpreds_yes _ _ _ out hq2 hol p (by rw [hrs.out]; exact H4)).mono ?_; rintro e w3 ⟨pd, pc, o, rfl, hpa⟩; obtain ⟨r1, gw1, lt1⟩ := rd_world (hb12.trans (hpa.bel.mono hb12.size)); obtain ⟨k0, k1, k2, f0, f1, f2⟩ := blk3_cells r1))
  obtain ⟨hu, bu⟩ := three_storesP r1 (.slice none 0 0) (.slice none 0 0) (.string ⟨#[]⟩) gw1 (Nat.le_refl _)
  exact bodyPost_ret (v := .tuple #[.agg #[.slice none 0 0, .slice none 0 0, .string ⟨#[]⟩], .int .i64 4, .int .i64 p]) (by simp [results, Try.results16, go_sem, cell_at hu]) rfl ⟨bu, _, _, _, _, _, _, rfl⟩

set_option maxRecDepth 100000 in
set_option maxHeartbeats 2000000 in
theorem rr_5 (s : ByteArray) (w : World) (hsz : s.size ≤ 600) (rs : List Ax.Rule) (j : Nat) (HR : Hid (Ax.pRules (Ax.split s) (Ax.split s).length 0 [] = (some rs, j))) (H3 : Hid (Ax.tooMany 0 [] rs = none)) (H4 : Hid (Ax.twoAr [] (rs.flatMap Ax.Rule.atoms) = none)) (p : Nat) (H5 : Hid (Ax.openHead rs = some p)) : Calls Try.prog 16 #[.string s] w fun e w' => RdPost w (ByteArray.empty, 5, p) e w' := by
  have hgt : ¬ (600 : Int) < (s.size : Int) := by omega
  go_enter Try.func16, Try.ntmps16
  go_wp2_with (first | (go_at_call 30; refine (rrules_some s _ hsz rs j HR).mono ?_; rintro e w1 ⟨od, oc, out, rfl, hq, hrs, hol, hb1⟩) | (go_at_call 31; refine (rmany_no _ _ _ out hq hol (by rw [hrs.out]; exact H3)).mono ?_; rintro e w2 ⟨rfl, hb2⟩; have hb12 := hb1.trans (hb2.mono hb1.size); have hq2 := hq.below hb2) | (go_at_call 32; refine (rpreds_no _ _ _ out hq2 hol (by rw [hrs.out]; exact H4)).mono ?_; rintro e w3 ⟨pd, pc, o, rfl, hpa⟩; have hb13 := hb12.trans (hpa.bel.mono hb12.size); have hq3 := hq2.below hpa.bel) | (go_at_call 33; refine (loose_yes _ _ _ out hq3 p (by rw [hrs.out]; exact H5)).mono ?_; rintro e w4 ⟨rfl, hb4⟩; obtain ⟨r1, gw1, lt1⟩ := rd_world (hb13.trans (hb4.mono hb13.size)); obtain ⟨k0, k1, k2, f0, f1, f2⟩ := blk3_cells r1))
  obtain ⟨hu, bu⟩ := three_storesP r1 (.slice none 0 0) (.slice none 0 0) (.string ⟨#[]⟩) gw1 (Nat.le_refl _)
  exact bodyPost_ret (v := .tuple #[.agg #[.slice none 0 0, .slice none 0 0, .string ⟨#[]⟩], .int .i64 5, .int .i64 p]) (by simp [results, Try.results16, go_sem, cell_at hu]) rfl ⟨bu, _, _, _, _, _, _, rfl⟩
end Go.Proofs.Ytdmicblafmhflaa
