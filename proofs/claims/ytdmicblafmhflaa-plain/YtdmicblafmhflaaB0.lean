/- strings.Builder: copyCheck, WriteString, String. -/
import Derived.Test.YtdmicblafmhflaaL3
import Derived.Test.YtdmicblafmhflaaM3
import Derived.Lib.Builder
import Derived.Lib.AppendStr
import Derived.Lib.UnsafeStr
namespace Go.Proofs.Ytdmicblafmhflaa
set_option linter.unusedSimpArgs false
set_option linter.unusedVariables false
open Go.RowKit

theorem Try.sizeBuilder : (Try.prog.info? 107).map (·.size) = some 2 := by kernel_rfl
theorem Try.liesBuilder : liesAt Try.prog Try.prog.depth 107 (2 / Try.prog.cellsOf 107) 0 107 1 = true := by kernel_rfl
theorem Try.infoByte : (Try.prog.info? 5).map (fun i => (i.zero, i.size, i.bytes)) = some (some (.int .u8 0), 1, 1) := by kernel_rfl
theorem Try.cellsByte : Try.prog.cellsOf 5 = 1 := by kernel_rfl

/-- a builder in block b -/
def Bld (B : Nat) (w : World) (b : Nat) (l : List UInt8) : Prop :=
  ∃ p v, (p = .pointer none ∨ p = .pointer (some ⟨b, 0, none⟩)) ∧ w.heap[b]? = some (.cells #[p, v] 107 (0, 0)) ∧ w.ownsRow B 5 1 v l.length (Lib.byteCells l) ∧ (l = [] → v = .slice none 0 0)

set_option maxRecDepth 100000 in
set_option maxHeartbeats 1000000 in
theorem copyCheck_used (b : Nat) (w : World) (h0 : w.cell? ⟨b, 0, none⟩ = some (.pointer (some ⟨b, 0, none⟩))) :
    Calls Try.prog 60 #[.pointer (some ⟨b, 0, none⟩)] w fun e w' => e = .returned (.tuple #[]) ∧ w' = w := by
  obtain ⟨j, hj, _⟩ := Option.map_eq_some_iff.1 Try.sizeBuilder
  go_enter Try.func60, Try.ntmps60
  have kn := Lib.run_neq_ptr_same (P := Try.prog) w ⟨b, 0, none⟩ Try.underlying104 hj
  clear hj
  go_wp2_with fail
  go_end0
  exact ⟨rfl, rfl⟩

set_option maxRecDepth 100000 in
set_option maxHeartbeats 1000000 in
theorem copyCheck_fresh (b : Nat) (w : World) (h0 : w.cell? ⟨b, 0, none⟩ = some (.pointer none)) (hsh : w.shape? b = some (107, 2)) (hfz : w.frozen? ⟨b, 0, none⟩ = false) :
    Calls Try.prog 60 #[.pointer (some ⟨b, 0, none⟩)] w fun e w' => e = .returned (.tuple #[]) ∧ w' = w.setCell ⟨b, 0, none⟩ (.pointer (some ⟨b, 0, none⟩)) := by
  obtain ⟨j, hj, hjs⟩ := Option.map_eq_some_iff.1 Try.sizeBuilder
  have k1 := fun w' (hs : w'.shape? b = some (107, 2)) => Lib.run_to_unsafe (P := Try.prog) w' ⟨b, 0, none⟩ Try.underlying104 Try.underlying141 hj (by rw [hjs]; decide) hs (Nat.zero_lt_succ 1)
  have k1' := k1 w hsh
  have k2 : (callFunc 67 #[.pointer (some ⟨b, 0, none⟩)]).run Try.prog w = .ok (.value (.pointer (some ⟨b, 0, none⟩))) w := by
    rw [run_callFunc_extern Try.func67 (by kernel_rfl) (by kernel_rfl) (by kernel_rfl) (e := Extern.AbiNoEscape.same) (by kernel_rfl), Lib.run_noEscape]
    rfl
  have k3 := Lib.run_from_unsafe (P := Try.prog) w ⟨b, 0, none⟩ Try.underlying141 Try.underlying104 hj hsh Try.liesBuilder
  clear k1 hj
  go_enter Try.func60, Try.ntmps60
  go_wp2_with fail
  go_end0
  exact ⟨rfl, rfl⟩

/-- what the builder's writers leave alone: all that is not the builder's block and no row of bytes -/
theorem copyCheck_any (B b : Nat) (w : World) (v : Value) (p : Value) (hp : p = .pointer none ∨ p = .pointer (some ⟨b, 0, none⟩)) (hb : w.heap[b]? = some (.cells #[p, v] 107 (0, 0))) (hB : B ≤ b) :
    Calls Try.prog 60 #[.pointer (some ⟨b, 0, none⟩)] w fun e w' => e = .returned (.tuple #[]) ∧ w'.heap[b]? = some (.cells #[.pointer (some ⟨b, 0, none⟩), v] 107 (0, 0)) ∧ Below B w w' ∧ w.grownBy w' (some b) := by
  rcases hp with rfl | rfl
  · refine (copyCheck_fresh b w ?_ ?_ (frozen_at hb 0)).mono ?_
    · rw [cell_at hb]; rfl
    · simp [World.shape?, hb]
    · rintro e w' ⟨rfl, rfl⟩
      exact ⟨rfl, by rw [heap_setCell_same hb]; rfl, (Below.refl _ _).setCell hB _, grownBy_setCell _ _⟩
  · refine (copyCheck_used b w ?_).mono ?_
    · rw [cell_at hb]; rfl
    · rintro e w' ⟨rfl, rfl⟩
      exact ⟨rfl, hb, Below.refl _ _, grownBy_refl _ _⟩

theorem byteCells_append (l m : List UInt8) : Lib.byteCells (l ++ m) = Lib.byteCells l ++ Lib.byteCells m := by simp [Lib.byteCells]
theorem size_zero {s : ByteArray} (h : s.data.toList = []) : s = ByteArray.empty := by
  rcases s with ⟨⟨l⟩⟩
  simp at h
  subst h
  rfl
theorem strCells_bytes (s : ByteArray) : Lib.strCells s = Lib.byteCells s.data.toList := rfl

set_option maxHeartbeats 2000000 in
set_option maxRecDepth 100000 in
theorem writeString_any (B b : Nat) (l : List UInt8) (s : ByteArray) (w : World) (h : Bld B w b l) (hB : B ≤ b) (hlen : l.length + s.size ≤ 1000000) :
    Calls Try.prog 44 #[.pointer (some ⟨b, 0, none⟩), .string s] w fun e w' => e = .returned (.tuple #[.int .i64 s.size, .nilIface]) ∧ Bld B w' b (l ++ s.data.toList) ∧ Below B w w' := by
  obtain ⟨p, v, hp, hb, hown, hnil⟩ := h
  have hlt := lt_of_heap hb
  go_enter Try.func44, Try.ntmps44
  go_wp2_with (go_at_call 60; refine (copyCheck_any B b _ v p hp hb hB).mono ?_)
  rintro e w1 ⟨rfl, hb1, hbel1, hg1⟩
  have hown1 : w1.ownsRow B 5 1 v l.length (Lib.byteCells l) := ownsRow_type hown hg1 (e' := 107) (fun k hk => by cases hk; exact ⟨_, _, hb⟩) (by decide)
  have hs1 := hg1.size
  have c0 := cell_at hb1 0
  have c1 := cell_at hb1 1
  simp only [List.getElem?_toArray, List.getElem?_cons_zero, List.getElem?_cons_succ] at c0 c1
  go_wp2_with (at_builtin; obtain ⟨i0, hi, hz0, hz1, hz2⟩ := info_parts Try.infoByte; refine Lib.wpList_append_own_string _ rfl _ _ 105 9 rfl B 5 i0 Try.underlying105 Try.underlying9 hi hz0 hz1 hz2 _ _ _ rfl hown1 s rfl (by unfold maxLen; omega) (by omega) (by omega) ?_)
  intro v' w2 hown2 hgrow hnil2
  have hb2 : w2.heap[b]? = some (.cells #[.pointer (some ⟨b, 0, none⟩), v] 107 (0, 0)) := by
    rw [hgrow.block b (by omega) ?_]
    · exact hb1
    · intro e
      obtain ⟨cur, fz, hk⟩ := ownsRow_kind hown1 b e.symm
      rw [hb1] at hk
      simp at hk
  have d1 := cell_at hb2 1
  have f1 := frozen_at hb2 1
  simp only [List.getElem?_toArray, List.getElem?_cons_zero, List.getElem?_cons_succ] at d1
  obtain ⟨ao, cap, rfl⟩ := ownsRow_shape hown2
  go_wp2_with fail
  go_ret2
  have hbel2 : Below B w w2 := hbel1.grown hgrow (by omega) (fun k hk => (hown1.lt k hk).1)
  refine ⟨rfl, ⟨_, _, .inr rfl, by rw [heap_setCell_same hb2]; rfl, ?_, ?_⟩, hbel2.setCell hB _⟩
  · rw [byteCells_append, ← strCells_bytes, List.length_append]
    refine ownsRow_type (by simpa using hown2) (grownBy_setCell _ _) (e' := 107) (fun k hk => by cases hk; exact ⟨_, _, hb2⟩) (by decide)
  · intro hl
    obtain ⟨rfl, hs0⟩ := List.append_eq_nil_iff.1 hl
    exact hnil2.2 ⟨hnil rfl, size_zero hs0⟩
end Go.Proofs.Ytdmicblafmhflaa
