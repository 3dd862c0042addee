/- slices.Index, slices.Contains at terms. -/
import Derived.Test.YtdmicblafmhflaaN0
import Derived.BigQuiet
import Derived.Deep.QuietTactic
namespace Go.Proofs.Ytdmicblafmhflaa
set_option linter.unusedSimpArgs false
set_option linter.unusedVariables false
open Go.RowKit

theorem termCells_get (l : List Ax.Term) (k : Nat) (h : k < l.length) :
    (termCells l)[k * 2]? = some (.int .i64 l[k].kind) ∧ (termCells l)[k * 2 + 1]? = some (.string l[k].text) := by
  induction l generalizing k with
  | nil => simp at h
  | cons a l ih =>
    cases k with
    | zero => simp [termCells]
    | succ k =>
      have := ih k (by simpa using h)
      have e : ∀ j, (termCells (a :: l))[(k + 1) * 2 + j]? = (termCells l)[k * 2 + j]? := by
        intro j
        have : termCells (a :: l) = [.int .i64 a.kind, .string a.text] ++ termCells l := by simp [termCells]
        rw [this, List.getElem?_append_right (by simp; omega)]
        congr 1
        simp; omega
      have e0 := e 0
      simp only [Nat.add_zero] at e0
      rw [e0, e 1]
      simpa using this

theorem below_draws (w : World) (o : Obj) (n : Nat) : Below w.heap.size w ((w.alloc o).drewN n) :=
  ((Below.refl _ _).alloc (Nat.le_refl _) _).trans ⟨rfl, rfl, rfl, Nat.le_refl _, fun _ _ => rfl⟩

theorem Try.fieldsTerm : (Try.prog.fieldsOf 102).toList = [{ name := "Kind", type := 100, offset := 0, embedded := false, tag := "", pkgPath := "", byteOffset := 0 }, { name := "Text", type := 9, offset := 1, embedded := false, tag := "", pkgPath := "", byteOffset := 8 }] := by kernel_rfl
theorem Try.structTerm : Try.prog.underlying 102 = some (.struct (Try.prog.fieldsOf 102)) := by kernel_rfl
theorem Try.heldTerm : Try.prog.stoodInHeld 102 = false := by kernel_rfl
theorem Try.guardTerm : Try.prog.eqGuardType Try.prog.depth 102 = false := by kernel_rfl

/-- two terms by == -/
theorem run_eql_term (a b : Int) (s t : ByteArray) (w : World) : (binOp .eql 102 (.agg #[.int .i64 a, .string s]) (.agg #[.int .i64 b, .string t])).run Try.prog w = .ok (.bool (Ax.Term.beq ⟨a, s⟩ ⟨b, t⟩)) w := by
  have h99 : Try.prog.underlying 100 = some (.int .i64) := Try.underlying100
  have h9 : Try.prog.underlying 9 = some .string := Try.underlying9
  rw [run_eql_struct, run_equalIn_struct w 9999 102 _ _ Try.structTerm Try.heldTerm, Try.fieldsTerm]
  simp only [Op.eqFields, part, isAgg, run_underlying h99, run_underlying h9, Ax.Term.beq, ← beq_bytes]
  simp [part, isAgg, run_underlying h99, run_underlying h9, run_equalIn_int w 9998 100 .i64 .i64 a b h99, run_equalIn_string w 9998 9 s t h9]
  by_cases h1 : a = b <;> by_cases h2 : s.toList = t.toList <;> simp [h1, h2]

set_option maxHeartbeats 1000000 in
theorem indexTerm_any (w : World) (b : Nat) (ad : Option Addr) (c : Nat) (l : List Ax.Term) (v : Ax.Term) (h : w.ownsRow b 102 2 (.slice ad l.length c) l.length (termCells l)) :
    Calls Try.prog 66 #[.slice ad l.length c, .agg #[.int .i64 v.kind, .string v.text]] w fun e w' => ∃ i : Int, e = .returned (.int .i64 i) ∧ (0 ≤ i ↔ v ∈ l) ∧ Below w.heap.size w w' := by
  have hle := ownsRow_le h
  go_enter Try.func66, Try.ntmps66
  go_wp2_with fail
  go_loopw [8] (fun i wr => ∃ k m : Nat, k ≤ l.length ∧ i = .int .i64 k ∧ wr = (w.alloc (.cells #[.int .i64 v.kind, .string v.text] 102)).drewN m ∧ ∀ j (hj : j < l.length), j < k → v ≠ l[j]) (fun i _ => l.length - (intOf i).toNat)
  case atStart => exact ⟨0, 0, Nat.zero_le _, rfl, rfl, fun j _ hj => by omega⟩
  case round =>
    obtain ⟨k, m, hk, rfl, rfl, hno⟩ := hrel
    have HNO : Hid (∀ j (hj : j < l.length), j < k → v ≠ l[j]) := hno
    clear hno
    by_cases hlt : k < l.length
    · obtain ⟨g, rfl, hg, hc, hcs⟩ := row_cells h (by omega)
      have hcell0 := hcs _ _ (termCells_get l k hlt).1
      have hcell1 := hcs _ _ (termCells_get l k hlt).2
      clear hcs
      generalize hx : l[k] = x at hcell0 hcell1
      have HX : Hid (l[k] = x) := hx
      clear hx
      have heq := run_eql_term
      have hgd : ∀ (op : BinOp) (x y : Operand) (xs ys : Array Value) (w : World), (eqGuard op 102 x y (.agg xs) (.agg ys)).run Try.prog w = .ok () w := fun op x y xs ys w => run_eqGuard_agg w op 102 x y xs ys Try.guardTerm
      cases hv : Ax.Term.beq ⟨v.kind, v.text⟩ ⟨x.kind, x.text⟩
      case true =>
        have HV : Hid (v = x) := (Ax.Term.beq_iff _ _).1 hv
        go_wp2_with fail
        go_quiet (fail)
        go_wp2_with fail
        go_ret
        refine ⟨k, rfl, ⟨fun _ => ?_, fun _ => by omega⟩, by rw [World.drewN_drewN]; exact below_draws _ _ _⟩
        have hm : l[k] ∈ l := List.getElem_mem hlt
        rw [HX.out] at hm
        rw [HV.out]
        exact hm
      case false =>
        have HV : Hid (¬ v = x) := fun e => by rw [(Ax.Term.beq_iff _ _).2 e] at hv; cases hv
        go_wp2_with fail
        go_quiet (fail)
        go_wp2_with fail
        go_roundw
        case rel =>
          refine ⟨k + 1, _, by omega, by go_num, rfl, fun j hj hjk => ?_⟩
          by_cases e : j = k
          · subst e; rw [HX.out]; exact HV.out
          · exact HNO.out j hj (by omega)
        case measure => simp [intOf]; omega
    · go_wp2_with fail
      go_ret
      refine ⟨-1, rfl, ⟨fun h => by omega, fun hm => ?_⟩, below_draws _ _ _⟩
      obtain ⟨j, hj, e⟩ := List.getElem_of_mem hm
      exact absurd e.symm (HNO.out j hj (by omega))

set_option maxHeartbeats 1000000 in
theorem containsTerm_any (w : World) (b : Nat) (ad : Option Addr) (c : Nat) (l : List Ax.Term) (v : Ax.Term) (h : w.ownsRow b 102 2 (.slice ad l.length c) l.length (termCells l)) :
    Calls Try.prog 59 #[.slice ad l.length c, .agg #[.int .i64 v.kind, .string v.text]] w fun e w' => e = .returned (.bool (Ax.hasTerm l v)) ∧ Below w.heap.size w w' := by
  have hle := ownsRow_le h
  go_enter Try.func59, Try.ntmps59
  go_wp2_with (go_at_call 66; refine (indexTerm_any _ _ _ _ _ _ (h.alloc _)).mono ?_; rintro e w' ⟨i, rfl, hi, hb1⟩; have HI : Hid (0 ≤ i ↔ v ∈ l) := hi; clear hi)
  go_ret
  refine ⟨ret_bool (by rw [Bool.eq_iff_iff, Ax.hasTerm_iff]; simp; exact HI.out), ?_⟩
  exact ((Below.refl _ _).alloc (Nat.le_refl _) _).trans (hb1.mono (by simp))
end Go.Proofs.Ytdmicblafmhflaa
