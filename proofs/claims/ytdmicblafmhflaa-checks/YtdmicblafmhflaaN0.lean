/- slices.Index, slices.Contains at strings and at terms. -/
import Derived.Test.YtdmicblafmhflaaM8
import Derived.Test.YtdmicblafmhflaaPP
namespace Go.Proofs.Ytdmicblafmhflaa
set_option linter.unusedSimpArgs false
set_option linter.unusedVariables false
open Go.RowKit

/-- the cells of a slice that has an element -/
theorem row_cells {w : World} {b : Nat} {e : TypeId} {size : Nat} {ad : Option Addr} {n c : Nat} {xs : List Value} (h : w.ownsRow b e size (.slice ad n c) n xs) (hn : 0 < n) :
    ∃ g, ad = some ⟨g, 0, none⟩ ∧ g < w.heap.size ∧ n ≤ c ∧ ∀ j u, xs[j]? = some u → w.cell? ⟨g, j, none⟩ = some u := by
  have hcs := fun g hg => World.ownsRow.cells h (g := g) hg
  rcases h.2 with ⟨e1, e2⟩ | ⟨g, cap, cur, e1, _, hg, hc, _⟩
  · omega
  · simp only [Value.slice.injEq] at e1
    obtain ⟨rfl, _, rfl⟩ := e1
    refine ⟨g, rfl, lt_of_heap hg, hc, ?_⟩
    intro j u hu
    have := hcs g rfl j u hu
    have hadd : (⟨g, 0, none⟩ : Addr).add j = ⟨g, j, none⟩ := by unfold Addr.add; split <;> simp_all
    rw [hadd] at this
    exact this

theorem ownsRow_le {w : World} {b : Nat} {e : TypeId} {size : Nat} {v : Value} {n : Nat} {xs : List Value} (h : w.ownsRow b e size v n xs) : n ≤ 9223372036854775807 := by
  rcases h.2 with ⟨_, rfl⟩ | ⟨g, cap, cur, _, _, _, h1, h2, _⟩
  · omega
  · unfold maxLen at h2; omega

def strCells (l : List ByteArray) : List Value := l.map .string
theorem strCells_get (l : List ByteArray) (k : Nat) (h : k < l.length) : (strCells l)[k]? = some (.string l[k]) := by simp [strCells, h]

theorem beq_bytes (a b : ByteArray) : (a.toList == b.toList) = decide (a = b) := by
  rw [toList_eq, toList_eq, Bool.eq_iff_iff]
  rcases a with ⟨⟨a⟩⟩
  rcases b with ⟨⟨b⟩⟩
  simp

set_option maxHeartbeats 1000000 in
theorem indexStr_any (w : World) (b : Nat) (ad : Option Addr) (c : Nat) (l : List ByteArray) (v : ByteArray) (h : w.ownsRow b 9 1 (.slice ad l.length c) l.length (strCells l)) :
    Calls Try.prog 65 #[.slice ad l.length c, .string v] w fun e w' => ∃ i : Int, e = .returned (.int .i64 i) ∧ (0 ≤ i ↔ v ∈ l) ∧ w' = w := by
  have hle := ownsRow_le h
  go_enter Try.func65, Try.ntmps65
  go_wp2_with fail
  go_loop [8] (fun i => ∃ k : Nat, k ≤ l.length ∧ i = .int .i64 k ∧ ∀ j (hj : j < l.length), j < k → v ≠ l[j]) (fun i => l.length - (intOf i).toNat)
  case atStart => exact ⟨0, Nat.zero_le _, rfl, fun j _ hj => by omega⟩
  case round =>
    obtain ⟨k, hk, rfl, hno⟩ := hrel
    have HNO : Hid (∀ j (hj : j < l.length), j < k → v ≠ l[j]) := hno
    clear hno
    by_cases hlt : k < l.length
    · obtain ⟨g, rfl, hg, hc, hcs⟩ := row_cells h (by omega)
      have hcell := hcs _ _ (strCells_get l k hlt)
      clear hcs
      generalize hx : l[k] = x at hcell
      have HX : Hid (l[k] = x) := hx
      clear hx
      by_cases hv : v = x
      · have hb : (v.toList == x.toList) = true := by rw [beq_bytes]; simp [hv]
        have HV : Hid (v = x) := hv
        clear hv
        go_wp2_with fail
        go_ret
        refine ⟨k, rfl, ⟨fun _ => ?_, fun _ => by omega⟩, rfl⟩
        rw [HV.out, ← HX.out]
        exact List.getElem_mem hlt
      · have hb : (v.toList == x.toList) = false := by rw [beq_bytes]; simp [hv]
        have HV : Hid (¬ v = x) := hv
        clear hv
        go_wp2_with fail
        go_round
        case rel =>
          refine ⟨k + 1, by omega, by go_num, fun j hj hjk => ?_⟩
          by_cases e : j = k
          · subst e; rw [HX.out]; exact HV.out
          · exact HNO.out j hj (by omega)
        case measure => simp [intOf]; omega
    · go_wp2_with fail
      go_ret
      refine ⟨-1, rfl, ⟨fun h => by omega, fun hm => ?_⟩, rfl⟩
      obtain ⟨j, hj, e⟩ := List.getElem_of_mem hm
      exact absurd e.symm (HNO.out j hj (by omega))

set_option maxHeartbeats 1000000 in
theorem containsStr_any (w : World) (b : Nat) (ad : Option Addr) (c : Nat) (l : List ByteArray) (v : ByteArray) (h : w.ownsRow b 9 1 (.slice ad l.length c) l.length (strCells l)) :
    Calls Try.prog 56 #[.slice ad l.length c, .string v] w fun e w' => e = .returned (.bool (Ax.has l v)) ∧ w' = w := by
  have hle := ownsRow_le h
  go_enter Try.func56, Try.ntmps56
  go_wp2_with (go_at_call 65; refine (indexStr_any _ _ _ _ _ _ h).mono ?_; rintro e w' ⟨i, rfl, hi, rfl⟩; have HI : Hid (0 ≤ i ↔ v ∈ l) := hi; clear hi)
  go_ret
  exact ⟨ret_bool (by rw [Bool.eq_iff_iff]; rw [Ax.has_iff]; simp; exact HI.out), rfl⟩
end Go.Proofs.Ytdmicblafmhflaa
