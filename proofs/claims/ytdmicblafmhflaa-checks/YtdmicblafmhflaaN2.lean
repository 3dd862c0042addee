/- isWide, bodyHas's closure; slices.IndexFunc, slices.ContainsFunc with each. -/
import Derived.Test.YtdmicblafmhflaaN1
namespace Go.Proofs.Ytdmicblafmhflaa
set_option linter.unusedSimpArgs false
set_option linter.unusedVariables false
open Go.RowKit

theorem atomCells_get (l : List MA) (k : Nat) (h : k < l.length) :
    (atomCells l)[k * 3]? = some (.int .i64 (l[k]).1.at_) ∧ (atomCells l)[k * 3 + 1]? = some (.string (l[k]).1.pred) ∧ (atomCells l)[k * 3 + 2]? = some (l[k]).2 := by
  induction l generalizing k with
  | nil => simp at h
  | cons a l ih =>
    cases k with
    | zero => simp [atomCells]
    | succ k =>
      have := ih k (by simpa using h)
      have e : ∀ j, (atomCells (a :: l))[(k + 1) * 3 + j]? = (atomCells l)[k * 3 + j]? := by
        intro j
        have : atomCells (a :: l) = [.int .i64 a.1.at_, .string a.1.pred, a.2] ++ atomCells l := by simp [atomCells]
        rw [this, List.getElem?_append_right (by simp; omega)]
        congr 1
        simp; omega
      have e0 := e 0
      simp only [Nat.add_zero] at e0
      rw [e0, e 1, e 2]
      simpa using this

set_option maxHeartbeats 400000 in
theorem isWide_any (w : World) (a : Ax.Atom) (ad : Option Addr) (c : Nat) (hn : a.terms.length ≤ 9223372036854775807) :
    Calls Try.prog 42 #[.agg #[.int .i64 a.at_, .string a.pred, .slice ad a.terms.length c]] w fun e w' => e = .returned (.bool (Ax.wide a)) ∧ Below w.heap.size w w' := by
  go_enter Try.func42, Try.ntmps42
  go_wp2_with fail
  go_ret
  exact ⟨ret_bool (by unfold Ax.wide; rw [Bool.eq_iff_iff]; simp; omega), (Below.refl _ _).alloc (Nat.le_refl _) _⟩

set_option maxHeartbeats 400000 in
theorem bodyHas1_any (w : World) (x : Int) (y : ByteArray) (b : Nat) (ad : Option Addr) (c : Nat) (l : List Ax.Term) (t : Ax.Term) (tb : Nat) (h : w.ownsRow b 102 2 (.slice ad l.length c) l.length (termCells l))
    (ht : w.heap[tb]? = some (.cells #[.int .i64 t.kind, .string t.text] 102 (0, 0))) :
    Calls Try.prog 58 #[.agg #[.int .i64 x, .string y, .slice ad l.length c], .pointer (some ⟨tb, 0, none⟩)] w fun e w' => e = .returned (.bool (Ax.hasTerm l t)) ∧ Below w.heap.size w w' := by
  have k0 := cell_at ht 0
  have k1 := cell_at ht 1
  have hlt := lt_of_heap ht
  simp only [List.getElem?_toArray, List.getElem?_cons_zero, List.getElem?_cons_succ] at k0 k1
  have hle := ownsRow_le h
  go_enter Try.func58, Try.ntmps58
  go_wp2_with (go_at_call 59; refine (containsTerm_any _ _ _ _ _ t (h.alloc _)).mono ?_; rintro e w' ⟨rfl, hb1⟩)
  go_ret
  exact ⟨rfl, ((Below.refl _ _).alloc (Nat.le_refl _) _).trans (hb1.mono (by simp))⟩

set_option maxHeartbeats 1000000 in
theorem indexWide_any (w : World) (b : Nat) (ad : Option Addr) (c : Nat) (l : List MA) (h : w.ownsRow b 89 3 (.slice ad l.length c) l.length (atomCells l)) (hok : oks w l) :
    Calls Try.prog 57 #[.slice ad l.length c, .func (Fn.func 42) #[] #[]] w fun e w' => ∃ i : Int, e = .returned (.int .i64 i) ∧ (0 ≤ i ↔ ∃ x, x ∈ l ∧ Ax.wide x.1 = true) ∧ Below w.heap.size w w' := by
  have hle := ownsRow_le h
  go_enter Try.func57, Try.ntmps57
  go_wp2_with fail
  go_loopw [8] (fun i wr => ∃ k : Nat, k ≤ l.length ∧ i = .int .i64 k ∧ Below w.heap.size w wr ∧ ∀ j (hj : j < l.length), j < k → Ax.wide (l[j]).1 = false) (fun i _ => l.length - (intOf i).toNat)
  case atStart => exact ⟨0, Nat.zero_le _, rfl, Below.refl _ _, fun j _ hj => by omega⟩
  case round =>
    obtain ⟨k, hk, rfl, hbel, hno⟩ := hrel
    have HNO : Hid (∀ j (hj : j < l.length), j < k → Ax.wide (l[j]).1 = false) := hno
    clear hno
    by_cases hlt : k < l.length
    · have hrow := ownsRow_below h hbel
      obtain ⟨g, rfl, hg, hc, hcs⟩ := row_cells hrow (by omega)
      have hcell0 := hcs _ _ (atomCells_get l k hlt).1
      have hcell1 := hcs _ _ (atomCells_get l k hlt).2.1
      have hcell2 := hcs _ _ (atomCells_get l k hlt).2.2
      have hxk : MA.ok wr l[k] := oks_below hok hbel _ (List.getElem_mem hlt)
      obtain ⟨ad', c', hsh⟩ := ownsRow_shape hxk
      unfold MA.ok at hxk
      rw [hsh] at hcell2 hxk
      generalize ha : (l[k]).1 = a at hcell0 hcell1 hcell2 hxk
      have HA : Hid ((l[k]).1 = a) := ha
      clear ha hsh hcs hrow
      have hnk := ownsRow_le hxk
      cases hv : Ax.wide a
      case true =>
        go_wp2_with (go_at_call 42; refine (isWide_any _ _ _ _ hnk).mono ?_; rintro e w1 ⟨rfl, hb1⟩)
        go_ret
        refine ⟨k, rfl, ⟨fun _ => ⟨l[k], List.getElem_mem hlt, by rw [HA.out]; exact hv⟩, fun _ => by omega⟩, hbel.trans (hb1.mono hbel.size)⟩
      case false =>
        go_wp2_with (go_at_call 42; refine (isWide_any _ _ _ _ hnk).mono ?_; rintro e w1 ⟨rfl, hb1⟩)
        go_roundw
        case rel =>
          refine ⟨k + 1, by omega, by go_num, hbel.trans (hb1.mono hbel.size), fun j hj hjk => ?_⟩
          by_cases e : j = k
          · subst e; rw [HA.out]; exact hv
          · exact HNO.out j hj (by omega)
        case measure => simp [intOf]; omega
    · go_wp2_with fail
      go_ret
      refine ⟨-1, rfl, ⟨fun h => by omega, fun hm => ?_⟩, hbel⟩
      obtain ⟨x, hx, hp⟩ := hm
      obtain ⟨j, hj, e⟩ := List.getElem_of_mem hx
      have := HNO.out j hj (by omega)
      rw [e, hp] at this
      cases this

set_option maxHeartbeats 1000000 in
theorem containsWide_any (w : World) (b : Nat) (ad : Option Addr) (c : Nat) (l : List MA) (h : w.ownsRow b 89 3 (.slice ad l.length c) l.length (atomCells l)) (hok : oks w l) :
    Calls Try.prog 40 #[.slice ad l.length c, .func (Fn.func 42) #[] #[]] w fun e w' => e = .returned (.bool (Ax.anyWide (l.map Prod.fst))) ∧ Below w.heap.size w w' := by
  have hle := ownsRow_le h
  go_enter Try.func40, Try.ntmps40
  go_wp2_with (go_at_call 57; refine (indexWide_any _ _ _ _ _ h hok).mono ?_; rintro e w' ⟨i, rfl, hi, hb1⟩; have HI : Hid (0 ≤ i ↔ ∃ x, x ∈ l ∧ Ax.wide x.1 = true) := hi; clear hi)
  go_ret
  refine ⟨ret_bool ?_, hb1⟩
  unfold Ax.anyWide
  rw [Bool.eq_iff_iff, List.any_eq_true]
  simp only [decide_eq_true_eq, List.mem_map]
  rw [HI.out]
  constructor
  · rintro ⟨x, hx, hp⟩; exact ⟨x.1, ⟨x, hx, rfl⟩, hp⟩
  · rintro ⟨_, ⟨x, hx, rfl⟩, hp⟩; exact ⟨x, hx, hp⟩

set_option maxHeartbeats 1000000 in
theorem indexHas_any (w : World) (b : Nat) (ad : Option Addr) (c : Nat) (l : List MA) (h : w.ownsRow b 89 3 (.slice ad l.length c) l.length (atomCells l)) (hok : oks w l) (t : Ax.Term) (tb : Nat) (ht : w.heap[tb]? = some (.cells #[.int .i64 t.kind, .string t.text] 102 (0, 0))) :
    Calls Try.prog 57 #[.slice ad l.length c, .func (Fn.func 58) #[] #[.pointer (some ⟨tb, 0, none⟩)]] w fun e w' => ∃ i : Int, e = .returned (.int .i64 i) ∧ (0 ≤ i ↔ ∃ x, x ∈ l ∧ Ax.hasTerm x.1.terms t = true) ∧ Below w.heap.size w w' := by
  have hle := ownsRow_le h
  go_enter Try.func57, Try.ntmps57
  go_wp2_with fail
  go_loopw [8] (fun i wr => ∃ k : Nat, k ≤ l.length ∧ i = .int .i64 k ∧ Below w.heap.size w wr ∧ ∀ j (hj : j < l.length), j < k → Ax.hasTerm (l[j]).1.terms t = false) (fun i _ => l.length - (intOf i).toNat)
  case atStart => exact ⟨0, Nat.zero_le _, rfl, Below.refl _ _, fun j _ hj => by omega⟩
  case round =>
    obtain ⟨k, hk, rfl, hbel, hno⟩ := hrel
    have HNO : Hid (∀ j (hj : j < l.length), j < k → Ax.hasTerm (l[j]).1.terms t = false) := hno
    clear hno
    by_cases hlt : k < l.length
    · have hrow := ownsRow_below h hbel
      obtain ⟨g, rfl, hg, hc, hcs⟩ := row_cells hrow (by omega)
      have hcell0 := hcs _ _ (atomCells_get l k hlt).1
      have hcell1 := hcs _ _ (atomCells_get l k hlt).2.1
      have hcell2 := hcs _ _ (atomCells_get l k hlt).2.2
      have hxk : MA.ok wr l[k] := oks_below hok hbel _ (List.getElem_mem hlt)
      obtain ⟨ad', c', hsh⟩ := ownsRow_shape hxk
      unfold MA.ok at hxk
      rw [hsh] at hcell2 hxk
      generalize ha : (l[k]).1 = a at hcell0 hcell1 hcell2 hxk
      have HA : Hid ((l[k]).1 = a) := ha
      clear ha hsh hcs hrow
      have ht' := (hbel.block tb (lt_of_heap ht)).trans ht
      cases hv : Ax.hasTerm a.terms t
      case true =>
        go_wp2_with (go_at_call 58; refine (bodyHas1_any _ _ _ _ _ _ _ t tb hxk ht').mono ?_; rintro e w1 ⟨rfl, hb1⟩)
        go_ret
        refine ⟨k, rfl, ⟨fun _ => ⟨l[k], List.getElem_mem hlt, by rw [HA.out]; exact hv⟩, fun _ => by omega⟩, hbel.trans (hb1.mono hbel.size)⟩
      case false =>
        go_wp2_with (go_at_call 58; refine (bodyHas1_any _ _ _ _ _ _ _ t tb hxk ht').mono ?_; rintro e w1 ⟨rfl, hb1⟩)
        go_roundw
        case rel =>
          refine ⟨k + 1, by omega, by go_num, hbel.trans (hb1.mono hbel.size), fun j hj hjk => ?_⟩
          by_cases e : j = k
          · subst e; rw [HA.out]; exact hv
          · exact HNO.out j hj (by omega)
        case measure => simp [intOf]; omega
    · go_wp2_with fail
      go_ret
      refine ⟨-1, rfl, ⟨fun h => by omega, fun hm => ?_⟩, hbel⟩
      obtain ⟨x, hx, hp⟩ := hm
      obtain ⟨j, hj, e⟩ := List.getElem_of_mem hx
      have := HNO.out j hj (by omega)
      rw [e, hp] at this
      cases this

set_option maxHeartbeats 1000000 in
theorem containsHas_any (w : World) (b : Nat) (ad : Option Addr) (c : Nat) (l : List MA) (h : w.ownsRow b 89 3 (.slice ad l.length c) l.length (atomCells l)) (hok : oks w l) (t : Ax.Term) (tb : Nat) (ht : w.heap[tb]? = some (.cells #[.int .i64 t.kind, .string t.text] 102 (0, 0))) :
    Calls Try.prog 40 #[.slice ad l.length c, .func (Fn.func 58) #[] #[.pointer (some ⟨tb, 0, none⟩)]] w fun e w' => e = .returned (.bool (Ax.bodyHas (l.map Prod.fst) t)) ∧ Below w.heap.size w w' := by
  have hle := ownsRow_le h
  go_enter Try.func40, Try.ntmps40
  go_wp2_with (go_at_call 57; refine (indexHas_any _ _ _ _ _ h hok t tb ht).mono ?_; rintro e w' ⟨i, rfl, hi, hb1⟩; have HI : Hid (0 ≤ i ↔ ∃ x, x ∈ l ∧ Ax.hasTerm x.1.terms t = true) := hi; clear hi)
  go_ret
  refine ⟨ret_bool ?_, hb1⟩
  unfold Ax.bodyHas
  rw [Bool.eq_iff_iff, List.any_eq_true]
  simp only [decide_eq_true_eq, List.mem_map]
  rw [HI.out]
  constructor
  · rintro ⟨x, hx, hp⟩; exact ⟨x.1, ⟨x, hx, rfl⟩, hp⟩
  · rintro ⟨_, ⟨x, hx, rfl⟩, hp⟩; exact ⟨x, hx, hp⟩
end Go.Proofs.Ytdmicblafmhflaa
