/- axiomkeep: terms, in. -/
import Derived.Test.YtdmicblafmhflaaV0
import Derived.Deep.RegionWith
namespace Go.Proofs.Ytdmicblafmhflaa
set_option linter.unusedSimpArgs false
set_option linter.unusedVariables false
open Go.RowKit

def natCells (l : List Nat) : List Value := l.map fun (n : Nat) => .int .i64 (n : Int)
theorem natCells_get (l : List Nat) (k : Nat) (h : k < l.length) : (natCells l)[k]? = some (.int .i64 l[k]) := by simp [natCells, h]

theorem ownsRow_lits {w : World} {b : Nat} {e : TypeId} {xs : List Value} {n : Nat} (hs : xs.length = n) (hn : n ≤ 1000) (hb : b ≤ w.heap.size) : (w.alloc (.cells xs.toArray e)).ownsRow b e 1 (.slice (some ⟨w.heap.size, 0, none⟩) n n) n xs :=
  ⟨by omega, .inr ⟨w.heap.size, n, xs.toArray, rfl, hb, heap_alloc_new _ _, Nat.le_refl _, by unfold maxLen; omega, by simp [hs], by simp [← hs]⟩⟩
theorem lits2 {w : World} {o : Obj} {b : Nat} {e : TypeId} {xs : List Value} {n : Nat} (hs : xs.length = n) (hn : n ≤ 1000) (hb : b ≤ w.heap.size) : ((w.alloc o).alloc (.cells xs.toArray e)).ownsRow b e 1 (.slice (some ⟨w.heap.size + 1, 0, none⟩) n n) n xs := by
  have := ownsRow_lits (w := w.alloc o) (b := b) (e := e) (xs := xs) (n := n) hs hn (by simp; omega)
  rw [World.size_alloc] at this
  exact this

set_option maxRecDepth 100000 in
set_option maxHeartbeats 2000000 in
theorem terms_any' (w : World) (a : Ax.KAtom) (hp : Fit64 a.pred) (ha : Fit64 a.a) (hb : Fit64 a.b) : Calls Try.prog 14 #[.agg #[.int .i64 a.pred, .int .i64 a.a, .int .i64 a.b]] w fun e w' => ∃ d c, e = .returned (.slice d (Ax.gterms a).length c) ∧ w'.ownsRow w.heap.size 3 1 (.slice d (Ax.gterms a).length c) (Ax.gterms a).length (natCells (Ax.gterms a)) ∧ Below w.heap.size w w' := by
  have hpl := fun w => places_any a.pred w hp
  have hta := fun w => term_any a.a w ha
  have htb := fun w => term_any a.b w hb
  unfold Ax.gterms
  by_cases h0 : Ax.gpick a.pred 3 = 0
  · simp only [h0, if_true] at hpl ⊢
    generalize Ax.gpick a.a 7 = x at *
    generalize Ax.gpick a.b 7 = y at *
    clear htb
    go_enter Try.func14, Try.ntmps14
    go_wp2_with (first | (go_at_call 20; refine (hpl _).mono ?_; rintro e w1 ⟨rfl, rfl⟩) | (go_at_call 21; refine (hta _).mono ?_; rintro e w2 ⟨rfl, rfl⟩))
    go_ret
    exact ⟨_, _, rfl, lits2 (xs := natCells [x]) (n := 1) rfl (by decide) (Nat.le_refl _), ((Below.refl _ _).alloc (Nat.le_refl _) _).alloc (by simp) _⟩
  · simp only [h0, if_false] at hpl ⊢
    generalize Ax.gpick a.a 7 = x at *
    generalize Ax.gpick a.b 7 = y at *
    go_enter Try.func14, Try.ntmps14
    go_wp2_with (first | (go_at_call 20; refine (hpl _).mono ?_; rintro e w1 ⟨rfl, rfl⟩))
    go_region_with (first | (go_at_call_of 21 (Value.int IntKind.i64 a.a); refine (hta _).mono ?_; rintro e w2 ⟨rfl, rfl⟩) | (go_at_call 21; refine (htb _).mono ?_; rintro e w2 ⟨rfl, rfl⟩))
    all_goals (go_wp2_with fail)
    all_goals go_ret
    all_goals exact ⟨_, _, rfl, lits2 (xs := natCells [x, y]) (n := 2) rfl (by decide) (Nat.le_refl _), (((Below.refl _ _).alloc (Nat.le_refl _) _).alloc (by simp) _).drew⟩

/-- in -/
theorem in_any (w : World) (b : Nat) (ld : Option Addr) (lc : Nat) (l : List Nat) (h : w.ownsRow b 3 1 (.slice ld l.length lc) l.length (natCells l)) (n : Nat) : Calls Try.prog 19 #[.slice ld l.length lc, .int .i64 n] w fun e w' => e = .returned (.bool (decide (n ∈ l))) ∧ w' = w := by
  have hle := ownsRow_le h
  generalize hR : decide (n ∈ l) = R
  go_enter Try.func19, Try.ntmps19
  go_wp2_with fail
  go_loopw [5] (fun iv wr => ∃ (i : Nat), i ≤ l.length ∧ iv = .int .i64 i ∧ wr = w ∧ ∀ k (hk : k < l.length), k < i → l[k] ≠ n) (fun iv _ => l.length - (intOf iv).toNat)
  case atStart => exact ⟨0, Nat.zero_le _, rfl, rfl, fun k _ hk => by omega⟩
  case round =>
    obtain ⟨i, hi, rfl, hwr, hno⟩ := hrel
    subst hwr
    have HNO : Hid (∀ k (hk : k < l.length), k < i → l[k] ≠ n) := hno
    clear hno
    by_cases hlt : i < l.length
    · obtain ⟨g, rfl, hg, hc, hcs⟩ := row_cells h (by omega)
      have c0 := hcs _ _ (natCells_get l i hlt)
      clear hcs
      obtain ⟨x, hx⟩ : ∃ x, l[i] = x := ⟨_, rfl⟩
      rw [hx] at c0
      have HX : Hid (l[i] = x) := hx
      clear hx
      by_cases e : x = n
      · have hb : (((x : Nat) : Int) == ((n : Nat) : Int)) = true := by simp [e]
        have HR : Hid (R = true) := by
          rw [← hR]
          show decide _ = true
          rw [decide_eq_true_eq, ← e, ← HX.out]
          exact List.getElem_mem hlt
        clear hR
        go_wp2_with fail
        go_ret
        exact ⟨by rw [HR.out]; rfl, rfl⟩
      · have hb : (((x : Nat) : Int) == ((n : Nat) : Int)) = false := by simp; omega
        go_wp2_with fail
        go_roundw
        case rel =>
          refine ⟨i + 1, by omega, by go_num, trivial, fun k hk hki => ?_⟩
          by_cases ek : k = i
          · subst ek; rw [HX.out]; exact e
          · exact HNO.out k hk (by omega)
        case measure => simp [intOf]; omega
    · have HR : Hid (R = false) := by
        rw [← hR]
        show decide _ = false
        rw [decide_eq_false_iff_not]
        intro hm
        obtain ⟨k, hk, e⟩ := List.getElem_of_mem hm
        exact HNO.out k hk (by omega) e
      clear hR
      go_wp2_with fail
      go_ret
      exact ⟨by rw [HR.out]; rfl, rfl⟩
end Go.Proofs.Ytdmicblafmhflaa
