/- (Rule).atoms, bodyHas. -/
import Derived.Test.YtdmicblafmhflaaGreatDoorC08
import Derived.Laws.AppendOwnNone
import Derived.Test.YtdmicblafmhflaaGreatDoorC04
import Derived.Test.YtdmicblafmhflaaGreatDoorC00
import Derived.Deep.RegionWith
import Derived.Below

namespace Go.Proofs.YtdmicblafmhflaaGreatDoor
set_option linter.unusedSimpArgs false
set_option linter.unusedVariables false
open Go.RowKit
theorem ownsRow_lit {w : World} {b : Nat} {e : TypeId} {xs : List Value} {size : Nat} (hs : xs.length = size) (hb : b ≤ w.heap.size) : (w.alloc (.cells xs.toArray e)).ownsRow b e size (.slice (some ⟨w.heap.size, 0, none⟩) 1 1) 1 xs :=
  ⟨by simpa using hs, .inr ⟨w.heap.size, 1, xs.toArray, rfl, hb, heap_alloc_new _ _, Nat.le_refl _, by unfold maxLen; omega, by simpa using hs, by simp [← hs]⟩⟩
/-- the slice of one atom, in the second of two new blocks -/
theorem lit2 (w : World) (o : Obj) (e : TypeId) (x y z : Value) : ((w.alloc o).alloc (.cells #[x, y, z] e)).ownsRow (w.heap.size + 1) e 3 (.slice (some ⟨w.heap.size + 1, 0, none⟩) 1 1) 1 [x, y, z] := by
  have := ownsRow_lit (w := w.alloc o) (b := w.heap.size + 1) (e := e) (xs := [x, y, z]) (size := 3) rfl (by simp)
  rw [World.size_alloc] at this
  exact this
theorem new2 (w : World) (o o' : Obj) : ((w.alloc o).alloc o').heap[w.heap.size + 1]? = some o' := by
  have := heap_alloc_new (w.alloc o) o'
  rw [World.size_alloc] at this
  exact this
theorem atomCells_len (l : List MA) : (atomCells l).length = l.length * 3 := by induction l with | nil => rfl | cons a l ih => simp [atomCells] at ih ⊢; omega
theorem atomCells_one {w : World} {l : List MA} (h : oks w l) : ∀ u ∈ atomCells l, u.oneCell' = true := by
  intro u hu
  simp only [atomCells, List.mem_flatMap, List.mem_cons, List.not_mem_nil, or_false] at hu
  obtain ⟨x, hx, hu⟩ := hu
  rcases hu with rfl | rfl | rfl
  · rfl
  · rfl
  · obtain ⟨a, c, e⟩ := ownsRow_shape (h x hx)
    rw [e]; rfl
set_option maxHeartbeats 1000000 in
theorem atomsOf_any (w : World) (a : Ax.Atom) (ad : Option Addr) (c : Nat) (bd : Option Addr) (d : Nat) (l : List MA) (h : MR.ok w ⟨(a, .slice ad a.terms.length c), .slice bd l.length d, l⟩) (hl : l.length ≤ 1000) :
    Calls Tryz.prog 112 #[.agg #[.int .i64 a.at_, .string a.pred, .slice ad a.terms.length c, .slice bd l.length d]] w fun e w' => ∃ ad' c', e = .returned (.slice ad' (l.length + 1) c') ∧ w'.ownsRow 0 219 3 (.slice ad' (l.length + 1) c') (l.length + 1) (atomCells ((a, .slice ad a.terms.length c) :: l)) ∧ oks w' ((a, .slice ad a.terms.length c) :: l) ∧ Below w.heap.size w w' := by
  obtain ⟨i0, hi, hz0, hz1, hz2⟩ := info_parts Tryz.infoAtom
  obtain ⟨hh, hb, hoks⟩ := h
  simp only at hh hb hoks
  have hall : oks w ((a, .slice ad a.terms.length c) :: l) := by
    intro x hx
    rcases List.mem_cons.1 hx with rfl | hx
    · exact hh
    · exact hoks x hx
  have h1 := atomCells_one hoks
  have hlen := atomCells_len l
  have hend : ∀ w', Below w.heap.size w w' → oks w' ((a, .slice ad a.terms.length c) :: l) := fun w' hw => oks_below hall hw
  have hcells : atomCells ((a, .slice ad a.terms.length c) :: l) = [.int .i64 a.at_, .string a.pred, .slice ad a.terms.length c] ++ atomCells l := by simp [atomCells]
  have HC : Hid (atomCells ((a, .slice ad a.terms.length c) :: l) = [.int .i64 a.at_, .string a.pred, .slice ad a.terms.length c] ++ atomCells l) := hcells
  clear hcells
  rcases hb.2 with ⟨e1, e2⟩ | ⟨g, cap, cur, e1, _, hg, hcc, _⟩
  · simp only [Value.slice.injEq] at e1
    obtain ⟨rfl, _, rfl⟩ := e1
    obtain rfl : l = [] := List.eq_nil_of_length_eq_zero e2
    simp only [List.length_nil] at *
    clear h1 hlen hoks
    go_enter Tryz.func112, Tryz.ntmps112
    go_wp2_with (at_builtin; refine wpList_append_own_none rfl (.tmp 5) (.tmp 7) 220 rfl (w.heap.size + 1) 219 i0 3 Tryz.underlying220 hi _ _ _ rfl (lit2 _ _ _ _ _ _) rfl ?_)
    go_ret
    have hb2 : Below w.heap.size w ((w.alloc (.cells #[.int .i64 a.at_, .string a.pred, .slice ad a.terms.length c, .slice none 0 0] 222)).alloc (.cells #[.int .i64 a.at_, .string a.pred, .slice ad a.terms.length c] 219)) := ((Below.refl _ _).alloc (Nat.le_refl _) _).alloc (by simp) _
    exact ⟨_, _, rfl, by rw [HC.out]; exact ownsRow_base (lit2 _ _ _ _ _ _) (Nat.zero_le _), hend _ hb2, hb2⟩
  · simp only [Value.slice.injEq] at e1
    obtain ⟨rfl, _, rfl⟩ := e1
    have hcs := World.ownsRow.cells hb (g := g) rfl
    go_enter Tryz.func112, Tryz.ntmps112
    go_wp2_with (at_builtin; refine wpList_append_own _ rfl (.tmp 5) (.tmp 7) 220 rfl (w.heap.size + 1) 219 i0 _ 3 48 Tryz.underlying220 hi hz0 hz1 hz2 rfl (by decide) _ _ _ rfl (lit2 _ _ _ _ _ _) ⟨g, 0, none⟩ l.length d (atomCells l) rfl hlen (World.ownsRow.cells ((hb.alloc _).alloc _) (g := g) rfl) h1 (by unfold maxLen; omega) (by omega) (by simp) ?_; intro v2 w2 hown2 hgrow _; obtain ⟨ad', c', rfl⟩ := ownsRow_shape hown2)
    go_ret
    have hb2 : Below w.heap.size w w2 := by
      refine (((Below.refl _ _).alloc (Nat.le_refl _) _).alloc (by simp) _).grown hgrow (by simp; omega) ?_
      intro k hk
      have hk' : some (w.heap.size + 1) = some k := hk
      simp only [Option.some.injEq] at hk'
      omega
    rw [Nat.add_comm 1 l.length] at hown2
    refine ⟨ad', c', by rw [Nat.add_comm 1 l.length]; rfl, ?_, hend _ hb2, hb2⟩
    rw [HC.out]
    exact ownsRow_base hown2 (Nat.zero_le _)
set_option maxHeartbeats 1000000 in
theorem bodyHas_any (w : World) (a : Ax.Atom) (ad : Option Addr) (c : Nat) (bd : Option Addr) (d : Nat) (l : List MA) (h : MR.ok w ⟨(a, .slice ad a.terms.length c), .slice bd l.length d, l⟩) (t : Ax.Term) :
    Calls Tryz.prog 183 #[.agg #[.int .i64 a.at_, .string a.pred, .slice ad a.terms.length c, .slice bd l.length d], .agg #[.int .i64 t.kind, .string t.text]] w fun e w' => e = .returned (.bool (Ax.bodyHas (l.map Prod.fst) t)) ∧ Below w.heap.size w w' := by
  obtain ⟨_, hb, hoks⟩ := h
  simp only at hb hoks
  go_enter Tryz.func183, Tryz.ntmps183
  go_wp2_with (go_at_call 181; refine (containsHas_any _ _ _ _ l ((hb.alloc _).alloc _) (fun x hx => MA.alloc (MA.alloc (hoks x hx) _) _) t (w.heap.size + 1) (new2 _ _ _)).mono ?_; rintro e w1 ⟨rfl, hb1⟩)
  go_ret
  exact ⟨rfl, (((Below.refl _ _).alloc (Nat.le_refl _) _).alloc (by simp) _).trans (hb1.mono (by simp; omega))⟩
end Go.Proofs.YtdmicblafmhflaaGreatDoor

/- axiomkeep: pick, name, places, pred, term. -/
namespace Go.Proofs.YtdmicblafmhflaaGreatDoor
set_option linter.unusedSimpArgs false
set_option linter.unusedVariables false
open Go.RowKit
def Fit64 (c : Int) : Prop := -9223372036854775808 ≤ c ∧ c ≤ 9223372036854775807
theorem gpick_eq {c : Int} {n : Nat} {d : Int} (hd : (if c < 0 then -(c + 1) else c) = d) (h0 : 0 ≤ d) (hn : 0 < n) : d.tmod (n : Int) = ((Ax.gpick c n : Nat) : Int) := by
  unfold Ax.gpick
  rw [hd, Int.tmod_eq_emod_of_nonneg h0]
  have := Int.emod_nonneg d (show (n : Int) ≠ 0 by omega)
  omega
theorem pick_any (c : Int) (n : Nat) (w : World) (hc : Fit64 c) (hn : 0 < n) (hn2 : n ≤ 1000) : Calls Tryz.prog 27 #[.int .i64 c, .int .i64 n] w fun e w' => e = .returned (.int .i64 (Ax.gpick c n)) ∧ w' = w := by
  obtain ⟨h1, h2⟩ := hc
  by_cases h : c < 0
  · have hb : decide (c < 0) = true := by simpa using h
    have e := gpick_eq (c := c) (n := n) (d := -(c + 1)) (by rw [if_pos h]) (by omega) hn
    go_enter Tryz.func27, Tryz.ntmps27
    go_wp2
    go_ret
    exact ⟨by rw [← e]; rfl, rfl⟩
  · have hb : decide (c < 0) = false := by simpa using h
    have e := gpick_eq (c := c) (n := n) (d := c) (by rw [if_neg h]) (by omega) hn
    go_enter Tryz.func27, Tryz.ntmps27
    go_wp2
    go_ret
    exact ⟨by rw [← e]; rfl, rfl⟩
theorem pick_val (c : Int) (n k : Nat) (hc : Fit64 c) (hn : 0 < n) (hn2 : n ≤ 1000) (hk : Ax.gpick c n = k) (N : Int) (hN : N = n) : ∀ w, Calls Tryz.prog 27 #[.int .i64 c, .int .i64 N] w fun e w' => e = .returned (.int .i64 k) ∧ w' = w := by
  subst hk hN
  exact fun w => pick_any c n w hc hn hn2
theorem term_any (c : Int) (w : World) (hc : Fit64 c) : Calls Tryz.prog 124 #[.int .i64 c] w fun e w' => e = .returned (.int .i64 (Ax.gpick c 7)) ∧ w' = w := by
  have hp := pick_val c 7 _ hc (by decide) (by decide) rfl 7 rfl
  go_enter Tryz.func124, Tryz.ntmps124
  go_wp2_with (go_at_call 27; refine (hp _).mono ?_; rintro e w1 ⟨rfl, rfl⟩)
  go_ret
  exact ⟨rfl, rfl⟩
theorem places_any (c : Int) (w : World) (hc : Fit64 c) : Calls Tryz.prog 19 #[.int .i64 c] w fun e w' => e = .returned (.int .i64 (if Ax.gpick c 3 = 0 then 1 else 2)) ∧ w' = w := by
  obtain ⟨k, hk⟩ : ∃ k, Ax.gpick c 3 = k := ⟨_, rfl⟩
  have hp := pick_val c 3 k hc (by decide) (by decide) hk 3 rfl
  rw [hk]
  by_cases h0 : k = 0
  · subst h0
    go_enter Tryz.func19, Tryz.ntmps19
    go_wp2_with (go_at_call 27; refine (hp _).mono ?_; rintro e w1 ⟨rfl, rfl⟩)
    go_ret
    exact ⟨rfl, rfl⟩
  · have hb : (((k : Nat) : Int) == 0) = false := by simp; omega
    rw [if_neg h0]
    go_enter Tryz.func19, Tryz.ntmps19
    go_wp2_with (go_at_call 27; refine (hp _).mono ?_; rintro e w1 ⟨rfl, rfl⟩)
    go_ret
    exact ⟨rfl, rfl⟩
theorem gen_pred (c : Int) (w : World) (hc : Fit64 c) : Calls Tryz.prog 18 #[.int .i64 c] w fun e w' => e = .returned (.string (Ax.gpred (Ax.gpick c 3))) ∧ Below w.heap.size w w' := by
  obtain ⟨k, hk⟩ : ∃ k, Ax.gpick c 3 = k := ⟨_, rfl⟩
  have hlt : k < 3 := by rw [← hk]; exact Ax.gpick_lt c 3 (by decide)
  have hp := pick_val c 3 k hc (by decide) (by decide) hk 3 rfl
  rw [hk]
  clear hk
  have : k = 0 ∨ k = 1 ∨ k = 2 := by omega
  rcases this with rfl | rfl | rfl
  all_goals (go_enter Tryz.func18, Tryz.ntmps18)
  all_goals (go_wp2_with (go_at_call 27; refine (hp _).mono ?_; rintro e w1 ⟨rfl, rfl⟩))
  all_goals go_ret
  all_goals exact ⟨rfl, (Below.refl _ _).alloc (Nat.le_refl _) _⟩
theorem gen_name (c : Int) (w : World) (hc : Fit64 c) : Calls Tryz.prog 122 #[.int .i64 c] w fun e w' => e = .returned (.string (Ax.gname (Ax.gpick c 4))) ∧ Below w.heap.size w w' := by
  obtain ⟨k, hk⟩ : ∃ k, Ax.gpick c 4 = k := ⟨_, rfl⟩
  have hlt : k < 4 := by rw [← hk]; exact Ax.gpick_lt c 4 (by decide)
  have hp := pick_val c 4 k hc (by decide) (by decide) hk 4 rfl
  rw [hk]
  clear hk
  have : k = 0 ∨ k = 1 ∨ k = 2 ∨ k = 3 := by omega
  rcases this with rfl | rfl | rfl | rfl
  all_goals (go_enter Tryz.func122, Tryz.ntmps122)
  all_goals (go_wp2_with (go_at_call 27; refine (hp _).mono ?_; rintro e w1 ⟨rfl, rfl⟩))
  all_goals go_ret
  all_goals exact ⟨rfl, (Below.refl _ _).alloc (Nat.le_refl _) _⟩
end Go.Proofs.YtdmicblafmhflaaGreatDoor

/- axiomkeep: terms, in. -/
namespace Go.Proofs.YtdmicblafmhflaaGreatDoor
set_option linter.unusedSimpArgs false
set_option linter.unusedVariables false
open Go.RowKit
def natCells (l : List Nat) : List Value := l.map fun (n : Nat) => .int .i64 (n : Int)
theorem natCells_get (l : List Nat) (k : Nat) (h : k < l.length) : (natCells l)[k]? = some (.int .i64 l[k]) := by simp [natCells, h]
theorem ownsRow_lits {w : World} {b : Nat} {e : TypeId} {xs : List Value} {n : Nat} (hs : xs.length = n) (hn : n ≤ 1000) (hb : b ≤ w.heap.size) : (w.alloc (.cells xs.toArray e)).ownsRow b e 1 (.slice (some ⟨w.heap.size, 0, none⟩) n n) n xs :=
  ⟨by omega, .inr ⟨w.heap.size, n, xs.toArray, rfl, hb, heap_alloc_new _ _, Nat.le_refl _, by unfold maxLen; omega, by simp [hs], by simp [← hs]⟩⟩
theorem lits2 {w : World} {o : Obj} {b : Nat} {e : TypeId} {xs : List Value} {n : Nat} (hs : xs.length = n) (hn : n ≤ 1000) (hb : b ≤ w.heap.size) : ((w.alloc o).alloc (.cells xs.toArray e)).ownsRow b e 1 (.slice (some ⟨w.heap.size + 1, 0, none⟩) n n) n xs := by
  have := ownsRow_lits (w := w.alloc o) (b := b) (e := e) (xs := xs) (n := n) hs hn (by simp; omega)
  rw [World.size_alloc] at this
  exact this
set_option maxRecDepth 100000 in
set_option maxHeartbeats 2000000 in
theorem terms_any' (w : World) (a : Ax.KAtom) (hp : Fit64 a.pred) (ha : Fit64 a.a) (hb : Fit64 a.b) : Calls Tryz.prog 64 #[.agg #[.int .i64 a.pred, .int .i64 a.a, .int .i64 a.b]] w fun e w' => ∃ d c, e = .returned (.slice d (Ax.gterms a).length c) ∧ w'.ownsRow w.heap.size 3 1 (.slice d (Ax.gterms a).length c) (Ax.gterms a).length (natCells (Ax.gterms a)) ∧ Below w.heap.size w w' := by
  have hpl := fun w => places_any a.pred w hp
  have hta := fun w => term_any a.a w ha
  have htb := fun w => term_any a.b w hb
  unfold Ax.gterms
  by_cases h0 : Ax.gpick a.pred 3 = 0
  · simp only [h0, if_true] at hpl ⊢
    generalize Ax.gpick a.a 7 = x at *
    generalize Ax.gpick a.b 7 = y at *
    clear htb
    go_enter Tryz.func64, Tryz.ntmps64
    go_wp2_with (first | (go_at_call 19; refine (hpl _).mono ?_; rintro e w1 ⟨rfl, rfl⟩) | (go_at_call 124; refine (hta _).mono ?_; rintro e w2 ⟨rfl, rfl⟩))
    go_ret
    exact ⟨_, _, rfl, lits2 (xs := natCells [x]) (n := 1) rfl (by decide) (Nat.le_refl _), ((Below.refl _ _).alloc (Nat.le_refl _) _).alloc (by simp) _⟩
  · simp only [h0, if_false] at hpl ⊢
    generalize Ax.gpick a.a 7 = x at *
    generalize Ax.gpick a.b 7 = y at *
    go_enter Tryz.func64, Tryz.ntmps64
    go_wp2_with (first | (go_at_call 19; refine (hpl _).mono ?_; rintro e w1 ⟨rfl, rfl⟩))
    go_region_with (first | (go_at_call_of 124 (Value.int IntKind.i64 a.a); refine (hta _).mono ?_; rintro e w2 ⟨rfl, rfl⟩) | (go_at_call 124; refine (htb _).mono ?_; rintro e w2 ⟨rfl, rfl⟩))
    all_goals (go_wp2_with fail)
    all_goals go_ret
    all_goals exact ⟨_, _, rfl, lits2 (xs := natCells [x, y]) (n := 2) rfl (by decide) (Nat.le_refl _), (((Below.refl _ _).alloc (Nat.le_refl _) _).alloc (by simp) _).drew⟩
/-- in -/
theorem in_any (w : World) (b : Nat) (ld : Option Addr) (lc : Nat) (l : List Nat) (h : w.ownsRow b 3 1 (.slice ld l.length lc) l.length (natCells l)) (n : Nat) : Calls Tryz.prog 123 #[.slice ld l.length lc, .int .i64 n] w fun e w' => e = .returned (.bool (decide (n ∈ l))) ∧ w' = w := by
  have hle := ownsRow_le h
  generalize hR : decide (n ∈ l) = R
  go_enter Tryz.func123, Tryz.ntmps123
  go_wp2_with fail
  go_loopw [5] (fun iv wr => ∃ (i : Nat), i ≤ l.length ∧ iv = .int .i64 i ∧ wr = w ∧ ∀ k (hk : k < l.length), k < i → l[k] ≠ n) (fun iv _ => l.length - (intOf iv).toNat)
  case atStart => exact ⟨0, Nat.zero_le _, rfl, rfl, fun k _ hk => by omega⟩
  case round =>
    obtain ⟨i, hi, rfl, hwr, hno⟩ := hrel
    subst hwr
    have HNO : Hid (∀ k (hk : k < l.length), k < i → l[k] ≠ n) := hno
    clear hno
    by_cases hlt : i < l.length
    · obtain ⟨g, rfl, hg, hc, hcs⟩ := row_cells h (by omega)
      have c0 := hcs _ _ (natCells_get l i hlt)
      clear hcs
      obtain ⟨x, hx⟩ : ∃ x, l[i] = x := ⟨_, rfl⟩
      rw [hx] at c0
      have HX : Hid (l[i] = x) := hx
      clear hx
      by_cases e : x = n
      · have hb : (((x : Nat) : Int) == ((n : Nat) : Int)) = true := by simp [e]
        have HR : Hid (R = true) := by
          rw [← hR]
          show decide _ = true
          rw [decide_eq_true_eq, ← e, ← HX.out]
          exact List.getElem_mem hlt
        clear hR
        go_wp2_with fail
        go_ret
        exact ⟨by rw [HR.out]; rfl, rfl⟩
      · have hb : (((x : Nat) : Int) == ((n : Nat) : Int)) = false := by simp; omega
        go_wp2_with fail
        go_roundw
        case rel =>
          refine ⟨i + 1, by omega, by go_num, trivial, fun k hk hki => ?_⟩
          by_cases ek : k = i
          · subst ek; rw [HX.out]; exact e
          · exact HNO.out k hk (by omega)
        case measure => simp [intOf]; omega
    · have HR : Hid (R = false) := by
        rw [← hR]
        show decide _ = false
        rw [decide_eq_false_iff_not]
        intro hm
        obtain ⟨k, hk, e⟩ := List.getElem_of_mem hm
        exact HNO.out k hk (by omega) e
      clear hR
      go_wp2_with fail
      go_ret
      exact ⟨by rw [HR.out]; rfl, rfl⟩
end Go.Proofs.YtdmicblafmhflaaGreatDoor

/- What follows, worked out fact by fact: the search as a plain function, over facts and rules of any kind. No program here. -/
namespace Go.Proofs.YtdmicblafmhflaaGreatDoor.En
set_option linter.unusedSimpArgs false
set_option linter.unusedVariables false
/-- a rule, as far as the search goes: so many facts as its body, and what follows of them -/
structure SRule (F : Type) where
  k : Nat
  inst : List F → Option F
section
variable {F : Type} [DecidableEq F]
/-- all tuples of k facts (k at most 2) -/
def allT (k : Nat) (L : List F) : List (List F) := match k with
  | 0 => [[]]
  | 1 => L.map fun x => [x]
  | _ => L.flatMap fun x => L.map fun y => [x, y]
/-- those that the newest one makes whole -/
def newT (k : Nat) (P : List F) (z : F) : List (List F) := match k with
  | 0 => []
  | 1 => [[z]]
  | _ => ((P ++ [z]).map fun x => [z, x]) ++ P.map fun y => [y, z]
/-- how often a fact follows by a list of tuples -/
def cnt (r : SRule F) (ts : List (List F)) (h : F) : Nat := (ts.filterMap r.inst).count h
def lcount (l : List F) (h : F) : Nat := l.count h
def hasB (L : List F) (f : F) : Bool := decide (f ∈ L)
theorem hasB_iff {L : List F} {f : F} : hasB L f = true ↔ f ∈ L := by simp [hasB]
theorem lcount_perm {a b : List F} (h : List.Perm a b) (f : F) : lcount a f = lcount b f := h.count_eq f
theorem lcount_cons (x : F) (l : List F) (f : F) : lcount (x :: l) f = lcount l f + if x = f then 1 else 0 := by
  unfold lcount
  rw [List.count_cons]
  by_cases h : x = f <;> simp [h]
theorem cnt_eq (r : SRule F) (ts : List (List F)) (h : F) : cnt r ts h = lcount (ts.filterMap r.inst) h := rfl
theorem cnt_append (r : SRule F) (a b : List (List F)) (h : F) : cnt r (a ++ b) h = cnt r a h + cnt r b h := by simp [cnt]
theorem cnt_nil (r : SRule F) (h : F) : cnt r [] h = 0 := rfl
theorem cnt_flat_snoc (r : SRule F) (h : F) (z : F) (P : List F) : ∀ Q : List F, cnt r (Q.flatMap fun x => (P ++ [z]).map fun y => [x, y]) h = cnt r (Q.flatMap fun x => P.map fun y => [x, y]) h + cnt r (Q.map fun y => [y, z]) h
  | [] => rfl
  | q :: Q => by
    have ih := cnt_flat_snoc r h z P Q
    simp only [List.flatMap_cons, List.map_cons, List.map_append, List.map_nil, cnt_append] at ih ⊢
    have e : cnt r ([q, z] :: Q.map fun y => [y, z]) h = cnt r [[q, z]] h + cnt r (Q.map fun y => [y, z]) h := by
      rw [← cnt_append]; rfl
    rw [e]
    omega
theorem cnt_step (r : SRule F) (hk : r.k ≤ 2) (P : List F) (z : F) (h : F) : cnt r (allT r.k (P ++ [z])) h = cnt r (allT r.k P) h + cnt r (newT r.k P z) h := by
  have : r.k = 0 ∨ r.k = 1 ∨ r.k = 2 := by omega
  rcases this with e | e | e <;> rw [e]
  · simp [allT, newT, cnt_nil]
  · simp only [allT, newT, List.map_append, List.map_cons, List.map_nil, cnt_append]
  · simp only [allT, newT, List.flatMap_append, List.flatMap_cons, List.flatMap_nil, List.append_nil, cnt_append]
    rw [cnt_flat_snoc]
    omega
/-- what is found so far, in its order, and how often each -/
structure Sea (F : Type) where
  found : List F
  count : F → Nat
def hold (s : Sea F) (f : F) (n : Nat) : Sea F := ⟨if f ∈ s.found then s.found else s.found ++ [f], fun g => if g = f then s.count g + n else s.count g⟩
def holds (s : Sea F) (l : List F) : Sea F := l.foldl (fun s f => hold s f 1) s
/-- what follows by the newest fact -/
def concl (R : List (SRule F)) (P : List F) (z : F) : List F := R.flatMap fun r => (newT r.k P z).filterMap r.inst
def meet (R : List (SRule F)) (s : Sea F) (n : Nat) : Sea F := match s.found[n]? with
  | none => s
  | some z => holds s (concl R (s.found.take n) z)
/-- the search: M facts at most -/
def search (R : List (SRule F)) (M : Nat) : Nat → Nat → Sea F → Option (Sea F)
  | 0, _, _ => none
  | fuel + 1, n, s => if n < s.found.length then (if M < s.found.length then none else search R M fuel (n + 1) (meet R s n)) else some s
theorem holds_nil (s : Sea F) : holds s [] = s := rfl
theorem holds_cons (s : Sea F) (f : F) (l : List F) : holds s (f :: l) = holds (hold s f 1) l := rfl
theorem holds_append (s : Sea F) (a b : List F) : holds s (a ++ b) = holds (holds s a) b := by simp [holds]
theorem hold_found (s : Sea F) (f : F) (n : Nat) : ∃ t, (hold s f n).found = s.found ++ t ∧ (∀ g, g ∈ t → g = f) ∧ f ∈ s.found ++ t := by
  unfold hold
  by_cases h : f ∈ s.found
  · exact ⟨[], by simp [h], by simp, by simpa using h⟩
  · exact ⟨[f], by simp [h], by simp, by simp⟩
theorem hold_nodup {s : Sea F} (h : s.found.Nodup) (f : F) (n : Nat) : (hold s f n).found.Nodup := by
  unfold hold
  by_cases hf : f ∈ s.found
  · simpa [hf] using h
  · simp only [hf, if_false]
    rw [List.nodup_append]
    exact ⟨h, by simp, by simp; intro a ha e; exact hf (e ▸ ha)⟩
theorem hold_count (s : Sea F) (f : F) (n : Nat) (g : F) : (hold s f n).count g = s.count g + if g = f then n else 0 := by
  unfold hold
  by_cases h : g = f <;> simp [h]
theorem holds_spec : ∀ (l : List F) (s : Sea F), ∃ t, (holds s l).found = s.found ++ t ∧ (∀ g, g ∈ t → g ∈ l) ∧ (∀ g, g ∈ l → g ∈ s.found ++ t) ∧ (s.found.Nodup → (holds s l).found.Nodup) ∧ ∀ g, (holds s l).count g = s.count g + l.count g
  | [], s => ⟨[], by simp [holds_nil], by simp, by simp, fun h => h, fun g => by simp [holds_nil]⟩
  | f :: l, s => by
    obtain ⟨t0, e0, a0, b0⟩ := hold_found s f 1
    obtain ⟨t, e, a, b, c, d⟩ := holds_spec l (hold s f 1)
    refine ⟨t0 ++ t, ?_, ?_, ?_, ?_, ?_⟩
    · rw [holds_cons, e, e0, List.append_assoc]
    · intro g hg
      rcases List.mem_append.1 hg with hg | hg
      · rw [a0 g hg]; simp
      · exact List.mem_cons_of_mem _ (a g hg)
    · intro g hg
      rw [← List.append_assoc]
      rcases List.mem_cons.1 hg with rfl | hg
      · exact List.mem_append_left _ b0
      · have := b g hg
        rwa [e0] at this
    · intro h
      rw [holds_cons]
      exact c (hold_nodup h f 1)
    · intro g
      rw [holds_cons, d, hold_count, List.count_cons]
      by_cases h : f = g
      · subst h; simp; omega
      · have h' : ¬ g = f := fun e => h e.symm
        simp [h, h']
/-- a set of facts that what follows does not leave -/
def Closed (R : List (SRule F)) (X : F → Prop) : Prop := ∀ r, r ∈ R → ∀ fs, fs.length = r.k → (∀ f, f ∈ fs → X f) → ∀ h, r.inst fs = some h → X h
theorem mem_allT {F : Type} {k : Nat} (hk : k ≤ 2) {L : List F} {fs : List F} : fs ∈ allT k L ↔ fs.length = k ∧ ∀ f, f ∈ fs → f ∈ L := by
  have : k = 0 ∨ k = 1 ∨ k = 2 := by omega
  rcases this with e | e | e <;> subst e
  · constructor
    · intro h; simp [allT] at h; subst h; simp
    · rintro ⟨h, _⟩; simp [allT]; exact List.eq_nil_of_length_eq_zero h
  · constructor
    · intro h; simp [allT] at h; obtain ⟨x, hx, rfl⟩ := h; simpa using hx
    · rintro ⟨h, h2⟩
      match fs, h with
      | [x], _ => simp [allT]; exact h2 x (by simp)
  · constructor
    · intro h; simp [allT] at h; obtain ⟨x, hx, y, hy, rfl⟩ := h; simp [hx, hy]
    · rintro ⟨h, h2⟩
      match fs, h with
      | [x, y], _ => simp [allT]; exact ⟨h2 x (by simp), h2 y (by simp)⟩
theorem mem_newT {F : Type} {k : Nat} (hk : k ≤ 2) {P : List F} {z : F} {fs : List F} (h : fs ∈ newT k P z) : fs.length = k ∧ ∀ f, f ∈ fs → f ∈ P ++ [z] := by
  have : k = 0 ∨ k = 1 ∨ k = 2 := by omega
  rcases this with e | e | e <;> subst e
  · simp [newT] at h
  · simp [newT] at h; subst h; simp
  · simp only [newT, List.mem_append, List.mem_map] at h
    rcases h with ⟨x, hx, rfl⟩ | ⟨y, hy, rfl⟩
    · refine ⟨rfl, ?_⟩
      intro f hf
      simp at hf
      rcases hf with rfl | rfl
      · simp
      · simpa using hx
    · refine ⟨rfl, ?_⟩
      intro f hf
      simp at hf
      rcases hf with rfl | rfl
      · simp [hy]
      · simp
def total (R : List (SRule F)) (L : List F) (h : F) : Nat := (R.map fun r => cnt r (allT r.k L) h).sum
/-- what holds of the search behind the first n facts -/
structure Inv (R : List (SRule F)) (G : F → Prop) (s : Sea F) (n : Nat) : Prop where
  nodup : s.found.Nodup
  given : ∀ f, G f → f ∈ s.found
  counts : ∀ h, s.count h = total R (s.found.take n) h
  done : ∀ r, r ∈ R → ∀ fs, fs ∈ allT r.k (s.found.take n) → ∀ h, r.inst fs = some h → h ∈ s.found
  least : ∀ X, Closed R X → (∀ f, G f → X f) → ∀ f, f ∈ s.found → X f
theorem concl_count (P : List F) (z h : F) : ∀ R : List (SRule F), (∀ r, r ∈ R → r.k ≤ 2) → total R (P ++ [z]) h = total R P h + (concl R P z).count h
  | [], _ => rfl
  | r :: R, hR => by
    have ih := concl_count P z h R (fun x hx => hR x (by simp [hx]))
    unfold total concl at *
    simp only [List.map_cons, List.sum_cons, List.flatMap_cons, List.count_append]
    rw [cnt_step r (hR r (by simp)), ih]
    have e : (List.filterMap r.inst (newT r.k P z)).count h = cnt r (newT r.k P z) h := rfl
    rw [e]
    omega
theorem meet_inv {R : List (SRule F)} (hR : ∀ r, r ∈ R → r.k ≤ 2) {G : F → Prop} {s : Sea F} {n : Nat} (h : Inv R G s n) (hn : n < s.found.length) : Inv R G (meet R s n) (n + 1) := by
  have hz : s.found[n]? = some s.found[n] := List.getElem?_eq_getElem hn
  unfold meet
  rw [hz]
  simp only
  obtain ⟨t, e, a, b, c, d⟩ := holds_spec (concl R (s.found.take n) s.found[n]) s
  have htk : (holds s (concl R (s.found.take n) s.found[n])).found.take (n + 1) = s.found.take n ++ [s.found[n]] := by
    rw [e, List.take_append_of_le_length (by omega), List.take_succ_eq_append_getElem hn]
  have hsub : ∀ f, f ∈ s.found.take n ++ [s.found[n]] → f ∈ s.found := by
    intro f hf
    rcases List.mem_append.1 hf with hf | hf
    · exact List.mem_of_mem_take hf
    · simp at hf; subst hf; exact List.getElem_mem hn
  refine ⟨c h.nodup, ?_, ?_, ?_, ?_⟩
  · intro f hf
    rw [e]
    exact List.mem_append_left _ (h.given f hf)
  · intro g
    rw [htk, d, h.counts, concl_count _ _ _ R hR]
  · intro r hr fs hfs g hg
    rw [htk] at hfs
    have hk := hR r hr
    rw [e]
    have hcount := cnt_step r hk (s.found.take n) s.found[n] g
    have hpos : 0 < cnt r (allT r.k (s.found.take n ++ [s.found[n]])) g := by
      unfold cnt
      rw [List.count_pos_iff, List.mem_filterMap]
      exact ⟨fs, hfs, hg⟩
    by_cases hz : 0 < cnt r (allT r.k (s.found.take n)) g
    · unfold cnt at hz
      rw [List.count_pos_iff, List.mem_filterMap] at hz
      obtain ⟨fs', h1, h2⟩ := hz
      exact List.mem_append_left _ (h.done r hr fs' h1 g h2)
    · have hz2 : 0 < cnt r (newT r.k (s.found.take n) s.found[n]) g := by omega
      unfold cnt at hz2
      rw [List.count_pos_iff, List.mem_filterMap] at hz2
      obtain ⟨fs', h1, h2⟩ := hz2
      exact b g (List.mem_flatMap.2 ⟨r, hr, List.mem_filterMap.2 ⟨fs', h1, h2⟩⟩)
  · intro X hX hG f hf
    rw [e] at hf
    rcases List.mem_append.1 hf with hf | hf
    · exact h.least X hX hG f hf
    · obtain ⟨r, hr, hm⟩ := List.mem_flatMap.1 (a f hf)
      obtain ⟨fs, h1, h2⟩ := List.mem_filterMap.1 hm
      obtain ⟨h3, h4⟩ := mem_newT (hR r hr) h1
      exact hX r hr fs h3 (fun g hg => h.least X hX hG g (hsub g (h4 g hg))) f h2
/-- what the search comes to: the least set, each fact as often as there are instances -/
theorem search_inv {R : List (SRule F)} (hR : ∀ r, r ∈ R → r.k ≤ 2) {M : Nat} {G : F → Prop} : ∀ (fuel n : Nat) (s s' : Sea F), Inv R G s n → n ≤ s.found.length → search R M fuel n s = some s' → Inv R G s' s'.found.length
  | 0, _, _, _, _, _, h => by simp [search] at h
  | fuel + 1, n, s, s', hi, hn, h => by
    unfold search at h
    by_cases h1 : n < s.found.length
    · rw [if_pos h1] at h
      by_cases h2 : M < s.found.length
      · rw [if_pos h2] at h; cases h
      · rw [if_neg h2] at h
        refine search_inv hR fuel (n + 1) _ s' (meet_inv hR hi h1) ?_ h
        have hz : s.found[n]? = some s.found[n] := List.getElem?_eq_getElem h1
        unfold meet
        rw [hz]
        simp only
        obtain ⟨t, e, _⟩ := holds_spec (concl R (s.found.take n) s.found[n]) s
        rw [e, List.length_append]
        omega
    · rw [if_neg h1] at h
      simp only [Option.some.injEq] at h
      subst h
      have : n = s.found.length := by omega
      rw [← this]
      exact hi
/-- where all that there can be is at most M, the search comes to an end -/
theorem search_ends {R : List (SRule F)} (hR : ∀ r, r ∈ R → r.k ≤ 2) {M : Nat} {G : F → Prop} (U : List F) (hU : U.length ≤ M) (hc : Closed R (· ∈ U)) (hG : ∀ f, G f → f ∈ U) : ∀ (fuel n : Nat) (s : Sea F), Inv R G s n → n ≤ s.found.length → M < fuel + n → ∃ s', search R M fuel n s = some s'
  | 0, n, s, hi, hn, hf => by
    have hl : s.found.length ≤ U.length := List.Nodup.length_le_of_subset hi.nodup (fun f hf => hi.least (· ∈ U) hc hG f hf)
    omega
  | fuel + 1, n, s, hi, hn, hf => by
    have hl : s.found.length ≤ U.length := List.Nodup.length_le_of_subset hi.nodup (fun f hf => hi.least (· ∈ U) hc hG f hf)
    unfold search
    by_cases h1 : n < s.found.length
    · rw [if_pos h1, if_neg (by omega)]
      refine search_ends hR U hU hc hG fuel (n + 1) _ (meet_inv hR hi h1) ?_ (by omega)
      have hz : s.found[n]? = some s.found[n] := List.getElem?_eq_getElem h1
      unfold meet
      rw [hz]
      simp only
      obtain ⟨t, e, _⟩ := holds_spec (concl R (s.found.take n) s.found[n]) s
      rw [e, List.length_append]
      omega
    · rw [if_neg h1]
      exact ⟨s, rfl⟩
end
end Go.Proofs.YtdmicblafmhflaaGreatDoor.En
