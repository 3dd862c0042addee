/- (Rule).atoms, bodyHas. -/
import Derived.Test.YtdmicblafmhflaaN2
import Derived.Laws.AppendOwnNone
namespace Go.Proofs.Ytdmicblafmhflaa
set_option linter.unusedSimpArgs false
set_option linter.unusedVariables false
open Go.RowKit

/-- a rule as a value -/
def ruleVal (a : Ax.Atom) (ad : Option Addr) (n c : Nat) (bd : Option Addr) (m d : Nat) : Value := .agg #[.int .i64 a.at_, .string a.pred, .slice ad n c, .slice bd m d]

theorem ownsRow_lit {w : World} {b : Nat} {e : TypeId} {xs : List Value} {size : Nat} (hs : xs.length = size) (hb : b ≤ w.heap.size) : (w.alloc (.cells xs.toArray e)).ownsRow b e size (.slice (some ⟨w.heap.size, 0, none⟩) 1 1) 1 xs :=
  ⟨by simpa using hs, .inr ⟨w.heap.size, 1, xs.toArray, rfl, hb, heap_alloc_new _ _, Nat.le_refl _, by unfold maxLen; omega, by simpa using hs, by simp [← hs]⟩⟩

/-- the slice of one atom, in the second of two new blocks -/
theorem lit2 (w : World) (o : Obj) (e : TypeId) (x y z : Value) : ((w.alloc o).alloc (.cells #[x, y, z] e)).ownsRow (w.heap.size + 1) e 3 (.slice (some ⟨w.heap.size + 1, 0, none⟩) 1 1) 1 [x, y, z] := by
  have := ownsRow_lit (w := w.alloc o) (b := w.heap.size + 1) (e := e) (xs := [x, y, z]) (size := 3) rfl (by simp)
  rw [World.size_alloc] at this
  exact this

theorem new2 (w : World) (o o' : Obj) : ((w.alloc o).alloc o').heap[w.heap.size + 1]? = some o' := by
  have := heap_alloc_new (w.alloc o) o'
  rw [World.size_alloc] at this
  exact this

theorem atomCells_len (l : List MA) : (atomCells l).length = l.length * 3 := by induction l with | nil => rfl | cons a l ih => simp [atomCells] at ih ⊢; omega
theorem atomCells_one {w : World} {l : List MA} (h : oks w l) : ∀ u ∈ atomCells l, u.oneCell' = true := by
  intro u hu
  simp only [atomCells, List.mem_flatMap, List.mem_cons, List.not_mem_nil, or_false] at hu
  obtain ⟨x, hx, hu⟩ := hu
  rcases hu with rfl | rfl | rfl
  · rfl
  · rfl
  · obtain ⟨a, c, e⟩ := ownsRow_shape (h x hx)
    rw [e]; rfl

set_option maxHeartbeats 1000000 in
theorem atomsOf_any (w : World) (a : Ax.Atom) (ad : Option Addr) (c : Nat) (bd : Option Addr) (d : Nat) (l : List MA) (h : MR.ok w ⟨(a, .slice ad a.terms.length c), .slice bd l.length d, l⟩) (hl : l.length ≤ 1000) :
    Calls Try.prog 41 #[.agg #[.int .i64 a.at_, .string a.pred, .slice ad a.terms.length c, .slice bd l.length d]] w fun e w' => ∃ ad' c', e = .returned (.slice ad' (l.length + 1) c') ∧ w'.ownsRow 0 89 3 (.slice ad' (l.length + 1) c') (l.length + 1) (atomCells ((a, .slice ad a.terms.length c) :: l)) ∧ oks w' ((a, .slice ad a.terms.length c) :: l) ∧ Below w.heap.size w w' := by
  obtain ⟨i0, hi, hz0, hz1, hz2⟩ := info_parts Try.infoAtom
  obtain ⟨hh, hb, hoks⟩ := h
  simp only at hh hb hoks
  have hall : oks w ((a, .slice ad a.terms.length c) :: l) := by
    intro x hx
    rcases List.mem_cons.1 hx with rfl | hx
    · exact hh
    · exact hoks x hx
  have h1 := atomCells_one hoks
  have hlen := atomCells_len l
  have hend : ∀ w', Below w.heap.size w w' → oks w' ((a, .slice ad a.terms.length c) :: l) := fun w' hw => oks_below hall hw
  have hcells : atomCells ((a, .slice ad a.terms.length c) :: l) = [.int .i64 a.at_, .string a.pred, .slice ad a.terms.length c] ++ atomCells l := by simp [atomCells]
  have HC : Hid (atomCells ((a, .slice ad a.terms.length c) :: l) = [.int .i64 a.at_, .string a.pred, .slice ad a.terms.length c] ++ atomCells l) := hcells
  clear hcells
  rcases hb.2 with ⟨e1, e2⟩ | ⟨g, cap, cur, e1, _, hg, hcc, _⟩
  · simp only [Value.slice.injEq] at e1
    obtain ⟨rfl, _, rfl⟩ := e1
    obtain rfl : l = [] := List.eq_nil_of_length_eq_zero e2
    simp only [List.length_nil] at *
    clear h1 hlen hoks
    go_enter Try.func41, Try.ntmps41
    go_wp2_with (at_builtin; refine wpList_append_own_none rfl (.tmp 5) (.tmp 7) 90 rfl (w.heap.size + 1) 89 i0 3 Try.underlying90 hi _ _ _ rfl (lit2 _ _ _ _ _ _) rfl ?_)
    go_ret
    have hb2 : Below w.heap.size w ((w.alloc (.cells #[.int .i64 a.at_, .string a.pred, .slice ad a.terms.length c, .slice none 0 0] 92)).alloc (.cells #[.int .i64 a.at_, .string a.pred, .slice ad a.terms.length c] 89)) := ((Below.refl _ _).alloc (Nat.le_refl _) _).alloc (by simp) _
    exact ⟨_, _, rfl, by rw [HC.out]; exact ownsRow_base (lit2 _ _ _ _ _ _) (Nat.zero_le _), hend _ hb2, hb2⟩
  · simp only [Value.slice.injEq] at e1
    obtain ⟨rfl, _, rfl⟩ := e1
    have hcs := World.ownsRow.cells hb (g := g) rfl
    go_enter Try.func41, Try.ntmps41
    go_wp2_with (at_builtin; refine wpList_append_own _ rfl (.tmp 5) (.tmp 7) 90 rfl (w.heap.size + 1) 89 i0 _ 3 48 Try.underlying90 hi hz0 hz1 hz2 rfl (by decide) _ _ _ rfl (lit2 _ _ _ _ _ _) ⟨g, 0, none⟩ l.length d (atomCells l) rfl hlen (World.ownsRow.cells ((hb.alloc _).alloc _) (g := g) rfl) h1 (by unfold maxLen; omega) (by omega) (by simp) ?_; intro v2 w2 hown2 hgrow _; obtain ⟨ad', c', rfl⟩ := ownsRow_shape hown2)
    go_ret
    have hb2 : Below w.heap.size w w2 := by
      refine (((Below.refl _ _).alloc (Nat.le_refl _) _).alloc (by simp) _).grown hgrow (by simp; omega) ?_
      intro k hk
      have hk' : some (w.heap.size + 1) = some k := hk
      simp only [Option.some.injEq] at hk'
      omega
    rw [Nat.add_comm 1 l.length] at hown2
    refine ⟨ad', c', by rw [Nat.add_comm 1 l.length]; rfl, ?_, hend _ hb2, hb2⟩
    rw [HC.out]
    exact ownsRow_base hown2 (Nat.zero_le _)

set_option maxHeartbeats 1000000 in
theorem bodyHas_any (w : World) (a : Ax.Atom) (ad : Option Addr) (c : Nat) (bd : Option Addr) (d : Nat) (l : List MA) (h : MR.ok w ⟨(a, .slice ad a.terms.length c), .slice bd l.length d, l⟩) (t : Ax.Term) :
    Calls Try.prog 43 #[.agg #[.int .i64 a.at_, .string a.pred, .slice ad a.terms.length c, .slice bd l.length d], .agg #[.int .i64 t.kind, .string t.text]] w fun e w' => e = .returned (.bool (Ax.bodyHas (l.map Prod.fst) t)) ∧ Below w.heap.size w w' := by
  obtain ⟨_, hb, hoks⟩ := h
  simp only at hb hoks
  go_enter Try.func43, Try.ntmps43
  go_wp2_with (go_at_call 40; refine (containsHas_any _ _ _ _ l ((hb.alloc _).alloc _) (fun x hx => MA.alloc (MA.alloc (hoks x hx) _) _) t (w.heap.size + 1) (new2 _ _ _)).mono ?_; rintro e w1 ⟨rfl, hb1⟩)
  go_ret
  exact ⟨rfl, (((Below.refl _ _).alloc (Nat.le_refl _) _).alloc (by simp) _).trans (hb1.mono (by simp; omega))⟩
end Go.Proofs.Ytdmicblafmhflaa
