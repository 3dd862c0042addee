/- isWide, bodyHas's closure; slices.IndexFunc, slices.ContainsFunc with each. -/
import Derived.Test.YtdmicblafmhflaaGreatDoorC07
import Derived.Laws.AppendOwnNone
import Derived.Test.YtdmicblafmhflaaGreatDoorC03
import Derived.Test.YtdmicblafmhflaaGreatDoorC00
import Derived.Deep.RegionWith
set_option linter.unusedSimpArgs false
set_option linter.unusedVariables false
namespace Go.Proofs.YtdmicblafmhflaaGreatDoor
open Go.RowKit
theorem atomCells_get (l : List MA) (k : Nat) (h : k < l.length) :
 (atomCells l)[k * 3]? = some (.int .i64 (l[k]).1.at_) ∧ (atomCells l)[k * 3 + 1]? = some (.string (l[k]).1.pred) ∧ (atomCells l)[k * 3 + 2]? = some (l[k]).2 := by
 induction l generalizing k with
 | nil => simp at h
 | cons a l ih =>
  cases k with
  | zero => simp [atomCells]
  | succ k =>
   have := ih k (by simpa using h)
   have e : ∀ j, (atomCells (a :: l))[(k + 1) * 3 + j]? = (atomCells l)[k * 3 + j]? := by
    intro j
    have : atomCells (a :: l) = [.int .i64 a.1.at_, .string a.1.pred, a.2] ++ atomCells l := by simp [atomCells]
    rw [this, List.getElem?_append_right (by simp; omega)]
    congr 1
    simp; omega
   have e0 := e 0
   simp only [Nat.add_zero] at e0
   rw [e0, e 1, e 2]
   simpa using this
set_option maxHeartbeats 400000 in
theorem isWide_any (w : World) (a : Ax.Atom) (ad : Option Addr) (c : Nat) (hn : a.terms.length ≤ 9223372036854775807) :
 Calls Tryz.prog 182 #[.agg #[.int .i64 a.at_, .string a.pred, .slice ad a.terms.length c]] w fun e w' => e = .returned (.bool (Ax.wide a)) ∧ Below w.heap.size w w' := by
 go_enter Tryz.func182, Tryz.ntmps182
 go_wp2_with fail
 go_ret
 exact ⟨ret_bool (by unfold Ax.wide; rw [Bool.eq_iff_iff]; simp; omega), (Below.refl _ _).alloc (Nat.le_refl _) _⟩
set_option maxHeartbeats 400000 in
theorem bodyHas1_any (w : World) (x : Int) (y : ByteArray) (b : Nat) (ad : Option Addr) (c : Nat) (l : List Ax.Term) (t : Ax.Term) (tb : Nat) (h : w.ownsRow b 310 2 (.slice ad l.length c) l.length (termCells l))
 (ht : w.heap[tb]? = some (.cells #[.int .i64 t.kind, .string t.text] 310 (0, 0))) :
 Calls Tryz.prog 227 #[.agg #[.int .i64 x, .string y, .slice ad l.length c], .pointer (some ⟨tb, 0, none⟩)] w fun e w' => e = .returned (.bool (Ax.hasTerm l t)) ∧ Below w.heap.size w w' := by
 have k0 := cell_at ht 0
 have k1 := cell_at ht 1
 have hlt := lt_of_heap ht
 simp only [List.getElem?_toArray, List.getElem?_cons_zero, List.getElem?_cons_succ] at k0 k1
 have hle := ownsRow_le h
 go_enter Tryz.func227, Tryz.ntmps227
 go_wp2_with (go_at_call 228; refine (containsTerm_any _ _ _ _ _ t (h.alloc _)).mono ?_; rintro e w' ⟨rfl, hb1⟩)
 go_ret
 exact ⟨rfl, ((Below.refl _ _).alloc (Nat.le_refl _) _).trans (hb1.mono (by simp))⟩
set_option maxHeartbeats 1000000 in
theorem indexWide_any (w : World) (b : Nat) (ad : Option Addr) (c : Nat) (l : List MA) (h : w.ownsRow b 219 3 (.slice ad l.length c) l.length (atomCells l)) (hok : oks w l) :
 Calls Tryz.prog 226 #[.slice ad l.length c, .func (Fn.func 182) #[] #[]] w fun e w' => ∃ i : Int, e = .returned (.int .i64 i) ∧ (0 ≤ i ↔ ∃ x, x ∈ l ∧ Ax.wide x.1 = true) ∧ Below w.heap.size w w' := by
 have hle := ownsRow_le h
 go_enter Tryz.func226, Tryz.ntmps226
 go_wp2_with fail
 go_loopw [8] (fun i wr => ∃ k : Nat, k ≤ l.length ∧ i = .int .i64 k ∧ Below w.heap.size w wr ∧ ∀ j (hj : j < l.length), j < k → Ax.wide (l[j]).1 = false) (fun i _ => l.length - (intOf i).toNat)
 case atStart => exact ⟨0, Nat.zero_le _, rfl, Below.refl _ _, fun j _ hj => by omega⟩
 case round =>
  obtain ⟨k, hk, rfl, hbel, hno⟩ := hrel
  have HNO : Hid (∀ j (hj : j < l.length), j < k → Ax.wide (l[j]).1 = false) := hno
  clear hno
  by_cases hlt : k < l.length
  · have hrow := ownsRow_below h hbel
    obtain ⟨g, rfl, hg, hc, hcs⟩ := row_cells hrow (by omega)
    have hcell0 := hcs _ _ (atomCells_get l k hlt).1
    have hcell1 := hcs _ _ (atomCells_get l k hlt).2.1
    have hcell2 := hcs _ _ (atomCells_get l k hlt).2.2
    have hxk : MA.ok wr l[k] := oks_below hok hbel _ (List.getElem_mem hlt)
    obtain ⟨ad', c', hsh⟩ := ownsRow_shape hxk
    unfold MA.ok at hxk
    rw [hsh] at hcell2 hxk
    generalize ha : (l[k]).1 = a at hcell0 hcell1 hcell2 hxk
    have HA : Hid ((l[k]).1 = a) := ha
    clear ha hsh hcs hrow
    have hnk := ownsRow_le hxk
    cases hv : Ax.wide a
    case true =>
     go_wp2_with (go_at_call 182; refine (isWide_any _ _ _ _ hnk).mono ?_; rintro e w1 ⟨rfl, hb1⟩)
     go_ret
     refine ⟨k, rfl, ⟨fun _ => ⟨l[k], List.getElem_mem hlt, by rw [HA.out]; exact hv⟩, fun _ => by omega⟩, hbel.trans (hb1.mono hbel.size)⟩
    case false =>
     go_wp2_with (go_at_call 182; refine (isWide_any _ _ _ _ hnk).mono ?_; rintro e w1 ⟨rfl, hb1⟩)
     go_roundw
     case rel =>
      refine ⟨k + 1, by omega, by go_num, hbel.trans (hb1.mono hbel.size), fun j hj hjk => ?_⟩
      by_cases e : j = k
      · subst e; rw [HA.out]; exact hv
      · exact HNO.out j hj (by omega)
     case measure => simp [intOf]; omega
  · go_wp2_with fail
    go_ret
    refine ⟨-1, rfl, ⟨fun h => by omega, fun hm => ?_⟩, hbel⟩
    obtain ⟨x, hx, hp⟩ := hm
    obtain ⟨j, hj, e⟩ := List.getElem_of_mem hx
    have := HNO.out j hj (by omega)
    rw [e, hp] at this
    cases this
set_option maxHeartbeats 1000000 in
theorem containsWide_any (w : World) (b : Nat) (ad : Option Addr) (c : Nat) (l : List MA) (h : w.ownsRow b 219 3 (.slice ad l.length c) l.length (atomCells l)) (hok : oks w l) :
 Calls Tryz.prog 181 #[.slice ad l.length c, .func (Fn.func 182) #[] #[]] w fun e w' => e = .returned (.bool (Ax.anyWide (l.map Prod.fst))) ∧ Below w.heap.size w w' := by
 have hle := ownsRow_le h
 go_enter Tryz.func181, Tryz.ntmps181
 go_wp2_with (go_at_call 226; refine (indexWide_any _ _ _ _ _ h hok).mono ?_; rintro e w' ⟨i, rfl, hi, hb1⟩; have HI : Hid (0 ≤ i ↔ ∃ x, x ∈ l ∧ Ax.wide x.1 = true) := hi; clear hi)
 go_ret
 refine ⟨ret_bool ?_, hb1⟩
 unfold Ax.anyWide
 rw [Bool.eq_iff_iff, List.any_eq_true]
 simp only [decide_eq_true_eq, List.mem_map]
 rw [HI.out]
 constructor
 · rintro ⟨x, hx, hp⟩; exact ⟨x.1, ⟨x, hx, rfl⟩, hp⟩
 · rintro ⟨_, ⟨x, hx, rfl⟩, hp⟩; exact ⟨x, hx, hp⟩
set_option maxHeartbeats 1000000 in
theorem indexHas_any (w : World) (b : Nat) (ad : Option Addr) (c : Nat) (l : List MA) (h : w.ownsRow b 219 3 (.slice ad l.length c) l.length (atomCells l)) (hok : oks w l) (t : Ax.Term) (tb : Nat) (ht : w.heap[tb]? = some (.cells #[.int .i64 t.kind, .string t.text] 310 (0, 0))) :
 Calls Tryz.prog 226 #[.slice ad l.length c, .func (Fn.func 227) #[] #[.pointer (some ⟨tb, 0, none⟩)]] w fun e w' => ∃ i : Int, e = .returned (.int .i64 i) ∧ (0 ≤ i ↔ ∃ x, x ∈ l ∧ Ax.hasTerm x.1.terms t = true) ∧ Below w.heap.size w w' := by
 have hle := ownsRow_le h
 go_enter Tryz.func226, Tryz.ntmps226
 go_wp2_with fail
 go_loopw [8] (fun i wr => ∃ k : Nat, k ≤ l.length ∧ i = .int .i64 k ∧ Below w.heap.size w wr ∧ ∀ j (hj : j < l.length), j < k → Ax.hasTerm (l[j]).1.terms t = false) (fun i _ => l.length - (intOf i).toNat)
 case atStart => exact ⟨0, Nat.zero_le _, rfl, Below.refl _ _, fun j _ hj => by omega⟩
 case round =>
  obtain ⟨k, hk, rfl, hbel, hno⟩ := hrel
  have HNO : Hid (∀ j (hj : j < l.length), j < k → Ax.hasTerm (l[j]).1.terms t = false) := hno
  clear hno
  by_cases hlt : k < l.length
  · have hrow := ownsRow_below h hbel
    obtain ⟨g, rfl, hg, hc, hcs⟩ := row_cells hrow (by omega)
    have hcell0 := hcs _ _ (atomCells_get l k hlt).1
    have hcell1 := hcs _ _ (atomCells_get l k hlt).2.1
    have hcell2 := hcs _ _ (atomCells_get l k hlt).2.2
    have hxk : MA.ok wr l[k] := oks_below hok hbel _ (List.getElem_mem hlt)
    obtain ⟨ad', c', hsh⟩ := ownsRow_shape hxk
    unfold MA.ok at hxk
    rw [hsh] at hcell2 hxk
    generalize ha : (l[k]).1 = a at hcell0 hcell1 hcell2 hxk
    have HA : Hid ((l[k]).1 = a) := ha
    clear ha hsh hcs hrow
    have ht' := (hbel.block tb (lt_of_heap ht)).trans ht
    cases hv : Ax.hasTerm a.terms t
    case true =>
     go_wp2_with (go_at_call 227; refine (bodyHas1_any _ _ _ _ _ _ _ t tb hxk ht').mono ?_; rintro e w1 ⟨rfl, hb1⟩)
     go_ret
     refine ⟨k, rfl, ⟨fun _ => ⟨l[k], List.getElem_mem hlt, by rw [HA.out]; exact hv⟩, fun _ => by omega⟩, hbel.trans (hb1.mono hbel.size)⟩
    case false =>
     go_wp2_with (go_at_call 227; refine (bodyHas1_any _ _ _ _ _ _ _ t tb hxk ht').mono ?_; rintro e w1 ⟨rfl, hb1⟩)
     go_roundw
     case rel =>
      refine ⟨k + 1, by omega, by go_num, hbel.trans (hb1.mono hbel.size), fun j hj hjk => ?_⟩
      by_cases e : j = k
      · subst e; rw [HA.out]; exact hv
      · exact HNO.out j hj (by omega)
     case measure => simp [intOf]; omega
  · go_wp2_with fail
    go_ret
    refine ⟨-1, rfl, ⟨fun h => by omega, fun hm => ?_⟩, hbel⟩
    obtain ⟨x, hx, hp⟩ := hm
    obtain ⟨j, hj, e⟩ := List.getElem_of_mem hx
    have := HNO.out j hj (by omega)
    rw [e, hp] at this
    cases this
set_option maxHeartbeats 1000000 in
theorem containsHas_any (w : World) (b : Nat) (ad : Option Addr) (c : Nat) (l : List MA) (h : w.ownsRow b 219 3 (.slice ad l.length c) l.length (atomCells l)) (hok : oks w l) (t : Ax.Term) (tb : Nat) (ht : w.heap[tb]? = some (.cells #[.int .i64 t.kind, .string t.text] 310 (0, 0))) :
 Calls Tryz.prog 181 #[.slice ad l.length c, .func (Fn.func 227) #[] #[.pointer (some ⟨tb, 0, none⟩)]] w fun e w' => e = .returned (.bool (Ax.bodyHas (l.map Prod.fst) t)) ∧ Below w.heap.size w w' := by
 have hle := ownsRow_le h
 go_enter Tryz.func181, Tryz.ntmps181
 go_wp2_with (go_at_call 226; refine (indexHas_any _ _ _ _ _ h hok t tb ht).mono ?_; rintro e w' ⟨i, rfl, hi, hb1⟩; have HI : Hid (0 ≤ i ↔ ∃ x, x ∈ l ∧ Ax.hasTerm x.1.terms t = true) := hi; clear hi)
 go_ret
 refine ⟨ret_bool ?_, hb1⟩
 unfold Ax.bodyHas
 rw [Bool.eq_iff_iff, List.any_eq_true]
 simp only [decide_eq_true_eq, List.mem_map]
 rw [HI.out]
 constructor
 · rintro ⟨x, hx, hp⟩; exact ⟨x.1, ⟨x, hx, rfl⟩, hp⟩
 · rintro ⟨_, ⟨x, hx, rfl⟩, hp⟩; exact ⟨x, hx, hp⟩
end Go.Proofs.YtdmicblafmhflaaGreatDoor
/- (Rule).atoms, bodyHas. -/
namespace Go.Proofs.YtdmicblafmhflaaGreatDoor
open Go.RowKit
theorem ownsRow_lit {w : World} {b : Nat} {e : TypeId} {xs : List Value} {size : Nat} (hs : xs.length = size) (hb : b ≤ w.heap.size) : (w.alloc (.cells xs.toArray e)).ownsRow b e size (.slice (some ⟨w.heap.size, 0, none⟩) 1 1) 1 xs :=
 ⟨by simpa using hs, .inr ⟨w.heap.size, 1, xs.toArray, rfl, hb, heap_alloc_new _ _, Nat.le_refl _, by unfold maxLen; omega, by simpa using hs, by simp [← hs]⟩⟩
theorem lit2 (w : World) (o : Obj) (e : TypeId) (x y z : Value) : ((w.alloc o).alloc (.cells #[x, y, z] e)).ownsRow (w.heap.size + 1) e 3 (.slice (some ⟨w.heap.size + 1, 0, none⟩) 1 1) 1 [x, y, z] := by
 have := ownsRow_lit (w := w.alloc o) (b := w.heap.size + 1) (e := e) (xs := [x, y, z]) (size := 3) rfl (by simp)
 rw [World.size_alloc] at this
 exact this
theorem new2 (w : World) (o o' : Obj) : ((w.alloc o).alloc o').heap[w.heap.size + 1]? = some o' := by
 have := heap_alloc_new (w.alloc o) o'
 rw [World.size_alloc] at this
 exact this
theorem atomCells_len (l : List MA) : (atomCells l).length = l.length * 3 := by induction l with | nil => rfl | cons a l ih => simp [atomCells] at ih ⊢; omega
theorem atomCells_one {w : World} {l : List MA} (h : oks w l) : ∀ u ∈ atomCells l, u.oneCell' = true := by
 intro u hu
 simp only [atomCells, List.mem_flatMap, List.mem_cons, List.not_mem_nil, or_false] at hu
 obtain ⟨x, hx, hu⟩ := hu
 rcases hu with rfl | rfl | rfl
 · rfl
 · rfl
 · obtain ⟨a, c, e⟩ := ownsRow_shape (h x hx)
   rw [e]; rfl
set_option maxHeartbeats 1000000 in
theorem atomsOf_any (w : World) (a : Ax.Atom) (ad : Option Addr) (c : Nat) (bd : Option Addr) (d : Nat) (l : List MA) (h : MR.ok w ⟨(a, .slice ad a.terms.length c), .slice bd l.length d, l⟩) (hl : l.length ≤ 1000) :
 Calls Tryz.prog 112 #[.agg #[.int .i64 a.at_, .string a.pred, .slice ad a.terms.length c, .slice bd l.length d]] w fun e w' => ∃ ad' c', e = .returned (.slice ad' (l.length + 1) c') ∧ w'.ownsRow 0 219 3 (.slice ad' (l.length + 1) c') (l.length + 1) (atomCells ((a, .slice ad a.terms.length c) :: l)) ∧ oks w' ((a, .slice ad a.terms.length c) :: l) ∧ Below w.heap.size w w' := by
 obtain ⟨i0, hi, hz0, hz1, hz2⟩ := info_parts Tryz.infoAtom
 obtain ⟨hh, hb, hoks⟩ := h
 simp only at hh hb hoks
 have hall : oks w ((a, .slice ad a.terms.length c) :: l) := by
  intro x hx
  rcases List.mem_cons.1 hx with rfl | hx
  · exact hh
  · exact hoks x hx
 have h1 := atomCells_one hoks
 have hlen := atomCells_len l
 have hend : ∀ w', Below w.heap.size w w' → oks w' ((a, .slice ad a.terms.length c) :: l) := fun w' hw => oks_below hall hw
 have hcells : atomCells ((a, .slice ad a.terms.length c) :: l) = [.int .i64 a.at_, .string a.pred, .slice ad a.terms.length c] ++ atomCells l := by simp [atomCells]
 have HC : Hid (atomCells ((a, .slice ad a.terms.length c) :: l) = [.int .i64 a.at_, .string a.pred, .slice ad a.terms.length c] ++ atomCells l) := hcells
 clear hcells
 rcases hb.2 with ⟨e1, e2⟩ | ⟨g, cap, cur, e1, _, hg, hcc, _⟩
 · simp only [Value.slice.injEq] at e1
   obtain ⟨rfl, _, rfl⟩ := e1
   obtain rfl : l = [] := List.eq_nil_of_length_eq_zero e2
   simp only [List.length_nil] at *
   clear h1 hlen hoks
   go_enter Tryz.func112, Tryz.ntmps112
   go_wp2_with (at_builtin; refine wpList_append_own_none rfl (.tmp 5) (.tmp 7) 220 rfl (w.heap.size + 1) 219 i0 3 Tryz.underlying220 hi _ _ _ rfl (lit2 _ _ _ _ _ _) rfl ?_)
   go_ret
   have hb2 : Below w.heap.size w ((w.alloc (.cells #[.int .i64 a.at_, .string a.pred, .slice ad a.terms.length c, .slice none 0 0] 222)).alloc (.cells #[.int .i64 a.at_, .string a.pred, .slice ad a.terms.length c] 219)) := ((Below.refl _ _).alloc (Nat.le_refl _) _).alloc (by simp) _
   exact ⟨_, _, rfl, by rw [HC.out]; exact ownsRow_base (lit2 _ _ _ _ _ _) (Nat.zero_le _), hend _ hb2, hb2⟩
 · simp only [Value.slice.injEq] at e1
   obtain ⟨rfl, _, rfl⟩ := e1
   have hcs := World.ownsRow.cells hb (g := g) rfl
   go_enter Tryz.func112, Tryz.ntmps112
   go_wp2_with (at_builtin; refine wpList_append_own _ rfl (.tmp 5) (.tmp 7) 220 rfl (w.heap.size + 1) 219 i0 _ 3 48 Tryz.underlying220 hi hz0 hz1 hz2 rfl (by decide) _ _ _ rfl (lit2 _ _ _ _ _ _) ⟨g, 0, none⟩ l.length d (atomCells l) rfl hlen (World.ownsRow.cells ((hb.alloc _).alloc _) (g := g) rfl) h1 (by unfold maxLen; omega) (by omega) (by simp) ?_; intro v2 w2 hown2 hgrow _; obtain ⟨ad', c', rfl⟩ := ownsRow_shape hown2)
   go_ret
   have hb2 : Below w.heap.size w w2 := by
    refine (((Below.refl _ _).alloc (Nat.le_refl _) _).alloc (by simp) _).grown hgrow (by simp; omega) ?_
    intro k hk
    have hk' : some (w.heap.size + 1) = some k := hk
    simp only [Option.some.injEq] at hk'
    omega
   rw [Nat.add_comm 1 l.length] at hown2
   refine ⟨ad', c', by rw [Nat.add_comm 1 l.length]; rfl, ?_, hend _ hb2, hb2⟩
   rw [HC.out]
   exact ownsRow_base hown2 (Nat.zero_le _)
set_option maxHeartbeats 1000000 in
theorem bodyHas_any (w : World) (a : Ax.Atom) (ad : Option Addr) (c : Nat) (bd : Option Addr) (d : Nat) (l : List MA) (h : MR.ok w ⟨(a, .slice ad a.terms.length c), .slice bd l.length d, l⟩) (t : Ax.Term) :
 Calls Tryz.prog 183 #[.agg #[.int .i64 a.at_, .string a.pred, .slice ad a.terms.length c, .slice bd l.length d], .agg #[.int .i64 t.kind, .string t.text]] w fun e w' => e = .returned (.bool (Ax.bodyHas (l.map Prod.fst) t)) ∧ Below w.heap.size w w' := by
 obtain ⟨_, hb, hoks⟩ := h
 simp only at hb hoks
 go_enter Tryz.func183, Tryz.ntmps183
 go_wp2_with (go_at_call 181; refine (containsHas_any _ _ _ _ l ((hb.alloc _).alloc _) (fun x hx => MA.alloc (MA.alloc (hoks x hx) _) _) t (w.heap.size + 1) (new2 _ _ _)).mono ?_; rintro e w1 ⟨rfl, hb1⟩)
 go_ret
 exact ⟨rfl, (((Below.refl _ _).alloc (Nat.le_refl _) _).alloc (by simp) _).trans (hb1.mono (by simp; omega))⟩
end Go.Proofs.YtdmicblafmhflaaGreatDoor
/- axiomkeep: pick, name, places, pred, term. -/
namespace Go.Proofs.YtdmicblafmhflaaGreatDoor
open Go.RowKit
def Fit64 (c : Int) : Prop := -9223372036854775808 ≤ c ∧ c ≤ 9223372036854775807
theorem gpick_eq {c : Int} {n : Nat} {d : Int} (hd : (if c < 0 then -(c + 1) else c) = d) (h0 : 0 ≤ d) (hn : 0 < n) : d.tmod (n : Int) = ((Ax.gpick c n : Nat) : Int) := by
 unfold Ax.gpick
 rw [hd, Int.tmod_eq_emod_of_nonneg h0]
 have := Int.emod_nonneg d (show (n : Int) ≠ 0 by omega)
 omega
theorem pick_any (c : Int) (n : Nat) (w : World) (hc : Fit64 c) (hn : 0 < n) (hn2 : n ≤ 1000) : Calls Tryz.prog 27 #[.int .i64 c, .int .i64 n] w fun e w' => e = .returned (.int .i64 (Ax.gpick c n)) ∧ w' = w := by
 obtain ⟨h1, h2⟩ := hc
 by_cases h : c < 0
 · have hb : decide (c < 0) = true := by simpa using h
   have e := gpick_eq (c := c) (n := n) (d := -(c + 1)) (by rw [if_pos h]) (by omega) hn
   go_enter Tryz.func27, Tryz.ntmps27
   go_wp2
   go_ret
   exact ⟨by rw [← e]; rfl, rfl⟩
 · have hb : decide (c < 0) = false := by simpa using h
   have e := gpick_eq (c := c) (n := n) (d := c) (by rw [if_neg h]) (by omega) hn
   go_enter Tryz.func27, Tryz.ntmps27
   go_wp2
   go_ret
   exact ⟨by rw [← e]; rfl, rfl⟩
theorem pick_val (c : Int) (n k : Nat) (hc : Fit64 c) (hn : 0 < n) (hn2 : n ≤ 1000) (hk : Ax.gpick c n = k) (N : Int) (hN : N = n) : ∀ w, Calls Tryz.prog 27 #[.int .i64 c, .int .i64 N] w fun e w' => e = .returned (.int .i64 k) ∧ w' = w := by
 subst hk hN
 exact fun w => pick_any c n w hc hn hn2
theorem term_any (c : Int) (w : World) (hc : Fit64 c) : Calls Tryz.prog 124 #[.int .i64 c] w fun e w' => e = .returned (.int .i64 (Ax.gpick c 7)) ∧ w' = w := by
 have hp := pick_val c 7 _ hc (by decide) (by decide) rfl 7 rfl
 go_enter Tryz.func124, Tryz.ntmps124
 go_wp2_with (go_at_call 27; refine (hp _).mono ?_; rintro e w1 ⟨rfl, rfl⟩)
 go_ret
 exact ⟨rfl, rfl⟩
theorem places_any (c : Int) (w : World) (hc : Fit64 c) : Calls Tryz.prog 19 #[.int .i64 c] w fun e w' => e = .returned (.int .i64 (if Ax.gpick c 3 = 0 then 1 else 2)) ∧ w' = w := by
 obtain ⟨k, hk⟩ : ∃ k, Ax.gpick c 3 = k := ⟨_, rfl⟩
 have hp := pick_val c 3 k hc (by decide) (by decide) hk 3 rfl
 rw [hk]
 by_cases h0 : k = 0
 · subst h0
   go_enter Tryz.func19, Tryz.ntmps19
   go_wp2_with (go_at_call 27; refine (hp _).mono ?_; rintro e w1 ⟨rfl, rfl⟩)
   go_ret
   exact ⟨rfl, rfl⟩
 · have hb : (((k : Nat) : Int) == 0) = false := by simp; omega
   rw [if_neg h0]
   go_enter Tryz.func19, Tryz.ntmps19
   go_wp2_with (go_at_call 27; refine (hp _).mono ?_; rintro e w1 ⟨rfl, rfl⟩)
   go_ret
   exact ⟨rfl, rfl⟩
theorem gen_pred (c : Int) (w : World) (hc : Fit64 c) : Calls Tryz.prog 18 #[.int .i64 c] w fun e w' => e = .returned (.string (Ax.gpred (Ax.gpick c 3))) ∧ Below w.heap.size w w' := by
 obtain ⟨k, hk⟩ : ∃ k, Ax.gpick c 3 = k := ⟨_, rfl⟩
 have hlt : k < 3 := by rw [← hk]; exact Ax.gpick_lt c 3 (by decide)
 have hp := pick_val c 3 k hc (by decide) (by decide) hk 3 rfl
 rw [hk]
 clear hk
 have : k = 0 ∨ k = 1 ∨ k = 2 := by omega
 rcases this with rfl | rfl | rfl
 all_goals (go_enter Tryz.func18, Tryz.ntmps18)
 all_goals (go_wp2_with (go_at_call 27; refine (hp _).mono ?_; rintro e w1 ⟨rfl, rfl⟩))
 all_goals go_ret
 all_goals exact ⟨rfl, (Below.refl _ _).alloc (Nat.le_refl _) _⟩
theorem gen_name (c : Int) (w : World) (hc : Fit64 c) : Calls Tryz.prog 122 #[.int .i64 c] w fun e w' => e = .returned (.string (Ax.gname (Ax.gpick c 4))) ∧ Below w.heap.size w w' := by
 obtain ⟨k, hk⟩ : ∃ k, Ax.gpick c 4 = k := ⟨_, rfl⟩
 have hlt : k < 4 := by rw [← hk]; exact Ax.gpick_lt c 4 (by decide)
 have hp := pick_val c 4 k hc (by decide) (by decide) hk 4 rfl
 rw [hk]
 clear hk
 have : k = 0 ∨ k = 1 ∨ k = 2 ∨ k = 3 := by omega
 rcases this with rfl | rfl | rfl | rfl
 all_goals (go_enter Tryz.func122, Tryz.ntmps122)
 all_goals (go_wp2_with (go_at_call 27; refine (hp _).mono ?_; rintro e w1 ⟨rfl, rfl⟩))
 all_goals go_ret
 all_goals exact ⟨rfl, (Below.refl _ _).alloc (Nat.le_refl _) _⟩
end Go.Proofs.YtdmicblafmhflaaGreatDoor
/- axiomkeep: terms, in. -/
namespace Go.Proofs.YtdmicblafmhflaaGreatDoor
open Go.RowKit
def natCells (l : List Nat) : List Value := l.map fun (n : Nat) => .int .i64 (n : Int)
theorem natCells_get (l : List Nat) (k : Nat) (h : k < l.length) : (natCells l)[k]? = some (.int .i64 l[k]) := by simp [natCells, h]
theorem ownsRow_lits {w : World} {b : Nat} {e : TypeId} {xs : List Value} {n : Nat} (hs : xs.length = n) (hn : n ≤ 1000) (hb : b ≤ w.heap.size) : (w.alloc (.cells xs.toArray e)).ownsRow b e 1 (.slice (some ⟨w.heap.size, 0, none⟩) n n) n xs :=
 ⟨by omega, .inr ⟨w.heap.size, n, xs.toArray, rfl, hb, heap_alloc_new _ _, Nat.le_refl _, by unfold maxLen; omega, by simp [hs], by simp [← hs]⟩⟩
theorem lits2 {w : World} {o : Obj} {b : Nat} {e : TypeId} {xs : List Value} {n : Nat} (hs : xs.length = n) (hn : n ≤ 1000) (hb : b ≤ w.heap.size) : ((w.alloc o).alloc (.cells xs.toArray e)).ownsRow b e 1 (.slice (some ⟨w.heap.size + 1, 0, none⟩) n n) n xs := by
 have := ownsRow_lits (w := w.alloc o) (b := b) (e := e) (xs := xs) (n := n) hs hn (by simp; omega)
 rw [World.size_alloc] at this
 exact this
set_option maxRecDepth 100000 in
set_option maxHeartbeats 2000000 in
theorem terms_any' (w : World) (a : Ax.KAtom) (hp : Fit64 a.pred) (ha : Fit64 a.a) (hb : Fit64 a.b) : Calls Tryz.prog 64 #[.agg #[.int .i64 a.pred, .int .i64 a.a, .int .i64 a.b]] w fun e w' => ∃ d c, e = .returned (.slice d (Ax.gterms a).length c) ∧ w'.ownsRow w.heap.size 3 1 (.slice d (Ax.gterms a).length c) (Ax.gterms a).length (natCells (Ax.gterms a)) ∧ Below w.heap.size w w' := by
 have hpl := fun w => places_any a.pred w hp
 have hta := fun w => term_any a.a w ha
 have htb := fun w => term_any a.b w hb
 unfold Ax.gterms
 by_cases h0 : Ax.gpick a.pred 3 = 0
 · simp only [h0, if_true] at hpl ⊢
   generalize Ax.gpick a.a 7 = x at *
   generalize Ax.gpick a.b 7 = y at *
   clear htb
   go_enter Tryz.func64, Tryz.ntmps64
   go_wp2_with (first | (go_at_call 19; refine (hpl _).mono ?_; rintro e w1 ⟨rfl, rfl⟩) | (go_at_call 124; refine (hta _).mono ?_; rintro e w2 ⟨rfl, rfl⟩))
   go_ret
   exact ⟨_, _, rfl, lits2 (xs := natCells [x]) (n := 1) rfl (by decide) (Nat.le_refl _), ((Below.refl _ _).alloc (Nat.le_refl _) _).alloc (by simp) _⟩
 · simp only [h0, if_false] at hpl ⊢
   generalize Ax.gpick a.a 7 = x at *
   generalize Ax.gpick a.b 7 = y at *
   go_enter Tryz.func64, Tryz.ntmps64
   go_wp2_with (first | (go_at_call 19; refine (hpl _).mono ?_; rintro e w1 ⟨rfl, rfl⟩))
   go_region_with (first | (go_at_call_of 124 (Value.int IntKind.i64 a.a); refine (hta _).mono ?_; rintro e w2 ⟨rfl, rfl⟩) | (go_at_call 124; refine (htb _).mono ?_; rintro e w2 ⟨rfl, rfl⟩))
   all_goals (go_wp2_with fail)
   all_goals go_ret
   all_goals exact ⟨_, _, rfl, lits2 (xs := natCells [x, y]) (n := 2) rfl (by decide) (Nat.le_refl _), (((Below.refl _ _).alloc (Nat.le_refl _) _).alloc (by simp) _).drew⟩
theorem in_any (w : World) (b : Nat) (ld : Option Addr) (lc : Nat) (l : List Nat) (h : w.ownsRow b 3 1 (.slice ld l.length lc) l.length (natCells l)) (n : Nat) : Calls Tryz.prog 123 #[.slice ld l.length lc, .int .i64 n] w fun e w' => e = .returned (.bool (decide (n ∈ l))) ∧ w' = w := by
 have hle := ownsRow_le h
 generalize hR : decide (n ∈ l) = R
 go_enter Tryz.func123, Tryz.ntmps123
 go_wp2_with fail
 go_loopw [5] (fun iv wr => ∃ (i : Nat), i ≤ l.length ∧ iv = .int .i64 i ∧ wr = w ∧ ∀ k (hk : k < l.length), k < i → l[k] ≠ n) (fun iv _ => l.length - (intOf iv).toNat)
 case atStart => exact ⟨0, Nat.zero_le _, rfl, rfl, fun k _ hk => by omega⟩
 case round =>
  obtain ⟨i, hi, rfl, hwr, hno⟩ := hrel
  subst hwr
  have HNO : Hid (∀ k (hk : k < l.length), k < i → l[k] ≠ n) := hno
  clear hno
  by_cases hlt : i < l.length
  · obtain ⟨g, rfl, hg, hc, hcs⟩ := row_cells h (by omega)
    have c0 := hcs _ _ (natCells_get l i hlt)
    clear hcs
    obtain ⟨x, hx⟩ : ∃ x, l[i] = x := ⟨_, rfl⟩
    rw [hx] at c0
    have HX : Hid (l[i] = x) := hx
    clear hx
    by_cases e : x = n
    · have hb : (((x : Nat) : Int) == ((n : Nat) : Int)) = true := by simp [e]
      have HR : Hid (R = true) := by
       rw [← hR]
       show decide _ = true
       rw [decide_eq_true_eq, ← e, ← HX.out]
       exact List.getElem_mem hlt
      clear hR
      go_wp2_with fail
      go_ret
      exact ⟨by rw [HR.out]; rfl, rfl⟩
    · have hb : (((x : Nat) : Int) == ((n : Nat) : Int)) = false := by simp; omega
      go_wp2_with fail
      go_roundw
      case rel =>
       refine ⟨i + 1, by omega, by go_num, trivial, fun k hk hki => ?_⟩
       by_cases ek : k = i
       · subst ek; rw [HX.out]; exact e
       · exact HNO.out k hk (by omega)
      case measure => simp [intOf]; omega
  · have HR : Hid (R = false) := by
     rw [← hR]
     show decide _ = false
     rw [decide_eq_false_iff_not]
     intro hm
     obtain ⟨k, hk, e⟩ := List.getElem_of_mem hm
     exact HNO.out k hk (by omega) e
    clear hR
    go_wp2_with fail
    go_ret
    exact ⟨by rw [HR.out]; rfl, rfl⟩
end Go.Proofs.YtdmicblafmhflaaGreatDoor
