/- axiomref: atoms and rules as they lie. -/
import Derived.Test.YtdmicblafmhflaaR9
import Derived.Test.YtdmicblafmhflaaN3
import Derived.Test.YtdmicblafmhflaaPP
namespace Go.Proofs.Ytdmicblafmhflaa
set_option linter.unusedSimpArgs false
set_option linter.unusedVariables false
open Go.RowKit

/-- an atom of the reference, and where its two slices lie -/
structure QA where
  a : Ax.Atom
  td : Option Addr
  tc : Nat
  vd : Option Addr
  vc : Nat
def QA.ok (w : World) (x : QA) : Prop := w.ownsRow 0 9 1 (.slice x.td x.a.terms.length x.tc) x.a.terms.length (strCells (x.a.terms.map Ax.Term.text)) ∧ w.ownsRow 0 4 1 (.slice x.vd x.a.terms.length x.vc) x.a.terms.length (boolCells (x.a.terms.map isVar))
def qaCells (l : List QA) : List Value := l.flatMap fun x => [.string x.a.pred, .slice x.td x.a.terms.length x.tc, .slice x.vd x.a.terms.length x.vc, .int .i64 x.a.at_]
theorem qaCells_snoc (l : List QA) (x : QA) : qaCells (l ++ [x]) = qaCells l ++ [.string x.a.pred, .slice x.td x.a.terms.length x.tc, .slice x.vd x.a.terms.length x.vc, .int .i64 x.a.at_] := by simp [qaCells]
def qas (w : World) (l : List QA) : Prop := ∀ x, x ∈ l → x.ok w
theorem qas_nil (w : World) : qas w [] := fun _ h => by cases h
theorem QA.below {w w' : World} {x : QA} (h : x.ok w) (hb : Below w.heap.size w w') : x.ok w' := ⟨ownsRow_below h.1 hb, ownsRow_below h.2 hb⟩
theorem qas_below {w w' : World} {l : List QA} (h : qas w l) (hb : Below w.heap.size w w') : qas w' l := fun x hx => QA.below (h x hx) hb
theorem QA.type {w w' : World} {x : QA} {row : Option Nat} {e' : TypeId} (h : x.ok w) (hg : w.grownBy w' row) (hr : ∀ k, row = some k → ∃ cur fz, w.heap[k]? = some (.cells cur e' fz)) (h1 : 9 ≠ e') (h2 : 4 ≠ e') : x.ok w' :=
  ⟨ownsRow_type h.1 hg hr h1, ownsRow_type h.2 hg hr h2⟩
theorem qas_type {w w' : World} {l : List QA} {row : Option Nat} {e' : TypeId} (h : qas w l) (hg : w.grownBy w' row) (hr : ∀ k, row = some k → ∃ cur fz, w.heap[k]? = some (.cells cur e' fz)) (h1 : 9 ≠ e') (h2 : 4 ≠ e') : qas w' l :=
  fun x hx => QA.type (h x hx) hg hr h1 h2
theorem qas_snoc {w : World} {l : List QA} {x : QA} (h : qas w l) (hx : x.ok w) : qas w (l ++ [x]) := by
  intro y hy
  rcases List.mem_append.1 hy with hy | hy
  · exact h y hy
  · simp at hy; subst hy; exact hx
theorem Try.infoQA : (Try.prog.info? 115).map (fun i => (i.zero, i.size, i.bytes)) = some (some (.agg #[.string ByteArray.empty, .slice none 0 0, .slice none 0 0, .int .i64 0]), 4, 72) := by kernel_rfl
theorem Try.infoQR : (Try.prog.info? 120).map (fun i => (i.zero, i.size, i.bytes)) = some (some (.agg #[.string ByteArray.empty, .slice none 0 0, .slice none 0 0, .int .i64 0, .slice none 0 0]), 5, 96) := by kernel_rfl

theorem qaCells_get (l : List QA) (k : Nat) (h : k < l.length) :
    (qaCells l)[k * 4]? = some (.string (l[k]).a.pred) ∧ (qaCells l)[k * 4 + 1]? = some (.slice (l[k]).td (l[k]).a.terms.length (l[k]).tc) ∧ (qaCells l)[k * 4 + 2]? = some (.slice (l[k]).vd (l[k]).a.terms.length (l[k]).vc) ∧ (qaCells l)[k * 4 + 3]? = some (.int .i64 (l[k]).a.at_) := by
  induction l generalizing k with
  | nil => simp at h
  | cons a l ih =>
    cases k with
    | zero => simp [qaCells]
    | succ k =>
      have := ih k (by simpa using h)
      have e : ∀ j, (qaCells (a :: l))[(k + 1) * 4 + j]? = (qaCells l)[k * 4 + j]? := by
        intro j
        have : qaCells (a :: l) = [.string a.a.pred, .slice a.td a.a.terms.length a.tc, .slice a.vd a.a.terms.length a.vc, .int .i64 a.a.at_] ++ qaCells l := by simp [qaCells]
        rw [this, List.getElem?_append_right (by simp; omega)]
        congr 1
        simp; omega
      have e0 := e 0
      simp only [Nat.add_zero] at e0
      rw [e0, e 1, e 2, e 3]
      simpa using this
theorem qaCells_len (l : List QA) : (qaCells l).length = l.length * 4 := by induction l with | nil => rfl | cons a l ih => simp [qaCells] at ih ⊢; omega
theorem qaCells_one (l : List QA) : ∀ u ∈ qaCells l, u.oneCell' = true := by
  intro u hu
  simp only [qaCells, List.mem_flatMap, List.mem_cons, List.not_mem_nil, or_false] at hu
  obtain ⟨x, hx, hu⟩ := hu
  rcases hu with rfl | rfl | rfl | rfl <;> rfl

/-- a rule of the reference -/
structure QR where
  head : QA
  bd : Option Addr
  bc : Nat
  body : List QA
def QR.ok (w : World) (r : QR) : Prop := r.head.ok w ∧ w.ownsRow 0 115 4 (.slice r.bd r.body.length r.bc) r.body.length (qaCells r.body) ∧ qas w r.body
def QR.rule (r : QR) : Ax.Rule := ⟨r.head.a, r.body.map QA.a⟩
def qrCells (l : List QR) : List Value := l.flatMap fun r => [.string r.head.a.pred, .slice r.head.td r.head.a.terms.length r.head.tc, .slice r.head.vd r.head.a.terms.length r.head.vc, .int .i64 r.head.a.at_, .slice r.bd r.body.length r.bc]
theorem qrCells_snoc (l : List QR) (r : QR) : qrCells (l ++ [r]) = qrCells l ++ [.string r.head.a.pred, .slice r.head.td r.head.a.terms.length r.head.tc, .slice r.head.vd r.head.a.terms.length r.head.vc, .int .i64 r.head.a.at_, .slice r.bd r.body.length r.bc] := by simp [qrCells]
theorem QR.below {w w' : World} {r : QR} (h : r.ok w) (hb : Below w.heap.size w w') : r.ok w' := ⟨QA.below h.1 hb, ownsRow_below h.2.1 hb, qas_below h.2.2 hb⟩
theorem QR.type {w w' : World} {r : QR} {row : Option Nat} {e' : TypeId} (h : r.ok w) (hg : w.grownBy w' row) (hr : ∀ k, row = some k → ∃ cur fz, w.heap[k]? = some (.cells cur e' fz)) (h1 : 9 ≠ e') (h2 : 4 ≠ e') (h3 : 115 ≠ e') : r.ok w' :=
  ⟨QA.type h.1 hg hr h1 h2, ownsRow_type h.2.1 hg hr h3, qas_type h.2.2 hg hr h1 h2⟩
theorem qrCells_get (l : List QR) (k : Nat) (h : k < l.length) :
    (qrCells l)[k * 5]? = some (.string (l[k]).head.a.pred) ∧ (qrCells l)[k * 5 + 1]? = some (.slice (l[k]).head.td (l[k]).head.a.terms.length (l[k]).head.tc) ∧ (qrCells l)[k * 5 + 2]? = some (.slice (l[k]).head.vd (l[k]).head.a.terms.length (l[k]).head.vc) ∧ (qrCells l)[k * 5 + 3]? = some (.int .i64 (l[k]).head.a.at_) ∧ (qrCells l)[k * 5 + 4]? = some (.slice (l[k]).bd (l[k]).body.length (l[k]).bc) := by
  induction l generalizing k with
  | nil => simp at h
  | cons a l ih =>
    cases k with
    | zero => simp [qrCells]
    | succ k =>
      have := ih k (by simpa using h)
      have e : ∀ j, (qrCells (a :: l))[(k + 1) * 5 + j]? = (qrCells l)[k * 5 + j]? := by
        intro j
        have : qrCells (a :: l) = [.string a.head.a.pred, .slice a.head.td a.head.a.terms.length a.head.tc, .slice a.head.vd a.head.a.terms.length a.head.vc, .int .i64 a.head.a.at_, .slice a.bd a.body.length a.bc] ++ qrCells l := by simp [qrCells]
        rw [this, List.getElem?_append_right (by simp; omega)]
        congr 1
        simp; omega
      have e0 := e 0
      simp only [Nat.add_zero] at e0
      rw [e0, e 1, e 2, e 3, e 4]
      simpa using this

/-- the rules of a slice, in a world -/
def QRsIn (w : World) (rd : Option Addr) (rc : Nat) (l : List QR) : Prop :=
  w.ownsRow 0 120 5 (.slice rd l.length rc) l.length (qrCells l) ∧ (∀ r, r ∈ l → r.ok w ∧ r.body.length ≤ 1000)
theorem QRsIn.below {w w' : World} {rd : Option Addr} {rc : Nat} {l : List QR} (h : QRsIn w rd rc l) (hb : Below w.heap.size w w') : QRsIn w' rd rc l := ⟨ownsRow_below h.1 hb, fun r hr => ⟨QR.below (h.2 r hr).1 hb, (h.2 r hr).2⟩⟩

/-- rule k of a slice: its cells -/
theorem QRsIn.at {w : World} {rd : Option Addr} {rc : Nat} {l : List QR} (h : QRsIn w rd rc l) {k : Nat} (hk : k < l.length) :
    ∃ g r, rd = some ⟨g, 0, none⟩ ∧ g < w.heap.size ∧ l.length ≤ rc ∧ w.cell? ⟨g, k * 5, none⟩ = some (.string (QA.a (QR.head r)).pred) ∧ w.cell? ⟨g, k * 5 + 1, none⟩ = some (.slice r.head.td r.head.a.terms.length r.head.tc) ∧ w.cell? ⟨g, k * 5 + 2, none⟩ = some (.slice r.head.vd r.head.a.terms.length r.head.vc) ∧
      w.cell? ⟨g, k * 5 + 3, none⟩ = some (.int .i64 r.head.a.at_) ∧ w.cell? ⟨g, k * 5 + 4, none⟩ = some (.slice r.bd r.body.length r.bc) ∧ r.ok w ∧ r.body.length ≤ 1000 ∧ Hid (l[k] = r) := by
  obtain ⟨g, rfl, hg, hc, hcs⟩ := row_cells h.1 (by omega)
  have hm := List.getElem_mem hk
  obtain ⟨hok, hbl⟩ := h.2 _ hm
  obtain ⟨c0, c1, c2, c3, c4⟩ := qrCells_get l k hk
  exact ⟨g, l[k], rfl, hg, hc, hcs _ _ c0, hcs _ _ c1, hcs _ _ c2, hcs _ _ c3, hcs _ _ c4, hok, hbl, rfl⟩

theorem str_eq_decide (x y : ByteArray) : (x.toList == y.toList) = decide (x = y) := by
  rw [Bool.eq_iff_iff]
  simp only [beq_iff_eq, decide_eq_true_eq]
  refine ⟨fun h => ?_, fun h => by rw [h]⟩
  rw [toList_eq, toList_eq] at h
  cases x; cases y
  simpa using h

/-- the slice of one atom, in the second of two new blocks -/
theorem qlit2 (w : World) (o : Obj) (e : TypeId) (x y z u : Value) : ((w.alloc o).alloc (.cells #[x, y, z, u] e)).ownsRow (w.heap.size + 1) e 4 (.slice (some ⟨w.heap.size + 1, 0, none⟩) 1 1) 1 [x, y, z, u] := by
  have := ownsRow_lit (w := w.alloc o) (b := w.heap.size + 1) (e := e) (xs := [x, y, z, u]) (size := 4) rfl (by simp)
  rw [World.size_alloc] at this
  exact this

set_option maxHeartbeats 2000000 in
theorem qall_any (w : World) (r : QR) (h : r.ok w) (hl : r.body.length ≤ 1000) :
    Calls Try.prog 47 #[.agg #[.string r.head.a.pred, .slice r.head.td r.head.a.terms.length r.head.tc, .slice r.head.vd r.head.a.terms.length r.head.vc, .int .i64 r.head.a.at_, .slice r.bd r.body.length r.bc]] w fun e w' => ∃ ad' c', e = .returned (.slice ad' (r.body.length + 1) c') ∧ w'.ownsRow 0 115 4 (.slice ad' (r.body.length + 1) c') (r.body.length + 1) (qaCells (r.head :: r.body)) ∧ qas w' (r.head :: r.body) ∧ Below w.heap.size w w' := by
  obtain ⟨i0, hi, hz0, hz1, hz2⟩ := info_parts Try.infoQA
  rcases r with ⟨⟨a, td, tc, vd, vc⟩, bd, bc, l⟩
  obtain ⟨hh, hb, hoks⟩ := h
  simp only at hh hb hoks hl ⊢
  have hall : qas w (⟨a, td, tc, vd, vc⟩ :: l) := by
    intro x hx
    rcases List.mem_cons.1 hx with rfl | hx
    · exact hh
    · exact hoks x hx
  have h1 := qaCells_one l
  have hlen := qaCells_len l
  have hend : ∀ w', Below w.heap.size w w' → qas w' (⟨a, td, tc, vd, vc⟩ :: l) := fun w' hw => qas_below hall hw
  have HC : Hid (qaCells (⟨a, td, tc, vd, vc⟩ :: l) = [.string a.pred, .slice td a.terms.length tc, .slice vd a.terms.length vc, .int .i64 a.at_] ++ qaCells l) := by simp [Hid, qaCells]
  rcases hb.2 with ⟨e1, e2⟩ | ⟨g, cap, cur, e1, _, hg, hcc, _⟩
  · simp only [Value.slice.injEq] at e1
    obtain ⟨rfl, _, rfl⟩ := e1
    obtain rfl : l = [] := List.eq_nil_of_length_eq_zero e2
    simp only [List.length_nil] at *
    clear h1 hlen hoks
    go_enter Try.func47, Try.ntmps47
    go_wp2_with (at_builtin; refine wpList_append_own_none rfl (.tmp 7) (.tmp 9) 118 rfl (w.heap.size + 1) 115 i0 4 Try.underlying118 hi _ _ _ rfl (qlit2 _ _ _ _ _ _ _) rfl ?_)
    go_ret
    have hb2 : Below w.heap.size w ((w.alloc (.cells #[.string a.pred, .slice td a.terms.length tc, .slice vd a.terms.length vc, .int .i64 a.at_, .slice none 0 0] 120)).alloc (.cells #[.string a.pred, .slice td a.terms.length tc, .slice vd a.terms.length vc, .int .i64 a.at_] 115)) := ((Below.refl _ _).alloc (Nat.le_refl _) _).alloc (by simp) _
    exact ⟨_, _, rfl, by rw [HC.out]; exact ownsRow_base (qlit2 _ _ _ _ _ _ _) (Nat.zero_le _), hend _ hb2, hb2⟩
  · simp only [Value.slice.injEq] at e1
    obtain ⟨rfl, _, rfl⟩ := e1
    have hcs := World.ownsRow.cells hb (g := g) rfl
    go_enter Try.func47, Try.ntmps47
    go_wp2_with (at_builtin; refine wpList_append_own _ rfl (.tmp 7) (.tmp 9) 118 rfl (w.heap.size + 1) 115 i0 _ 4 72 Try.underlying118 hi hz0 hz1 hz2 rfl (by decide) _ _ _ rfl (qlit2 _ _ _ _ _ _ _) ⟨g, 0, none⟩ l.length bc (qaCells l) rfl hlen (World.ownsRow.cells ((hb.alloc _).alloc _) (g := g) rfl) h1 (by unfold maxLen; omega) (by omega) (by simp) ?_; intro v2 w2 hown2 hgrow _; obtain ⟨ad', c', rfl⟩ := ownsRow_shape hown2)
    go_ret
    have hb2 : Below w.heap.size w w2 := by
      refine (((Below.refl _ _).alloc (Nat.le_refl _) _).alloc (by simp) _).grown hgrow (by simp; omega) ?_
      intro k hk
      have hk' : some (w.heap.size + 1) = some k := hk
      simp only [Option.some.injEq] at hk'
      omega
    rw [Nat.add_comm 1 l.length] at hown2
    refine ⟨ad', c', by rw [Nat.add_comm 1 l.length]; rfl, ?_, hend _ hb2, hb2⟩
    rw [HC.out]
    exact ownsRow_base hown2 (Nat.zero_le _)
end Go.Proofs.Ytdmicblafmhflaa
