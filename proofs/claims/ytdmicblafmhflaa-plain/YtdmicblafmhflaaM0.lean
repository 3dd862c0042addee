/- The parser: peek, take. -/
import Derived.Test.YtdmicblafmhflaaL3
import Derived.Test.YtdmicblafmhflaaPP
namespace Go.Proofs.Ytdmicblafmhflaa
set_option linter.unusedSimpArgs false
set_option linter.unusedVariables false
open Go.RowKit

/-- the parser in block pb, at token nx of toks, which the slice tv holds -/
def PAt (w : World) (pb : Nat) (tv : Value) (toks : List Ax.Tok) (nx : Nat) : Prop :=
  w.heap[pb]? = some (.cells #[tv, .int .i64 nx] 61 (0, 0)) ∧ w.ownsRow 0 66 3 tv toks.length (tokCells toks) ∧ nx < toks.length ∧ toks.length ≤ 1000 ∧ Ax.Ends toks

theorem tokCells_get (l : List Ax.Tok) (k : Nat) (h : k < l.length) :
    (tokCells l)[k * 3]? = some (.int .i64 l[k].kind) ∧ (tokCells l)[k * 3 + 1]? = some (.int .i64 l[k].at_) ∧ (tokCells l)[k * 3 + 2]? = some (.string l[k].text) := by
  induction l generalizing k with
  | nil => simp at h
  | cons a l ih =>
    cases k with
    | zero => simp [tokCells]
    | succ k =>
      have := ih k (by simpa using h)
      have e : ∀ j, (tokCells (a :: l))[(k + 1) * 3 + j]? = (tokCells l)[k * 3 + j]? := by
        intro j
        have : tokCells (a :: l) = [.int .i64 a.kind, .int .i64 a.at_, .string a.text] ++ tokCells l := by simp [tokCells]
        rw [this, List.getElem?_append_right (by simp; omega)]
        congr 1
        simp; omega
      have e0 := e 0
      simp only [Nat.add_zero] at e0
      rw [e0, e 1, e 2]
      simpa using this

theorem Tok_get {toks : List Ax.Tok} {nx : Nat} {t : Ax.Tok} (ht : toks[nx]? = some t) : ∃ h : nx < toks.length, toks[nx] = t := List.getElem?_eq_some_iff.1 ht

/-- what the parser's memory holds -/
theorem PAt.cells {w : World} {pb : Nat} {tv : Value} {toks : List Ax.Tok} {nx : Nat} (h : PAt w pb tv toks nx) {t : Ax.Tok} (ht : toks[nx]? = some t) :
    ∃ tb cap, tv = .slice (some ⟨tb, 0, none⟩) toks.length cap ∧ w.cell? ⟨pb, 0, none⟩ = some tv ∧ w.cell? ⟨pb, 1, none⟩ = some (.int .i64 nx) ∧ pb < w.heap.size ∧ tb < w.heap.size ∧ tb ≠ pb ∧
      w.frozen? ⟨pb, 1, none⟩ = false ∧ toks.length ≤ cap ∧
      w.cell? ⟨tb, nx * 3, none⟩ = some (.int .i64 t.kind) ∧ w.cell? ⟨tb, nx * 3 + 1, none⟩ = some (.int .i64 t.at_) ∧ w.cell? ⟨tb, nx * 3 + 2, none⟩ = some (.string t.text) := by
  obtain ⟨hp, hown, hlt, hle, hends⟩ := h
  obtain ⟨_, rfl⟩ := Tok_get ht
  rcases hown.2 with ⟨rfl, h0⟩ | ⟨g, cap, cur, rfl, _, hg, hc, _⟩
  · omega
  · have hcs := World.ownsRow.cells hown (g := g) rfl
    have hadd : ∀ j, (⟨g, 0, none⟩ : Addr).add j = ⟨g, j, none⟩ := by intro j; unfold Addr.add; split <;> simp_all
    obtain ⟨c0, c1, c2⟩ := tokCells_get toks nx hlt
    have d0 := hcs _ _ c0
    have d1 := hcs _ _ c1
    have d2 := hcs _ _ c2
    rw [hadd] at d0 d1 d2
    refine ⟨g, cap, rfl, ?_, ?_, lt_of_heap hp, lt_of_heap hg, ?_, ?_, hc, d0, d1, d2⟩
    · rw [cell_of_row _ pb 0 _ _ _ hp]; rfl
    · rw [cell_of_row _ pb 1 _ _ _ hp]; rfl
    · intro e
      rw [e, hp] at hg
      simp at hg
    · simp [World.frozen?, hp]

/-- token nx as a value -/
def tokVal (t : Ax.Tok) : Value := .agg #[.int .i64 t.kind, .int .i64 t.at_, .string t.text]

set_option maxHeartbeats 1000000 in
theorem peek_any (w : World) (pb : Nat) (tv : Value) (toks : List Ax.Tok) (nx : Nat) (h : PAt w pb tv toks nx) (t : Ax.Tok) (ht : Hid (toks[nx]? = some t)) :
    Calls Try.prog 25 #[.pointer (some ⟨pb, 0, none⟩)] w fun e w' => e = .returned (.agg #[.int .i64 t.kind, .int .i64 t.at_, .string t.text]) ∧ Below w.heap.size w w' := by
  have hlt := h.2.2.1
  have hle := h.2.2.2.1
  obtain ⟨tb, cap, rfl, c0, c1, hpb, htb, hne, hfz, hcap, d0, d1, d2⟩ := h.cells ht.out
  clear h
  go_enter Try.func25, Try.ntmps25
  go_wp2_with fail
  go_region
  all_goals (try go_wp2_with fail)
  exact bodyPost_ret (v := .agg #[.int .i64 t.kind, .int .i64 t.at_, .string t.text]) (by simp [results, Try.results25, go_sem]) rfl ⟨rfl, ((Below.refl _ _).alloc (Nat.le_refl _) _).drew⟩

theorem grownBy_trans {w w1 w2 : World} {row : Option Nat} (h : w.grownBy w1 row) (k : w1.grownBy w2 row) : w.grownBy w2 row :=
  ⟨k.os.trans h.os, k.tape.trans h.tape, k.output.trans h.output, Nat.le_trans h.size k.size, fun i hi hr => (k.block i (Nat.lt_of_lt_of_le hi h.size) hr).trans (h.block i hi hr)⟩
theorem grownBy_of_below {w w' : World} (h : Below w.heap.size w w') (row : Option Nat) : w.grownBy w' row := ⟨h.os, h.tape, h.output, h.size, fun k hk _ => h.block k hk⟩
theorem grownBy_refl (w : World) (row : Option Nat) : w.grownBy w row := ⟨rfl, rfl, rfl, Nat.le_refl _, fun _ _ _ => rfl⟩
theorem grownBy_alloc {w w1 : World} {row : Option Nat} (h : w.grownBy w1 row) (o : Obj) : w.grownBy (w1.alloc o) row := grownBy_trans h (World.grownBy_alloc w1 o row)
theorem grownBy_drew {w w1 : World} {row : Option Nat} (h : w.grownBy w1 row) : w.grownBy w1.drew row := ⟨h.os, h.tape, h.output, h.size, h.block⟩
theorem grownBy_setCell {w : World} (a : Addr) (v : Value) : w.grownBy (w.setCell a v) (some a.block) :=
  ⟨rfl, rfl, rfl, by simp [World.setCell], fun k _ hr => Below.heap_setCell _ _ _ _ (fun e => hr (by rw [e]))⟩
theorem grownBy_setNew {w w1 : World} {row : Option Nat} (h : w.grownBy w1 row) {a : Addr} (ha : w.heap.size ≤ a.block) (v : Value) : w.grownBy (w1.setCell a v) row :=
  ⟨h.os, h.tape, h.output, by have := h.size; simp [World.setCell]; omega, fun k hk hr => (Below.heap_setCell _ _ _ _ (by omega)).trans (h.block k hk hr)⟩

theorem PAt.below {w w' : World} {pb : Nat} {tv : Value} {toks : List Ax.Tok} {nx : Nat} (h : PAt w pb tv toks nx) (hb : Below w.heap.size w w') : PAt w' pb tv toks nx :=
  ⟨(hb.block pb (lt_of_heap h.1)).trans h.1, ownsRow_below h.2.1 hb, h.2.2⟩

/-- a row of one type stands while a block of another type is written -/
theorem ownsRow_type {w w' : World} {b : Nat} {e e' : TypeId} {size : Nat} {v : Value} {n : Nat} {xs : List Value} {row : Option Nat} (h : w.ownsRow b e size v n xs) (hg : w.grownBy w' row)
    (hr : ∀ k, row = some k → ∃ cur fz, w.heap[k]? = some (.cells cur e' fz)) (hne : e ≠ e') : w'.ownsRow b e size v n xs := by
  refine h.kept hg ?_
  rcases h.2 with ⟨rfl, _⟩ | ⟨g, cap, cur, rfl, _, hh, _⟩
  · exact .inl rfl
  · refine .inr fun e1 => ?_
    obtain ⟨cur', fz, hk⟩ := hr g e1.symm
    rw [hk] at hh
    simp at hh
    exact hne hh.2.1.symm

/-- the parser goes on to another token -/
theorem PAt.step {w w' : World} {pb : Nat} {tv : Value} {toks : List Ax.Tok} {nx nx' : Nat} (h : PAt w pb tv toks nx) (hg : w.grownBy w' (some pb)) (hp : w'.heap[pb]? = some (.cells #[tv, .int .i64 nx'] 61 (0, 0))) (hn : nx' < toks.length) : PAt w' pb tv toks nx' :=
  ⟨hp, ownsRow_type h.2.1 hg (e' := 61) (fun k hk => by cases hk; exact ⟨_, _, h.1⟩) (by decide), hn, h.2.2.2⟩

theorem Try.fieldTok0 (a b : Int) (c : ByteArray) (w : World) : (Instr.field 66 (.agg #[.int .i64 a, .int .i64 b, .string c]) 0).run Try.prog w = .ok (.int .i64 a) w := by kernel_rfl
theorem Try.fieldTok1 (a b : Int) (c : ByteArray) (w : World) : (Instr.field 66 (.agg #[.int .i64 a, .int .i64 b, .string c]) 1).run Try.prog w = .ok (.int .i64 b) w := by kernel_rfl

theorem setCell_one {w : World} {pb : Nat} {a b c : Value} {t : TypeId} (h : w.heap[pb]? = some (.cells #[a, b] t (0, 0))) : (w.setCell ⟨pb, 1, none⟩ c).heap[pb]? = some (.cells #[a, c] t (0, 0)) := by
  simp only [World.setCell, Array.getElem?_modify, h]
  simp

set_option maxHeartbeats 1000000 in
theorem take_yes (w : World) (pb : Nat) (tv : Value) (toks : List Ax.Tok) (nx : Nat) (h : PAt w pb tv toks nx) (t : Ax.Tok) (ht : Hid (toks[nx]? = some t)) (kd : Int) (hk : 2 ≤ kd) (he : (t.kind == kd) = true) :
    Calls Try.prog 54 #[.pointer (some ⟨pb, 0, none⟩), .int .i64 kd] w fun e w' => e = .returned (.bool true) ∧ PAt w' pb tv toks (nx + 1) ∧ w.grownBy w' (some pb) := by
  have hn1 : nx + 1 < toks.length := by
    obtain ⟨hlt, e⟩ := Tok_get ht.out
    have e2 : t.kind = kd := by simpa using he
    exact h.2.2.2.2.next hlt (by rw [e]; omega) (by rw [e]; omega)
  have hle := h.2.2.2.1
  have hne : (t.kind != kd) = false := by simpa using he
  clear he
  have hfd := Try.fieldTok0
  go_enter Try.func54, Try.ntmps54
  go_wp2_with (go_at_call 25; refine (peek_any _ _ _ _ _ h _ ht).mono ?_; rintro e w1 ⟨rfl, hb1⟩; obtain ⟨tb, cap, _, _, c1, hpb, _, _, hfz, _⟩ := (h.below hb1).cells ht.out)
  go_ret
  refine ⟨rfl, ?_, ?_⟩
  · refine (h.below hb1).step (grownBy_setCell _ _) ?_ hn1
    rw [setCell_one (h.below hb1).1]
    go_num
  · exact grownBy_trans (grownBy_of_below hb1 _) (grownBy_setCell _ _)

set_option maxHeartbeats 1000000 in
theorem take_no (w : World) (pb : Nat) (tv : Value) (toks : List Ax.Tok) (nx : Nat) (h : PAt w pb tv toks nx) (t : Ax.Tok) (ht : Hid (toks[nx]? = some t)) (kd : Int) (he : (t.kind == kd) = false) :
    Calls Try.prog 54 #[.pointer (some ⟨pb, 0, none⟩), .int .i64 kd] w fun e w' => e = .returned (.bool false) ∧ Below w.heap.size w w' := by
  have hne : (t.kind != kd) = true := by simpa using he
  clear he
  have hfd := Try.fieldTok0
  go_enter Try.func54, Try.ntmps54
  go_wp2_with (go_at_call 25; refine (peek_any _ _ _ _ _ h _ ht).mono ?_; rintro e w1 ⟨rfl, hb1⟩)
  go_ret
  exact ⟨rfl, hb1⟩
end Go.Proofs.Ytdmicblafmhflaa
