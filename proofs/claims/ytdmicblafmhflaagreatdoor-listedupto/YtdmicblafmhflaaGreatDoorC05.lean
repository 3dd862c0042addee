/- split. -/
import Derived.Test.YtdmicblafmhflaaGreatDoorC04
import Derived.Lib.OthersKept
import Derived.Test.YtdmicblafmhflaaGreatDoorC00
import Derived.Deep.RegionWith

namespace Go.Proofs.YtdmicblafmhflaaGreatDoor
set_option linter.unusedSimpArgs false
set_option linter.unusedVariables false
open Go.RowKit
/-- tokens as cells -/
def tokCells (l : List Ax.Tok) : List Value := l.flatMap fun t => [.int .i64 t.kind, .int .i64 t.at_, .string t.text]
theorem tokCells_snoc (l : List Ax.Tok) (t : Ax.Tok) : tokCells (l ++ [t]) = tokCells l ++ [.int .i64 t.kind, .int .i64 t.at_, .string t.text] := by simp [tokCells]
theorem Tryz.infoTok : (Tryz.prog.info? 210).map (fun i => (i.zero, i.size, i.bytes)) = some (some (.agg #[.int .i64 0, .int .i64 0, .string ByteArray.empty]), 3, 32) := by kernel_rfl
theorem ownsRow_below {w w' : World} {base : Nat} {e : TypeId} {size : Nat} {v : Value} {n : Nat} {xs : List Value} (h : w.ownsRow base e size v n xs) (hb : Below w.heap.size w w') : w'.ownsRow base e size v n xs :=
  h.kept (row := none) ⟨hb.os, hb.tape, hb.output, hb.size, fun k hk _ => hb.block k hk⟩ (by cases hv : v.ownBlock <;> simp)
theorem ownsRow_iterAt {w : World} {base : Nat} {e : TypeId} {size : Nat} {v : Value} {n : Nat} {xs : List Value} (h : w.ownsRow base e size v n xs) {k : Nat} (hk : k < base) (s : ByteArray) (pos : Nat) : (w.iterAt k s pos).ownsRow base e size v n xs := by
  refine ⟨h.1, ?_⟩
  rcases h.2 with hn | ⟨g, cap, cur, hv, hg, hh, r⟩
  · exact .inl hn
  · exact .inr ⟨g, cap, cur, hv, hg, by rw [Lib.iterAt_other _ _ _ _ _ (by omega)]; exact hh, r⟩
/-- a new block's cells -/
theorem new_cells (w : World) (t : TypeId) (xs : List Value) : ∀ (j : Nat) (u : Value), xs[j]? = some u → (w.alloc (.cells xs.toArray t)).cell? ((⟨w.heap.size, 0, none⟩ : Addr).add j) = some u := by
  intro j u hu
  have hadd : (⟨w.heap.size, 0, none⟩ : Addr).add j = ⟨w.heap.size, j, none⟩ := by unfold Addr.add; split <;> simp_all
  rw [hadd, cell_of_row _ w.heap.size j xs.toArray t (0, 0) (heap_alloc_new w _)]
  simpa using hu
theorem lt_of_heap {w : World} {k : Nat} {o : Obj} (h : w.heap[k]? = some o) : k < w.heap.size := (Array.getElem?_eq_some_iff.1 h).1
def SplitRel (s : ByteArray) (w wr : World) (v : Value) (pos beh f : Nat) (acc : List Ax.Tok) : Prop :=
  wr.heap[w.heap.size]? = some (.stringIter s pos) ∧ wr.ownsRow (w.heap.size + 1) 210 3 v acc.length (tokCells acc) ∧ Below w.heap.size w wr ∧
  acc.length ≤ pos ∧ pos ≤ s.size + 4 ∧ s.size ≤ pos + f ∧ beh ≤ s.size ∧ Ax.splitLoop s f pos beh acc = Ax.split s
/-- what a round that lays a token does to the world -/
theorem split_world {s : ByteArray} {w wr w1 w2 : World} {v : Value} {n pos pos' : Nat} {xs : List Value} {o : Obj} (hit : wr.heap[w.heap.size]? = some (.stringIter s pos))
    (hown : wr.ownsRow (w.heap.size + 1) 210 3 v n xs) (hbel : Below w.heap.size w wr)
    (hb1 : Below (wr.iterAt w.heap.size s pos').heap.size (wr.iterAt w.heap.size s pos') w1) (hgrow : (w1.alloc o).grownBy w2 v.ownBlock) :
    w2.heap[w.heap.size]? = some (.stringIter s pos') ∧ Below w.heap.size w w2 := by
  have hlt := lt_of_heap hit
  have hsz : (wr.iterAt w.heap.size s pos').heap.size = wr.heap.size := Lib.iterAt_size _ _ _ _
  have hs1 := hb1.size
  have hne : some w.heap.size ≠ v.ownBlock := by
    intro e
    have := (hown.lt _ e.symm).1
    omega
  refine ⟨?_, ?_⟩
  · rw [hgrow.block _ (by simp; omega) hne, Below.heap_alloc _ _ _ (by omega), hb1.block _ (by omega)]
    exact Lib.iterAt_heap _ _ _ _ _ hit
  · refine ((Lib.below_iterAt hbel (Nat.le_refl _) s pos').trans ?_)
    refine ((hb1.mono (by omega)).alloc (by omega) o).grown hgrow (by simp; omega) ?_
    intro k hk
    have := (hown.lt _ hk).1
    omega
theorem split_first (s : ByteArray) (w : World) : SplitRel s w (w.iter s 0) (.slice none 0 0) 0 0 s.size [] :=
  ⟨World.iter_heap _ _ _, World.ownsRow_nil _ _ _ _, below_iter _ _ _, Nat.le_refl _, Nat.zero_le _, by omega, Nat.zero_le _, rfl⟩
theorem iterPos_at {w : World} {k : Nat} {s : ByteArray} {pos : Nat} (h : w.heap[k]? = some (.stringIter s pos)) : w.iterPos k = pos := by simp [World.iterPos, h]
theorem ownsRow_base {w : World} {b b' : Nat} {e : TypeId} {size : Nat} {v : Value} {n : Nat} {xs : List Value} (h : w.ownsRow b e size v n xs) (hb : b' ≤ b) : w.ownsRow b' e size v n xs := by
  refine ⟨h.1, ?_⟩
  rcases h.2 with hn | ⟨g, cap, cur, hv, hg, r⟩
  · exact .inl hn
  · exact .inr ⟨g, cap, cur, hv, by omega, r⟩
set_option maxHeartbeats 1000000 in
theorem split_any (s : ByteArray) (w : World) (hs : s.size ≤ 600) :
    Calls Tryz.prog 103 #[.string s] w fun e w' => ∃ v, e = .returned v ∧ w'.ownsRow w.heap.size 210 3 v (Ax.split s).length (tokCells (Ax.split s)) ∧ Below w.heap.size w w' := by
  obtain ⟨i0, hi, hz0, hz1, hz2⟩ := info_parts Tryz.infoTok
  go_enter Tryz.func103, Tryz.ntmps103
  go_wp2_with fail
  go_loopw [3, 4] (fun v b wr => ∃ (pos beh f : Nat) (acc : List Ax.Tok), b = .int .i64 beh ∧ SplitRel s w wr v pos beh f acc) (fun _ _ wr => s.size - wr.iterPos w.heap.size)
  case atStart => exact ⟨0, 0, s.size, [], rfl, split_first s w⟩
  case round =>
    obtain ⟨pos, beh, f, acc, rfl, hit, hown, hbel, hal, hp4, hf, hbeh, hl⟩ := hrel
    have HL : Hid (Ax.splitLoop s f pos beh acc = Ax.split s) := hl
    clear hl
    have hlt := lt_of_heap hit
    by_cases hp : pos < s.size
    · have hnx : ∀ ty, (Instr.next (.pointer (some ⟨w.heap.size, 0, none⟩)) true ty).run Tryz.prog wr = _ := fun ty => Lib.run_next_any_at wr w.heap.size s pos ty hit hp
      have hwd := width_pos s pos hp
      have hwd4 := width_le s pos
      cases f with
      | zero => omega
      | succ f =>
      have skip : ∀ (hb : pos < beh ∨ Ax.blank (Utf8.decode s pos).1 = true), SplitRel s w (wr.iterAt w.heap.size s (pos + (Utf8.decode s pos).2)) u3 (pos + (Utf8.decode s pos).2) beh f acc := fun hb =>
        ⟨Lib.iterAt_heap _ _ _ _ _ hit, ownsRow_iterAt hown (by omega) _ _, Lib.below_iterAt hbel (Nat.le_refl _) _ _, by omega, by omega, by omega, hbeh, (Ax.splitLoop_skip s f pos beh acc hp hb).symm.trans HL.out⟩
      by_cases hb : pos < beh
      · have SK := skip (.inl hb)
        clear skip hown
        go_wp2_with fail
        go_roundw
        case rel => exact ⟨_, beh, f, acc, rfl, SK⟩
        case measure => rw [iterPos_at SK.1, iterPos_at hit]; omega
      · cases hbl : Ax.blank (Utf8.decode s pos).1
        case true =>
          have SK := skip (.inr hbl)
          clear skip hown
          go_wp2_with (go_at_call 177; refine (isBlank_any _ _).mono ?_; rintro e w' ⟨rfl, rfl⟩)
          go_roundw
          case rel => exact ⟨_, beh, f, acc, rfl, SK⟩
          case measure => rw [iterPos_at SK.1, iterPos_at hit]; omega
        case false =>
          clear skip
          have hnb : Hid (¬ (pos < beh ∨ Ax.blank (Utf8.decode s pos).1 = true)) := by rw [hbl]; simp [Hid]; omega
          have hsz : (s.extract pos s.size).size ≤ maxLen := by simp only [ByteArray.size_extract]; unfold maxLen; omega
          have hftl := Ax.firstTok_le (s.extract pos s.size) (Utf8.decode s pos).1 (by simp only [ByteArray.size_extract]; omega)
          simp only [ByteArray.size_extract] at hftl
          obtain ⟨kd, sz, hft⟩ : ∃ kd sz, Ax.firstTok (s.extract pos s.size) (Utf8.decode s pos).1 = (kd, sz) := ⟨_, _, rfl⟩
          rw [hft] at hftl
          simp only at hftl
          have HFT : Hid (Ax.firstTok (s.extract pos s.size) (Utf8.decode s pos).1 = (kd, sz)) := hft
          clear hft
          cases hk0 : (kd == 0)
          case false =>
            go_wp2_with (first | (go_at_call 177; refine (isBlank_any _ _).mono ?_; rintro e w' ⟨rfl, rfl⟩) | (go_at_call 178; refine (firstToken_any _ _ _ hsz).mono ?_; rintro e w1 ⟨rfl, hb1⟩; rw [HFT.out]; have hown1 := ownsRow_below (ownsRow_iterAt hown (by omega) _ _) hb1; have hsz1 := hb1.size) | (at_builtin; refine wpList_append_own _ rfl (.tmp 30) (.tmp 40) 202 rfl (w.heap.size + 1) 210 i0 _ 3 32 Tryz.underlying202 hi hz0 hz1 hz2 rfl (by decide) _ _ _ rfl (hown1.alloc _) ⟨w1.heap.size, 0, none⟩ 1 1 [.int .i64 kd, .int .i64 pos, .string (s.extract pos (pos + sz))] rfl rfl (new_cells _ _ _) (by simp [Value.oneCell']) (by unfold maxLen; omega) (by omega) (by rw [Lib.iterAt_size] at hsz1; simp; omega) ?_; intro v2 w2 hown2 hgrow _; obtain ⟨hit2, hbel2⟩ := split_world hit hown hbel hb1 hgrow; clear hgrow hown1))
            go_roundw
            case rel =>
              refine ⟨pos + (Utf8.decode s pos).2, pos + sz, f, acc ++ [⟨kd, pos, s.extract pos (pos + sz)⟩], by go_num, hit2, ?_, hbel2, ?_, by omega, by omega, by omega, ?_⟩
              · rw [tokCells_snoc]; simpa using hown2
              · simp; omega
              · exact (Ax.splitLoop_on s f pos beh acc hp hnb.out kd sz HFT.out (by simpa using hk0)).symm.trans HL.out
            case measure => rw [iterPos_at hit2, iterPos_at hit]; omega
          case true =>
            go_wp2_with (first | (go_at_call 177; refine (isBlank_any _ _).mono ?_; rintro e w' ⟨rfl, rfl⟩) | (go_at_call 178; refine (firstToken_any _ _ _ hsz).mono ?_; rintro e w1 ⟨rfl, hb1⟩; rw [HFT.out]; have hown1 := ownsRow_below (ownsRow_iterAt hown (by omega) _ _) hb1; have hsz1 := hb1.size) | (at_builtin; refine wpList_append_own _ rfl (.tmp 30) (.tmp 40) 202 rfl (w.heap.size + 1) 210 i0 _ 3 32 Tryz.underlying202 hi hz0 hz1 hz2 rfl (by decide) _ _ _ rfl (hown1.alloc _) ⟨w1.heap.size, 0, none⟩ 1 1 [.int .i64 kd, .int .i64 pos, .string (s.extract pos (pos + sz))] rfl rfl (new_cells _ _ _) (by simp [Value.oneCell']) (by unfold maxLen; omega) (by omega) (by rw [Lib.iterAt_size] at hsz1; simp; omega) ?_; intro v2 w2 hown2 hgrow _; obtain ⟨hit2, hbel2⟩ := split_world hit hown hbel hb1 hgrow; clear hgrow hown1))
            go_ret
            have hsp : Ax.split s = acc ++ [⟨kd, pos, s.extract pos (pos + sz)⟩] := HL.out.symm.trans (Ax.splitLoop_wrong s f pos beh acc hp hnb.out kd sz HFT.out (by simpa using hk0))
            refine ⟨_, rfl, ?_, hbel2⟩
            rw [hsp, tokCells_snoc]
            refine ownsRow_base (by simpa using hown2) (Nat.le_succ _)
    · have hnx : ∀ ty, (Instr.next (.pointer (some ⟨w.heap.size, 0, none⟩)) true ty).run Tryz.prog wr = _ := fun ty => Lib.run_next_end_at wr w.heap.size s pos ty hit hp
      have hsp : Hid (Ax.split s = acc ++ [⟨1, s.size, ByteArray.empty⟩]) := HL.out.symm.trans (Ax.splitLoop_end s f pos beh acc hp)
      go_wp2_with (at_builtin; refine wpList_append_own _ rfl (.tmp 48) (.tmp 52) 202 rfl (w.heap.size + 1) 210 i0 _ 3 32 Tryz.underlying202 hi hz0 hz1 hz2 rfl (by decide) _ _ _ rfl (hown.alloc _) ⟨wr.heap.size, 0, none⟩ 1 1 [.int .i64 1, .int .i64 s.size, .string ByteArray.empty] rfl rfl (new_cells _ _ _) (by simp [Value.oneCell']) (by unfold maxLen; omega) (by omega) (by simp; omega) ?_; intro v2 w2 hown2 hgrow _)
      go_ret
      refine ⟨_, rfl, ?_, ?_⟩
      · rw [hsp.out, tokCells_snoc]
        refine ownsRow_base (by simpa using hown2) (Nat.le_succ _)
      · refine (hbel.alloc (by omega) _).grown hgrow (by simp; omega) ?_
        intro k hk
        have := (hown.lt _ hk).1
        omega
end Go.Proofs.YtdmicblafmhflaaGreatDoor

/- The parser: peek, take. -/
namespace Go.Proofs.YtdmicblafmhflaaGreatDoor
set_option linter.unusedSimpArgs false
set_option linter.unusedVariables false
open Go.RowKit
/-- the parser in block pb, at token nx of toks, which the slice tv holds -/
def PAt (w : World) (pb : Nat) (tv : Value) (toks : List Ax.Tok) (nx : Nat) : Prop :=
  w.heap[pb]? = some (.cells #[tv, .int .i64 nx] 205 (0, 0)) ∧ w.ownsRow 0 210 3 tv toks.length (tokCells toks) ∧ nx < toks.length ∧ toks.length ≤ 1000 ∧ Ax.Ends toks
theorem tokCells_get (l : List Ax.Tok) (k : Nat) (h : k < l.length) :
    (tokCells l)[k * 3]? = some (.int .i64 l[k].kind) ∧ (tokCells l)[k * 3 + 1]? = some (.int .i64 l[k].at_) ∧ (tokCells l)[k * 3 + 2]? = some (.string l[k].text) := by
  induction l generalizing k with
  | nil => simp at h
  | cons a l ih =>
    cases k with
    | zero => simp [tokCells]
    | succ k =>
      have := ih k (by simpa using h)
      have e : ∀ j, (tokCells (a :: l))[(k + 1) * 3 + j]? = (tokCells l)[k * 3 + j]? := by
        intro j
        have : tokCells (a :: l) = [.int .i64 a.kind, .int .i64 a.at_, .string a.text] ++ tokCells l := by simp [tokCells]
        rw [this, List.getElem?_append_right (by simp; omega)]
        congr 1
        simp; omega
      have e0 := e 0
      simp only [Nat.add_zero] at e0
      rw [e0, e 1, e 2]
      simpa using this
theorem Tok_get {toks : List Ax.Tok} {nx : Nat} {t : Ax.Tok} (ht : toks[nx]? = some t) : ∃ h : nx < toks.length, toks[nx] = t := List.getElem?_eq_some_iff.1 ht
/-- what the parser's memory holds -/
theorem PAt.cells {w : World} {pb : Nat} {tv : Value} {toks : List Ax.Tok} {nx : Nat} (h : PAt w pb tv toks nx) {t : Ax.Tok} (ht : toks[nx]? = some t) :
    ∃ tb cap, tv = .slice (some ⟨tb, 0, none⟩) toks.length cap ∧ w.cell? ⟨pb, 0, none⟩ = some tv ∧ w.cell? ⟨pb, 1, none⟩ = some (.int .i64 nx) ∧ pb < w.heap.size ∧ tb < w.heap.size ∧ tb ≠ pb ∧
      w.frozen? ⟨pb, 1, none⟩ = false ∧ toks.length ≤ cap ∧
      w.cell? ⟨tb, nx * 3, none⟩ = some (.int .i64 t.kind) ∧ w.cell? ⟨tb, nx * 3 + 1, none⟩ = some (.int .i64 t.at_) ∧ w.cell? ⟨tb, nx * 3 + 2, none⟩ = some (.string t.text) := by
  obtain ⟨hp, hown, hlt, hle, hends⟩ := h
  obtain ⟨_, rfl⟩ := Tok_get ht
  rcases hown.2 with ⟨rfl, h0⟩ | ⟨g, cap, cur, rfl, _, hg, hc, _⟩
  · omega
  · have hcs := World.ownsRow.cells hown (g := g) rfl
    have hadd : ∀ j, (⟨g, 0, none⟩ : Addr).add j = ⟨g, j, none⟩ := by intro j; unfold Addr.add; split <;> simp_all
    obtain ⟨c0, c1, c2⟩ := tokCells_get toks nx hlt
    have d0 := hcs _ _ c0
    have d1 := hcs _ _ c1
    have d2 := hcs _ _ c2
    rw [hadd] at d0 d1 d2
    refine ⟨g, cap, rfl, ?_, ?_, lt_of_heap hp, lt_of_heap hg, ?_, ?_, hc, d0, d1, d2⟩
    · rw [cell_of_row _ pb 0 _ _ _ hp]; rfl
    · rw [cell_of_row _ pb 1 _ _ _ hp]; rfl
    · intro e
      rw [e, hp] at hg
      simp at hg
    · simp [World.frozen?, hp]
set_option maxHeartbeats 1000000 in
theorem peek_any (w : World) (pb : Nat) (tv : Value) (toks : List Ax.Tok) (nx : Nat) (h : PAt w pb tv toks nx) (t : Ax.Tok) (ht : Hid (toks[nx]? = some t)) :
    Calls Tryz.prog 105 #[.pointer (some ⟨pb, 0, none⟩)] w fun e w' => e = .returned (.agg #[.int .i64 t.kind, .int .i64 t.at_, .string t.text]) ∧ Below w.heap.size w w' := by
  have hlt := h.2.2.1
  have hle := h.2.2.2.1
  obtain ⟨tb, cap, rfl, c0, c1, hpb, htb, hne, hfz, hcap, d0, d1, d2⟩ := h.cells ht.out
  clear h
  go_enter Tryz.func105, Tryz.ntmps105
  go_wp2_with fail
  go_region
  all_goals (try go_wp2_with fail)
  exact bodyPost_ret (v := .agg #[.int .i64 t.kind, .int .i64 t.at_, .string t.text]) (by simp [results, Tryz.results105, go_sem]) rfl ⟨rfl, ((Below.refl _ _).alloc (Nat.le_refl _) _).drew⟩
theorem grownBy_trans {w w1 w2 : World} {row : Option Nat} (h : w.grownBy w1 row) (k : w1.grownBy w2 row) : w.grownBy w2 row :=
  ⟨k.os.trans h.os, k.tape.trans h.tape, k.output.trans h.output, Nat.le_trans h.size k.size, fun i hi hr => (k.block i (Nat.lt_of_lt_of_le hi h.size) hr).trans (h.block i hi hr)⟩
theorem grownBy_of_below {w w' : World} (h : Below w.heap.size w w') (row : Option Nat) : w.grownBy w' row := ⟨h.os, h.tape, h.output, h.size, fun k hk _ => h.block k hk⟩
theorem grownBy_refl (w : World) (row : Option Nat) : w.grownBy w row := ⟨rfl, rfl, rfl, Nat.le_refl _, fun _ _ _ => rfl⟩
theorem grownBy_alloc {w w1 : World} {row : Option Nat} (h : w.grownBy w1 row) (o : Obj) : w.grownBy (w1.alloc o) row := grownBy_trans h (World.grownBy_alloc w1 o row)
theorem grownBy_drew {w w1 : World} {row : Option Nat} (h : w.grownBy w1 row) : w.grownBy w1.drew row := ⟨h.os, h.tape, h.output, h.size, h.block⟩
theorem grownBy_setCell {w : World} (a : Addr) (v : Value) : w.grownBy (w.setCell a v) (some a.block) :=
  ⟨rfl, rfl, rfl, by simp [World.setCell], fun k _ hr => Below.heap_setCell _ _ _ _ (fun e => hr (by rw [e]))⟩
theorem grownBy_setNew {w w1 : World} {row : Option Nat} (h : w.grownBy w1 row) {a : Addr} (ha : w.heap.size ≤ a.block) (v : Value) : w.grownBy (w1.setCell a v) row :=
  ⟨h.os, h.tape, h.output, by have := h.size; simp [World.setCell]; omega, fun k hk hr => (Below.heap_setCell _ _ _ _ (by omega)).trans (h.block k hk hr)⟩
theorem PAt.below {w w' : World} {pb : Nat} {tv : Value} {toks : List Ax.Tok} {nx : Nat} (h : PAt w pb tv toks nx) (hb : Below w.heap.size w w') : PAt w' pb tv toks nx :=
  ⟨(hb.block pb (lt_of_heap h.1)).trans h.1, ownsRow_below h.2.1 hb, h.2.2⟩
/-- a row of one type stands while a block of another type is written -/
theorem ownsRow_type {w w' : World} {b : Nat} {e e' : TypeId} {size : Nat} {v : Value} {n : Nat} {xs : List Value} {row : Option Nat} (h : w.ownsRow b e size v n xs) (hg : w.grownBy w' row)
    (hr : ∀ k, row = some k → ∃ cur fz, w.heap[k]? = some (.cells cur e' fz)) (hne : e ≠ e') : w'.ownsRow b e size v n xs := by
  refine h.kept hg ?_
  rcases h.2 with ⟨rfl, _⟩ | ⟨g, cap, cur, rfl, _, hh, _⟩
  · exact .inl rfl
  · refine .inr fun e1 => ?_
    obtain ⟨cur', fz, hk⟩ := hr g e1.symm
    rw [hk] at hh
    simp at hh
    exact hne hh.2.1.symm
/-- the parser goes on to another token -/
theorem PAt.step {w w' : World} {pb : Nat} {tv : Value} {toks : List Ax.Tok} {nx nx' : Nat} (h : PAt w pb tv toks nx) (hg : w.grownBy w' (some pb)) (hp : w'.heap[pb]? = some (.cells #[tv, .int .i64 nx'] 205 (0, 0))) (hn : nx' < toks.length) : PAt w' pb tv toks nx' :=
  ⟨hp, ownsRow_type h.2.1 hg (e' := 205) (fun k hk => by cases hk; exact ⟨_, _, h.1⟩) (by decide), hn, h.2.2.2⟩
theorem Tryz.fieldTok0 (a b : Int) (c : ByteArray) (w : World) : (Instr.field 210 (.agg #[.int .i64 a, .int .i64 b, .string c]) 0).run Tryz.prog w = .ok (.int .i64 a) w := by kernel_rfl
theorem setCell_one {w : World} {pb : Nat} {a b c : Value} {t : TypeId} (h : w.heap[pb]? = some (.cells #[a, b] t (0, 0))) : (w.setCell ⟨pb, 1, none⟩ c).heap[pb]? = some (.cells #[a, c] t (0, 0)) := by
  simp only [World.setCell, Array.getElem?_modify, h]
  simp
set_option maxHeartbeats 1000000 in
theorem take_yes (w : World) (pb : Nat) (tv : Value) (toks : List Ax.Tok) (nx : Nat) (h : PAt w pb tv toks nx) (t : Ax.Tok) (ht : Hid (toks[nx]? = some t)) (kd : Int) (hk : 2 ≤ kd) (he : (t.kind == kd) = true) :
    Calls Tryz.prog 223 #[.pointer (some ⟨pb, 0, none⟩), .int .i64 kd] w fun e w' => e = .returned (.bool true) ∧ PAt w' pb tv toks (nx + 1) ∧ w.grownBy w' (some pb) := by
  have hn1 : nx + 1 < toks.length := by
    obtain ⟨hlt, e⟩ := Tok_get ht.out
    have e2 : t.kind = kd := by simpa using he
    exact h.2.2.2.2.next hlt (by rw [e]; omega) (by rw [e]; omega)
  have hle := h.2.2.2.1
  have hne : (t.kind != kd) = false := by simpa using he
  clear he
  have hfd := Tryz.fieldTok0
  go_enter Tryz.func223, Tryz.ntmps223
  go_wp2_with (go_at_call 105; refine (peek_any _ _ _ _ _ h _ ht).mono ?_; rintro e w1 ⟨rfl, hb1⟩; obtain ⟨tb, cap, _, _, c1, hpb, _, _, hfz, _⟩ := (h.below hb1).cells ht.out)
  go_ret
  refine ⟨rfl, ?_, ?_⟩
  · refine (h.below hb1).step (grownBy_setCell _ _) ?_ hn1
    rw [setCell_one (h.below hb1).1]
    go_num
  · exact grownBy_trans (grownBy_of_below hb1 _) (grownBy_setCell _ _)
set_option maxHeartbeats 1000000 in
theorem take_no (w : World) (pb : Nat) (tv : Value) (toks : List Ax.Tok) (nx : Nat) (h : PAt w pb tv toks nx) (t : Ax.Tok) (ht : Hid (toks[nx]? = some t)) (kd : Int) (he : (t.kind == kd) = false) :
    Calls Tryz.prog 223 #[.pointer (some ⟨pb, 0, none⟩), .int .i64 kd] w fun e w' => e = .returned (.bool false) ∧ Below w.heap.size w w' := by
  have hne : (t.kind != kd) = true := by simpa using he
  clear he
  have hfd := Tryz.fieldTok0
  go_enter Tryz.func223, Tryz.ntmps223
  go_wp2_with (go_at_call 105; refine (peek_any _ _ _ _ _ h _ ht).mono ?_; rintro e w1 ⟨rfl, hb1⟩)
  go_ret
  exact ⟨rfl, hb1⟩
end Go.Proofs.YtdmicblafmhflaaGreatDoor

/- The parser: term. -/
namespace Go.Proofs.YtdmicblafmhflaaGreatDoor
set_option linter.unusedSimpArgs false
set_option linter.unusedVariables false
open Go.RowKit
theorem PAt.alloc {w : World} {pb : Nat} {tv : Value} {toks : List Ax.Tok} {nx : Nat} (h : PAt w pb tv toks nx) (o : Obj) : PAt (w.alloc o) pb tv toks nx :=
  h.below ((Below.refl _ _).alloc (Nat.le_refl _) o)
/-- the parser stands while a block of another type is written -/
theorem PAt.row {w w' : World} {pb : Nat} {tv : Value} {toks : List Ax.Tok} {nx : Nat} {row : Option Nat} {e' : TypeId} (h : PAt w pb tv toks nx) (hg : w.grownBy w' row)
    (hr : ∀ k, row = some k → ∃ cur fz, w.heap[k]? = some (.cells cur e' fz)) (h1 : 205 ≠ e') (h2 : 210 ≠ e') : PAt w' pb tv toks nx := by
  refine ⟨?_, ownsRow_type h.2.1 hg hr h2, h.2.2⟩
  rw [hg.block pb (lt_of_heap h.1) ?_]
  · exact h.1
  · intro e1
    obtain ⟨cur, fz, hk⟩ := hr pb e1.symm
    rw [h.1] at hk
    simp at hk
    exact h1 hk.2.1
/-- a block that is written stays one of its type -/
theorem heap_setCell_same {w : World} {k off : Nat} {cur : Array Value} {t : TypeId} {fz : Nat × Nat} (h : w.heap[k]? = some (.cells cur t fz)) (v : Value) : (w.setCell ⟨k, off, none⟩ v).heap[k]? = some (.cells (cur.setIfInBounds off v) t fz) := by
  simp only [World.setCell, Array.getElem?_modify, h]
  simp
theorem cell_at {w : World} {k : Nat} {cur : Array Value} {t : TypeId} {fz : Nat × Nat} (h : w.heap[k]? = some (.cells cur t fz)) (j : Nat) : w.cell? ⟨k, j, none⟩ = cur[j]? := by
  rw [cell_of_row _ k j _ _ _ h]
theorem frozen_at {w : World} {k : Nat} {cur : Array Value} {t : TypeId} (h : w.heap[k]? = some (.cells cur t (0, 0))) (j : Nat) : w.frozen? ⟨k, j, none⟩ = false := by
  simp [World.frozen?, h]
theorem term_world {w w1 w2 : World} {pb : Nat} {tv : Value} {toks : List Ax.Tok} {nx : Nat} {o1 o2 : Obj} (h : PAt w pb tv toks nx) (hb1 : Below (w.heap.size + 1) (w.alloc o1) w1) (hg2 : (w1.alloc o2).grownBy w2 (some pb)) :
    w2.heap[w1.heap.size]? = some o2 ∧ w2.heap[w.heap.size]? = some o1 ∧ w.grownBy w2 (some pb) ∧ w.heap.size < w1.heap.size ∧ w1.heap.size < w2.heap.size := by
  have hp := lt_of_heap h.1
  have hs1 := hb1.size
  have hs2 := hg2.size
  simp only [World.size_alloc] at hs1 hs2
  refine ⟨?_, ?_, ?_, by omega, by omega⟩
  · rw [hg2.block _ (by simp) (by simp; omega)]
    exact heap_alloc_new _ _
  · rw [hg2.block _ (by simp; omega) (by simp; omega), Below.heap_alloc _ _ _ (by omega), hb1.block _ (by omega)]
    exact heap_alloc_new _ _
  · refine grownBy_trans ?_ hg2
    refine grownBy_trans ?_ (World.grownBy_alloc _ _ _)
    refine grownBy_trans (World.grownBy_alloc w o1 _) (grownBy_of_below (hb1.mono (by simp)) _)
/-- two stores into a block of two cells that is new since w -/
theorem two_stores {w w2 : World} {pb : Nat} {tv : Value} {toks : List Ax.Tok} {nx k : Nat} {a b : Value} (r2 : w2.heap[k]? = some (.cells #[a, b] 310 (0, 0))) (c d : Value) (gw : w.grownBy w2 (some pb)) (hp : PAt w2 pb tv toks nx) (hk : w.heap.size ≤ k) :
    ((w2.setCell ⟨k, 0, none⟩ c).setCell ⟨k, 1, none⟩ d).heap[k]? = some (.cells #[c, d] 310 (0, 0)) ∧ w.grownBy ((w2.setCell ⟨k, 0, none⟩ c).setCell ⟨k, 1, none⟩ d) (some pb) ∧ PAt ((w2.setCell ⟨k, 0, none⟩ c).setCell ⟨k, 1, none⟩ d) pb tv toks nx := by
  have h0 := heap_setCell_same (off := 0) r2 c
  have h1 := heap_setCell_same (off := 1) h0 d
  refine ⟨by rw [h1]; rfl, grownBy_setNew (grownBy_setNew gw hk c) hk d, ?_⟩
  refine (hp.row (grownBy_setCell _ _) (e' := 310) (fun j hj => ?_) (by decide) (by decide)).row (grownBy_setCell _ _) (e' := 310) (fun j hj => ?_) (by decide) (by decide)
  · cases hj; exact ⟨_, _, r2⟩
  · cases hj; exact ⟨_, _, h0⟩
set_option maxHeartbeats 1000000 in
theorem term_name (w : World) (pb : Nat) (tv : Value) (toks : List Ax.Tok) (nx : Nat) (h : PAt w pb tv toks nx) (t : Ax.Tok) (ht : Hid (toks[nx]? = some t)) (he : (t.kind == 2) = true) :
    Calls Tryz.prog 283 #[.pointer (some ⟨pb, 0, none⟩)] w fun e w' => e = .returned (.tuple #[.agg #[.int .i64 0, .string t.text], .bool true]) ∧ PAt w' pb tv toks (nx + 1) ∧ w.grownBy w' (some pb) := by
  have hpb := lt_of_heap h.1
  go_enter Tryz.func283, Tryz.ntmps283
  go_wp2_with (first | (go_at_call 105; refine (peek_any _ _ _ _ _ (h.alloc _) _ ht).mono ?_; rintro e w1 ⟨rfl, hb1⟩; rw [World.size_alloc] at hb1; have hp1 := ((h.alloc (.cells #[.int .i64 0, .string ⟨#[]⟩] 310)).below (by rw [World.size_alloc]; exact hb1))) | (go_at_call_of 223 (Value.int IntKind.i64 2); refine (take_yes _ _ _ _ _ (hp1.alloc _) _ ht _ (by decide) he).mono ?_; rintro e w2 ⟨rfl, hp2, hg2⟩; obtain ⟨t2, r2, gw2, lt1, lt2⟩ := term_world h hb1 hg2; have c2 := cell_at t2 2; have f0 := frozen_at r2 0; have f1 := frozen_at r2 1; have k0 := cell_at r2 0; have k1 := cell_at r2 1; simp only [List.getElem?_toArray, List.getElem?_cons_zero, List.getElem?_cons_succ] at c2 k0 k1))
  obtain ⟨hu, gu, pu⟩ := two_stores r2 (.int .i64 0) (.string t.text) gw2 hp2 (Nat.le_refl _)
  exact bodyPost_ret (v := .tuple #[.agg #[.int .i64 0, .string t.text], .bool true]) (by simp [results, Tryz.results283, go_sem, cell_at hu]) rfl ⟨rfl, pu, gu⟩
set_option maxHeartbeats 1000000 in
theorem term_var (w : World) (pb : Nat) (tv : Value) (toks : List Ax.Tok) (nx : Nat) (h : PAt w pb tv toks nx) (t : Ax.Tok) (ht : Hid (toks[nx]? = some t)) (he : (t.kind == 2) = false) (hf : (t.kind == 3) = true) :
    Calls Tryz.prog 283 #[.pointer (some ⟨pb, 0, none⟩)] w fun e w' => e = .returned (.tuple #[.agg #[.int .i64 1, .string t.text], .bool true]) ∧ PAt w' pb tv toks (nx + 1) ∧ w.grownBy w' (some pb) := by
  have hpb := lt_of_heap h.1
  go_enter Tryz.func283, Tryz.ntmps283
  go_wp2_with (first | (go_at_call 105; refine (peek_any _ _ _ _ _ (h.alloc _) _ ht).mono ?_; rintro e w1 ⟨rfl, hb1⟩; rw [World.size_alloc] at hb1; have hp1 := ((h.alloc (.cells #[.int .i64 0, .string ⟨#[]⟩] 310)).below (by rw [World.size_alloc]; exact hb1))) | (go_at_call_of 223 (Value.int IntKind.i64 2); refine (take_no _ _ _ _ _ (hp1.alloc _) _ ht _ he).mono ?_; rintro e w2 ⟨rfl, hb2⟩; have hp2 := (hp1.alloc (.cells #[.int .i64 t.kind, .int .i64 t.at_, .string t.text] 210)).below hb2) | (go_at_call_of 223 (Value.int IntKind.i64 3); refine (take_yes _ _ _ _ _ hp2 _ ht _ (by decide) hf).mono ?_; rintro e w3 ⟨rfl, hp3, hg3⟩; have hg2 := grownBy_trans (grownBy_of_below hb2 (some pb)) hg3; obtain ⟨t2, r2, gw2, lt1, lt2⟩ := term_world h hb1 hg2; have c2 := cell_at t2 2; have f0 := frozen_at r2 0; have f1 := frozen_at r2 1; have k0 := cell_at r2 0; have k1 := cell_at r2 1; simp only [List.getElem?_toArray, List.getElem?_cons_zero, List.getElem?_cons_succ] at c2 k0 k1))
  obtain ⟨hu, gu, pu⟩ := two_stores r2 (.int .i64 1) (.string t.text) gw2 hp3 (Nat.le_refl _)
  exact bodyPost_ret (v := .tuple #[.agg #[.int .i64 1, .string t.text], .bool true]) (by simp [results, Tryz.results283, go_sem, cell_at hu]) rfl ⟨rfl, pu, gu⟩
set_option maxHeartbeats 1000000 in
theorem term_none (w : World) (pb : Nat) (tv : Value) (toks : List Ax.Tok) (nx : Nat) (h : PAt w pb tv toks nx) (t : Ax.Tok) (ht : Hid (toks[nx]? = some t)) (he : (t.kind == 2) = false) (hf : (t.kind == 3) = false) :
    Calls Tryz.prog 283 #[.pointer (some ⟨pb, 0, none⟩)] w fun e w' => e = .returned (.tuple #[.agg #[.int .i64 0, .string ⟨#[]⟩], .bool false]) ∧ PAt w' pb tv toks nx ∧ w.grownBy w' (some pb) := by
  have hpb := lt_of_heap h.1
  go_enter Tryz.func283, Tryz.ntmps283
  go_wp2_with (first | (go_at_call 105; refine (peek_any _ _ _ _ _ (h.alloc _) _ ht).mono ?_; rintro e w1 ⟨rfl, hb1⟩; rw [World.size_alloc] at hb1; have hp1 := ((h.alloc (.cells #[.int .i64 0, .string ⟨#[]⟩] 310)).below (by rw [World.size_alloc]; exact hb1))) | (go_at_call_of 223 (Value.int IntKind.i64 2); refine (take_no _ _ _ _ _ (hp1.alloc _) _ ht _ he).mono ?_; rintro e w2 ⟨rfl, hb2⟩; have hp2 := (hp1.alloc (.cells #[.int .i64 t.kind, .int .i64 t.at_, .string t.text] 210)).below hb2) | (go_at_call_of 223 (Value.int IntKind.i64 3); refine (take_no _ _ _ _ _ hp2 _ ht _ hf).mono ?_; rintro e w3 ⟨rfl, hb3⟩; have hp3 := hp2.below hb3; have hg2 := grownBy_trans (grownBy_of_below hb2 (some pb)) (grownBy_of_below hb3 (some pb)); obtain ⟨t2, r2, gw2, lt1, lt2⟩ := term_world h hb1 hg2; have c2 := cell_at t2 2; have f0 := frozen_at r2 0; have f1 := frozen_at r2 1; have k0 := cell_at r2 0; have k1 := cell_at r2 1; simp only [List.getElem?_toArray, List.getElem?_cons_zero, List.getElem?_cons_succ] at c2 k0 k1))
  obtain ⟨hu, gu, pu⟩ := two_stores r2 (.int .i64 0) (.string ⟨#[]⟩) gw2 hp3 (Nat.le_refl _)
  exact bodyPost_ret (v := .tuple #[.agg #[.int .i64 0, .string ⟨#[]⟩], .bool false]) (by simp [results, Tryz.results283, go_sem, cell_at hu]) rfl ⟨rfl, pu, gu⟩
end Go.Proofs.YtdmicblafmhflaaGreatDoor
