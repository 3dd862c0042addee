/- split. -/
import Derived.Test.YtdmicblafmhflaaL2
import Derived.Lib.OthersKept
namespace Go.Proofs.Ytdmicblafmhflaa
set_option linter.unusedSimpArgs false
set_option linter.unusedVariables false
open Go.RowKit

/-- tokens as cells -/
def tokCells (l : List Ax.Tok) : List Value := l.flatMap fun t => [.int .i64 t.kind, .int .i64 t.at_, .string t.text]
theorem tokCells_snoc (l : List Ax.Tok) (t : Ax.Tok) : tokCells (l ++ [t]) = tokCells l ++ [.int .i64 t.kind, .int .i64 t.at_, .string t.text] := by simp [tokCells]
theorem tokCells_len (l : List Ax.Tok) : (tokCells l).length = l.length * 3 := by induction l with | nil => rfl | cons a l ih => simp [tokCells] at ih ⊢; omega

theorem Try.infoTok : (Try.prog.info? 66).map (fun i => (i.zero, i.size, i.bytes)) = some (some (.agg #[.int .i64 0, .int .i64 0, .string ByteArray.empty]), 3, 32) := by kernel_rfl

theorem ownsRow_below {w w' : World} {base : Nat} {e : TypeId} {size : Nat} {v : Value} {n : Nat} {xs : List Value} (h : w.ownsRow base e size v n xs) (hb : Below w.heap.size w w') : w'.ownsRow base e size v n xs :=
  h.kept (row := none) ⟨hb.os, hb.tape, hb.output, hb.size, fun k hk _ => hb.block k hk⟩ (by cases hv : v.ownBlock <;> simp)

theorem ownsRow_iterAt {w : World} {base : Nat} {e : TypeId} {size : Nat} {v : Value} {n : Nat} {xs : List Value} (h : w.ownsRow base e size v n xs) {k : Nat} (hk : k < base) (s : ByteArray) (pos : Nat) : (w.iterAt k s pos).ownsRow base e size v n xs := by
  refine ⟨h.1, ?_⟩
  rcases h.2 with hn | ⟨g, cap, cur, hv, hg, hh, r⟩
  · exact .inl hn
  · exact .inr ⟨g, cap, cur, hv, hg, by rw [Lib.iterAt_other _ _ _ _ _ (by omega)]; exact hh, r⟩

/-- a new block's cells -/
theorem new_cells (w : World) (t : TypeId) (xs : List Value) : ∀ (j : Nat) (u : Value), xs[j]? = some u → (w.alloc (.cells xs.toArray t)).cell? ((⟨w.heap.size, 0, none⟩ : Addr).add j) = some u := by
  intro j u hu
  have hadd : (⟨w.heap.size, 0, none⟩ : Addr).add j = ⟨w.heap.size, j, none⟩ := by unfold Addr.add; split <;> simp_all
  rw [hadd, cell_of_row _ w.heap.size j xs.toArray t (0, 0) (heap_alloc_new w _)]
  simpa using hu

theorem lt_of_heap {w : World} {k : Nat} {o : Obj} (h : w.heap[k]? = some o) : k < w.heap.size := (Array.getElem?_eq_some_iff.1 h).1

def SplitRel (s : ByteArray) (w wr : World) (v : Value) (pos beh f : Nat) (acc : List Ax.Tok) : Prop :=
  wr.heap[w.heap.size]? = some (.stringIter s pos) ∧ wr.ownsRow (w.heap.size + 1) 66 3 v acc.length (tokCells acc) ∧ Below w.heap.size w wr ∧
  acc.length ≤ pos ∧ pos ≤ s.size + 4 ∧ s.size ≤ pos + f ∧ beh ≤ s.size ∧ Ax.splitLoop s f pos beh acc = Ax.split s

/-- what a round that lays a token does to the world -/
theorem split_world {s : ByteArray} {w wr w1 w2 : World} {v : Value} {n pos pos' : Nat} {xs : List Value} {o : Obj} (hit : wr.heap[w.heap.size]? = some (.stringIter s pos))
    (hown : wr.ownsRow (w.heap.size + 1) 66 3 v n xs) (hbel : Below w.heap.size w wr)
    (hb1 : Below (wr.iterAt w.heap.size s pos').heap.size (wr.iterAt w.heap.size s pos') w1) (hgrow : (w1.alloc o).grownBy w2 v.ownBlock) :
    w2.heap[w.heap.size]? = some (.stringIter s pos') ∧ Below w.heap.size w w2 := by
  have hlt := lt_of_heap hit
  have hsz : (wr.iterAt w.heap.size s pos').heap.size = wr.heap.size := Lib.iterAt_size _ _ _ _
  have hs1 := hb1.size
  have hne : some w.heap.size ≠ v.ownBlock := by
    intro e
    have := (hown.lt _ e.symm).1
    omega
  refine ⟨?_, ?_⟩
  · rw [hgrow.block _ (by simp; omega) hne, Below.heap_alloc _ _ _ (by omega), hb1.block _ (by omega)]
    exact Lib.iterAt_heap _ _ _ _ _ hit
  · refine ((Lib.below_iterAt hbel (Nat.le_refl _) s pos').trans ?_)
    refine ((hb1.mono (by omega)).alloc (by omega) o).grown hgrow (by simp; omega) ?_
    intro k hk
    have := (hown.lt _ hk).1
    omega

theorem split_first (s : ByteArray) (w : World) : SplitRel s w (w.iter s 0) (.slice none 0 0) 0 0 s.size [] :=
  ⟨World.iter_heap _ _ _, World.ownsRow_nil _ _ _ _, below_iter _ _ _, Nat.le_refl _, Nat.zero_le _, by omega, Nat.zero_le _, rfl⟩

theorem iterPos_at {w : World} {k : Nat} {s : ByteArray} {pos : Nat} (h : w.heap[k]? = some (.stringIter s pos)) : w.iterPos k = pos := by simp [World.iterPos, h]

theorem ownsRow_base {w : World} {b b' : Nat} {e : TypeId} {size : Nat} {v : Value} {n : Nat} {xs : List Value} (h : w.ownsRow b e size v n xs) (hb : b' ≤ b) : w.ownsRow b' e size v n xs := by
  refine ⟨h.1, ?_⟩
  rcases h.2 with hn | ⟨g, cap, cur, hv, hg, r⟩
  · exact .inl hn
  · exact .inr ⟨g, cap, cur, hv, by omega, r⟩

set_option maxHeartbeats 1000000 in
theorem split_any (s : ByteArray) (w : World) (hs : s.size ≤ 600) :
    Calls Try.prog 23 #[.string s] w fun e w' => ∃ v, e = .returned v ∧ w'.ownsRow w.heap.size 66 3 v (Ax.split s).length (tokCells (Ax.split s)) ∧ Below w.heap.size w w' := by
  obtain ⟨i0, hi, hz0, hz1, hz2⟩ := info_parts Try.infoTok
  go_enter Try.func23, Try.ntmps23
  go_wp2_with fail
  go_loopw [3, 4] (fun v b wr => ∃ (pos beh f : Nat) (acc : List Ax.Tok), b = .int .i64 beh ∧ SplitRel s w wr v pos beh f acc) (fun _ _ wr => s.size - wr.iterPos w.heap.size)
  case atStart => exact ⟨0, 0, s.size, [], rfl, split_first s w⟩
  case round =>
    obtain ⟨pos, beh, f, acc, rfl, hit, hown, hbel, hal, hp4, hf, hbeh, hl⟩ := hrel
    have HL : Hid (Ax.splitLoop s f pos beh acc = Ax.split s) := hl
    clear hl
    have hlt := lt_of_heap hit
    by_cases hp : pos < s.size
    · have hnx : ∀ ty, (Instr.next (.pointer (some ⟨w.heap.size, 0, none⟩)) true ty).run Try.prog wr = _ := fun ty => Lib.run_next_any_at wr w.heap.size s pos ty hit hp
      have hwd := width_pos s pos hp
      have hwd4 := width_le s pos
      cases f with
      | zero => omega
      | succ f =>
      have skip : ∀ (hb : pos < beh ∨ Ax.blank (Utf8.decode s pos).1 = true), SplitRel s w (wr.iterAt w.heap.size s (pos + (Utf8.decode s pos).2)) u3 (pos + (Utf8.decode s pos).2) beh f acc := fun hb =>
        ⟨Lib.iterAt_heap _ _ _ _ _ hit, ownsRow_iterAt hown (by omega) _ _, Lib.below_iterAt hbel (Nat.le_refl _) _ _, by omega, by omega, by omega, hbeh, (Ax.splitLoop_skip s f pos beh acc hp hb).symm.trans HL.out⟩
      by_cases hb : pos < beh
      · have SK := skip (.inl hb)
        clear skip hown
        go_wp2_with fail
        go_roundw
        case rel => exact ⟨_, beh, f, acc, rfl, SK⟩
        case measure => rw [iterPos_at SK.1, iterPos_at hit]; omega
      · cases hbl : Ax.blank (Utf8.decode s pos).1
        case true =>
          have SK := skip (.inr hbl)
          clear skip hown
          go_wp2_with (go_at_call 36; refine (isBlank_any _ _).mono ?_; rintro e w' ⟨rfl, rfl⟩)
          go_roundw
          case rel => exact ⟨_, beh, f, acc, rfl, SK⟩
          case measure => rw [iterPos_at SK.1, iterPos_at hit]; omega
        case false =>
          clear skip
          have hnb : Hid (¬ (pos < beh ∨ Ax.blank (Utf8.decode s pos).1 = true)) := by rw [hbl]; simp [Hid]; omega
          have hsz : (s.extract pos s.size).size ≤ maxLen := by simp only [ByteArray.size_extract]; unfold maxLen; omega
          have hftl := Ax.firstTok_le (s.extract pos s.size) (Utf8.decode s pos).1 (by simp only [ByteArray.size_extract]; omega)
          simp only [ByteArray.size_extract] at hftl
          obtain ⟨kd, sz, hft⟩ : ∃ kd sz, Ax.firstTok (s.extract pos s.size) (Utf8.decode s pos).1 = (kd, sz) := ⟨_, _, rfl⟩
          rw [hft] at hftl
          simp only at hftl
          have HFT : Hid (Ax.firstTok (s.extract pos s.size) (Utf8.decode s pos).1 = (kd, sz)) := hft
          clear hft
          cases hk0 : (kd == 0)
          case false =>
            go_wp2_with (first | (go_at_call 36; refine (isBlank_any _ _).mono ?_; rintro e w' ⟨rfl, rfl⟩) | (go_at_call 37; refine (firstToken_any _ _ _ hsz).mono ?_; rintro e w1 ⟨rfl, hb1⟩; rw [HFT.out]; have hown1 := ownsRow_below (ownsRow_iterAt hown (by omega) _ _) hb1; have hsz1 := hb1.size) | (at_builtin; refine wpList_append_own _ rfl (.tmp 30) (.tmp 40) 58 rfl (w.heap.size + 1) 66 i0 _ 3 32 Try.underlying58 hi hz0 hz1 hz2 rfl (by decide) _ _ _ rfl (hown1.alloc _) ⟨w1.heap.size, 0, none⟩ 1 1 [.int .i64 kd, .int .i64 pos, .string (s.extract pos (pos + sz))] rfl rfl (new_cells _ _ _) (by simp [Value.oneCell']) (by unfold maxLen; omega) (by omega) (by rw [Lib.iterAt_size] at hsz1; simp; omega) ?_; intro v2 w2 hown2 hgrow _; obtain ⟨hit2, hbel2⟩ := split_world hit hown hbel hb1 hgrow; clear hgrow hown1))
            go_roundw
            case rel =>
              refine ⟨pos + (Utf8.decode s pos).2, pos + sz, f, acc ++ [⟨kd, pos, s.extract pos (pos + sz)⟩], by go_num, hit2, ?_, hbel2, ?_, by omega, by omega, by omega, ?_⟩
              · rw [tokCells_snoc]; simpa using hown2
              · simp; omega
              · exact (Ax.splitLoop_on s f pos beh acc hp hnb.out kd sz HFT.out (by simpa using hk0)).symm.trans HL.out
            case measure => rw [iterPos_at hit2, iterPos_at hit]; omega
          case true =>
            go_wp2_with (first | (go_at_call 36; refine (isBlank_any _ _).mono ?_; rintro e w' ⟨rfl, rfl⟩) | (go_at_call 37; refine (firstToken_any _ _ _ hsz).mono ?_; rintro e w1 ⟨rfl, hb1⟩; rw [HFT.out]; have hown1 := ownsRow_below (ownsRow_iterAt hown (by omega) _ _) hb1; have hsz1 := hb1.size) | (at_builtin; refine wpList_append_own _ rfl (.tmp 30) (.tmp 40) 58 rfl (w.heap.size + 1) 66 i0 _ 3 32 Try.underlying58 hi hz0 hz1 hz2 rfl (by decide) _ _ _ rfl (hown1.alloc _) ⟨w1.heap.size, 0, none⟩ 1 1 [.int .i64 kd, .int .i64 pos, .string (s.extract pos (pos + sz))] rfl rfl (new_cells _ _ _) (by simp [Value.oneCell']) (by unfold maxLen; omega) (by omega) (by rw [Lib.iterAt_size] at hsz1; simp; omega) ?_; intro v2 w2 hown2 hgrow _; obtain ⟨hit2, hbel2⟩ := split_world hit hown hbel hb1 hgrow; clear hgrow hown1))
            go_ret
            have hsp : Ax.split s = acc ++ [⟨kd, pos, s.extract pos (pos + sz)⟩] := HL.out.symm.trans (Ax.splitLoop_wrong s f pos beh acc hp hnb.out kd sz HFT.out (by simpa using hk0))
            refine ⟨_, rfl, ?_, hbel2⟩
            rw [hsp, tokCells_snoc]
            refine ownsRow_base (by simpa using hown2) (Nat.le_succ _)
    · have hnx : ∀ ty, (Instr.next (.pointer (some ⟨w.heap.size, 0, none⟩)) true ty).run Try.prog wr = _ := fun ty => Lib.run_next_end_at wr w.heap.size s pos ty hit hp
      have hsp : Hid (Ax.split s = acc ++ [⟨1, s.size, ByteArray.empty⟩]) := HL.out.symm.trans (Ax.splitLoop_end s f pos beh acc hp)
      go_wp2_with (at_builtin; refine wpList_append_own _ rfl (.tmp 48) (.tmp 52) 58 rfl (w.heap.size + 1) 66 i0 _ 3 32 Try.underlying58 hi hz0 hz1 hz2 rfl (by decide) _ _ _ rfl (hown.alloc _) ⟨wr.heap.size, 0, none⟩ 1 1 [.int .i64 1, .int .i64 s.size, .string ByteArray.empty] rfl rfl (new_cells _ _ _) (by simp [Value.oneCell']) (by unfold maxLen; omega) (by omega) (by simp; omega) ?_; intro v2 w2 hown2 hgrow _)
      go_ret
      refine ⟨_, rfl, ?_, ?_⟩
      · rw [hsp.out, tokCells_snoc]
        refine ownsRow_base (by simpa using hown2) (Nat.le_succ _)
      · refine (hbel.alloc (by omega) _).grown hgrow (by simp; omega) ?_
        intro k hk
        have := (hown.lt _ hk).1
        omega
end Go.Proofs.Ytdmicblafmhflaa
