/- strings.Builder's String; plainForm. -/
import Derived.Test.YtdmicblafmhflaaB0
import Derived.Test.YtdmicblafmhflaaN0
namespace Go.Proofs.Ytdmicblafmhflaa
set_option linter.unusedSimpArgs false
set_option linter.unusedVariables false
open Go.RowKit

theorem below_freeze {B : Nat} {a w : World} (h : Below B a w) {p : Addr} (hp : B ≤ p.block) (n : Nat) : Below B a (w.freeze p n) := by
  refine h.trans ⟨?_, ?_, ?_, ?_, ?_⟩
  all_goals unfold World.freeze
  all_goals split
  all_goals first | rfl | exact Nat.le_refl _ | skip
  · simp
  · intro k _; rfl
  · intro k hk
    simp only [Array.getElem?_modify]
    rw [if_neg (by omega)]

set_option maxHeartbeats 2000000 in
set_option maxRecDepth 100000 in
theorem string_some (B b : Nat) (l : List UInt8) (w : World) (h : Bld B w b l) (hl0 : l ≠ []) :
    Calls Try.prog 45 #[.pointer (some ⟨b, 0, none⟩)] w fun e w' => e = .returned (.string ⟨l.toArray⟩) ∧ Below B w w' := by
  obtain ⟨p, v, hp, hb, hown, _⟩ := h
  have hl : l.length ≠ 0 := by simpa using hl0
  have hcs := fun g hg => World.ownsRow.cells hown (g := g) hg
  obtain ⟨g, cap, cur, rfl, hbg, hg, hnc, hcm, hsz⟩ : ∃ g cap cur, v = .slice (some ⟨g, 0, none⟩) l.length cap ∧ B ≤ g ∧ w.heap[g]? = some (.cells cur 5 (0, 0)) ∧ l.length ≤ cap ∧ cap ≤ maxLen ∧ cur.size = cap * 1 := by
    rcases hown.2 with ⟨_, hz⟩ | ⟨g, cap, cur, hv, h1, h2, h3, h4, h5, _⟩
    · exact absurd hz hl
    · exact ⟨g, cap, cur, hv, h1, h2, h3, h4, h5⟩
  have c1 : w.drew.cell? ⟨b, 1, none⟩ = some (.slice (some ⟨g, 0, none⟩) l.length cap) := by
    have : w.drew.heap[b]? = some (.cells #[p, .slice (some ⟨g, 0, none⟩) l.length cap] 107 (0, 0)) := hb
    rw [cell_at this]; rfl
  have hSD : (Builtin.unsafeSliceData_ #[105] 123 #[.slice (some ⟨g, 0, none⟩) l.length cap]).run Try.prog w.drew = .ok (.pointer (some ⟨g, 0, none⟩)) w.drew :=
    Lib.run_unsafeSliceData_row _ _ _ _ _ _ (by omega)
  have hUS : (Builtin.unsafeString_ #[123, 3] 9 #[.pointer (some ⟨g, 0, none⟩), .int .i64 l.length]).run Try.prog w.drew = .ok (.string ⟨l.toArray⟩) (w.drew.freeze ⟨g, 0, none⟩ l.length) := by
    refine Lib.run_unsafeString_row w.drew 123 3 9 5 Try.underlying123 Try.cellsByte g cur.size ?_ l hl0 (by omega) (by unfold maxLen at hcm; omega) ?_
    · have hg' : w.drew.heap[g]? = some (.cells cur 5 (0, 0)) := hg
      simp [World.shape?, hg']
    · intro j x hx
      exact hcs g rfl j (.int .u8 x.toNat) (by simp [Lib.byteCells, hx])
  have hfin : Hid (Below B w (w.drew.freeze ⟨g, 0, none⟩ l.length)) := below_freeze ((Below.refl B w).drew) (p := ⟨g, 0, none⟩) hbg _
  clear hcs hown hb hg
  go_enter Try.func45, Try.ntmps45
  go_wp2_with fail
  go_region
  all_goals (go_wp2_with fail)
  all_goals go_ret
  all_goals (exact ⟨rfl, hfin.out⟩)

set_option maxHeartbeats 2000000 in
set_option maxRecDepth 100000 in
theorem string_none (B b : Nat) (w : World) (h : Bld B w b []) :
    Calls Try.prog 45 #[.pointer (some ⟨b, 0, none⟩)] w fun e w' => e = .returned (.string ⟨#[]⟩) ∧ Below B w w' := by
  obtain ⟨p, v, hp, hb, hown, hnil⟩ := h
  obtain rfl := hnil rfl
  have c1 : w.drew.cell? ⟨b, 1, none⟩ = some (.slice none 0 0) := by
    have : w.drew.heap[b]? = some (.cells #[p, .slice none 0 0] 107 (0, 0)) := hb
    rw [cell_at this]; rfl
  have hSD : (Builtin.unsafeSliceData_ #[105] 123 #[.slice none 0 0]).run Try.prog w.drew = .ok (.pointer none) w.drew := rfl
  have hUS : (Builtin.unsafeString_ #[123, 3] 9 #[.pointer none, .int .i64 0]).run Try.prog w.drew = .ok (.string ⟨#[]⟩) w.drew := Lib.run_unsafeString_none _ _ _ _ _
  clear hown hnil hb
  go_enter Try.func45, Try.ntmps45
  go_wp2_with fail
  go_region
  all_goals (go_wp2_with fail)
  all_goals go_ret
  all_goals (exact ⟨rfl, (Below.refl B w).drew⟩)

theorem Bld.alloc {B : Nat} {w : World} {b : Nat} {l : List UInt8} (h : Bld B w b l) (o : Obj) : Bld B (w.alloc o) b l := by
  obtain ⟨p, v, hp, hb, hown, hn⟩ := h
  exact ⟨p, v, hp, (Below.heap_alloc _ _ _ (lt_of_heap hb)).trans hb, hown.alloc o, hn⟩
theorem Bld.lt {B : Nat} {w : World} {b : Nat} {l : List UInt8} (h : Bld B w b l) : b < w.heap.size := by
  obtain ⟨p, v, hp, hb, hown, hn⟩ := h
  exact lt_of_heap hb

/-- the texts of tokens, one behind the other -/
def textsOf (l : List Ax.Tok) : List UInt8 := l.flatMap fun t => t.text.data.toList

set_option maxHeartbeats 2000000 in
theorem plainForm_any (w : World) (bs : Nat) (td : Option Addr) (tc : Nat) (toks : List Ax.Tok) (h : w.ownsRow bs 66 3 (.slice td toks.length tc) toks.length (tokCells toks)) (hl : toks.length ≤ 1000) (ht : ∀ t, t ∈ toks → t.text.size ≤ 600) :
    Calls Try.prog 29 #[.slice td toks.length tc] w fun e w' => e = .returned (.string ⟨(textsOf toks).toArray⟩) ∧ Below w.heap.size w w' := by
  have HT : Hid (∀ t, t ∈ toks → t.text.size ≤ 600) := ht
  clear ht
  go_enter Try.func29, Try.ntmps29
  go_wp2_with fail
  go_loopw [8] (fun i wr => ∃ k : Nat, k ≤ toks.length ∧ i = .int .i64 k ∧ Bld w.heap.size wr w.heap.size (textsOf (toks.take k)) ∧ Below w.heap.size w wr ∧ (textsOf (toks.take k)).length ≤ 600 * k ∧ w.heap.size < wr.heap.size) (fun i _ => toks.length - (intOf i).toNat)
  case atStart => exact ⟨0, Nat.zero_le _, rfl, ⟨_, _, .inl rfl, heap_alloc_new _ _, World.ownsRow_nil _ _ _ _, fun _ => rfl⟩, (Below.refl _ _).alloc (Nat.le_refl _) _, Nat.le_refl _, by simp⟩
  case round =>
    obtain ⟨k, hk, rfl, hbld, hbel, hlen, hlt1⟩ := hrel
    by_cases hlt : k < toks.length
    · have hrow := ownsRow_below h hbel
      obtain ⟨g, rfl, hg, hc, hcs⟩ := row_cells hrow (by omega)
      have c0 := hcs _ _ (tokCells_get toks k hlt).1
      have c1 := hcs _ _ (tokCells_get toks k hlt).2.1
      have c2 := hcs _ _ (tokCells_get toks k hlt).2.2
      have hts := HT.out _ (List.getElem_mem hlt)
      have hnext : textsOf (toks.take (k + 1)) = textsOf (toks.take k) ++ (toks[k]).text.data.toList := by
        rw [List.take_succ_eq_append_getElem hlt]; simp only [textsOf, List.flatMap_append, List.flatMap_cons, List.flatMap_nil, List.append_nil]
      have HN : Hid (textsOf (toks.take (k + 1)) = textsOf (toks.take k) ++ (toks[k]).text.data.toList) := hnext
      clear hnext hcs hrow
      generalize toks[k] = t at *
      generalize textsOf (toks.take k) = L at *
      go_wp2_with (go_at_call 44; refine (writeString_any w.heap.size w.heap.size _ _ _ (Bld.alloc hbld _) (Nat.le_refl _) (by omega)).mono ?_; rintro e w1 ⟨rfl, hbld1, hbel1⟩)
      go_roundw
      case rel =>
        refine ⟨k + 1, by omega, by go_num, by rw [HN.out]; exact hbld1, (hbel.alloc (by omega) _).trans hbel1, ?_, ?_⟩
        · rw [HN.out, List.length_append]
          have : t.text.data.toList.length = t.text.size := by simp
          omega
        · have := hbel1.size; simp at this; omega
      case measure => simp [intOf]; omega
    · obtain rfl : k = toks.length := by omega
      rw [List.take_length] at hbld
      by_cases hne : textsOf toks = []
      · rw [hne] at hbld
        have HE : Hid (textsOf toks = []) := hne
        clear hne hlen
        go_wp2_with (go_at_call 45; refine (string_none w.heap.size _ _ hbld).mono ?_; rintro e w1 ⟨rfl, hb1⟩)
        go_ret
        exact ⟨by rw [HE.out]; rfl, hbel.trans hb1⟩
      · have HE : Hid (textsOf toks ≠ []) := hne
        clear hlen hne
        go_wp2_with (go_at_call 45; refine (string_some w.heap.size _ _ _ hbld HE.out).mono ?_; rintro e w1 ⟨rfl, hb1⟩)
        go_ret
        exact ⟨rfl, hbel.trans hb1⟩
end Go.Proofs.Ytdmicblafmhflaa
