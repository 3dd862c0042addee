/- facts.Given.Come. -/
import Derived.Test.YtdmicblafmhflaaGreatDoorC18
import Derived.Test.YtdmicblafmhflaaGreatDoorC22
import Derived.Test.YtdmicblafmhflaaGreatDoorC14
import Derived.Test.YtdmicblafmhflaaGreatDoorC12
import Derived.Test.YtdmicblafmhflaaGreatDoorC07
import Derived.Test.YtdmicblafmhflaaGreatDoorC00
set_option linter.unusedSimpArgs false
set_option linter.unusedVariables false
namespace Go.Proofs.YtdmicblafmhflaaGreatDoor
open Go.RowKit
set_option maxRecDepth 100000 in
set_option maxHeartbeats 2000000 in
theorem come_any (w : World) (g : Nat) (nm : ByteArray) (pl : Nat) (rd : Option Addr) (rc : Nat) (L : List (List ByteArray)) (a b c : ByteArray) (h : TabAt w g 125 nm pl rd rc L []) (hL : L.length ≤ 999999) :
 Calls Tryz.prog 127 #[.pointer (some ⟨g, 0, none⟩), .agg #[.string a, .string b, .string c]] w fun e w' => ∃ rd' rc',
  e = .returned (.tuple #[]) ∧ TabAt w' g 125 nm pl rd' rc' (Tb.put L [a, b, c]) [] ∧
   Kb (g :: (Value.ownBlock (.slice rd L.length rc)).toList) w w' ∧ Fresh w (.slice rd L.length rc) (.slice rd' (Tb.put L [a, b, c]).length rc') := by
 obtain ⟨w0, hw0⟩ : ∃ w0, w0 = w.alloc (.cells #[.string a, .string b, .string c] 119) := ⟨_, rfl⟩
 have hb0 : Below w.heap.size w w0 := by rw [hw0]; exact (Below.refl _ _).alloc (Nat.le_refl _) _
 have htg : w0.heap[w.heap.size]? = some (.cells #[.string a, .string b, .string c] 119 (0, 0)) := by rw [hw0]; exact heap_alloc_new w _
 have t0 : w0.cell? ⟨w.heap.size, 0, none⟩ = some (.string a) := by rw [cell_of_row _ _ 0 _ _ _ htg]; rfl
 have t1 : w0.cell? ⟨w.heap.size, 1, none⟩ = some (.string b) := by rw [cell_of_row _ _ 1 _ _ _ htg]; rfl
 have t2 : w0.cell? ⟨w.heap.size, 2, none⟩ = some (.string c) := by rw [cell_of_row _ _ 2 _ _ _ htg]; rfl
 have h0 := h.below hb0
 have hp : Hid (∀ W, Below w0.heap.size w0 W → Calls Tryz.prog 196 #[.pointer (some ⟨g, 0, none⟩), .agg #[.string a, .string b, .string c]] W fun e w1 => ∃ rd' rc' x y,
  e = .returned (.tuple #[x, y]) ∧ Hid (TabAt w1 g 125 nm pl rd' rc' (Tb.put L [a, b, c]) [] ∧
   Kb (g :: (Value.ownBlock (.slice rd L.length rc)).toList) w w1 ∧ Fresh w (.slice rd L.length rc) (.slice rd' (Tb.put L [a, b, c]).length rc'))) := by
  intro W hW
  refine (put_any W g _ nm pl rd rc L _ a b c (h0.below hW) hL).mono ?_
  rintro e w1 ⟨rd', rc', rfl, q1, q2, q3⟩
  have hbW : Below w.heap.size w W := hb0.trans (hW.mono hb0.size)
  exact ⟨rd', rc', _, _, rfl, q1, (Kb.of_below hbW _).trans q2, q3.mono hbW.size⟩
 have hgl := lt_of_heap h.blk
 clear h h0 htg
 go_enter Tryz.func127, Tryz.ntmps127
 go_wp2_with fail
 rw [← hw0]
 clear hw0
 go_region_with (go_at_call 196; refine (hp.out _ (by exact (Below.refl _ _).drew)).mono ?_; rintro e w1 ⟨rd', rc', x, y, rfl, HE⟩)
 all_goals
  go_end0
  exact ⟨rd', rc', rfl, HE.out.1, HE.out.2.1, HE.out.2.2⟩
end Go.Proofs.YtdmicblafmhflaaGreatDoor
/- The predicates of a program: in the order of their names, each once. No program here. -/
namespace Go.Proofs.YtdmicblafmhflaaGreatDoor.Pd
open Go.Proofs.YtdmicblafmhflaaGreatDoor.Tb
abbrev Pr := ByteArray × Nat
def cptOn (acc : List Pr) (x : Pr) : List Pr := if acc.getLast? = some x then acc else acc ++ [x]
def cpt (l : List Pr) : List Pr := l.foldl cptOn []
theorem cpt_snoc (l : List Pr) (x : Pr) : cpt (l ++ [x]) = cptOn (cpt l) x := by simp [cpt]
theorem cptOn_last (acc : List Pr) (x : Pr) : (cptOn acc x).getLast? = some x := by
 unfold cptOn
 split
 · assumption
 · simp
theorem cpt_last (l : List Pr) (x : Pr) : (cpt (l ++ [x])).getLast? = some x := by rw [cpt_snoc]; exact cptOn_last _ _
theorem mem_cptOn {acc : List Pr} {x y : Pr} : y ∈ cptOn acc x ↔ y ∈ acc ∨ y = x := by
 unfold cptOn
 split
 · rename_i h
   constructor
   · exact .inl
   · rintro (h2 | rfl)
     · exact h2
     · exact List.mem_of_getLast? h
 · simp
theorem snoc_ind {p : List Pr → Prop} (h0 : p []) (h1 : ∀ l x, p l → p (l ++ [x])) (l : List Pr) : p l := by
 rw [← List.reverse_reverse l]
 induction l.reverse with
 | nil => exact h0
 | cons x t ih => rw [List.reverse_cons]; exact h1 _ _ ih
theorem mem_cpt (l : List Pr) {y : Pr} : y ∈ cpt l ↔ y ∈ l := by
 induction l using snoc_ind with
 | h0 => rfl
 | h1 l x ih => rw [cpt_snoc, mem_cptOn, ih]; simp
theorem cpt_take_succ (D : List Pr) {m : Nat} (hm : m < D.length) (h0 : 0 < m) : cpt (D.take (m + 1)) = if D[m] = D[m - 1] then cpt (D.take m) else cpt (D.take m) ++ [D[m]] := by
 have e : D.take (m + 1) = D.take m ++ [D[m]] := by rw [List.take_add_one, List.getElem?_eq_getElem hm]; rfl
 have e1 : D.take m = D.take (m - 1) ++ [D[m - 1]] := by
  have := List.take_add_one (l := D) (i := m - 1)
  rw [show m - 1 + 1 = m by omega, List.getElem?_eq_getElem (by omega)] at this
  exact this
 have hl : (cpt (D.take m)).getLast? = some D[m - 1] := by rw [e1]; exact cpt_last _ _
 rw [e, cpt_snoc, cptOn, hl]
 by_cases h : D[m - 1] = D[m]
 · rw [if_pos (by rw [h]), if_pos h.symm]
 · rw [if_neg (by simpa using h), if_neg (fun k => h k.symm)]
theorem cpt_take_one (D : List Pr) (h : 0 < D.length) : cpt (D.take 1) = [D[0]] := by
 cases D with
 | nil => simp at h
 | cons x D => rfl
def Srt (l : List Pr) : Prop := l.Pairwise fun a b => slt a.1 b.1 = true
theorem srt_ext : ∀ {a b : List Pr}, Srt a → Srt b → (∀ x, x ∈ a ↔ x ∈ b) → a = b
 | [], [], _, _, _ => rfl
 | [], y :: b, _, _, h => by have := (h y).2 (by simp); simp at this
 | x :: a, [], _, _, h => by have := (h x).1 (by simp); simp at this
 | x :: a, y :: b, ha, hb, h => by
  obtain ⟨ha1, ha2⟩ := List.pairwise_cons.1 ha
  obtain ⟨hb1, hb2⟩ := List.pairwise_cons.1 hb
  have e : x = y := by
   rcases List.mem_cons.1 ((h x).1 (by simp)) with e | e
   · exact e
   · rcases List.mem_cons.1 ((h y).2 (by simp)) with e2 | e2
     · exact e2.symm
     · have h1 := hb1 x e
       have h2 := ha1 y e2
       rw [slt_asym h1] at h2
       cases h2
  subst e
  have hirr : ∀ {z : Pr}, slt x.1 z.1 = true → z ≠ x := by
   rintro z hz rfl
   rw [slt_irr] at hz
   cases hz
  rw [srt_ext ha2 hb2 (fun z => ?_)]
  constructor
  · intro hz
    rcases List.mem_cons.1 ((h z).1 (by simp [hz])) with e | e
    · exact absurd e (hirr (ha1 z hz))
    · exact e
  · intro hz
    rcases List.mem_cons.1 ((h z).2 (by simp [hz])) with e | e
    · exact absurd e (hirr (hb1 z hz))
    · exact e
def One (l : List Pr) : Prop := ∀ a, a ∈ l → ∀ b, b ∈ l → a.1 = b.1 → a = b
theorem cpt_srt (l : List Pr) (hs : l.Pairwise fun a b => slt b.1 a.1 = false) (h1 : One l) : Srt (cpt l) := by
 induction l using snoc_ind with
 | h0 => exact List.Pairwise.nil
 | h1 l x ih =>
  rw [List.pairwise_append] at hs
  obtain ⟨s1, _, s3⟩ := hs
  have hx : ∀ y, y ∈ l → slt x.1 y.1 = false := fun y hy => s3 y hy x (by simp)
  have ih' := ih s1 (fun a ha b hb => h1 a (by simp [ha]) b (by simp [hb]))
  rw [cpt_snoc, cptOn]
  split
  · exact ih'
  · rename_i hl
    unfold Srt
    rw [List.pairwise_append]
    refine ⟨ih', List.pairwise_singleton _ _, ?_⟩
    intro y hy z hz
    simp only [List.mem_singleton] at hz
    subst hz
    have hyl := (mem_cpt l).1 hy
    cases hc : slt y.1 z.1 with
    | true => rfl
    | false =>
     exfalso
     have e1 := slt_tri hc (hx y hyl)
     have e2 := h1 y (by simp [hyl]) z (by simp) e1
     subst e2
     obtain ⟨q, hq⟩ : ∃ q, (cpt l).getLast? = some q := by
      cases h : (cpt l).getLast? with
      | none => rw [List.getLast?_eq_none_iff] at h; rw [h] at hy; simp at hy
      | some q => exact ⟨q, rfl⟩
     have hne : q ≠ y := fun e => hl (by rw [hq, e])
     have hsp : cpt l = (cpt l).dropLast ++ [q] := by
      have hn : cpt l ≠ [] := fun e => by rw [e] at hy; simp at hy
      have := List.dropLast_concat_getLast hn
      have e3 : (cpt l).getLast hn = q := by rw [List.getLast?_eq_some_getLast hn] at hq; simpa using hq
      rw [e3] at this
      exact this.symm
     have hyd : y ∈ (cpt l).dropLast := by
      rw [hsp] at hy
      rcases List.mem_append.1 hy with e | e
      · exact e
      · simp only [List.mem_singleton] at e; exact absurd e.symm hne
     unfold Srt at ih'
     rw [hsp, List.pairwise_append] at ih'
     have k1 := ih'.2.2 y hyd q (by simp)
     have k2 := hx q ((mem_cpt l).1 (List.mem_of_getLast? hq))
     rw [k1] at k2
     cases k2
end Go.Proofs.YtdmicblafmhflaaGreatDoor.Pd
/- strings.Builder's String; plainForm. -/
namespace Go.Proofs.YtdmicblafmhflaaGreatDoor
open Go.RowKit
theorem below_freeze {B : Nat} {a w : World} (h : Below B a w) {p : Addr} (hp : B ≤ p.block) (n : Nat) : Below B a (w.freeze p n) := by
 refine h.trans ⟨?_, ?_, ?_, ?_, ?_⟩
 all_goals unfold World.freeze
 all_goals split
 all_goals first | rfl | exact Nat.le_refl _ | skip
 · simp
 · intro k _; rfl
 · intro k hk
   simp only [Array.getElem?_modify]
   rw [if_neg (by omega)]
set_option maxHeartbeats 2000000 in
set_option maxRecDepth 100000 in
theorem string_some (B b : Nat) (l : List UInt8) (w : World) (h : Bld B w b l) (hl0 : l ≠ []) :
 Calls Tryz.prog 185 #[.pointer (some ⟨b, 0, none⟩)] w fun e w' => e = .returned (.string ⟨l.toArray⟩) ∧ Below B w w' := by
 obtain ⟨p, v, hp, hb, hown, _⟩ := h
 have hl : l.length ≠ 0 := by simpa using hl0
 have hcs := fun g hg => World.ownsRow.cells hown (g := g) hg
 obtain ⟨g, cap, cur, rfl, hbg, hg, hnc, hcm, hsz⟩ : ∃ g cap cur, v = .slice (some ⟨g, 0, none⟩) l.length cap ∧ B ≤ g ∧ w.heap[g]? = some (.cells cur 5 (0, 0)) ∧ l.length ≤ cap ∧ cap ≤ maxLen ∧ cur.size = cap * 1 := by
  rcases hown.2 with ⟨_, hz⟩ | ⟨g, cap, cur, hv, h1, h2, h3, h4, h5, _⟩
  · exact absurd hz hl
  · exact ⟨g, cap, cur, hv, h1, h2, h3, h4, h5⟩
 have c1 : w.drew.cell? ⟨b, 1, none⟩ = some (.slice (some ⟨g, 0, none⟩) l.length cap) := by
  have : w.drew.heap[b]? = some (.cells #[p, .slice (some ⟨g, 0, none⟩) l.length cap] 314 (0, 0)) := hb
  rw [cell_at this]; rfl
 have hSD : (Builtin.unsafeSliceData_ #[63] 351 #[.slice (some ⟨g, 0, none⟩) l.length cap]).run Tryz.prog w.drew = .ok (.pointer (some ⟨g, 0, none⟩)) w.drew :=
  Lib.run_unsafeSliceData_row _ _ _ _ _ _ (by omega)
 have hUS : (Builtin.unsafeString_ #[351, 3] 9 #[.pointer (some ⟨g, 0, none⟩), .int .i64 l.length]).run Tryz.prog w.drew = .ok (.string ⟨l.toArray⟩) (w.drew.freeze ⟨g, 0, none⟩ l.length) := by
  refine Lib.run_unsafeString_row w.drew 351 3 9 5 Tryz.underlying351 Tryz.cellsByte g cur.size ?_ l hl0 (by omega) (by unfold maxLen at hcm; omega) ?_
  · have hg' : w.drew.heap[g]? = some (.cells cur 5 (0, 0)) := hg
    simp [World.shape?, hg']
  · intro j x hx
    exact hcs g rfl j (.int .u8 x.toNat) (by simp [Lib.byteCells, hx])
 have hfin : Hid (Below B w (w.drew.freeze ⟨g, 0, none⟩ l.length)) := below_freeze ((Below.refl B w).drew) (p := ⟨g, 0, none⟩) hbg _
 clear hcs hown hb hg
 go_enter Tryz.func185, Tryz.ntmps185
 go_wp2_with fail
 go_region
 all_goals (go_wp2_with fail)
 all_goals go_ret
 all_goals (exact ⟨rfl, hfin.out⟩)
set_option maxHeartbeats 2000000 in
set_option maxRecDepth 100000 in
theorem string_none (B b : Nat) (w : World) (h : Bld B w b []) :
 Calls Tryz.prog 185 #[.pointer (some ⟨b, 0, none⟩)] w fun e w' => e = .returned (.string ⟨#[]⟩) ∧ Below B w w' := by
 obtain ⟨p, v, hp, hb, hown, hnil⟩ := h
 obtain rfl := hnil rfl
 have c1 : w.drew.cell? ⟨b, 1, none⟩ = some (.slice none 0 0) := by
  have : w.drew.heap[b]? = some (.cells #[p, .slice none 0 0] 314 (0, 0)) := hb
  rw [cell_at this]; rfl
 have hSD : (Builtin.unsafeSliceData_ #[63] 351 #[.slice none 0 0]).run Tryz.prog w.drew = .ok (.pointer none) w.drew := rfl
 have hUS : (Builtin.unsafeString_ #[351, 3] 9 #[.pointer none, .int .i64 0]).run Tryz.prog w.drew = .ok (.string ⟨#[]⟩) w.drew := Lib.run_unsafeString_none _ _ _ _ _
 clear hown hnil hb
 go_enter Tryz.func185, Tryz.ntmps185
 go_wp2_with fail
 go_region
 all_goals (go_wp2_with fail)
 all_goals go_ret
 all_goals (exact ⟨rfl, (Below.refl B w).drew⟩)
theorem Bld.alloc {B : Nat} {w : World} {b : Nat} {l : List UInt8} (h : Bld B w b l) (o : Obj) : Bld B (w.alloc o) b l := by
 obtain ⟨p, v, hp, hb, hown, hn⟩ := h
 exact ⟨p, v, hp, (Below.heap_alloc _ _ _ (lt_of_heap hb)).trans hb, hown.alloc o, hn⟩
def textsOf (l : List Ax.Tok) : List UInt8 := l.flatMap fun t => t.text.data.toList
set_option maxHeartbeats 2000000 in
theorem plainForm_any (w : World) (bs : Nat) (td : Option Addr) (tc : Nat) (toks : List Ax.Tok) (h : w.ownsRow bs 210 3 (.slice td toks.length tc) toks.length (tokCells toks)) (hl : toks.length ≤ 1000) (ht : ∀ t, t ∈ toks → t.text.size ≤ 600) :
 Calls Tryz.prog 109 #[.slice td toks.length tc] w fun e w' => e = .returned (.string ⟨(textsOf toks).toArray⟩) ∧ Below w.heap.size w w' := by
 have HT : Hid (∀ t, t ∈ toks → t.text.size ≤ 600) := ht
 clear ht
 go_enter Tryz.func109, Tryz.ntmps109
 go_wp2_with fail
 go_loopw [8] (fun i wr => ∃ k : Nat, k ≤ toks.length ∧ i = .int .i64 k ∧ Bld w.heap.size wr w.heap.size (textsOf (toks.take k)) ∧ Below w.heap.size w wr ∧ (textsOf (toks.take k)).length ≤ 600 * k ∧ w.heap.size < wr.heap.size) (fun i _ => toks.length - (intOf i).toNat)
 case atStart => exact ⟨0, Nat.zero_le _, rfl, ⟨_, _, .inl rfl, heap_alloc_new _ _, World.ownsRow_nil _ _ _ _, fun _ => rfl⟩, (Below.refl _ _).alloc (Nat.le_refl _) _, Nat.le_refl _, by simp⟩
 case round =>
  obtain ⟨k, hk, rfl, hbld, hbel, hlen, hlt1⟩ := hrel
  by_cases hlt : k < toks.length
  · have hrow := ownsRow_below h hbel
    obtain ⟨g, rfl, hg, hc, hcs⟩ := row_cells hrow (by omega)
    have c0 := hcs _ _ (tokCells_get toks k hlt).1
    have c1 := hcs _ _ (tokCells_get toks k hlt).2.1
    have c2 := hcs _ _ (tokCells_get toks k hlt).2.2
    have hts := HT.out _ (List.getElem_mem hlt)
    have hnext : textsOf (toks.take (k + 1)) = textsOf (toks.take k) ++ (toks[k]).text.data.toList := by
     rw [List.take_succ_eq_append_getElem hlt]; simp only [textsOf, List.flatMap_append, List.flatMap_cons, List.flatMap_nil, List.append_nil]
    have HN : Hid (textsOf (toks.take (k + 1)) = textsOf (toks.take k) ++ (toks[k]).text.data.toList) := hnext
    clear hnext hcs hrow
    generalize toks[k] = t at *
    generalize textsOf (toks.take k) = L at *
    go_wp2_with (go_at_call 184; refine (writeString_any w.heap.size w.heap.size _ _ _ (Bld.alloc hbld _) (Nat.le_refl _) (by omega)).mono ?_; rintro e w1 ⟨rfl, hbld1, hbel1⟩)
    go_roundw
    case rel =>
     refine ⟨k + 1, by omega, by go_num, by rw [HN.out]; exact hbld1, (hbel.alloc (by omega) _).trans hbel1, ?_, ?_⟩
     · rw [HN.out, List.length_append]
       have : t.text.data.toList.length = t.text.size := by simp
       omega
     · have := hbel1.size; simp at this; omega
    case measure => simp [intOf]; omega
  · obtain rfl : k = toks.length := by omega
    rw [List.take_length] at hbld
    by_cases hne : textsOf toks = []
    · rw [hne] at hbld
      have HE : Hid (textsOf toks = []) := hne
      clear hne hlen
      go_wp2_with (go_at_call 185; refine (string_none w.heap.size _ _ hbld).mono ?_; rintro e w1 ⟨rfl, hb1⟩)
      go_ret
      exact ⟨by rw [HE.out]; rfl, hbel.trans hb1⟩
    · have HE : Hid (textsOf toks ≠ []) := hne
      clear hlen hne
      go_wp2_with (go_at_call 185; refine (string_some w.heap.size _ _ _ hbld HE.out).mono ?_; rintro e w1 ⟨rfl, hb1⟩)
      go_ret
      exact ⟨rfl, hbel.trans hb1⟩
end Go.Proofs.YtdmicblafmhflaaGreatDoor
/- Read. -/
namespace Go.Proofs.YtdmicblafmhflaaGreatDoor
open Go.RowKit
theorem rules_some (w : World) (pb : Nat) (tv : Value) (toks : List Ax.Tok) (nx j : Nat) (rs : List Ax.Rule) (h : PAt w pb tv toks nx) (hR : Hid (Ax.pRules toks toks.length nx [] = (some rs, j))) :
 Calls Tryz.prog 104 #[.pointer (some ⟨pb, 0, none⟩)] w fun e w' => ∃ rd rc l, e = .returned (.tuple #[.slice rd (List.length l) rc, .bool true]) ∧ Hid (l.map MR.rule = rs) ∧ PAt w' pb tv toks j ∧ w.grownBy w' (some pb) ∧ w'.ownsRow 0 222 4 (.slice rd l.length rc) l.length (ruleCells l) ∧ mrs w' l := by
 refine (rules_any w pb tv toks nx h).mono ?_
 rintro e w' ⟨hp, hg, hc⟩
 rw [hR.out] at hp hc
 rcases hc with ⟨v, l, rfl, hn, hown, hok⟩ | ⟨_, hn⟩
 · obtain ⟨a, c, rfl⟩ := ownsRow_shape hown
   simp only [Option.some.injEq] at hn
   exact ⟨a, c, l, rfl, hn.symm, hp, hg, ownsRow_base hown (Nat.zero_le _), hok⟩
 · simp at hn
theorem PAt.first {s : ByteArray} {w1 : World} {td : Option Addr} {tc bs : Nat} (h : w1.ownsRow bs 210 3 (.slice td (Ax.split s).length tc) (Ax.split s).length (tokCells (Ax.split s))) (hs : s.size ≤ 600) :
 PAt (w1.alloc (.cells #[.slice td (Ax.split s).length tc, .int .i64 0] 205)) w1.heap.size (.slice td (Ax.split s).length tc) (Ax.split s) 0 :=
 ⟨heap_alloc_new _ _, ownsRow_base (h.alloc _) (Nat.zero_le _), Ax.split_pos s, by have := Ax.split_length s; omega, Ax.split_ends s⟩
theorem read_world1 {w w1 : World} {o : Obj} (hb : Below (w.alloc o).heap.size (w.alloc o) w1) : w1.heap[w.heap.size]? = some o ∧ Below w.heap.size w w1 ∧ w.heap.size < w1.heap.size := by
 have hs := hb.size
 simp only [World.size_alloc] at hs
 exact ⟨(hb.block _ (by simp)).trans (heap_alloc_new _ _), ((Below.refl _ _).alloc (Nat.le_refl _) _).trans (hb.mono (by simp)), by omega⟩
theorem read_world2 {w w1 w2 : World} {o o2 : Obj} (r1 : w1.heap[w.heap.size]? = some o) (g1 : Below w.heap.size w w1) (hg : (w1.alloc o2).grownBy w2 (some w1.heap.size)) :
 w2.heap[w.heap.size]? = some o ∧ Below w.heap.size w w2 ∧ w1.heap.size < w2.heap.size := by
 have hlt := lt_of_heap r1
 have hs := hg.size
 simp only [World.size_alloc] at hs
 refine ⟨?_, ?_, by omega⟩
 · rw [hg.block _ (by simp; omega) (by simp; omega), Below.heap_alloc _ _ _ hlt]
   exact r1
 · exact (g1.alloc (by omega) o2).grown hg (by simp; omega) (fun k hk => by cases hk; omega)
theorem read_world3 {w w2 w3 : World} {o : Obj} (r2 : w2.heap[w.heap.size]? = some o) (b2 : Below w.heap.size w w2) (hb : Below w2.heap.size w2 w3) : w3.heap[w.heap.size]? = some o ∧ Below w.heap.size w w3 :=
 ⟨(hb.block _ (lt_of_heap r2)).trans r2, b2.trans (hb.mono b2.size)⟩
theorem two_stores45 {w w2 : World} {k : Nat} {a b : Value} {T : TypeId} (r2 : w2.heap[k]? = some (.cells #[a, b] T (0, 0))) (c d : Value) (gw : Below w.heap.size w w2) (hk : w.heap.size ≤ k) :
 ((w2.setCell ⟨k, 0, none⟩ c).setCell ⟨k, 1, none⟩ d).heap[k]? = some (.cells #[c, d] T (0, 0)) ∧ Below w.heap.size w ((w2.setCell ⟨k, 0, none⟩ c).setCell ⟨k, 1, none⟩ d) := by
 have h0 := heap_setCell_same (off := 0) r2 c
 have h1 := heap_setCell_same (off := 1) h0 d
 exact ⟨by rw [h1]; rfl, (gw.setCell (p := ⟨k, 0, none⟩) hk c).setCell (p := ⟨k, 1, none⟩) hk d⟩
theorem RulesIn.of_fits {w : World} {rd : Option Addr} {rc : Nat} {l : List MR} {rs : List Ax.Rule} (h : w.ownsRow 0 222 4 (.slice rd l.length rc) l.length (ruleCells l)) (hm : mrs w l) (hl : l.map MR.rule = rs) (hf : Hid (rs.length ≤ 1000 ∧ ∀ r, r ∈ rs → Ax.Fits 600 1000 r)) : RulesIn w rd rc l := by
 refine ⟨h, hm, fun r hr => ?_⟩
 have := (hf.out.2 r.rule (by rw [← hl]; exact List.mem_map.2 ⟨r, hr, rfl⟩)).1
 simpa [MR.rule] using this
theorem RulesIn.len {l : List MR} {rs : List Ax.Rule} (hl : l.map MR.rule = rs) (hf : Hid (rs.length ≤ 1000 ∧ ∀ r, r ∈ rs → Ax.Fits 600 1000 r)) : l.length ≤ 1000 := by
 have := hf.out.1
 rw [← hl] at this
 simpa using this
theorem RulesIn.preds {l : List MR} {rs : List Ax.Rule} (hl : l.map MR.rule = rs) (hf : Hid (rs.length ≤ 1000 ∧ ∀ r, r ∈ rs → Ax.Fits 600 1000 r)) : Hid (∀ a, a ∈ (l.map MR.rule).flatMap Ax.Rule.atoms → a.pred.size ≤ 600) := by
 intro a ha
 rw [hl] at ha
 obtain ⟨r, hr, ha⟩ := List.mem_flatMap.1 ha
 exact (hf.out.2 r hr).2 a ha
theorem tooMany_none (w : World) (rd : Option Addr) (rc : Nat) (l : List MR) (h : RulesIn w rd rc l) (hp : Ax.tooMany 0 [] (l.map MR.rule) = none) :
 Calls Tryz.prog 106 #[.slice rd l.length rc] w fun e w' => e = .returned (.tuple #[.int .i64 0, .bool false]) ∧ Below w.heap.size w w' := by
 refine (tooMany_any w rd rc l h).mono ?_
 rintro e w' ⟨hb, hc⟩
 rw [hp] at hc
 rcases hc with ⟨q, hq, _⟩ | ⟨_, rfl⟩
 · simp at hq
 · exact ⟨rfl, hb⟩
theorem openHead_none (w : World) (rd : Option Addr) (rc : Nat) (l : List MR) (h : RulesIn w rd rc l) (hp : Ax.openHead (l.map MR.rule) = none) :
 Calls Tryz.prog 108 #[.slice rd l.length rc] w fun e w' => e = .returned (.tuple #[.int .i64 0, .bool false]) ∧ Below w.heap.size w w' := by
 refine (openHead_any w rd rc l h).mono ?_
 rintro e w' ⟨hb, hc⟩
 rw [hp] at hc
 rcases hc with ⟨q, hq, _⟩ | ⟨_, rfl⟩
 · simp at hq
 · exact ⟨rfl, hb⟩
theorem twoArities_none (w : World) (rd : Option Addr) (rc : Nat) (l : List MR) (h : RulesIn w rd rc l) (hll : l.length ≤ 1000) (hpr : Hid (∀ a, a ∈ (l.map MR.rule).flatMap Ax.Rule.atoms → a.pred.size ≤ 600)) (hp : Ax.twoAr [] ((l.map MR.rule).flatMap Ax.Rule.atoms) = none) :
 Calls Tryz.prog 107 #[.slice rd l.length rc] w fun e w' => e = .returned (.tuple #[.int .i64 0, .bool false]) ∧ Below w.heap.size w w' := by
 refine (twoArities_any w rd rc l h hll hpr.out).mono ?_
 rintro e w' ⟨hb, hc⟩
 rw [hp] at hc
 rcases hc with ⟨q, hq, _⟩ | ⟨_, rfl⟩
 · simp at hq
 · exact ⟨rfl, hb⟩
end Go.Proofs.YtdmicblafmhflaaGreatDoor
/- Read of a program's text hands on its rules. -/
namespace Go.Proofs.YtdmicblafmhflaaGreatDoor
open Go.RowKit
theorem RulesIn.kept {w w' : World} {S : List Nat} {rd : Option Addr} {rc : Nat} {l : List MR} (h : RulesIn w rd rc l) (hk : Kb S w w') (hS : ∀ b cur U, b ∈ S → w.heap[b]? = some (.cells cur U (0, 0)) → U ≠ 222 ∧ U ≠ 219 ∧ U ≠ 310) : RulesIn w' rd rc l := by
 have hT : ∀ x : MA, MA.ok w x → MA.ok w' x := fun x hx => by
  refine hk.row hx ?_
  intro b hb hm
  obtain ⟨cur, e⟩ := block_type hx hb
  exact (hS b cur _ hm e).2.2 rfl
 refine ⟨hk.row h.1 ?_, fun r hr => ⟨hT _ (h.2.1 r hr).1, hk.row (h.2.1 r hr).2.1 ?_, fun x hx => hT x ((h.2.1 r hr).2.2 x hx)⟩, h.2.2⟩
 · intro b hb hm
   obtain ⟨cur, e⟩ := block_type h.1 hb
   exact (hS b cur _ hm e).1 rfl
 · intro b hb hm
   obtain ⟨cur, e⟩ := block_type (h.2.1 r hr).2.1 hb
   exact (hS b cur _ hm e).2.1 rfl
theorem RulesIn.stores45 {w2 : World} {k : Nat} {a b : Value} {T : TypeId} (r2 : w2.heap[k]? = some (.cells #[a, b] T (0, 0))) (c d : Value) {rd : Option Addr} {rc : Nat} {l : List MR} (h : RulesIn w2 rd rc l) (h1 : T ≠ 222) (h2 : T ≠ 219) (h3 : T ≠ 310) : RulesIn ((w2.setCell ⟨k, 0, none⟩ c).setCell ⟨k, 1, none⟩ d) rd rc l := by
 refine h.kept ((Kb.setCell w2 ⟨k, 0, none⟩ c).trans (Kb.setCell _ ⟨k, 1, none⟩ d)) ?_
 intro q cur U hq e
 simp only [List.mem_singleton] at hq
 rw [hq, r2] at e
 simp only [Option.some.injEq, Obj.cells.injEq] at e
 rw [← e.2.1]
 exact ⟨h1, h2, h3⟩
set_option maxRecDepth 100000 in
set_option maxHeartbeats 2000000 in
theorem readR_0 (s : ByteArray) (w : World) (hsz : s.size ≤ 600) (rs : List Ax.Rule) (j : Nat) (HR : Hid (Ax.pRules (Ax.split s) (Ax.split s).length 0 [] = (some rs, j))) (HF : Hid (rs.length ≤ 1000 ∧ ∀ r, r ∈ rs → Ax.Fits 600 1000 r)) (H3 : Hid (Ax.tooMany 0 [] rs = none)) (H4 : Hid (Ax.twoAr [] (rs.flatMap Ax.Rule.atoms) = none)) (H5 : Hid (Ax.openHead rs = none)) :
 Calls Tryz.prog 56 #[.string s] w fun e w' => ∃ rd rc l, e = .returned (.tuple #[.agg #[.string ⟨(textsOf (Ax.split s)).toArray⟩, .slice rd l.length rc], .int .i64 0, .int .i64 0]) ∧ l.map MR.rule = rs ∧ RulesIn w' rd rc l ∧ Below w.heap.size w w' := by
 have hgt : ¬ (600 : Int) < (s.size : Int) := by omega
 have hspl := Ax.split_length s
 have htx : Hid (∀ t, t ∈ Ax.split s → t.text.size ≤ 600) := fun t ht => Nat.le_trans (Ax.split_text s t ht) hsz
 go_enter Tryz.func56, Tryz.ntmps56
 go_wp2_with (first | (go_at_call 102; refine (clone_any s _ (by omega)).mono ?_; rintro e w0 ⟨rfl, hb0⟩) | (go_at_call 103; refine (split_any s _ (by omega)).mono ?_; rintro e w1 ⟨v1, rfl, hown1, hb1⟩; obtain ⟨td, tc, rfl⟩ := ownsRow_shape hown1; obtain ⟨r1, gw1, lt1⟩ := read_world1 (hb0.trans (hb1.mono hb0.size))) | (go_at_call 104; have hpat := PAt.first (s := s) (td := td) (tc := tc) hown1 hsz; refine (rules_some _ _ _ _ _ _ _ hpat HR).mono ?_; rintro e w2 ⟨rd, rc, l, rfl, hl, hp2, hg2, hrow2, hmrs2⟩; have hll := RulesIn.len hl.out HF; have hpr := RulesIn.preds hl.out HF; have hin2 := RulesIn.of_fits hrow2 hmrs2 hl.out HF; obtain ⟨r2, b2, gw2⟩ := read_world2 r1 gw1 hg2; have f02 := frozen_at r2 0; have f12 := frozen_at r2 1; have k02 := cell_at r2 0; have k12 := cell_at r2 1; simp only [List.getElem?_toArray, List.getElem?_cons_zero, List.getElem?_cons_succ] at k02 k12; have lt2 := lt_of_heap r2) | (go_at_call 106; refine (tooMany_none _ _ _ _ hin2 (by rw [hl.out]; exact H3.out)).mono ?_; rintro e w3 ⟨rfl, hb3⟩; obtain ⟨r3, b3⟩ := read_world3 r2 b2 hb3; have hin3 := hin2.below hb3; have f03 := frozen_at r3 0; have f13 := frozen_at r3 1; have k03 := cell_at r3 0; have k13 := cell_at r3 1; simp only [List.getElem?_toArray, List.getElem?_cons_zero, List.getElem?_cons_succ] at k03 k13; have lt3 := lt_of_heap r3) | (go_at_call 107; refine (twoArities_none _ _ _ _ hin3 hll hpr (by rw [hl.out]; exact H4.out)).mono ?_; rintro e w4 ⟨rfl, hb4⟩; obtain ⟨r4, b4⟩ := read_world3 r3 b3 hb4; have hin4 := hin3.below hb4; have f04 := frozen_at r4 0; have f14 := frozen_at r4 1; have k04 := cell_at r4 0; have k14 := cell_at r4 1; simp only [List.getElem?_toArray, List.getElem?_cons_zero, List.getElem?_cons_succ] at k04 k14; have lt4 := lt_of_heap r4) | (go_at_call 108; refine (openHead_none _ _ _ _ hin4 (by rw [hl.out]; exact H5.out)).mono ?_; rintro e w5 ⟨rfl, hb5⟩; obtain ⟨r5, b5⟩ := read_world3 r4 b4 hb5; have hp5 := ((hp2.below hb3).below hb4).below hb5; have hin5 := hin4.below hb5; have q0 := cell_at hp5.1 0; simp only [List.getElem?_toArray, List.getElem?_cons_zero] at q0; have q1 := lt_of_heap hp5.1; have f05 := frozen_at r5 0; have f15 := frozen_at r5 1; have k05 := cell_at r5 0; have k15 := cell_at r5 1; simp only [List.getElem?_toArray, List.getElem?_cons_zero, List.getElem?_cons_succ] at k05 k15; have lt5 := lt_of_heap r5) | (go_at_call 109; refine (plainForm_any _ _ _ _ _ hp5.2.1 (by omega) htx.out).mono ?_; rintro e w6 ⟨rfl, hb6⟩; obtain ⟨r6, b6⟩ := read_world3 r5 b5 hb6; have hin6 := hin5.below hb6; have f06 := frozen_at r6 0; have f16 := frozen_at r6 1; have k06 := cell_at r6 0; have k16 := cell_at r6 1; simp only [List.getElem?_toArray, List.getElem?_cons_zero, List.getElem?_cons_succ] at k06 k16; have lt6 := lt_of_heap r6))
 obtain ⟨hu, bu⟩ := two_stores45 r6 (.string ⟨(textsOf (Ax.split s)).toArray⟩) (.slice rd l.length rc) b6 (Nat.le_refl _)
 have hinu := RulesIn.stores45 r6 (.string ⟨(textsOf (Ax.split s)).toArray⟩) (.slice rd l.length rc) hin6 (by decide) (by decide) (by decide)
 exact bodyPost_ret (v := .tuple #[.agg #[.string ⟨(textsOf (Ax.split s)).toArray⟩, .slice rd l.length rc], .int .i64 0, .int .i64 0]) (by simp [results, Tryz.results56, go_sem, cell_at hu]) rfl ⟨_, _, l, rfl, hl.out, hinu, bu⟩
end Go.Proofs.YtdmicblafmhflaaGreatDoor
/- Preds: what stands in the rules, collected. -/
namespace Go.Proofs.YtdmicblafmhflaaGreatDoor
open Go.RowKit
def prOf (a : Ax.Atom) : Pd.Pr := (a.pred, a.terms.length)
def predCells (l : List Pd.Pr) : List Value := l.flatMap fun p => [.string p.1, .int .i64 p.2]
theorem predCells_len (l : List Pd.Pr) : (predCells l).length = l.length * 2 := by
 induction l with
 | nil => rfl
 | cons a l ih => simp [predCells] at ih ⊢; omega
theorem predCells_app (a b : List Pd.Pr) : predCells (a ++ b) = predCells a ++ predCells b := by simp [predCells]
theorem predCells_cons (p : Pd.Pr) (b : List Pd.Pr) : predCells (p :: b) = .string p.1 :: .int .i64 p.2 :: predCells b := rfl
theorem predCells_get (l : List Pd.Pr) (k : Nat) (h : k < l.length) : (predCells l)[k * 2]? = some (.string (l[k]).1) ∧ (predCells l)[k * 2 + 1]? = some (.int .i64 (l[k]).2) := by
 induction l generalizing k with
 | nil => simp at h
 | cons a l ih =>
  cases k with
  | zero => simp [predCells_cons]
  | succ k =>
   have := ih k (by simpa using h)
   rw [predCells_cons, show (k + 1) * 2 = k * 2 + 1 + 1 by omega, show k * 2 + 1 + 1 + 1 = (k * 2 + 1) + 1 + 1 by omega]
   simpa using this
theorem Tryz.infoPred : (Tryz.prog.info? 112).map (fun i => (i.zero, i.size, i.bytes)) = some (some (.agg #[.string ByteArray.empty, .int .i64 0]), 2, 24) := by kernel_rfl
def prsOf (rs : List Ax.Rule) : List Pd.Pr := (rs.flatMap Ax.Rule.atoms).map prOf
theorem prsOf_len {l : List MR} (h : ∀ r, r ∈ l → r.body.length ≤ 1000) : (prsOf (l.map MR.rule)).length ≤ 1001 * l.length := by
 induction l with
 | nil => simp [prsOf]
 | cons r l ih =>
  have h1 := ih (fun x hx => h x (by simp [hx]))
  have h2 := h r (by simp)
  unfold prsOf at h1 ⊢
  simp only [List.map_cons, List.flatMap_cons, List.map_append, List.length_append, List.length_map] at h1 ⊢
  have e : (Ax.Rule.atoms r.rule).length = r.body.length + 1 := by simp [Ax.Rule.atoms, MR.rule]
  rw [e, List.length_cons]
  omega
theorem prsOf_succ {l : List MR} {k : Nat} (h : k < l.length) : prsOf ((l.take (k + 1)).map MR.rule) = prsOf ((l.take k).map MR.rule) ++ ((l[k]).rule.atoms).map prOf := by
 have e : (l.take (k + 1)).map MR.rule = (l.take k).map MR.rule ++ [(l[k]).rule] := by
  rw [List.take_add_one, List.getElem?_eq_getElem h, List.map_append]
  rfl
 unfold prsOf
 rw [e, List.flatMap_append, List.map_append]
 simp
def PrRel (w wr : World) (v : Value) (P : List Pd.Pr) : Prop := wr.ownsRow w.heap.size 112 2 v P.length (predCells P) ∧ Below w.heap.size w wr
theorem pr_snoc {w w1 w2 : World} {qd : Option Addr} {qc : Nat} {P : List Pd.Pr} {p : Pd.Pr} {v2 : Value} {o1 o2 : Obj} (h : PrRel w w1 (.slice qd P.length qc) P)
 (hown2 : w2.ownsRow w.heap.size 112 2 v2 (P.length + 1) (predCells P ++ [.string p.1, .int .i64 p.2])) (hgrow : ((w1.alloc o1).alloc o2).grownBy w2 (Value.ownBlock (.slice qd P.length qc))) {w0 : World} (ho : Lib.OthersKept 112 none w0 w1) :
 PrRel w w2 v2 (P ++ [p]) ∧ Lib.OthersKept 112 none w0 w2 := by
 have hs := h.2.size
 refine ⟨⟨?_, ((h.2.alloc hs _).alloc (by simp; omega) _).grown hgrow (by simp; omega) (fun k hk => (h.1.lt k hk).1)⟩, ((ho.alloc _).alloc _).grown hgrow (ownsRow_kind ((h.1.alloc _).alloc _))⟩
 rw [predCells_app, List.length_append]
 exact hown2
end Go.Proofs.YtdmicblafmhflaaGreatDoor
