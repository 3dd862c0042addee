/- slices.Sort and slices.Compact at names. -/
import Derived.Test.YtdmicblafmhflaaGreatDoorC42
import Derived.Shelf.SortG.Plain
import Derived.Shelf.SortG.SortNone
set_option linter.unusedSimpArgs false
set_option linter.unusedVariables false
namespace Go.Proofs.YtdmicblafmhflaaGreatDoor
open Go.Shelf Go.RowKit
open Go.Sort (grow Holds putRow)
def bCs (l : List (List UInt8)) : List Value := l.map encStr
theorem putCells_takeS (d : List (List UInt8)) (c : Array Value) (h : d.length ≤ c.size) : (Go.Sort.putCells encStr 0 d.toArray c).toList.take d.length = bCs d ∧ (Go.Sort.putCells encStr 0 d.toArray c).size = c.size := by
 have hs : (Go.Sort.putCells encStr 0 d.toArray c).size = c.size := by simp [Go.Sort.putCells]
 refine ⟨?_, hs⟩
 apply List.ext_getElem
 · simp [hs, bCs]; omega
 · intro t h1 h2
   have ht : t < d.length := by simpa [bCs] using h2
   rw [List.getElem_take, Array.getElem_toList]
   simp only [Go.Sort.putCells, Array.getElem_mapIdx]
   rw [if_pos ⟨Nat.zero_le _, by simpa using ht⟩, Nat.sub_zero, getElem!_pos d.toArray t (by simpa using ht)]
   simp [bCs]
theorem putRow_own {B : Nat} {w : World} {g n c q : Nat} {l l' : List (List UInt8)} {os : Array Obj} (hown : w.ownsRow B 9 1 (.slice (some ⟨g, 0, none⟩) n c) n (bCs l)) (hl : l'.length = l.length) :
 (grow (putRow encStr (Go.Sort.ahead w q) g 0 l'.toArray) os).ownsRow B 9 1 (.slice (some ⟨g, 0, none⟩) n c) n (bCs l') ∧ Kb [g] w (grow (putRow encStr (Go.Sort.ahead w q) g 0 l'.toArray) os) := by
 have hn : l.length = n := by have := hown.1; simpa [bCs] using this
 rcases hown.2 with ⟨e, _⟩ | ⟨g', cap, cur, e, hB, hg, hc1, hc2, hc3, _⟩
 · simp at e
 · simp only [Value.slice.injEq, Option.some.injEq, Addr.mk.injEq, and_true, true_and] at e
   obtain ⟨rfl, rfl⟩ := e
   have hlt := lt_of_heap hg
   have hheap : (grow (putRow encStr (Go.Sort.ahead w q) g 0 l'.toArray) os).heap = w.heap.modify g (Go.Sort.onCells (Go.Sort.putCells encStr 0 l'.toArray)) ++ os := rfl
   obtain ⟨p1, p2⟩ := putCells_takeS l' cur (by rw [hc3]; omega)
   refine ⟨⟨by simp [bCs, hl, hn], .inr ⟨g, c, Go.Sort.putCells encStr 0 l'.toArray cur, rfl, hB, ?_, hc1, hc2, by rw [p2, hc3], ?_⟩⟩, ⟨rfl, rfl, rfl, ?_, ?_⟩⟩
   · rw [hheap, Array.getElem?_append_left (by simpa using hlt), Array.getElem?_modify, if_pos rfl, hg]
     rfl
   · rw [show n * 1 = l'.length by omega, p1]
   · rw [hheap]; simp
   · intro k hk hne
     rw [hheap, Array.getElem?_append_left (by simpa using hk), Array.getElem?_modify, if_neg (by simp at hne; omega)]
theorem holds_own {B : Nat} {w : World} {g n c : Nat} {l : List (List UInt8)} (hown : w.ownsRow B 9 1 (.slice (some ⟨g, 0, none⟩) n c) n (bCs l)) : Holds encStr w g 0 l.toArray ∧ g < w.heap.size := by
 obtain ⟨cur, hg⟩ := block_type hown (b := g) rfl
 have hcell := World.ownsRow.cells hown (g := g) rfl
 refine ⟨?_, lt_of_heap hg⟩
 intro j hj
 have hj' : j < l.length := by simpa using hj
 refine ⟨?_, by simp [World.frozen?, hg]⟩
 have h9 := hcell j (encStr l[j]) (by simp [bCs, List.getElem?_eq_getElem hj'])
 rw [getElem!_pos l.toArray j hj]
 rcases j with _ | j
 · simpa [Addr.add] using h9
 · simpa [Addr.add] using h9
theorem sortS_any (B : Nat) (w : World) (g n c : Nat) (l : List (List UInt8)) (hown : w.ownsRow B 9 1 (.slice (some ⟨g, 0, none⟩) n c) n (bCs l)) (hn : n ≤ 1000000000) :
 Calls Tryz.prog 134 #[.slice (some ⟨g, 0, none⟩) n c] w fun e w' => e = .returned (.tuple #[]) ∧ w'.ownsRow B 9 1 (.slice (some ⟨g, 0, none⟩) n c) n (bCs (l.mergeSort fun x y => decide (x ≤ y))) ∧ Kb [g] w w' := by
 have hln : l.length = n := by have := hown.1; simpa [bCs] using this
 obtain ⟨hH, hlt⟩ := holds_own hown
 have h := AnyG.slices_Sort_string sortSLaid g 0 c l w hH hlt (by omega)
 rw [hln] at h
 refine Calls.mono h ?_
 rintro e w' ⟨rfl, q, os, rfl⟩
 exact ⟨rfl, putRow_own hown (by simp)⟩
theorem own_short {B : Nat} {w : World} {g n m c : Nat} {xs : List Value} (hown : w.ownsRow B 9 1 (.slice (some ⟨g, 0, none⟩) n c) n xs) (hm : m ≤ n) : w.ownsRow B 9 1 (.slice (some ⟨g, 0, none⟩) m c) m (xs.take m) := by
 have hn : xs.length = n * 1 := hown.1
 rcases hown.2 with ⟨e, _⟩ | ⟨g', cap, cur, e, hB, hg, hc1, hc2, hc3, hc4⟩
 · simp at e
 · simp only [Value.slice.injEq, Option.some.injEq, Addr.mk.injEq, and_true, true_and] at e
   obtain ⟨rfl, rfl⟩ := e
   refine ⟨by rw [List.length_take]; omega, .inr ⟨g, c, cur, rfl, hB, hg, by omega, hc2, hc3, ?_⟩⟩
   rw [← hc4, List.take_take, Nat.min_eq_left (by omega), Nat.mul_one]
theorem compact_le (l : List (List UInt8)) : (Lib.compact l).length ≤ l.length := by
 unfold Lib.compact Lib.compactUpTo
 rw [List.length_map]
 exact Nat.le_trans (List.length_filter_le _ _) (by simp)
theorem compS_any (B : Nat) (w : World) (g n c : Nat) (l : List (List UInt8)) (hown : w.ownsRow B 9 1 (.slice (some ⟨g, 0, none⟩) n c) n (bCs l)) (hn : n ≤ 1000000000) (hc : n ≤ c) :
 Calls Tryz.prog 135 #[.slice (some ⟨g, 0, none⟩) n c] w fun e w' => e = .returned (.slice (some ⟨g, 0, none⟩) (Lib.compact l).length c) ∧ w'.ownsRow B 9 1 (.slice (some ⟨g, 0, none⟩) (Lib.compact l).length c) (Lib.compact l).length (bCs (Lib.compact l)) ∧ Kb [g] w w' := by
 have hln : l.length = n := by have := hown.1; simpa [bCs] using this
 obtain ⟨hH, hlt⟩ := holds_own hown
 have hle := compact_le l
 have h := AnyG.slices_Compact_string compSLaid g 0 c l w hH (by omega) (by omega)
 rw [hln] at h
 refine Calls.mono h ?_
 rintro e w' ⟨rfl, q, rfl⟩
 obtain ⟨r1, r2⟩ := putRow_own (q := q) (os := #[]) (l' := Lib.compact l ++ List.replicate (n - (Lib.compact l).length) []) hown (by simp; omega)
 rw [Go.Sort.grow_empty] at r1 r2
 refine ⟨rfl, ?_, r2⟩
 have h9 := own_short r1 (m := (Lib.compact l).length) (by omega)
 rwa [show (bCs (Lib.compact l ++ List.replicate (n - (Lib.compact l).length) [])).take (Lib.compact l).length = bCs (Lib.compact l) by simp [bCs]] at h9
end Go.Proofs.YtdmicblafmhflaaGreatDoor
/- Names sorted and compacted: each once, in the order of their bytes. -/
namespace Go.Proofs.YtdmicblafmhflaaGreatDoor
theorem compact_mem (l : List (List UInt8)) (x : List UInt8) : x ∈ Lib.compact l ↔ x ∈ l := by
 unfold Lib.compact Lib.compactUpTo
 simp only [List.mem_map, List.mem_filter, List.mem_range]
 constructor
 · rintro ⟨t, ⟨ht, _⟩, rfl⟩
   rw [getElem!_pos l.toArray t (by simpa using ht)]
   simp
 · intro hx
   obtain ⟨t, ht, rfl⟩ := List.mem_iff_getElem.1 hx
   clear hx
   induction t with
   | zero => exact ⟨0, ⟨ht, Lib.keeps_lt_one _ 0 (by omega)⟩, by rw [getElem!_pos l.toArray 0 (by simpa using ht)]; simp⟩
   | succ t ih =>
    by_cases hk : Lib.keeps l.toArray (t + 1) = true
    · exact ⟨t + 1, ⟨ht, hk⟩, by rw [getElem!_pos l.toArray (t + 1) (by simpa using ht)]; simp⟩
    · obtain ⟨j, hj, e⟩ := ih (by omega)
      refine ⟨j, hj, ?_⟩
      rw [e]
      simp only [Lib.keeps] at hk
      rw [getElem!_pos l.toArray (t + 1) (by simpa using ht), show t + 1 - 1 = t by omega, getElem!_pos l.toArray t (by simp; omega)] at hk
      simp at hk
      exact hk.symm
theorem compact_strict (l : List (List UInt8)) (hs : l.Pairwise fun a b => a ≤ b) : (Lib.compact l).Pairwise fun a b => a < b := by
 unfold Lib.compact Lib.compactUpTo
 rw [List.pairwise_map]
 have h : ((List.range l.length).filter (Lib.keeps l.toArray)).Pairwise fun a b => a < b := List.Pairwise.filter _ List.pairwise_lt_range
 refine List.Pairwise.imp_of_mem ?_ h
 intro a b ha hb hab
 simp only [List.mem_filter, List.mem_range] at ha hb
 obtain ⟨hbl, hkb⟩ := hb
 have e0 : ∀ t (h : t < l.length), l.toArray[t]! = l[t] := fun t h => by rw [getElem!_pos l.toArray t (by simpa using h)]; simp
 rw [e0 a ha.1, e0 b hbl]
 have hne : l[b] ≠ l[b - 1] := by
  simp only [Lib.keeps] at hkb
  rw [e0 b hbl, e0 (b - 1) (by omega)] at hkb
  simp at hkb
  rcases hkb with h9 | h9
  · omega
  · exact h9
 have h1 : l[a] ≤ l[b - 1] := by
  by_cases e : a = b - 1
  · subst e
    exact List.le_refl _
  · exact List.pairwise_iff_getElem.1 hs a (b - 1) ha.1 (by omega) (by omega)
 have h2 : l[b - 1] ≤ l[b] := List.pairwise_iff_getElem.1 hs (b - 1) b (by omega) hbl (by omega)
 have h3 : l[b - 1] < l[b] := by
  rcases Decidable.em (l[b - 1] < l[b]) with h | h
  · exact h
  · exact absurd (List.le_antisymm (List.not_lt.1 h) h2) hne
 exact List.lt_of_le_of_lt h1 h3
theorem names_ok (l : List (List UInt8)) : (Lib.compact (l.mergeSort fun x y => decide (x ≤ y))).Pairwise (fun a b => a < b) ∧ ∀ x, x ∈ Lib.compact (l.mergeSort fun x y => decide (x ≤ y)) ↔ x ∈ l := by
 refine ⟨compact_strict _ ?_, fun x => by rw [compact_mem, List.mem_mergeSort]⟩
 have h := List.pairwise_mergeSort (le := fun x y : List UInt8 => decide (x ≤ y)) (fun a b c h1 h2 => by simp only [decide_eq_true_eq] at *; exact List.le_trans h1 h2) (fun a b => by simp only [Bool.or_eq_true, decide_eq_true_eq]; exact List.le_total a b) l
 exact h.imp (fun h => by simpa using h)
end Go.Proofs.YtdmicblafmhflaaGreatDoor
/- What an export is written as, as a function of the rules and of what is given; a state's parts as they lie. -/
namespace Go.Proofs.YtdmicblafmhflaaGreatDoor
open Go.Shelf Go.RowKit Go.Maps
def gQ : List Pd.Pr := [(Ax.gpred 1, 2), (Ax.gpred 0, 1), (Ax.gpred 2, 2)]
theorem gQ_eq {Q : List Pd.Pr} (hs : Pd.Srt Q) (hm : ∀ p, p ∈ Q ↔ p ∈ gPr) : Q = gQ := by
 refine Pd.srt_ext hs (by unfold Pd.Srt gQ; decide +kernel) (fun x => (hm x).trans ?_)
 unfold gPr gQ
 simp only [List.mem_cons, List.not_mem_nil, or_false]
 constructor
 · rintro (h | h | h) <;> simp [h]
 · rintro (h | h | h) <;> simp [h]
theorem gQ_mem {p : Pd.Pr} (h : p ∈ gQ) : p ∈ gPr := by
 unfold gQ at h
 unfold gPr
 simp only [List.mem_cons, List.not_mem_nil, or_false] at h ⊢
 rcases h with h | h | h <;> simp [h]
namespace Ex
def allN (H : Nat → Bool) (Q : List Pd.Pr) : List ByteArray := Q.flatMap fun p => (holdP H p.1).flatMap fun j => (dat j).2
def nmB (l : List ByteArray) : List (List UInt8) := Lib.compact ((l.map ByteArray.toList).mergeSort fun x y => decide (x ≤ y))
def nms (H : Nat → Bool) : List ByteArray := (nmB (allN H gQ)).map fun l => ⟨l.toArray⟩
def place (H : Nat → Bool) (x : ByteArray) : Nat := (nms H).findIdx fun y => decide (y = x)
def fact (kl : List Ax.KRule) (gv : Nat → Bool) (j : Nat) : List UInt8 := Rc.numB (if gv j = true then 1 else 0) ++ Rc.numB (cnN kl gv j) ++ (dat j).2.flatMap fun x => Rc.numB (place (En.leastN (En.nRules kl) gv) x)
def facts (kl : List Ax.KRule) (gv : Nat → Bool) (p : ByteArray) : List UInt8 := Rc.numB (holdP (En.leastN (En.nRules kl) gv) p).length ++ (holdP (En.leastN (En.nRules kl) gv) p).flatMap (fact kl gv)
def body (kl : List Ax.KRule) (gv : Nat → Bool) : List UInt8 := Rc.textB (Ax.gtext kl) ++ Rc.numB (nms (En.leastN (En.nRules kl) gv)).length ++ (nms (En.leastN (En.nRules kl) gv)).flatMap Rc.textB ++ gQ.flatMap fun p => facts kl gv p.1
theorem strB (l : List ByteArray) : strCells l = bCs (l.map ByteArray.toList) := by
 simp [strCells, bCs, encStr, ByteArray.toList_eq]
theorem strN (l : List (List UInt8)) : strCells (l.map fun b => (⟨b.toArray⟩ : ByteArray)) = bCs l := by
 simp [strCells, bCs, encStr]
theorem nms_sorted (H : Nat → Bool) : (nms H).Pairwise fun a b => a.toList < b.toList := by
 unfold nms
 rw [List.pairwise_map]
 exact (names_ok ((allN H gQ).map ByteArray.toList)).1.imp (fun h => by simpa [ByteArray.toList_eq] using h)
theorem mem_nms (H : Nat → Bool) (x : ByteArray) : x ∈ nms H ↔ x ∈ allN H gQ := by
 unfold nms
 rw [List.mem_map]
 constructor
 · rintro ⟨l, hl, rfl⟩
   have h := ((names_ok ((allN H gQ).map ByteArray.toList)).2 l).1 hl
   obtain ⟨y, hy, rfl⟩ := List.mem_map.1 h
   simpa [ByteArray.toList_eq] using hy
 · intro h
   refine ⟨x.toList, ((names_ok ((allN H gQ).map ByteArray.toList)).2 _).2 (List.mem_map_of_mem h), by simp [ByteArray.toList_eq]⟩
theorem place_at (H : Nat → Bool) {p : Pd.Pr} (hp : p ∈ gQ) {j : Nat} (hj : j ∈ holdP H p.1) {x : ByteArray} (hx : x ∈ (dat j).2) : (nms H)[place H x]? = some x := by
 have hm : x ∈ nms H := (mem_nms H x).2 (List.mem_flatMap.2 ⟨p, hp, List.mem_flatMap.2 ⟨j, hj, hx⟩⟩)
 have hlt : place H x < (nms H).length := List.findIdx_lt_length_of_exists ⟨x, hm, by simp⟩
 have hp := List.findIdx_getElem (p := fun y => decide (y = x)) (xs := nms H) (w := hlt)
 rw [List.getElem?_eq_getElem hlt]
 exact congrArg some (of_decide_eq_true hp)
theorem allN_len (H : Nat → Bool) (Q : List Pd.Pr) : (allN H Q).length ≤ 108 * Q.length := by
 unfold allN
 induction Q with
 | nil => simp
 | cons p Q ih =>
  rw [List.flatMap_cons, List.length_append]
  have h1 : ∀ l : List Nat, (l.flatMap fun j => (dat j).2).length ≤ 3 * l.length := by
   intro l
   induction l with
   | nil => simp
   | cons a l ih =>
    rw [List.flatMap_cons, List.length_append, List.length_cons]
    have := dat_len a
    omega
  have h2 : (holdP H p.1).length ≤ 36 := by
   unfold holdP
   exact Nat.le_trans (List.length_filter_le _ _) (by simp)
  have := h1 (holdP H p.1)
  rw [List.length_cons]
  omega
theorem nms_len (H : Nat → Bool) : (nms H).length ≤ 324 := by
 unfold nms nmB
 rw [List.length_map]
 refine Nat.le_trans (compact_le _) ?_
 rw [List.length_mergeSort, List.length_map]
 exact allN_len H gQ
end Ex
structure HolA (w : World) (kl : List Ax.KRule) (gv : Nat → Bool) (hm : Nat) (p : ByteArray) (ug : Nat) : Prop where
 lt : ug < w.heap.size
 look : ∀ W : World, Below w.heap.size w W → (Instr.lookup 103 (.map (some hm)) (.string p) false).run Tryz.prog W = .ok (.pointer (some ⟨ug, 0, none⟩)) W
 len : ∀ W : World, Below w.heap.size w W → Calls Tryz.prog 136 #[.pointer (some ⟨ug, 0, none⟩)] W fun e w' => e = .returned (.int .i64 (holdP (En.leastN (En.nRules kl) gv) p).length) ∧ w' = W
 rows : ∀ W : World, Below w.heap.size w W → Calls Tryz.prog 133 #[.pointer (some ⟨ug, 0, none⟩)] W fun e w' => ∃ rd rc, e = .returned (.slice rd (holdP (En.leastN (En.nRules kl) gv) p).length rc) ∧ w'.ownsRow W.heap.size 119 3 (.slice rd (holdP (En.leastN (En.nRules kl) gv) p).length rc) (holdP (En.leastN (En.nRules kl) gv) p).length (rowCells ((holdP (En.leastN (En.nRules kl) gv) p).map fun j => Tb.row3 (dat j).2)) ∧ Below W.heap.size W w'
 count : ∀ W : World, Below w.heap.size w W → ∀ j, j ∈ holdP (En.leastN (En.nRules kl) gv) p → Calls Tryz.prog 43 #[.pointer (some ⟨ug, 0, none⟩), .agg (Tb.row3V (dat j).2)] W fun e w' => e = .returned (.int .i64 (cnN kl gv j : Nat)) ∧ Below W.heap.size W w'
structure GivA (w : World) (gv : Nat → Bool) (gm : Nat) (p : ByteArray) (tg : Nat) : Prop where
 lt : tg < w.heap.size
 look : ∀ W : World, Below w.heap.size w W → (Instr.lookup 102 (.map (some gm)) (.string p) false).run Tryz.prog W = .ok (.pointer (some ⟨tg, 0, none⟩)) W
 has : ∀ W : World, Below w.heap.size w W → ∀ j, j < 36 → (dat j).1 = p → Calls Tryz.prog 42 #[.pointer (some ⟨tg, 0, none⟩), .agg (Tb.row3V (dat j).2)] W fun e w' => e = .returned (.bool (gv j)) ∧ Below W.heap.size W w'
structure StA (w : World) (kl : List Ax.KRule) (gv : Nat → Bool) (rv : Value) (gm hm : Nat) : Prop where
 preds : ∀ W : World, Below w.heap.size w W → Calls Tryz.prog 59 #[.agg #[.string (Ax.gtext kl), rv]] W fun e w' => ∃ qd qc, e = .returned (.slice qd 3 qc) ∧ w'.ownsRow W.heap.size 112 2 (.slice qd 3 qc) 3 (predCells gQ) ∧ Below W.heap.size W w'
 hol : ∀ p, p ∈ gQ → ∃ ug, HolA w kl gv hm p.1 ug
 giv : ∀ p, p ∈ gQ → ∃ tg, GivA w gv gm p.1 tg
theorem StA.below {w w' : World} {kl : List Ax.KRule} {gv : Nat → Bool} {rv : Value} {gm hm : Nat} (h : StA w kl gv rv gm hm) (hb : Below w.heap.size w w') : StA w' kl gv rv gm hm := by
 have key : ∀ W, Below w'.heap.size w' W → Below w.heap.size w W := fun W hW => hb.trans (hW.mono hb.size)
 refine ⟨fun W hW => h.preds W (key W hW), fun p hp => ?_, fun p hp => ?_⟩
 · obtain ⟨ug, k⟩ := h.hol p hp
   exact ⟨ug, Nat.lt_of_lt_of_le k.lt hb.size, fun W hW => k.look W (key W hW), fun W hW => k.len W (key W hW), fun W hW => k.rows W (key W hW), fun W hW => k.count W (key W hW)⟩
 · obtain ⟨tg, k⟩ := h.giv p hp
   exact ⟨tg, Nat.lt_of_lt_of_le k.lt hb.size, fun W hW => k.look W (key W hW), fun W hW => k.has W (key W hW)⟩
end Go.Proofs.YtdmicblafmhflaaGreatDoor
/- An engine's state, as its calls answer. -/
namespace Go.Proofs.YtdmicblafmhflaaGreatDoor
open Go.RowKit Go.Maps
theorem row3V_eq (l : List ByteArray) : Tb.row3V l = #[.string (Tb.at0 l 0), .string (Tb.at0 l 1), .string (Tb.at0 l 2)] := rfl
theorem eng_state {w : World} {B eg : Nat} {kl : List Ax.KRule} {gv : Nat → Bool} {n : Nat} (hE : Eng w B eg kl gv n) (hg : GvOk gv) : ∃ rd rn rc gm hm hd lv, w.heap[eg]? = some (.cells (egCells (Ax.gtext kl) (.slice rd rn rc) gm hm hd lv) 109 (0, 0)) ∧ hd.length = 32 ∧ StA w kl gv (.slice rd rn rc) gm hm := by
 obtain ⟨pl, rd, rc, l, gm, G, hm, T, s, hd, lv, ln, lx, eb, hin, he, hG, hR, hH, hI, hT, hd32, hlog, hln, rfl⟩ := hE.at_
 refine ⟨rd, l.length, rc, gm, hm, hd, lv, eb, hd32, ?_, ?_, ?_⟩
 · intro W hW
   obtain ⟨_, _, hl8⟩ := rulesS_gen hin he
   have hne : l ≠ [] := by
    rintro rfl
    simp [Ax.gR, Ax.gbase] at he
   refine (preds_any W (Ax.gtext kl) rd rc l (hin.below hW) (by omega) (prs_one he) hne).mono ?_
   rintro e w' ⟨qd, qc, Q, rfl, h1, h2, h3⟩
   have hQ : Q = gQ := gQ_eq h3.out.1 (fun p => (h3.out.2 p).trans (prs_gen he p))
   subst hQ
   exact ⟨qd, qc, rfl, h1, h2⟩
 · intro p hp9
   have hp := gQ_mem hp9
   obtain ⟨u, hu, hu2⟩ := List.mem_map.1 ((hT _).2 hp)
   have hu1 : u.nm = p.1 := congrArg Prod.fst hu2
   have hu3 : u.pl = p.2 := congrArg Prod.snd hu2
   have hps : p.1.size ≤ 1000000 := Nat.le_trans (gPr_short _ hp) (by decide)
   have hfs := found_short hI
   have hlU := hH.few u hu
   have hok := En.nRules_ok kl
   have hTab := (hH.tabs u hu).tab
   have hrows : ∀ r, r ∈ u.L ↔ (p.1, r) ∈ s.found := fun r => by rw [hH.rows u hu, hu1]
   obtain ⟨js, e1, e2, e3⟩ := lst_of (H := En.leastN (En.nRules kl) gv) (pl := p.2) hp u.L (fun r hr => by
    have h1 := (hrows r).1 hr
    obtain ⟨j, hj, e⟩ := En.can_uF (En.found_can hok hI _ h1)
    rw [e] at h1
    exact ⟨j, hj, (En.found_iff hok hg hI hj).1 h1, e⟩)
   have hLst : Lst (En.leastN (En.nRules kl) gv) p.1 js := by
    refine ⟨fun j => ⟨e3 j, ?_⟩, ?_⟩
    · rintro ⟨hj, hH9, hd9⟩
      have h1 := (En.found_iff hok hg hI hj).2 hH9
      rw [uF_dat, hd9] at h1
      have h2 := (hrows _).2 h1
      rw [e1] at h2
      obtain ⟨i, hi, e⟩ := List.mem_map.1 h2
      obtain ⟨hi36, _, hid⟩ := e3 i hi
      have : i = j := En.uF_inj hi36 hj (by rw [uF_dat, uF_dat, hid, hd9, e])
      rw [← this]
      exact hi
    · have h1 : Tb.Ord u.L := hTab.ord
      rw [e1] at h1
      exact List.pairwise_map.1 h1
   have hjs := hLst.eq
   subst hjs
   have hlen : u.L.length = (holdP (En.leastN (En.nRules kl) gv) p.1).length := by rw [e1, List.length_map]
   refine ⟨u.g, lt_of_heap hTab.blk, ?_, ?_, ?_, ?_⟩
   · intro W hW
     exact (hH.below hW).map.look (by rw [← hu1]; exact look_key hH.names hu) hps Tryz.underlying103 (Tryz.zeroValue97 W)
   · intro W hW
     rw [← hlen]
     exact len_any W u.g _ _ _ _ _ _ _ (hTab.below hW)
   · intro W hW
     rw [← hlen, ← e1]
     exact rows_any W u.g _ _ _ _ _ _ _ (hTab.below hW) (by omega)
   · intro W hW j hj
     obtain ⟨hj36, hHj, hjp⟩ := mem_holdP.1 hj
     rw [row3V_eq]
     refine (count_any W u.g _ _ _ _ _ _ _ _ _ _ _ ((hH.tabs u hu).below hW) (by omega)).mono ?_
     rintro e w' ⟨rfl, hb⟩
     refine ⟨?_, hb⟩
     have hord : Tb.Ord u.L := (hH.tabs u hu).tab.ord
     have hc : s.count (En.uF j) = cnN kl gv j := En.found_count' hok hg hI hj36
     have huf : (u.nm, Tb.row3 (dat j).2) = En.uF j := by rw [uF_dat, hu1, hjp]
     have e3 : Tb.cntOf u.L u.C (Tb.row3 (dat j).2) = cnN kl gv j := by
      rw [hH.cnts u hu, cntOf_map hord]
      by_cases h : Tb.inB u.L (Tb.row3 (dat j).2) = true
      · rw [if_pos h, huf]
        exact hc
      · rw [if_neg h, ← hc]
        rw [Tb.inB_iff, hH.rows u hu, huf] at h
        exact (hH.zero _ h).symm
     rw [← e3]
     rfl
 · intro p hp9
   have hp := gQ_mem hp9
   obtain ⟨t, ht, hnm, hpl⟩ := hR.has (p := p.1) (n := p.2) hp
   have hps : p.1.size ≤ 1000000 := Nat.le_trans (gPr_short _ hp) (by decide)
   have hlL : t.L.length ≤ 36 := Nat.le_trans (gsum_mem ht) (hR.sum hG.names (fun t ht => TabAt.ord (hG.tabs t ht)))
   refine ⟨t.g, lt_of_heap (TabAt.blk (hG.tabs t ht)), ?_, ?_⟩
   · intro W hW
     exact (hG.below hW).map.look (by rw [← hnm]; exact glook_key hG.names ht) hps Tryz.underlying102 (Tryz.zeroValue122 W)
   · intro W hW j hj hjp
     rw [row3V_eq]
     refine (has_any W t.g _ _ _ _ _ _ _ _ _ _ ((hG.tabs t ht).below hW) (by omega)).mono ?_
     rintro e w' ⟨rfl, hb⟩
     refine ⟨?_, hb⟩
     have htf : (t.nm, Tb.row3 (dat j).2) = En.uF j := by rw [uF_dat, hnm, hjp]
     have e1 : Tb.inB t.L (Tb.row3 (dat j).2) = gv j := by
      rw [Bool.eq_iff_iff, Tb.inB_iff, hR.rows t ht]
      constructor
      · rintro ⟨i, hi, hgj, e⟩
        rw [htf] at e
        rw [← En.uF_inj hi hj e]
        exact hgj
      · intro h
        exact ⟨j, hj, h, htf.symm⟩
     rw [← e1]
     rfl
end Go.Proofs.YtdmicblafmhflaaGreatDoor
