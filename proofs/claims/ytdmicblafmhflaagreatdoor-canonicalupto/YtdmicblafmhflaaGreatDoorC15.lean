/- slices.BinarySearchFunc at rows; find. -/
import Derived.Test.YtdmicblafmhflaaGreatDoorC14
import Derived.Deep.CutRange
import Derived.Deep.LoopGhost
import Derived.Lib.QuietBelow
set_option linter.unusedSimpArgs false
set_option linter.unusedVariables false
namespace Go.Proofs.YtdmicblafmhflaaGreatDoor
open Go.RowKit
open Go.Sort (grow)
def rowCells (L : List (List ByteArray)) : List Value := L.flatMap fun r => r.map .string
def Three (L : List (List ByteArray)) : Prop := ∀ r, r ∈ L → r.length = 3
theorem rowCells_len : ∀ {L : List (List ByteArray)}, Three L → (rowCells L).length = L.length * 3
 | [], _ => rfl
 | r :: L, h => by
  have h1 := rowCells_len (L := L) (fun x hx => h x (by simp [hx]))
  have h2 := h r (by simp)
  unfold rowCells at h1 ⊢
  simp only [List.flatMap_cons, List.length_append, List.length_map, List.length_cons, h1, h2]
  omega
theorem rowCells_take : ∀ {L : List (List ByteArray)} (k : Nat), Three L → (rowCells L).take (k * 3) = rowCells (L.take k)
 | [], k, _ => by simp [rowCells]
 | r :: L, 0, _ => by simp [rowCells]
 | r :: L, k + 1, h => by
  have h1 := rowCells_take (L := L) k (fun x hx => h x (by simp [hx]))
  have h2 := h r (by simp)
  unfold rowCells at h1 ⊢
  rw [List.flatMap_cons, List.take_succ_cons, List.flatMap_cons, ← h1, List.take_append, List.length_map, h2]
  rw [List.take_of_length_le (by rw [List.length_map, h2]; omega)]
  congr 2
  omega
theorem rowCells_drop : ∀ {L : List (List ByteArray)} (k : Nat), Three L → (rowCells L).drop (k * 3) = rowCells (L.drop k)
 | [], k, _ => by simp [rowCells]
 | r :: L, 0, _ => by simp [rowCells]
 | r :: L, k + 1, h => by
  have h1 := rowCells_drop (L := L) k (fun x hx => h x (by simp [hx]))
  have h2 := h r (by simp)
  unfold rowCells at h1 ⊢
  rw [List.flatMap_cons, List.drop_succ_cons, ← h1, List.drop_append, List.length_map, h2]
  rw [List.drop_of_length_le (by rw [List.length_map, h2]; omega), List.nil_append]
  congr 1
  omega
theorem rowCells_app (a b : List (List ByteArray)) : rowCells (a ++ b) = rowCells a ++ rowCells b := by simp [rowCells]
theorem rowCells_one (L : List (List ByteArray)) : ∀ u ∈ rowCells L, u.oneCell' = true := by
 intro u hu
 obtain ⟨r, _, hu⟩ := List.mem_flatMap.1 hu
 obtain ⟨x, _, rfl⟩ := List.mem_map.1 hu
 rfl
theorem three_of {r : List ByteArray} (h : r.length = 3) : ∃ a b c, r = [a, b, c] := by
 match r with
 | [a, b, c] => exact ⟨a, b, c, rfl⟩
 | [] => simp at h
 | [_] => simp at h
 | [_, _] => simp at h
 | _ :: _ :: _ :: _ :: _ => simp at h
theorem rowCells_get {L : List (List ByteArray)} (h : Three L) {k : Nat} (hk : k < L.length) {a b c : ByteArray} (e : L[k] = [a, b, c]) :
 (rowCells L)[k * 3]? = some (.string a) ∧ (rowCells L)[k * 3 + 1]? = some (.string b) ∧ (rowCells L)[k * 3 + 2]? = some (.string c) := by
 have h1 := rowCells_drop k h
 rw [List.drop_eq_getElem_cons hk, e] at h1
 have g : ∀ j, (rowCells L)[k * 3 + j]? = (rowCells ([a, b, c] :: L.drop (k + 1)))[j]? := by
  intro j
  rw [← h1, List.getElem?_drop]
 have g0 := g 0
 rw [Nat.add_zero] at g0
 rw [g0, g 1, g 2]
 simp [rowCells]
structure RowsAt (w : World) (rd : Option Addr) (rc : Nat) (L : List (List ByteArray)) : Prop where
 three : Three L
 own : w.ownsRow 0 119 3 (.slice rd L.length rc) L.length (rowCells L)
theorem RowsAt.below {w w' : World} {rd : Option Addr} {rc : Nat} {L : List (List ByteArray)} (h : RowsAt w rd rc L) (hb : Below w.heap.size w w') : RowsAt w' rd rc L := ⟨h.three, ownsRow_below h.own hb⟩
theorem RowsAt.at {w : World} {rd : Option Addr} {rc : Nat} {L : List (List ByteArray)} (h : RowsAt w rd rc L) {k : Nat} (hk : k < L.length) :
 ∃ g a b c, rd = some ⟨g, 0, none⟩ ∧ g < w.heap.size ∧ L.length ≤ rc ∧ L[k] = [a, b, c] ∧ w.cell? ⟨g, k * 3, none⟩ = some (.string a) ∧ w.cell? ⟨g, k * 3 + 1, none⟩ = some (.string b) ∧ w.cell? ⟨g, k * 3 + 2, none⟩ = some (.string c) := by
 obtain ⟨g, rfl, hg, hc, hcs⟩ := row_cells h.own (by omega)
 obtain ⟨a, b, c, e⟩ := three_of (h.three _ (List.getElem_mem hk))
 obtain ⟨c0, c1, c2⟩ := rowCells_get h.three hk e
 exact ⟨g, a, b, c, rfl, hg, hc, e, hcs _ _ c0, hcs _ _ c1, hcs _ _ c2⟩
theorem pos_of {L : List (List ByteArray)} {r : List ByteArray} {i : Nat} (hi : i ≤ L.length) (h1 : ∀ k (hk : k < L.length), k < i → Tb.rcmp L[k] r < 0) (h2 : ∀ k (hk : k < L.length), i ≤ k → ¬ Tb.rcmp L[k] r < 0) : Tb.pos L r = i := by
 unfold Tb.pos
 have e : L = L.take i ++ L.drop i := (List.take_append_drop i L).symm
 rw [e, List.countP_append]
 have a1 : (L.take i).countP (fun x => decide (Tb.rcmp x r < 0)) = i := by
  rw [List.countP_eq_length.2, List.length_take, Nat.min_eq_left hi]
  intro x hx
  obtain ⟨k, hk, rfl⟩ := List.getElem_of_mem hx
  rw [List.length_take] at hk
  rw [List.getElem_take]
  simpa using h1 k (by omega) (by omega)
 have a2 : (L.drop i).countP (fun x => decide (Tb.rcmp x r < 0)) = 0 := by
  rw [List.countP_eq_zero]
  intro x hx
  obtain ⟨k, hk, rfl⟩ := List.getElem_of_mem hx
  rw [List.length_drop] at hk
  rw [List.getElem_drop]
  simpa using h2 (i + k) (by omega) (by omega)
 rw [a1, a2, Nat.add_zero]
set_option maxRecDepth 100000 in
set_option maxHeartbeats 2000000 in
theorem bsearch_any (w : World) (rd : Option Addr) (rc : Nat) (L : List (List ByteArray)) (a b c : ByteArray) (h : RowsAt w rd rc L) (hL : L.length ≤ 1000000) (ho : Tb.Ord L) :
 Calls Tryz.prog 131 #[.slice rd L.length rc, .agg #[.string a, .string b, .string c], .func (Fn.func 132) #[] #[]] w fun e w' =>
  e = .returned (.tuple #[.int .i64 (Tb.pos L [a, b, c] : Nat), .bool (Tb.inB L [a, b, c])]) ∧ Below w.heap.size w w' := by
 obtain ⟨w0, hw0⟩ : ∃ w0, w0 = w.alloc (.cells #[.string a, .string b, .string c] 119) := ⟨_, rfl⟩
 have hb0 : Below w.heap.size w w0 := by rw [hw0]; exact (Below.refl _ _).alloc (Nat.le_refl _) _
 have htg : w0.heap[w.heap.size]? = some (.cells #[.string a, .string b, .string c] 119 (0, 0)) := by rw [hw0]; exact heap_alloc_new w _
 have hs0 : w0.heap.size = w.heap.size + 1 := by rw [hw0]; simp
 have h0 : RowsAt w0 rd rc L := h.below hb0
 have hcon := fun (W : World) (x y z : ByteArray) => compareRows_any W x y z a b c
 generalize hr : [a, b, c] = r at hcon
 have HR : Hid ([a, b, c] = r) := hr
 have HO : Hid (Tb.Ord L) := ho
 clear hr ho h
 go_enter Tryz.func131, Tryz.ntmps131
 go_wp2_with fail
 rw [← hw0]
 clear hw0
 go_loopw [9, 10] (fun iv jv wr => ∃ i j : Nat, i ≤ j ∧ j ≤ L.length ∧ iv = .int .i64 i ∧ jv = .int .i64 j ∧ Below w0.heap.size w0 wr ∧ (∀ k (hk : k < L.length), k < i → Tb.rcmp L[k] r < 0) ∧ (∀ k (hk : k < L.length), j ≤ k → ¬ Tb.rcmp L[k] r < 0)) (fun iv jv _ => (intOf jv).toNat - (intOf iv).toNat)
 case atStart => exact ⟨0, L.length, Nat.zero_le _, Nat.le_refl _, rfl, rfl, Below.refl _ _, fun k _ hk => by omega, fun k hk hk' => by omega⟩
 case round =>
  obtain ⟨i, j, hij, hj, rfl, rfl, hbel, hlo, hhi⟩ := hrel
  have HLO : Hid (∀ k (hk : k < L.length), k < i → Tb.rcmp L[k] r < 0) := hlo
  have HHI : Hid (∀ k (hk : k < L.length), j ≤ k → ¬ Tb.rcmp L[k] r < 0) := hhi
  clear hlo hhi
  by_cases hlt : i < j
  · obtain ⟨m, hm⟩ : ∃ m : Nat, m = (i + j) / 2 := ⟨_, rfl⟩
    have hm1 : i ≤ m := by omega
    have hm2 : m < j := by omega
    have HM : Hid (m = (i + j) / 2) := hm
    have hmL : m < L.length := by omega
    obtain ⟨g, x, y, z, rfl, hg, hc, hx, d0, d1, d2⟩ := (h0.below hbel).at hmL
    have HX : Hid (L[m] = [x, y, z]) := hx
    have ht := hbel.block w.heap.size (by omega)
    rw [htg] at ht
    have t0 : wr.cell? ⟨w.heap.size, 0, none⟩ = some (.string a) := by rw [cell_of_row _ _ 0 _ _ _ ht]; rfl
    have t1 : wr.cell? ⟨w.heap.size, 1, none⟩ = some (.string b) := by rw [cell_of_row _ _ 1 _ _ _ ht]; rfl
    have t2 : wr.cell? ⟨w.heap.size, 2, none⟩ = some (.string c) := by rw [cell_of_row _ _ 2 _ _ _ ht]; rfl
    have hwr : w.heap.size < wr.heap.size := by have := hbel.size; omega
    have w1 : IntKind.i64.wrap ((i : Int) + (j : Int)) = (i : Int) + (j : Int) := by rw [IntKind.wrap_i64]; omega
    clear hx hm ht
    have hmI : ((i : Int) + (j : Int)) / 2 = (m : Int) := by have := HM.out; omega
    go_upto_region 5 with fail
    go_cut [31] from 15 to 34 (fun cv wx => cv = .bool (decide (Tb.rcmp [x, y, z] r < 0)) ∧ Below w0.heap.size w0 wx)
    case first =>
     go_region_with (go_at_call 132; refine (hcon _ _ _ _).mono ?_; rintro e w5 ⟨rfl, hb5⟩)
     all_goals (go_wp2_with fail; go_meet; exact ⟨by rfl, hbel.drew.trans (hb5.mono (by exact hbel.size))⟩)
    case rest =>
     obtain ⟨rfl, hbc⟩ := hcut
     have key : Hid ((Tb.rcmp [x, y, z] r < 0) = (Tb.rcmp L[m] r < 0)) := by rw [HX.out]; rfl
     cases hq : decide (Tb.rcmp [x, y, z] r < 0) with
     | true =>
      have hq' : Hid (Tb.rcmp L[m] r < 0) := by have := of_decide_eq_true hq; rw [HX.out]; exact this
      clear hq key hbel d0 d1 d2 t0 t1 t2
      go_wp2_with fail
      go_roundw
      case rel =>
       refine ⟨m + 1, j, by omega, hj, by go_num, rfl, hbc, fun k hk hk' => ?_, HHI.out⟩
       exact Tb.pos_mono HO.out (by omega) hmL hq'.out
      case measure => simp [intOf]; omega
     | false =>
      have hq' : Hid (¬ Tb.rcmp L[m] r < 0) := by have := of_decide_eq_false hq; rw [HX.out]; exact this
      clear hq key hbel d0 d1 d2 t0 t1 t2
      go_wp2_with fail
      go_roundw
      case rel =>
       refine ⟨i, m, by omega, by omega, rfl, rfl, hbc, HLO.out, fun k hk hk' hc2 => ?_⟩
       exact hq'.out (Tb.pos_mono HO.out hk' hk hc2)
      case measure => simp [intOf]; omega
  · have hji : i = j := by omega
    have hps : Hid (Tb.pos L r = i) := pos_of (by omega) HLO.out (fun k hk hk' => HHI.out k hk (by omega))
    by_cases hin : i < L.length
    · obtain ⟨g, x, y, z, rfl, hg, hc, hx, d0, d1, d2⟩ := (h0.below hbel).at hin
      have HX : Hid (L[i] = [x, y, z]) := hx
      have ht := hbel.block w.heap.size (by omega)
      rw [htg] at ht
      have t0 : wr.cell? ⟨w.heap.size, 0, none⟩ = some (.string a) := by rw [cell_of_row _ _ 0 _ _ _ ht]; rfl
      have t1 : wr.cell? ⟨w.heap.size, 1, none⟩ = some (.string b) := by rw [cell_of_row _ _ 1 _ _ _ ht]; rfl
      have t2 : wr.cell? ⟨w.heap.size, 2, none⟩ = some (.string c) := by rw [cell_of_row _ _ 2 _ _ _ ht]; rfl
      have hwr : w.heap.size < wr.heap.size := by have := hbel.size; omega
      have hrs : Hid (Tb.inB L r = decide (Tb.rcmp [x, y, z] r = 0)) := by
       have h1 := Tb.pos_found HO.out r
       rw [hps.out, List.getElem?_eq_getElem hin, HX.out] at h1
       rw [Bool.eq_iff_iff, Tb.inB_iff, decide_eq_true_eq, Tb.rcmp_zero, ← h1, Option.some.injEq]
       exact Iff.rfl
      have HJ : Hid (i = j) := hji
      clear hx ht hji
      have k0 := cell_regrown d0
      have k1 := cell_regrown d1
      have k2 := cell_regrown d2
      have l0 := cell_regrown t0
      have l1 := cell_regrown t1
      have l2 := cell_regrown t2
      have cC : ∀ d os, Calls Tryz.prog 132 #[.agg #[.string x, .string y, .string z], .agg #[.string a, .string b, .string c]] (grow (redrawn wr d) os) fun e w'' => e = .returned (.int .i64 (Tb.rcmp [x, y, z] r)) ∧ ∃ p : Regrown, w'' = grow (redrawn wr p.d) p.os := fun d os => Calls.regrown_of (hcon _ _ _ _)
      generalize Tb.rcmp [x, y, z] r = q at hrs cC
      have hfin : Hid ((Value.tuple #[.int .i64 (Tb.pos L r : Nat), .bool (Tb.inB L r)]) = .tuple #[.int .i64 (i : Nat), .bool (q == 0)]) := by
       have e1 : (q == 0) = decide (q = 0) := by rw [Bool.eq_iff_iff]; simp
       rw [hps.out, hrs.out, ← e1]
       rfl
      clear hcon d0 d1 d2 t0 t1 t2
      go_upto_region 8 with fail
      refine wp_region_quiet_below (by kernel_rfl) (by kernel_rfl) ?_
      repeat (quiet_step (first | exact cC _ _))
      refine wpQuiet_nil ?_
      intro _ hw'
      obtain ⟨⟨dq, osq⟩, hw''⟩ := hw'
      subst hw''
      go_wp2_with fail
      have hend : Below w.heap.size w (grow (redrawn wr dq) osq) := (hb0.trans (hbel.mono hb0.size)).trans ((below_regrown wr dq osq).mono (by have := hb0.size; have := hbel.size; omega))
      go_ret2
      exact ⟨by rw [hfin.out]; rfl, hend⟩
    · have hrs : Hid (Tb.inB L r = false) := by
       rw [Bool.eq_false_iff]
       intro hc
       have h1 := (Tb.pos_found HO.out r).2 (Tb.inB_iff.1 hc)
       rw [hps.out, List.getElem?_eq_none (by omega)] at h1
       cases h1
      have hiL : i = L.length := by omega
      have HIL : Hid (i = L.length) := hiL
      have hfin : Hid ((Value.tuple #[.int .i64 (Tb.pos L r : Nat), .bool (Tb.inB L r)]) = .tuple #[.int .i64 (i : Nat), .bool false]) := by
       rw [hps.out, hrs.out]
       rfl
      clear hiL hji
      go_upto_region 8 with fail
      go_region
      all_goals (go_wp2_with fail)
      have hend : Below w.heap.size w wr.drew := (hb0.trans (hbel.mono hb0.size)).drew
      go_ret2
      exact ⟨by rw [hfin.out]; rfl, hend⟩
set_option maxRecDepth 100000 in
set_option maxHeartbeats 2000000 in
theorem find_any (w : World) (g : Nat) (rd : Option Addr) (rc : Nat) (L : List (List ByteArray)) (a b c : ByteArray) (h : RowsAt w rd rc L) (hL : L.length ≤ 1000000) (ho : Tb.Ord L) (hc : w.cell? ⟨g, 2, none⟩ = some (.slice rd L.length rc)) :
 Calls Tryz.prog 75 #[.pointer (some ⟨g, 0, none⟩), .agg #[.string a, .string b, .string c]] w fun e w' =>
  e = .returned (.tuple #[.int .i64 (Tb.pos L [a, b, c] : Nat), .bool (Tb.inB L [a, b, c])]) ∧ Below w.heap.size w w' := by
 obtain ⟨w0, hw0⟩ : ∃ w0, w0 = w.alloc (.cells #[.string a, .string b, .string c] 119) := ⟨_, rfl⟩
 have hb0 : Below w.heap.size w w0 := by rw [hw0]; exact (Below.refl _ _).alloc (Nat.le_refl _) _
 have htg : w0.heap[w.heap.size]? = some (.cells #[.string a, .string b, .string c] 119 (0, 0)) := by rw [hw0]; exact heap_alloc_new w _
 have t0 : w0.cell? ⟨w.heap.size, 0, none⟩ = some (.string a) := by rw [cell_of_row _ _ 0 _ _ _ htg]; rfl
 have t1 : w0.cell? ⟨w.heap.size, 1, none⟩ = some (.string b) := by rw [cell_of_row _ _ 1 _ _ _ htg]; rfl
 have t2 : w0.cell? ⟨w.heap.size, 2, none⟩ = some (.string c) := by rw [cell_of_row _ _ 2 _ _ _ htg]; rfl
 have hc0 : w0.cell? ⟨g, 2, none⟩ = some (.slice rd L.length rc) := by rw [hb0.cell (block_lt_of_cell hc)]; exact hc
 have h0 : RowsAt w0 rd rc L := h.below hb0
 have k0 := cell_regrown t0
 have k1 := cell_regrown t1
 have k2 := cell_regrown t2
 have k3 := cell_regrown hc0
 have cC : ∀ d os, Calls Tryz.prog 131 #[.slice rd L.length rc, .agg #[.string a, .string b, .string c], .func (Fn.func 132) #[] #[]] (grow (redrawn w0 d) os) fun e w'' => e = .returned (.tuple #[.int .i64 (Tb.pos L [a, b, c] : Nat), .bool (Tb.inB L [a, b, c])]) ∧ ∃ p : Regrown, w'' = grow (redrawn w0 p.d) p.os := fun d os => Calls.regrown_of (bsearch_any _ rd rc L a b c (h0.below (below_regrown w0 d os)) hL ho)
 generalize Tb.pos L [a, b, c] = ps at cC ⊢
 generalize Tb.inB L [a, b, c] = fb at cC ⊢
 clear h0 h hc t0 t1 t2 htg ho
 go_enter Tryz.func75, Tryz.ntmps75
 go_wp2_with fail
 rw [← hw0]
 clear hw0
 refine wp_region_quiet_below (by kernel_rfl) (by kernel_rfl) ?_
 repeat (quiet_step (first | exact cC _ _))
 refine wpQuiet_nil ?_
 intro _ hw'
 obtain ⟨⟨dq, osq⟩, hw''⟩ := hw'
 subst hw''
 go_wp2_with fail
 have hend : Below w.heap.size w (grow (redrawn w0 dq) osq) := hb0.trans ((below_regrown w0 dq osq).mono hb0.size)
 go_ret2
 exact ⟨rfl, hend⟩
end Go.Proofs.YtdmicblafmhflaaGreatDoor
