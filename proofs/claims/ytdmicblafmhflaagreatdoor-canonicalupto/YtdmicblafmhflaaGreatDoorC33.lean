/- Package digest: a word of four bytes; rows of words. -/
import Derived.Test.YtdmicblafmhflaaGreatDoorC32
import Derived.Deep.RegionHeld3
set_option linter.unusedSimpArgs false
set_option linter.unusedVariables false
namespace Go.Proofs.YtdmicblafmhflaaGreatDoor
open Go.RowKit
theorem Kb.drewN {S : List Nat} {w w' : World} (h : Kb S w w') (n : Nat) : Kb S w (w'.drewN n) := ⟨h.os, h.tape, h.output, h.size, h.block⟩
theorem wpList_store_row {P : Program} {ops : Array Oper} {rest : List Oper} {o : Oper} {a : Act} {w : World} {Q : Exit → Act → World → Prop} (hgd : o.guard = none) (ty : TypeId) (x y : Operand) (ho : o.op = .store ty x y)
 (g : Nat) (hx : a.eval x = .pointer (some ⟨g, 0, none⟩)) (cs : Array Value) (hy : a.eval y = .agg cs) (t : TypeId) (cur : Array Value) (hg : w.heap[g]? = some (.cells cur t (0, 0))) (hs : cs.size = cur.size) (hi : (P.info? ty).map (·.size) = some cs.size) (h1 : ∀ v ∈ cs.toList, v.oneCell' = true)
 (h : wpList P ops Q rest (a.put o.dst undef) (w.setRow g cs)) : wpList P ops Q (o :: rest) a w := by
 refine wpList_plain hgd fun K hK => ?_
 have hst := run_storeCells_at P g 0 t cs.toList 0 cur w hg (by simp; omega) h1
 have e : (cur.toList.take 0 ++ cs.toList ++ cur.toList.drop (0 + cs.toList.length)).toArray = cs := by
  have : cur.toList.drop (0 + cs.toList.length) = [] := List.drop_eq_nil_of_le (by simp; omega)
  rw [this]
  simp
 simp only [Nat.add_zero] at hst
 rw [e] at hst
 cases hq : P.info? ty with
 | none => simp [hq] at hi
 | some i =>
  have hsz : i.size = cs.size := by simpa [hq] using hi
  have hc : (Value.agg cs).cells = cs := rfl
  unfold Oper.wp execOp
  simp [ho, hx, hy, Instr.storeAt, Instr.sureAddr, storeVar, hc, sizeOf, typeInfo, hq, hsz, hst]
  exact hK _ _ h
namespace Dg
theorem arrN_one (n : Nat) (k : IntKind) (f : Nat → Int) : ∀ v ∈ (((List.range n).map fun i => Value.int k (f i)).toArray).toList, v.oneCell' = true := by
 intro v hv
 simp only [List.toList_toArray, List.mem_map] at hv
 obtain ⟨i, _, rfl⟩ := hv
 rfl
def arrN (n : Nat) (k : IntKind) (f : Nat → Int) : Array Value := ((List.range n).map fun i => Value.int k (f i)).toArray
def upd (f : Nat → Int) (i : Nat) (v : Int) : Nat → Int := fun j => if j = i then v else f j
theorem arrN_size (n : Nat) (k : IntKind) (f : Nat → Int) : (arrN n k f).size = n := by simp [arrN]
theorem arrN_get {n : Nat} {k : IntKind} {f : Nat → Int} {i : Nat} (h : i < n) : (arrN n k f)[i]? = some (.int k (f i)) := by simp [arrN, h]
theorem arrN_set {n : Nat} {k : IntKind} {f : Nat → Int} {i : Nat} (h : i < n) (v : Int) : (arrN n k f).setIfInBounds i (.int k v) = arrN n k (upd f i v) := by
 apply Array.ext_getElem?
 intro j
 rw [Array.getElem?_setIfInBounds]
 by_cases hj : j < n
 · rw [arrN_get hj, arrN_get hj, arrN_size]
   by_cases e : i = j
   · subst e; simp [upd, h]
   · have e' : ¬ j = i := fun x => e x.symm
     simp [upd, e, e']
 · have h1 : (arrN n k f)[j]? = none := Array.getElem?_eq_none (by rw [arrN_size]; omega)
   have h2 : (arrN n k (upd f i v))[j]? = none := Array.getElem?_eq_none (by rw [arrN_size]; omega)
   rw [h1, h2, if_neg (by omega)]
theorem arrN_congr {n : Nat} {k : IntKind} {f g : Nat → Int} (h : ∀ i, i < n → f i = g i) : arrN n k f = arrN n k g := by
 unfold arrN
 congr 1
 refine List.map_congr_left fun i hi => ?_
 rw [h i (by simpa using hi)]
theorem cell_arr {w : World} {g n : Nat} {k : IntKind} {f : Nat → Int} {T : TypeId} (hg : w.heap[g]? = some (.cells (arrN n k f) T (0, 0))) {i : Nat} (h : i < n) : w.cell? ⟨g, i, none⟩ = some (.int k (f i)) := by
 rw [cell_of_row _ _ _ _ _ _ hg, arrN_get h]
theorem store_arr {w : World} {g n : Nat} {k : IntKind} {f : Nat → Int} {T : TypeId} (hg : w.heap[g]? = some (.cells (arrN n k f) T (0, 0))) {i : Nat} (h : i < n) (v : Int) : (w.setCell ⟨g, i, none⟩ (.int k v)).heap[g]? = some (.cells (arrN n k (upd f i v)) T (0, 0)) := by
 rw [setCell_heap w hg, arrN_set h]
theorem frozen_arr {w : World} {g : Nat} {cs : Array Value} {T : TypeId} (hg : w.heap[g]? = some (.cells cs T (0, 0))) (i : Nat) : w.frozen? ⟨g, i, none⟩ = false := by simp [World.frozen?, hg]
def wordF (b0 b1 b2 b3 : Int) : Int := bits .or .u32 (bits .or .u32 (bits .or .u32 (b0 % 4294967296 * 16777216 % 4294967296) (b1 % 4294967296 * 65536 % 4294967296)) (b2 % 4294967296 * 256 % 4294967296)) (b3 % 4294967296)
def word : Int → Int → Int → Int → Int := shut wordF
end Dg
set_option maxRecDepth 100000 in
set_option maxHeartbeats 4000000 in
theorem dword_any (w : World) (g o n c : Nat) (b0 b1 b2 b3 : Int) (hn : 4 ≤ n) (h0 : w.cell? ⟨g, o, none⟩ = some (.int .u8 b0)) (h1 : w.cell? ⟨g, o + 1, none⟩ = some (.int .u8 b1)) (h2 : w.cell? ⟨g, o + 2, none⟩ = some (.int .u8 b2)) (h3 : w.cell? ⟨g, o + 3, none⟩ = some (.int .u8 b3)) :
 Calls Tryz.prog 194 #[.slice (some ⟨g, o, none⟩) n c] w fun e w' => e = .returned (.int .u32 (Dg.word b0 b1 b2 b3)) ∧ ∃ k, w' = w.drewN k := by
 have HE : Hid (Dg.word b0 b1 b2 b3 = Dg.wordF b0 b1 b2 b3) := by
  have : Dg.word b0 b1 b2 b3 = Dg.wordF b0 b1 b2 b3 := by unfold Dg.word; rw [Dg.shut_eq]
  exact this
 go_enter Tryz.func194, Tryz.ntmps194
 go_upto_region 1 with fail
 go_quiet (fail)
 go_wp2_with fail
 go_ret
 exact ⟨by rw [HE.out]; rfl, _, rfl⟩
end Go.Proofs.YtdmicblafmhflaaGreatDoor
/- Package digest: behind. -/
namespace Go.Proofs.YtdmicblafmhflaaGreatDoor
open Go.RowKit
namespace Dg
def Tab (w : World) (K : Nat → Int) : Prop := ∀ i, i < 64 → w.cell? ⟨0, i, none⟩ = some (.int .u32 (K i))
theorem Tab.below {w w' : World} {K : Nat → Int} (h : Tab w K) (hb : Below w.heap.size w w') : Tab w' K := fun i hi => by
 rw [hb.cell (block_lt_of_cell (h i hi))]
 exact h i hi
def rnds (K s ws : Nat → Int) : Nat → Nat → Int
 | 0 => s
 | n + 1 => rnd (rnds K s ws n) ((ws n + K n) % 4294967296)
def sums (K s ws : Nat → Int) (k : Nat) : Nat → Int := fun j => if j < k then (s j + rnds K s ws 64 j) % 4294967296 else s j
def behind : (Nat → Int) → (Nat → Int) → (Nat → Int) → Nat → Int := shut fun K s ws => sums K s ws 8
end Dg
theorem index_arr {n : Nat} {f : Nat → Int} {T : TypeId} (hu : Tryz.prog.underlying T = some (.array n 228)) (W : World) {i : Nat} (hi : i < n) : (Instr.index T (.agg (Dg.arrN n .u32 f)) (.int .i64 i)).run Tryz.prog W = .ok (.int .u32 (f i)) W := by
 have h1 := run_underlying hu W
 have h2 := Tryz.sizeOf228 W
 have h3 := Tryz.isAgg228 W
 have hg := Dg.arrN_get (k := .u32) (f := f) hi
 simp [Instr.index, asIntOf, h1, h2, part, h3, hi, hg]
theorem alloc4 (w : World) (o0 o1 o2 o3 : Obj) : Below w.heap.size w ((((w.alloc o0).alloc o1).alloc o2).alloc o3) ∧ ((((w.alloc o0).alloc o1).alloc o2).alloc o3).heap.size = w.heap.size + 4 ∧
 ((((w.alloc o0).alloc o1).alloc o2).alloc o3).heap[w.heap.size]? = some o0 ∧ ((((w.alloc o0).alloc o1).alloc o2).alloc o3).heap[w.heap.size + 1]? = some o1 ∧ ((((w.alloc o0).alloc o1).alloc o2).alloc o3).heap[w.heap.size + 1 + 1]? = some o2 ∧ ((((w.alloc o0).alloc o1).alloc o2).alloc o3).heap[w.heap.size + 1 + 1 + 1]? = some o3 := by
 refine ⟨((((Below.refl _ _).alloc (Nat.le_refl _) _).alloc (by simp) _).alloc (by simp only [World.size_alloc]; omega) _).alloc (by simp only [World.size_alloc]; omega) _, by simp, ?_, ?_, ?_, ?_⟩
 · rw [Below.heap_alloc _ _ _ (by simp only [World.size_alloc]; omega), Below.heap_alloc _ _ _ (by simp only [World.size_alloc]; omega), Below.heap_alloc _ _ _ (by simp)]
   exact heap_alloc_new w _
 · rw [Below.heap_alloc _ _ _ (by simp only [World.size_alloc]; omega), Below.heap_alloc _ _ _ (by simp only [World.size_alloc]; omega)]
   exact new2 w _ _
 · rw [Below.heap_alloc _ _ _ (by simp)]
   have := new2 (w.alloc o0) o1 o2
   simpa using this
 · have := new2 ((w.alloc o0).alloc o1) o2 o3
   simpa using this
set_option maxRecDepth 100000 in
set_option maxHeartbeats 4000000 in
theorem behind_any (K s ws : Nat → Int) (w : World) (hK : Dg.Tab w K) : Calls Tryz.prog 119 #[.agg (Dg.arr8 s), .agg (Dg.arrN 64 .u32 ws)] w fun e w' => e = .returned (.agg (Dg.arr8 (Dg.behind K s ws))) ∧ Below w.heap.size w w' := by
 have HE : Hid (Dg.behind K s ws = Dg.sums K s ws 8) := by
  have : Dg.behind K s ws = Dg.sums K s ws 8 := by unfold Dg.behind; rw [Dg.shut_eq]
  exact this
 have HK : Hid (Dg.Tab w K) := hK
 have hix : ∀ (W : World) (i : Nat), i < 64 → (Instr.index 234 (.agg (Dg.arrN 64 .u32 ws)) (.int .i64 i)).run Tryz.prog W = .ok (.int .u32 (ws i)) W := by
  intro W i hi
  exact index_arr Tryz.underlying234 W hi
 have e8 : Dg.arr8 s = #[.int .u32 (s 0), .int .u32 (s 1), .int .u32 (s 2), .int .u32 (s 3), .int .u32 (s 4), .int .u32 (s 5), .int .u32 (s 6), .int .u32 (s 7)] := rfl
 rw [e8]
 clear e8 hK
 go_enter Tryz.func119, Tryz.ntmps119
 go_upto_region 2 with fail
 obtain ⟨jb, js, j0, j1, j2, j3⟩ := alloc4 w (.cells #[.int .u32 (s 0), .int .u32 (s 1), .int .u32 (s 2), .int .u32 (s 3), .int .u32 (s 4), .int .u32 (s 5), .int .u32 (s 6), .int .u32 (s 7)] 230) (.cells (Dg.arrN 64 .u32 ws) 234) (.cells #[.int .u32 0, .int .u32 0, .int .u32 0, .int .u32 0, .int .u32 0, .int .u32 0, .int .u32 0, .int .u32 0] 230) (.cells #[.int .u32 (s 0), .int .u32 (s 1), .int .u32 (s 2), .int .u32 (s 3), .int .u32 (s 4), .int .u32 (s 5), .int .u32 (s 6), .int .u32 (s 7)] 230)
 generalize (((w.alloc (.cells #[.int .u32 (s 0), .int .u32 (s 1), .int .u32 (s 2), .int .u32 (s 3), .int .u32 (s 4), .int .u32 (s 5), .int .u32 (s 6), .int .u32 (s 7)] 230)).alloc (.cells (Dg.arrN 64 .u32 ws) 234)).alloc (.cells #[.int .u32 0, .int .u32 0, .int .u32 0, .int .u32 0, .int .u32 0, .int .u32 0, .int .u32 0, .int .u32 0] 230)).alloc (.cells #[.int .u32 (s 0), .int .u32 (s 1), .int .u32 (s 2), .int .u32 (s 3), .int .u32 (s 4), .int .u32 (s 5), .int .u32 (s 6), .int .u32 (s 7)] 230) = w0 at jb js j0 j1 j2 j3 ⊢
 have J0 : Hid (w0.heap[w.heap.size]? = some (.cells (Dg.arrN 8 .u32 s) 230 (0, 0))) := j0
 have J2 : Hid (w0.heap[w.heap.size + 1 + 1]? = some (.cells #[.int .u32 0, .int .u32 0, .int .u32 0, .int .u32 0, .int .u32 0, .int .u32 0, .int .u32 0, .int .u32 0] 230 (0, 0))) := j2
 have J3 : Hid (w0.heap[w.heap.size + 1 + 1 + 1]? = some (.cells (Dg.arrN 8 .u32 (Dg.rnds K s ws 0)) 230 (0, 0))) := j3
 have JB : Hid (Below w.heap.size w w0) := jb
 clear j0 j2 j3 jb
 go_wp2_with (refine wpList_load_row rfl 234 (.tmp 3) rfl (w.heap.size + 1) rfl _ _ _ _ j1 Tryz.underlying234 rfl (by rw [Dg.arrN_size]; kernel_rfl) ?_)
 have hB3 : Hid (∀ wr : World, Kb [w.heap.size + 1 + 1 + 1] w0 wr → Below w.heap.size w wr) := fun wr h => h.to_below JB.out JB.out.size (by simp; omega)
 go_loopw [11] (fun i wr => ∃ k : Nat, k ≤ 64 ∧ i = .int .i64 k ∧ wr.heap[w.heap.size + 1 + 1 + 1]? = some (.cells (Dg.arrN 8 .u32 (Dg.rnds K s ws k)) 230 (0, 0)) ∧ Kb [w.heap.size + 1 + 1 + 1] w0 wr) (fun i _ => 64 - (intOf i).toNat)
 case atStart => exact ⟨0, by omega, rfl, J3.out, Kb.refl _ _⟩
 case round =>
  obtain ⟨k, hk, rfl, hv, hkb⟩ := hrel
  have HKB : Hid (Kb [w.heap.size + 1 + 1 + 1] w0 wr) := hkb
  have hlt3 := lt_of_heap hv
  by_cases hlt : k < 64
  · have HNX : Hid (Dg.rnds K s ws (k + 1) = Dg.rnd (Dg.rnds K s ws k) ((ws k + K k) % 4294967296)) := (rfl : Dg.rnds K s ws (k + 1) = _)
    generalize Dg.rnds K s ws k = v at hv HNX
    have v0 : wr.cell? ⟨w.heap.size + 1 + 1 + 1, 0, none⟩ = some (.int .u32 (v 0)) := Dg.cell_arr hv (by decide)
    have v1 : wr.cell? ⟨w.heap.size + 1 + 1 + 1, 1, none⟩ = some (.int .u32 (v 1)) := Dg.cell_arr hv (by decide)
    have v2 : wr.cell? ⟨w.heap.size + 1 + 1 + 1, 2, none⟩ = some (.int .u32 (v 2)) := Dg.cell_arr hv (by decide)
    have v3 : wr.cell? ⟨w.heap.size + 1 + 1 + 1, 3, none⟩ = some (.int .u32 (v 3)) := Dg.cell_arr hv (by decide)
    have v4 : wr.cell? ⟨w.heap.size + 1 + 1 + 1, 4, none⟩ = some (.int .u32 (v 4)) := Dg.cell_arr hv (by decide)
    have v5 : wr.cell? ⟨w.heap.size + 1 + 1 + 1, 5, none⟩ = some (.int .u32 (v 5)) := Dg.cell_arr hv (by decide)
    have v6 : wr.cell? ⟨w.heap.size + 1 + 1 + 1, 6, none⟩ = some (.int .u32 (v 6)) := Dg.cell_arr hv (by decide)
    have v7 : wr.cell? ⟨w.heap.size + 1 + 1 + 1, 7, none⟩ = some (.int .u32 (v 7)) := Dg.cell_arr hv (by decide)
    have g0 : wr.cell? ⟨0, k, none⟩ = some (.int .u32 (K k)) := by
     have hb := hB3.out wr HKB.out
     have h0 := HK.out k hlt
     rw [hb.cell (block_lt_of_cell h0)]
     exact h0
    have hi := hix wr k hlt
    have hround : Hid (∀ W : World, W.heap = wr.heap → Calls Tryz.prog 193 #[.agg #[.int .u32 (v 0), .int .u32 (v 1), .int .u32 (v 2), .int .u32 (v 3), .int .u32 (v 4), .int .u32 (v 5), .int .u32 (v 6), .int .u32 (v 7)], .int .u32 ((ws k + K k) % 4294967296)] W fun e w2 => e = .returned (.agg #[.int .u32 (Dg.rnd v ((ws k + K k) % 4294967296) 0), .int .u32 (Dg.rnd v ((ws k + K k) % 4294967296) 1), .int .u32 (Dg.rnd v ((ws k + K k) % 4294967296) 2), .int .u32 (Dg.rnd v ((ws k + K k) % 4294967296) 3), .int .u32 (Dg.rnd v ((ws k + K k) % 4294967296) 4), .int .u32 (Dg.rnd v ((ws k + K k) % 4294967296) 5), .int .u32 (Dg.rnd v ((ws k + K k) % 4294967296) 6), .int .u32 (Dg.rnd v ((ws k + K k) % 4294967296) 7)]) ∧ (w2.cell? ⟨w.heap.size + 1 + 1 + 1, 0, none⟩ = some (.int .u32 (v 0)) ∧ w2.cell? ⟨w.heap.size + 1 + 1 + 1, 1, none⟩ = some (.int .u32 (v 1)) ∧ w2.cell? ⟨w.heap.size + 1 + 1 + 1, 2, none⟩ = some (.int .u32 (v 2)) ∧ w2.cell? ⟨w.heap.size + 1 + 1 + 1, 3, none⟩ = some (.int .u32 (v 3)) ∧ w2.cell? ⟨w.heap.size + 1 + 1 + 1, 4, none⟩ = some (.int .u32 (v 4)) ∧ w2.cell? ⟨w.heap.size + 1 + 1 + 1, 5, none⟩ = some (.int .u32 (v 5)) ∧ w2.cell? ⟨w.heap.size + 1 + 1 + 1, 6, none⟩ = some (.int .u32 (v 6)) ∧ w2.cell? ⟨w.heap.size + 1 + 1 + 1, 7, none⟩ = some (.int .u32 (v 7)) ∧ w2.frozen? ⟨w.heap.size + 1 + 1 + 1, 0, none⟩ = false ∧ w2.frozen? ⟨w.heap.size + 1 + 1 + 1, 1, none⟩ = false ∧ w2.frozen? ⟨w.heap.size + 1 + 1 + 1, 2, none⟩ = false ∧ w2.frozen? ⟨w.heap.size + 1 + 1 + 1, 3, none⟩ = false ∧ w2.frozen? ⟨w.heap.size + 1 + 1 + 1, 4, none⟩ = false ∧ w2.frozen? ⟨w.heap.size + 1 + 1 + 1, 5, none⟩ = false ∧ w2.frozen? ⟨w.heap.size + 1 + 1 + 1, 6, none⟩ = false ∧ w2.frozen? ⟨w.heap.size + 1 + 1 + 1, 7, none⟩ = false) ∧ w.heap.size + 1 + 1 + 1 < w2.heap.size ∧ Hid (w2.heap[w.heap.size + 1 + 1 + 1]? = some (.cells (Dg.arrN 8 .u32 v) 230 (0, 0)) ∧ Below W.heap.size W w2)) := by
     intro W hW
     refine (round_any v ((ws k + K k) % 4294967296) W).mono ?_
     rintro e w2 ⟨rfl, hb⟩
     have hv2 : w2.heap[w.heap.size + 1 + 1 + 1]? = some (.cells (Dg.arrN 8 .u32 v) 230 (0, 0)) := by
      rw [hb.block _ (by rw [hW]; exact hlt3), hW]
      exact hv
     exact ⟨rfl, ⟨Dg.cell_arr hv2 (by decide), Dg.cell_arr hv2 (by decide), Dg.cell_arr hv2 (by decide), Dg.cell_arr hv2 (by decide), Dg.cell_arr hv2 (by decide), Dg.cell_arr hv2 (by decide), Dg.cell_arr hv2 (by decide), Dg.cell_arr hv2 (by decide), Dg.frozen_arr hv2 _, Dg.frozen_arr hv2 _, Dg.frozen_arr hv2 _, Dg.frozen_arr hv2 _, Dg.frozen_arr hv2 _, Dg.frozen_arr hv2 _, Dg.frozen_arr hv2 _, Dg.frozen_arr hv2 _⟩, lt_of_heap hv2, hv2, hb⟩
    generalize Dg.rnd v ((ws k + K k) % 4294967296) = v' at hround HNX
    clear hv hkb
    go_upto_region 5 with fail
    go_region_with (go_at_call 193; refine (hround.out _ (by rfl)).mono ?_; rintro e w2 ⟨rfl, ⟨c0, c1, c2, c3, c4, c5, c6, c7, f0, f1, f2, f3, f4, f5, f6, f7⟩, hl2, HB2⟩)
    all_goals
     (have hv2 : w2.heap[w.heap.size + 1 + 1 + 1]? = some (.cells #[.int .u32 (v 0), .int .u32 (v 1), .int .u32 (v 2), .int .u32 (v 3), .int .u32 (v 4), .int .u32 (v 5), .int .u32 (v 6), .int .u32 (v 7)] 230 (0, 0)) := HB2.out.1
      obtain ⟨q1, q2⟩ := stores8 hv2 (.int .u32 (v' 0)) (.int .u32 (v' 1)) (.int .u32 (v' 2)) (.int .u32 (v' 3)) (.int .u32 (v' 4)) (.int .u32 (v' 5)) (.int .u32 (v' 6)) (.int .u32 (v' 7))
      have HQ : Hid (Kb [w.heap.size + 1 + 1 + 1] w0 w2) := (HKB.out.drew).below HB2.out.2
      go_wp2_with fail
      go_roundw
      case rel => exact ⟨k + 1, by omega, by go_num, by rw [HNX.out]; exact q1, HQ.out.trans q2⟩
      case measure => simp [intOf]; omega)
  · have hk64 : k = 64 := by omega
    subst hk64
    have HS : Hid (wr.heap[w.heap.size]? = some (.cells (Dg.arrN 8 .u32 (Dg.sums K s ws 0)) 230 (0, 0))) := by
     have h0 := HKB.out.heap J0.out (by simp; omega)
     have e0 : Dg.arrN 8 .u32 (Dg.sums K s ws 0) = Dg.arrN 8 .u32 s := Dg.arrN_congr fun i hi => by simp [Dg.sums]
     rw [e0]
     exact h0
    have HV : Hid (wr.heap[w.heap.size + 1 + 1 + 1]? = some (.cells (Dg.arrN 8 .u32 (Dg.rnds K s ws 64)) 230 (0, 0))) := hv
    have HZ : Hid (wr.heap[w.heap.size + 1 + 1]? = some (.cells #[.int .u32 0, .int .u32 0, .int .u32 0, .int .u32 0, .int .u32 0, .int .u32 0, .int .u32 0, .int .u32 0] 230 (0, 0))) := HKB.out.heap J2.out (by simp only [List.mem_singleton]; omega)
    clear hv hkb
    obtain ⟨wA, rfl⟩ : ∃ x, x = wr := ⟨_, rfl⟩
    have hwA := lt_of_heap HV.out
    go_wp2_with fail
    go_loopw [23] (fun i wr => ∃ k : Nat, k ≤ 8 ∧ i = .int .i64 k ∧ wr.heap[w.heap.size]? = some (.cells (Dg.arrN 8 .u32 (Dg.sums K s ws k)) 230 (0, 0)) ∧ Kb [w.heap.size] wA wr) (fun i _ => 8 - (intOf i).toNat)
    case atStart => exact ⟨0, by omega, rfl, HS.out, Kb.refl _ _⟩
    case round =>
     obtain ⟨k, hk, rfl, hs, hkb⟩ := hrel
     have HKS : Hid (Kb [w.heap.size] wA wr) := hkb
     have hv : wr.heap[w.heap.size + 1 + 1 + 1]? = some (.cells (Dg.arrN 8 .u32 (Dg.rnds K s ws 64)) 230 (0, 0)) := HKS.out.heap HV.out (by simp only [List.mem_singleton]; omega)
     have hz : wr.heap[w.heap.size + 1 + 1]? = some (.cells #[.int .u32 0, .int .u32 0, .int .u32 0, .int .u32 0, .int .u32 0, .int .u32 0, .int .u32 0, .int .u32 0] 230 (0, 0)) := HKS.out.heap HZ.out (by simp only [List.mem_singleton]; omega)
     have hl0 := lt_of_heap hs
     have hl3 := lt_of_heap hv
     have hl2 := lt_of_heap hz
     by_cases hlt : k < 8
     · have a0 := Dg.cell_arr hs hlt
       have a1 := Dg.cell_arr hv hlt
       have a2 := Dg.frozen_arr hs k
       have hst : Hid ((wr.drew.setCell ⟨w.heap.size, k, none⟩ (.int .u32 ((Dg.sums K s ws k k + Dg.rnds K s ws 64 k) % 4294967296))).heap[w.heap.size]? = some (.cells (Dg.arrN 8 .u32 (Dg.sums K s ws (k + 1))) 230 (0, 0)) ∧ Kb [w.heap.size] wA (wr.drew.setCell ⟨w.heap.size, k, none⟩ (.int .u32 ((Dg.sums K s ws k k + Dg.rnds K s ws 64 k) % 4294967296)))) := by
        refine ⟨?_, HKS.out.drew.trans (Kb.setCell wr.drew ⟨w.heap.size, k, none⟩ _)⟩
        rw [Dg.store_arr (w := wr.drew) hs hlt]
        rw [Dg.arrN_congr (g := Dg.sums K s ws (k + 1))]
        intro i hi
        unfold Dg.upd Dg.sums
        by_cases e : i = k
        · subst e; simp
        · have e2 : i < k + 1 ↔ i < k := by omega
          simp [e, e2]
       clear hs hv hz hkb
       go_upto_region 10 with fail
       go_region
       all_goals
        (go_wp2_with fail
         go_roundw
         case rel => exact ⟨k + 1, by omega, by go_num, hst.out.1, hst.out.2⟩
         case measure => simp [intOf]; omega)
     · have hk8 : k = 8 := by omega
       subst hk8
       have c0 : wr.cell? ⟨w.heap.size, 0, none⟩ = some (.int .u32 (Dg.sums K s ws 8 0)) := Dg.cell_arr hs (by decide)
       have c1 : wr.cell? ⟨w.heap.size, 1, none⟩ = some (.int .u32 (Dg.sums K s ws 8 1)) := Dg.cell_arr hs (by decide)
       have c2 : wr.cell? ⟨w.heap.size, 2, none⟩ = some (.int .u32 (Dg.sums K s ws 8 2)) := Dg.cell_arr hs (by decide)
       have c3 : wr.cell? ⟨w.heap.size, 3, none⟩ = some (.int .u32 (Dg.sums K s ws 8 3)) := Dg.cell_arr hs (by decide)
       have c4 : wr.cell? ⟨w.heap.size, 4, none⟩ = some (.int .u32 (Dg.sums K s ws 8 4)) := Dg.cell_arr hs (by decide)
       have c5 : wr.cell? ⟨w.heap.size, 5, none⟩ = some (.int .u32 (Dg.sums K s ws 8 5)) := Dg.cell_arr hs (by decide)
       have c6 : wr.cell? ⟨w.heap.size, 6, none⟩ = some (.int .u32 (Dg.sums K s ws 8 6)) := Dg.cell_arr hs (by decide)
       have c7 : wr.cell? ⟨w.heap.size, 7, none⟩ = some (.int .u32 (Dg.sums K s ws 8 7)) := Dg.cell_arr hs (by decide)
       have z0 : wr.cell? ⟨w.heap.size + 1 + 1, 0, none⟩ = some (.int .u32 0) := by rw [cell_of_row _ _ _ _ _ _ hz]; rfl
       have z1 : wr.cell? ⟨w.heap.size + 1 + 1, 1, none⟩ = some (.int .u32 0) := by rw [cell_of_row _ _ _ _ _ _ hz]; rfl
       have z2 : wr.cell? ⟨w.heap.size + 1 + 1, 2, none⟩ = some (.int .u32 0) := by rw [cell_of_row _ _ _ _ _ _ hz]; rfl
       have z3 : wr.cell? ⟨w.heap.size + 1 + 1, 3, none⟩ = some (.int .u32 0) := by rw [cell_of_row _ _ _ _ _ _ hz]; rfl
       have z4 : wr.cell? ⟨w.heap.size + 1 + 1, 4, none⟩ = some (.int .u32 0) := by rw [cell_of_row _ _ _ _ _ _ hz]; rfl
       have z5 : wr.cell? ⟨w.heap.size + 1 + 1, 5, none⟩ = some (.int .u32 0) := by rw [cell_of_row _ _ _ _ _ _ hz]; rfl
       have z6 : wr.cell? ⟨w.heap.size + 1 + 1, 6, none⟩ = some (.int .u32 0) := by rw [cell_of_row _ _ _ _ _ _ hz]; rfl
       have z7 : wr.cell? ⟨w.heap.size + 1 + 1, 7, none⟩ = some (.int .u32 0) := by rw [cell_of_row _ _ _ _ _ _ hz]; rfl
       have f0 : wr.frozen? ⟨w.heap.size + 1 + 1, 0, none⟩ = false := Dg.frozen_arr hz 0
       have f1 : wr.frozen? ⟨w.heap.size + 1 + 1, 1, none⟩ = false := Dg.frozen_arr hz 1
       have f2 : wr.frozen? ⟨w.heap.size + 1 + 1, 2, none⟩ = false := Dg.frozen_arr hz 2
       have f3 : wr.frozen? ⟨w.heap.size + 1 + 1, 3, none⟩ = false := Dg.frozen_arr hz 3
       have f4 : wr.frozen? ⟨w.heap.size + 1 + 1, 4, none⟩ = false := Dg.frozen_arr hz 4
       have f5 : wr.frozen? ⟨w.heap.size + 1 + 1, 5, none⟩ = false := Dg.frozen_arr hz 5
       have f6 : wr.frozen? ⟨w.heap.size + 1 + 1, 6, none⟩ = false := Dg.frozen_arr hz 6
       have f7 : wr.frozen? ⟨w.heap.size + 1 + 1, 7, none⟩ = false := Dg.frozen_arr hz 7
       obtain ⟨q1, q2⟩ := stores8 hz (.int .u32 (Dg.sums K s ws 8 0)) (.int .u32 (Dg.sums K s ws 8 1)) (.int .u32 (Dg.sums K s ws 8 2)) (.int .u32 (Dg.sums K s ws 8 3)) (.int .u32 (Dg.sums K s ws 8 4)) (.int .u32 (Dg.sums K s ws 8 5)) (.int .u32 (Dg.sums K s ws 8 6)) (.int .u32 (Dg.sums K s ws 8 7))
       have hend : Below w.heap.size w wr := HKS.out.to_below (hB3.out wA HKB.out) (by omega) (by simp)
       have HQ1 : Hid _ := q1
       have HQ2 : Hid _ := q2.to_below hend hend.size (by simp; omega)
       generalize Dg.sums K s ws 8 = f at c0 c1 c2 c3 c4 c5 c6 c7 HQ1 HQ2 HE
       clear hs hv hz hkb q1 q2 hend
       go_wp2_with fail
       refine bodyPost_ret (v := .agg (Dg.arr8 f)) ?_ rfl ⟨by rw [HE.out], HQ2.out⟩
       exact results_cell_row rfl _ _ _ _ _ _ _ rfl HQ1.out Tryz.underlying230 rfl (by kernel_rfl)
end Go.Proofs.YtdmicblafmhflaaGreatDoor
/- Package digest: schedule. -/
namespace Go.Proofs.YtdmicblafmhflaaGreatDoor
open Go.RowKit
namespace Dg
def mixA (a : Int) : Int := bits .xor .u32 (bits .xor .u32 (turn a 7) (turn a 18)) (a / 8)
def mixB (a : Int) : Int := bits .xor .u32 (bits .xor .u32 (turn a 17) (turn a 19)) (a / 1024)
def schedS (bf : Nat → Int) : Nat → Nat → Int
 | 0 => fun _ => 0
 | k + 1 => upd (schedS bf k) k (if k < 16 then word (bf (4 * k)) (bf (4 * k + 1)) (bf (4 * k + 2)) (bf (4 * k + 3)) else (schedS bf k (k - 16) + mixA (schedS bf k (k - 15)) + schedS bf k (k - 7) + mixB (schedS bf k (k - 2))) % 4294967296)
def sched : (Nat → Int) → Nat → Int := shut fun bf => schedS bf 64
theorem zero64 : arrN 64 .u32 (fun _ => 0) = #[.int .u32 0, .int .u32 0, .int .u32 0, .int .u32 0, .int .u32 0, .int .u32 0, .int .u32 0, .int .u32 0, .int .u32 0, .int .u32 0, .int .u32 0, .int .u32 0, .int .u32 0, .int .u32 0, .int .u32 0, .int .u32 0, .int .u32 0, .int .u32 0, .int .u32 0, .int .u32 0, .int .u32 0, .int .u32 0, .int .u32 0, .int .u32 0, .int .u32 0, .int .u32 0, .int .u32 0, .int .u32 0, .int .u32 0, .int .u32 0, .int .u32 0, .int .u32 0, .int .u32 0, .int .u32 0, .int .u32 0, .int .u32 0, .int .u32 0, .int .u32 0, .int .u32 0, .int .u32 0, .int .u32 0, .int .u32 0, .int .u32 0, .int .u32 0, .int .u32 0, .int .u32 0, .int .u32 0, .int .u32 0, .int .u32 0, .int .u32 0, .int .u32 0, .int .u32 0, .int .u32 0, .int .u32 0, .int .u32 0, .int .u32 0, .int .u32 0, .int .u32 0, .int .u32 0, .int .u32 0, .int .u32 0, .int .u32 0, .int .u32 0, .int .u32 0] := rfl
end Dg
set_option maxRecDepth 100000 in
set_option maxHeartbeats 4000000 in
theorem sched_any (w : World) (g o c : Nat) (bf : Nat → Int) (hc : 64 ≤ c) (hcells : ∀ j, j < 64 → w.cell? ⟨g, o + j, none⟩ = some (.int .u8 (bf j))) :
 Calls Tryz.prog 120 #[.slice (some ⟨g, o, none⟩) 64 c] w fun e w' => e = .returned (.agg (Dg.arrN 64 .u32 (Dg.sched bf))) ∧ Below w.heap.size w w' := by
 have HE : Hid (Dg.sched bf = Dg.schedS bf 64) := by
  have : Dg.sched bf = Dg.schedS bf 64 := by unfold Dg.sched; rw [Dg.shut_eq]
  exact this
 have HC : Hid (∀ j, j < 64 → w.cell? ⟨g, o + j, none⟩ = some (.int .u8 (bf j))) := hcells
 have hgl : g < w.heap.size := block_lt_of_cell (hcells 0 (by decide))
 clear hcells
 go_enter Tryz.func120, Tryz.ntmps120
 go_upto_region 2 with fail
 rw [← Dg.zero64]
 have j0 := heap_alloc2_old w (.cells (Dg.arrN 64 .u32 (fun _ => 0)) 234) (.cells (Dg.arrN 64 .u32 (fun _ => 0)) 234)
 have j1 := heap_alloc2_new w (.cells (Dg.arrN 64 .u32 (fun _ => 0)) 234) (.cells (Dg.arrN 64 .u32 (fun _ => 0)) 234)
 have jb : Below w.heap.size w ((w.alloc (.cells (Dg.arrN 64 .u32 (fun _ => 0)) 234)).alloc (.cells (Dg.arrN 64 .u32 (fun _ => 0)) 234)) := ((Below.refl _ _).alloc (Nat.le_refl _) _).alloc (by simp) _
 generalize (w.alloc (.cells (Dg.arrN 64 .u32 (fun _ => 0)) 234)).alloc (.cells (Dg.arrN 64 .u32 (fun _ => 0)) 234) = w0 at j0 j1 jb ⊢
 have J0 : Hid (w0.heap[w.heap.size]? = some (.cells (Dg.arrN 64 .u32 (fun _ => 0)) 234 (0, 0))) := j0
 have J1 : Hid (w0.heap[w.heap.size + 1]? = some (.cells (Dg.arrN 64 .u32 (Dg.schedS bf 0)) 234 (0, 0))) := j1
 have JB : Hid (Below w.heap.size w w0) := jb
 have hB : Hid (∀ wr : World, Kb [w.heap.size + 1] w0 wr → Below w.heap.size w wr) := fun wr h => h.to_below JB.out JB.out.size (by simp)
 clear j0 j1 jb
 go_wp2_with fail
 go_loopw [10] (fun i wr => ∃ k : Nat, k ≤ 16 ∧ i = .int .i64 k ∧ wr.heap[w.heap.size + 1]? = some (.cells (Dg.arrN 64 .u32 (Dg.schedS bf k)) 234 (0, 0)) ∧ Kb [w.heap.size + 1] w0 wr) (fun i _ => 16 - (intOf i).toNat)
 case atStart => exact ⟨0, by omega, rfl, J1.out, Kb.refl _ _⟩
 case round =>
  obtain ⟨k, hk, rfl, hv, hkb⟩ := hrel
  have HKB : Hid (Kb [w.heap.size + 1] w0 wr) := hkb
  have hl1 := lt_of_heap hv
  have HBW : Hid (Below w.heap.size w wr) := hB.out wr hkb
  by_cases hlt : k < 16
  · have hcl : ∀ (W : World), W.heap = wr.heap → ∀ j, j < 64 → W.cell? ⟨g, o + j, none⟩ = some (.int .u8 (bf j)) := fun W hW j hj => by
     have e : W.cell? ⟨g, o + j, none⟩ = wr.cell? ⟨g, o + j, none⟩ := World.cell?_of_block (by rw [hW])
     rw [e, HBW.out.cell hgl]
     exact HC.out j hj
    have hword : Hid (Calls Tryz.prog 194 #[.slice (some ⟨g, o + 4 * k, none⟩) (64 - 4 * k) (c - 4 * k)] wr fun e w2 => e = .returned (.int .u32 (Dg.word (bf (4 * k)) (bf (4 * k + 1)) (bf (4 * k + 2)) (bf (4 * k + 3)))) ∧ ∃ m, w2 = wr.drewN m) := dword_any wr g (o + 4 * k) (64 - 4 * k) (c - 4 * k) _ _ _ _ (by omega) (hcl wr rfl (4 * k) (by omega)) (by rw [Nat.add_assoc]; exact hcl wr rfl (4 * k + 1) (by omega)) (by rw [Nat.add_assoc]; exact hcl wr rfl (4 * k + 2) (by omega)) (by rw [Nat.add_assoc]; exact hcl wr rfl (4 * k + 3) (by omega))
    have HNX : Hid (Dg.schedS bf (k + 1) = Dg.upd (Dg.schedS bf k) k (Dg.word (bf (4 * k)) (bf (4 * k + 1)) (bf (4 * k + 2)) (bf (4 * k + 3)))) := by
     have : Dg.schedS bf (k + 1) = Dg.upd (Dg.schedS bf k) k (Dg.word (bf (4 * k)) (bf (4 * k + 1)) (bf (4 * k + 2)) (bf (4 * k + 3))) := by
      rw [Dg.schedS, if_pos hlt]
     exact this
    generalize Dg.word (bf (4 * k)) (bf (4 * k + 1)) (bf (4 * k + 2)) (bf (4 * k + 3)) = wd at hword HNX
    have a0 := Dg.cell_arr hv (show k < 64 by omega)
    have a2 := Dg.frozen_arr hv k
    have hst : Hid (∀ m : Nat, ((wr.drewN m).setCell ⟨w.heap.size + 1, k, none⟩ (.int .u32 wd)).heap[w.heap.size + 1]? = some (.cells (Dg.arrN 64 .u32 (Dg.schedS bf (k + 1))) 234 (0, 0)) ∧ Kb [w.heap.size + 1] w0 ((wr.drewN m).setCell ⟨w.heap.size + 1, k, none⟩ (.int .u32 wd))) := by
     intro m
     refine ⟨by rw [Dg.store_arr (w := wr.drewN m) hv (by omega), HNX.out], ?_⟩
     exact (HKB.out.drewN m).trans (Kb.setCell (wr.drewN m) ⟨w.heap.size + 1, k, none⟩ _)
    clear hv hkb hcl
    go_wp2_with (go_at_call 194; refine hword.out.mono ?_; rintro e w2 ⟨rfl, m, rfl⟩)
    go_roundw
    case rel => exact ⟨k + 1, by omega, by go_num, (hst.out _).1, (hst.out _).2⟩
    case measure => simp [intOf]; omega
  · have HV : Hid (wr.heap[w.heap.size + 1]? = some (.cells (Dg.arrN 64 .u32 (Dg.schedS bf 16)) 234 (0, 0))) := by
     have hk16 : k = 16 := by omega
     rw [hk16] at hv
     exact hv
    clear hv hkb
    obtain ⟨wA, rfl⟩ : ∃ x, x = wr := ⟨_, rfl⟩
    go_wp2_with fail
    go_loopw [5] (fun i wr => ∃ m : Nat, m ≤ 48 ∧ i = .int .i64 ((m : Int) + 16) ∧ wr.heap[w.heap.size + 1]? = some (.cells (Dg.arrN 64 .u32 (Dg.schedS bf (m + 16))) 234 (0, 0)) ∧ Kb [w.heap.size + 1] w0 wr) (fun i _ => 64 - (intOf i).toNat)
    case atStart => exact ⟨0, by omega, rfl, HV.out, HKB.out⟩
    case round =>
     obtain ⟨m, hm, rfl, hv, hkb⟩ := hrel
     have HKR : Hid (Kb [w.heap.size + 1] w0 wr) := hkb
     have hl1 := lt_of_heap hv
     by_cases hlt : m < 48
     · have c0 := Dg.cell_arr hv (show m < 64 by omega)
       have c1 := Dg.cell_arr hv (show m + 1 < 64 by omega)
       have c9 := Dg.cell_arr hv (show m + 9 < 64 by omega)
       have c14 := Dg.cell_arr hv (show m + 14 < 64 by omega)
       have c16 := Dg.cell_arr hv (show m + 16 < 64 by omega)
       have f16 := Dg.frozen_arr hv (m + 16)
       have HNX : Hid (Dg.schedS bf (m + 1 + 16) = Dg.upd (Dg.schedS bf (m + 16)) (m + 16) ((Dg.schedS bf (m + 16) m + Dg.mixA (Dg.schedS bf (m + 16) (m + 1)) + Dg.schedS bf (m + 16) (m + 9) + Dg.mixB (Dg.schedS bf (m + 16) (m + 14))) % 4294967296)) := by
        have : Dg.schedS bf (m + 1 + 16) = Dg.upd (Dg.schedS bf (m + 16)) (m + 16) ((Dg.schedS bf (m + 16) m + Dg.mixA (Dg.schedS bf (m + 16) (m + 1)) + Dg.schedS bf (m + 16) (m + 9) + Dg.mixB (Dg.schedS bf (m + 16) (m + 14))) % 4294967296) := by
         rw [show m + 1 + 16 = (m + 16) + 1 by omega, Dg.schedS, if_neg (by omega), show m + 16 - 16 = m by omega, show m + 16 - 15 = m + 1 by omega, show m + 16 - 7 = m + 9 by omega, show m + 16 - 2 = m + 14 by omega]
        exact this
       have hst : Hid (∀ (n : Nat) (W : World), W.heap = wr.heap → Kb [w.heap.size + 1] w0 W → (W.setCell ⟨w.heap.size + 1, m + 16, none⟩ (.int .u32 ((Dg.schedS bf (m + 16) m + Dg.mixA (Dg.schedS bf (m + 16) (m + 1)) + Dg.schedS bf (m + 16) (m + 9) + Dg.mixB (Dg.schedS bf (m + 16) (m + 14))) % 4294967296))).heap[w.heap.size + 1]? = some (.cells (Dg.arrN 64 .u32 (Dg.schedS bf (m + 1 + 16))) 234 (0, 0)) ∧ Kb [w.heap.size + 1] w0 (W.setCell ⟨w.heap.size + 1, m + 16, none⟩ (.int .u32 ((Dg.schedS bf (m + 16) m + Dg.mixA (Dg.schedS bf (m + 16) (m + 1)) + Dg.schedS bf (m + 16) (m + 9) + Dg.mixB (Dg.schedS bf (m + 16) (m + 14))) % 4294967296)))) := by
        intro n W hW hkW
        exact ⟨by rw [Dg.store_arr (w := W) (by rw [hW]; exact hv) (by omega), HNX.out], hkW.trans (Kb.setCell W ⟨w.heap.size + 1, m + 16, none⟩ _)⟩
       have ht := fun x b w => turn_any x b w
       clear hv hkb
       go_upto_region 10 with fail
       go_quiet (fail)
       go_upto_region 13 with (go_at_call 195; refine (ht _ _ _).mono ?_; rintro e w' ⟨rfl, rfl⟩)
       go_region
       all_goals
        (go_wp2_with fail
         go_roundw
         case rel =>
          refine ⟨m + 1, by omega, by go_num, (hst.out 0 _ ?_ ?_).1, (hst.out 0 _ ?_ ?_).2⟩
          · rfl
          · exact ⟨HKR.out.os, HKR.out.tape, HKR.out.output, HKR.out.size, HKR.out.block⟩
          · rfl
          · exact ⟨HKR.out.os, HKR.out.tape, HKR.out.output, HKR.out.size, HKR.out.block⟩
         case measure => simp [intOf]; omega)
     · have hz : wr.heap[w.heap.size]? = some (.cells (Dg.arrN 64 .u32 (fun _ => 0)) 234 (0, 0)) := HKR.out.heap J0.out (by simp only [List.mem_singleton]; omega)
       have hend : Hid (Below w.heap.size w (wr.setRow w.heap.size (Dg.arrN 64 .u32 (Dg.schedS bf 64)))) := (Kb.setRow wr w.heap.size _).to_below (hB.out wr HKR.out) (hB.out wr HKR.out).size (by simp)
       have hrow : Hid ((wr.setRow w.heap.size (Dg.arrN 64 .u32 (Dg.schedS bf 64))).heap[w.heap.size]? = some (.cells (Dg.arrN 64 .u32 (Dg.schedS bf 64)) 234 (0, 0))) := heap_setRow_at wr w.heap.size _ hz
       have hv' : wr.heap[w.heap.size + 1]? = some (.cells (Dg.arrN 64 .u32 (Dg.schedS bf 64)) 234 (0, 0)) := by
        have hm48 : m = 48 := by omega
        rw [hm48] at hv
        exact hv
       generalize Dg.schedS bf 64 = f at hv' HE hend hrow
       clear hv hkb
       go_wp2_with (first | (refine wpList_load_row rfl 234 (.tmp 3) rfl (w.heap.size + 1) rfl _ _ _ _ hv' Tryz.underlying234 rfl (by rw [Dg.arrN_size]; kernel_rfl) ?_) | (refine wpList_store_row rfl 234 (.tmp 2) (.tmp 64) rfl w.heap.size rfl (Dg.arrN 64 .u32 f) rfl _ _ hz (by rw [Dg.arrN_size, Dg.arrN_size]) (by rw [Dg.arrN_size]; kernel_rfl) (Dg.arrN_one _ _ _) ?_))
       refine bodyPost_ret (v := .agg (Dg.arrN 64 .u32 f)) ?_ rfl ⟨by rw [HE.out], hend.out⟩
       exact results_cell_row rfl _ _ _ _ _ _ _ rfl hrow.out Tryz.underlying234 rfl (by rw [Dg.arrN_size]; kernel_rfl)
end Go.Proofs.YtdmicblafmhflaaGreatDoor
