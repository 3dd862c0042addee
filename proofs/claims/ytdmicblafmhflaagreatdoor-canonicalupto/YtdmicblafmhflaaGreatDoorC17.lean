/- slices.Insert where there is no room. -/
import Derived.Test.YtdmicblafmhflaaGreatDoorC16
import Derived.Test.YtdmicblafmhflaaGreatDoorC15
set_option linter.unusedSimpArgs false
set_option linter.unusedVariables false
namespace Go.Proofs.YtdmicblafmhflaaGreatDoor
open Go.RowKit
set_option maxRecDepth 100000 in
set_option maxHeartbeats 4000000 in
theorem insGrowRow (w : World) (B g n c i vb : Nat) (xs vs : List Value) (hown : w.ownsRow B 119 3 (.slice (some ⟨g, 0, none⟩) n c) n xs) (hB : B ≤ w.heap.size) (hi : i < n) (hroom : c < n + 1) (hn : n ≤ 1000000) (hx1 : ∀ u ∈ xs, u.oneCell' = true)
 (hvl : vs.length = 3) (hvb : w.heap[vb]? = some (.cells vs.toArray 119 (0, 0))) (h1 : ∀ u ∈ vs, u.oneCell' = true) :
 Calls Tryz.prog 245 #[.slice (some ⟨g, 0, none⟩) n c, .int .i64 i, .slice (some ⟨vb, 0, none⟩) 1 1] w fun e w' => ∃ cap, e = .returned (.slice (some ⟨w.heap.size, 0, none⟩) (n + 1) cap) ∧ w'.ownsRow B 119 3 (.slice (some ⟨w.heap.size, 0, none⟩) (n + 1) cap) (n + 1) (xs.take (i * 3) ++ vs ++ xs.drop (i * 3)) ∧ Kb [] w w' := by
 have hown0 := hown
 obtain ⟨hxl, hown2⟩ := hown
 rcases hown2 with ⟨e1, e2⟩ | ⟨g', cap, cur, e1, hbg, hg, hcn, hcm, hcs, htk⟩
 · simp at e1
 simp only [Value.slice.injEq, Option.some.injEq, Addr.mk.injEq] at e1
 obtain ⟨⟨rfl, _⟩, _, rfl⟩ := e1
 obtain ⟨i0, hi0, hz0, hzs, hzb⟩ := info_parts Tryz.infoRow
 have hz2 : ¬ ((i : Int) = (n : Int)) := by omega
 have hz3 : (c : Int) < (n : Int) + 1 := by omega
 have hsz : (Tryz.prog.info? 119).map (·.size) = some 3 := by rw [hi0]; simp [hzs]
 have hgw : g < w.heap.size := (Array.getElem?_eq_some_iff.1 hg).1
 have hvw : vb < w.heap.size := (Array.getElem?_eq_some_iff.1 hvb).1
 have hadd : ∀ (b o j : Nat), (⟨b, o, none⟩ : Addr).add j = ⟨b, o + j, none⟩ := by intro b o j; unfold Addr.add; split <;> simp_all
 have hcells : ∀ (j : Nat) u, xs[j]? = some u → w.cell? ⟨g, j, none⟩ = some u := fun j u hj => by
  have := World.ownsRow.cells hown0 (g := g) rfl j u hj
  rw [hadd] at this
  simpa using this
 have htl : (xs.take (i * 3)).length = i * 3 := by rw [List.length_take, hxl]; omega
 have hxd : (xs.drop (i * 3)).length = (n - i) * 3 := by rw [List.length_drop, hxl]; omega
 have hold : (Builtin.firstCells i0.size i (.slice (some ⟨g, 0, none⟩) i c)).run Tryz.prog w.drew = .ok (xs.take (i * 3)).toArray w.drew := by
  rw [hzs]
  exact run_firstCells_some w.drew 3 i ⟨g, 0, none⟩ i c (xs.take (i * 3)) htl (fun j v hj => by
   rw [hadd, Nat.zero_add]
   rw [List.getElem?_take] at hj
   split at hj
   · exact hcells j v hj
   · cases hj)
 have hkk : (n : Int) + 1 - (i : Int) = ((n + 1 - i : Nat) : Int) := by omega
 have hik : i + (n + 1 - i) = n + 1 := by omega
 obtain ⟨G, hG⟩ : ∃ G, G = grownCap w (n + 1) c 119 := ⟨_, rfl⟩
 obtain ⟨ROW, hROW⟩ : ∃ ROW : Array Value, ROW = (xs.take (i * 3)).toArray ++ Builtin.zeroCells (Value.cells (.agg #[.string ByteArray.empty, .string ByteArray.empty, .string ByteArray.empty])) (n + 1 - i) ++ Builtin.zeroCells (Value.cells (.agg #[.string ByteArray.empty, .string ByteArray.empty, .string ByteArray.empty])) (G - (n + 1)) := ⟨_, rfl⟩
 have hGn : n + 1 ≤ G := by rw [hG]; exact grownCap_ge w _ _ _
 have hGm : G ≤ maxLen := by rw [hG]; exact grownCap_le_maxLen w (n + 1) c 119 (by unfold maxLen; omega)
 have hRs : ROW.size = G * 3 := by
  rw [hROW]
  simp only [Array.size_append, List.size_toArray, htl, size_zeroCells]
  have : (Value.cells (.agg #[.string ByteArray.empty, .string ByteArray.empty, .string ByteArray.empty])).size = 3 := rfl
  rw [this]
  omega
 have hRt : ROW.toList.take (i * 3) = xs.take (i * 3) := by
  rw [hROW]
  simp only [Array.toList_append, List.append_assoc]
  exact List.take_left' (by rw [htl])
 have hrz : ∀ ty, (Builtin.append_ #[113, 3] ty #[.slice (some ⟨g, 0, none⟩) i c, .int .i64 ((n : Int) + 1 - (i : Int))]).run Tryz.prog w = .ok (.slice (some ⟨w.heap.size, 0, none⟩) (n + 1) G) (w.drew.alloc (.cells ROW 119)) := fun ty => by
  have h := Lib.run_append_grow_zeros w 113 3 ty 119 i0 _ .i64 .i64 Tryz.underlying113 Tryz.underlying3 hi0 hz0 (some ⟨g, 0, none⟩) i c (xs.take (i * 3)) hold (n + 1 - i) (by omega) (by rw [hzs]; decide) (by omega) (by omega) (by rw [hzb]; omega) (by rw [hzb, hik]; exact growslice_fits hroom (by omega))
  rw [hik, ← hG, ← hROW] at h
  rw [hkk]
  exact h
 obtain ⟨W1, hW1⟩ : ∃ W1, W1 = w.drew.alloc (.cells ROW 119) := ⟨_, rfl⟩
 rw [← hW1] at hrz
 have hW1r : W1.heap[w.heap.size]? = some (.cells ROW 119 (0, 0)) := by rw [hW1]; exact heap_alloc_new w.drew _
 have hW1o : ∀ k o, w.heap[k]? = some o → W1.heap[k]? = some o := fun k o h => by
  rw [hW1]
  have := Below.heap_alloc w.drew (.cells ROW 119) k (Array.getElem?_eq_some_iff.1 h).1
  rw [this]
  exact h
 have hneg : g ≠ w.heap.size := by omega
 have hnev : vb ≠ w.heap.size := by omega
 obtain ⟨L1, hL1⟩ : ∃ L1 : List Value, L1 = ROW.toList.take (i * 3) ++ vs ++ ROW.toList.drop (i * 3 + vs.length) := ⟨_, rfl⟩
 obtain ⟨W2, hW2⟩ : ∃ W2, W2 = W1.setRow w.heap.size L1.toArray := ⟨_, rfl⟩
 have hcp1 : ∀ ty dc, (Builtin.copy_ #[113, 113] ty #[.slice (some ⟨w.heap.size, i * 3, none⟩) (n + 1 - i) dc, .slice (some ⟨vb, 0, none⟩) 1 1]).run Tryz.prog W1 = .ok (goInt 1) W2 := fun ty dc => by
  rw [hW2, hL1]
  have := run_copy_wide Tryz.prog W1 113 113 ty 119 w.heap.size (i * 3) (n + 1 - i) dc ⟨vb, 0, none⟩ 1 1 ROW 119 vs 3 1 Tryz.underlying113 hsz hW1r (by simp only [Nat.min_def]; split <;> omega) (by rw [hvl])
   (fun j v hj => by rw [hadd, Nat.zero_add, cell_of_row _ vb j _ _ _ (hW1o _ _ hvb)]; simpa using hj)
   (by rw [hvl, hRs]; omega) h1
  simpa using this
 have hW2r : W2.heap[w.heap.size]? = some (.cells L1.toArray 119 (0, 0)) := by rw [hW2]; exact heap_setRow_at W1 _ _ hW1r
 have hW2o : ∀ k o, w.heap[k]? = some o → W2.heap[k]? = some o := fun k o h => by
  have : k ≠ w.heap.size := by have := (Array.getElem?_eq_some_iff.1 h).1; omega
  rw [hW2, heap_setRow_other _ _ _ _ this]
  exact hW1o k o h
 have hL1l : L1.length = G * 3 := by rw [hL1]; simp only [List.length_append, List.length_take, List.length_drop, Array.length_toList, hRs, hvl]; omega
 obtain ⟨hl2, ht2⟩ := gap_cells' ROW.toList vs (xs.drop (i * 3)) (i * 3) 3 ((n - i) * 3) hvl hxd (by rw [Array.length_toList, hRs]; omega)
 rw [← hL1] at hl2 ht2
 obtain ⟨W3, hW3⟩ : ∃ W3, W3 = W2.drew.setRow w.heap.size (L1.take (i * 3 + 3) ++ xs.drop (i * 3) ++ L1.drop (i * 3 + 3 + (xs.drop (i * 3)).length)).toArray := ⟨_, rfl⟩
 have hcp2 : ∀ ty dc sc, (Builtin.copy_ #[113, 113] ty #[.slice (some ⟨w.heap.size, (i + 1) * 3, none⟩) (n - i) dc, .slice (some ⟨g, i * 3, none⟩) (n - i) sc]).run Tryz.prog W2.drew = .ok (goInt ((n - i : Nat) : Int)) W3 := fun ty dc sc => by
  rw [hW3, show (i + 1) * 3 = i * 3 + 3 by omega]
  have := run_copy_wide Tryz.prog W2.drew 113 113 ty 119 w.heap.size (i * 3 + 3) (n - i) dc ⟨g, i * 3, none⟩ (n - i) sc L1.toArray 119 (xs.drop (i * 3)) 3 (n - i) Tryz.underlying113 hsz hW2r (by simp only [Nat.min_def]; split <;> omega) hxd
   (fun j v hj => by
     rw [hadd]
     have e := hcells (i * 3 + j) v (by rwa [List.getElem?_drop] at hj)
     rw [cell_of_row _ g _ _ _ _ hg] at e
     have e2 : W2.drew.heap[g]? = some (.cells cur 119 (0, 0)) := hW2o _ _ hg
     rw [cell_of_row _ g _ _ _ _ e2]
     exact e)
   (by rw [List.size_toArray, hL1l, hxd]; omega) (fun v hv => hx1 v (List.mem_of_mem_drop hv))
  simpa using this
 have hfin : W3.ownsRow B 119 3 (.slice (some ⟨w.heap.size, 0, none⟩) (n + 1) G) (n + 1) (xs.take (i * 3) ++ vs ++ xs.drop (i * 3)) := by
  refine ⟨by simp only [List.length_append, htl, hvl, hxd]; omega, .inr ⟨w.heap.size, G, (L1.take (i * 3 + 3) ++ xs.drop (i * 3) ++ L1.drop (i * 3 + 3 + (xs.drop (i * 3)).length)).toArray, rfl, hB, ?_, hGn, hGm, ?_, ?_⟩⟩
  · rw [hW3]; exact heap_setRow_at W2.drew _ _ hW2r
  · rw [List.size_toArray, hl2, Array.length_toList, hRs]
  · show List.take _ (L1.take (i * 3 + 3) ++ xs.drop (i * 3) ++ L1.drop (i * 3 + 3 + (xs.drop (i * 3)).length)) = _
    rw [show (n + 1) * 3 = i * 3 + 3 + (n - i) * 3 by omega, ht2, hRt]
 have hkb : Kb [] w W3 := by
  rw [hW3, hW2, hW1]
  exact (((((Kb.refl [] w).drew).alloc _).trans' (Kb.setRow _ _ _) (fun k hk hlt => by simp at hk; omega)).drew).trans' (Kb.setRow _ _ _) (fun k hk hlt => by simp at hk; omega)
 have hw1 : IntKind.i64.wrap ((i : Int) + 1) = (i : Int) + 1 := by rw [IntKind.wrap_i64]; omega
 have hb1 : (0 : Int) ≤ (i : Int) + 1 := by omega
 have htn : ((i : Int) + 1).toNat = i + 1 := by omega
 have hb2 : ¬ (G = i + 1) := by omega
 have hb4 : ¬ (G = i) := by omega
 have hb5 : ¬ (c = i) := by omega
 have hG63 : G ≤ 9223372036854775807 := by unfold maxLen at hGm; omega
 have hin : i ≤ n := by omega
 have hin1 : (i : Int) ≤ (n : Int) + 1 := by omega
 clear hl2 ht2 htk hsz hown0 hvl h1 hx1 hcs hvb hxl hxd hadd hcells hW1r hW1o hL1 hL1l hW2 hW1 hg hold htl hi0 hz0 hzs hzb hW2r hW2o hW3 hROW hRs hRt hG hkk hik
 go_enter Tryz.func245, Tryz.ntmps245
 go_wp2_with (first | (at_builtin; refine wpList_append_runs _ rfl _ _ 113 3 rfl _ _ rfl rfl (hrz _) ?_) | (at_builtin; refine wpList_copy_run _ rfl _ _ 113 113 rfl _ _ rfl rfl (hcp1 _ _) ?_))
 go_region_law (refine step_copy_run rfl _ _ 113 113 rfl _ _ (by simp [Act.eval, Act.put]) (by simp [Act.eval, Act.put]) (hcp2 _ _ _) ?_)
 go_wp2_with fail
 go_ret
 exact ⟨G, rfl, hfin, hkb⟩
theorem insertRow_any (w : World) (B : Nat) (rd : Option Addr) (rc n i vb : Nat) (xs vs : List Value) (hown : w.ownsRow B 119 3 (.slice rd n rc) n xs) (hB : B ≤ w.heap.size) (hi : i ≤ n) (hn : n ≤ 1000000) (hx1 : ∀ u ∈ xs, u.oneCell' = true)
 (hvl : vs.length = 3) (hvb : w.heap[vb]? = some (.cells vs.toArray 119 (0, 0))) (hne : some vb ≠ Value.ownBlock (.slice rd n rc)) (h1 : ∀ u ∈ vs, u.oneCell' = true) :
 Calls Tryz.prog 245 #[.slice rd n rc, .int .i64 i, .slice (some ⟨vb, 0, none⟩) 1 1] w fun e w' => ∃ g cap, e = .returned (.slice (some ⟨g, 0, none⟩) (n + 1) cap) ∧ w'.ownsRow B 119 3 (.slice (some ⟨g, 0, none⟩) (n + 1) cap) (n + 1) (xs.take (i * 3) ++ vs ++ xs.drop (i * 3)) ∧ Kb (Value.ownBlock (.slice rd n rc)).toList w w' ∧ Fresh w (.slice rd n rc) (.slice (some ⟨g, 0, none⟩) (n + 1) cap) := by
 by_cases hin : i = n
 · subst hin
   have hvs : ∀ (j : Nat) u, vs[j]? = some u → w.cell? ⟨vb, j, none⟩ = some u := fun j u hj => by rw [cell_of_row _ vb j _ _ _ hvb]; simpa using hj
   refine (insEndRow w B rd rc i xs vs vb hown hB hn hvl hvs h1).mono ?_
   rintro e w' ⟨g, cap, rfl, h2, h3, h4⟩
   have e1 : xs.take (i * 3) = xs := List.take_of_length_le (by rw [hown.1]; omega)
   have e2 : xs.drop (i * 3) = [] := List.drop_of_length_le (by rw [hown.1]; omega)
   exact ⟨g, cap, rfl, by rw [e1, e2, List.append_nil]; exact h2, h3, h4⟩
 · have hrd : ∃ g, rd = some ⟨g, 0, none⟩ := by
    rcases hown.2 with ⟨_, e2⟩ | ⟨g, cap, cur, e1, _⟩
    · omega
    · simp only [Value.slice.injEq] at e1
      exact ⟨g, e1.1⟩
   obtain ⟨g, rfl⟩ := hrd
   have hne' : vb ≠ g := fun e => hne (by rw [e]; rfl)
   by_cases hr : n + 1 ≤ rc
   · refine (insRoomRow w B g n rc i vb xs vs hown (by omega) hr hn hx1 hvl hvb hne' h1).mono ?_
     rintro e w' ⟨rfl, h2, h3⟩
     exact ⟨g, rc, rfl, h2, h3, fun b hb => .inl hb⟩
   · refine (insGrowRow w B g n rc i vb xs vs hown hB (by omega) (by omega) hn hx1 hvl hvb h1).mono ?_
     rintro e w' ⟨cap, rfl, h2, h3⟩
     refine ⟨w.heap.size, cap, rfl, h2, h3.mono (fun k hk => by cases hk), ?_⟩
     intro b hb
     simp only [Value.ownBlock, Option.some.injEq] at hb
     exact .inr (by omega)
set_option maxRecDepth 100000 in
set_option maxHeartbeats 4000000 in
theorem insGrowInt (w : World) (B g n c i vb : Nat) (xs vs : List Value) (hown : w.ownsRow B 3 1 (.slice (some ⟨g, 0, none⟩) n c) n xs) (hB : B ≤ w.heap.size) (hi : i < n) (hroom : c < n + 1) (hn : n ≤ 1000000) (hx1 : ∀ u ∈ xs, u.oneCell' = true)
 (hvl : vs.length = 1) (hvb : w.heap[vb]? = some (.cells vs.toArray 3 (0, 0))) (h1 : ∀ u ∈ vs, u.oneCell' = true) :
 Calls Tryz.prog 264 #[.slice (some ⟨g, 0, none⟩) n c, .int .i64 i, .slice (some ⟨vb, 0, none⟩) 1 1] w fun e w' => ∃ cap, e = .returned (.slice (some ⟨w.heap.size, 0, none⟩) (n + 1) cap) ∧ w'.ownsRow B 3 1 (.slice (some ⟨w.heap.size, 0, none⟩) (n + 1) cap) (n + 1) (xs.take (i) ++ vs ++ xs.drop (i)) ∧ Kb [] w w' := by
 have hown0 := hown
 obtain ⟨hxl, hown2⟩ := hown
 rcases hown2 with ⟨e1, e2⟩ | ⟨g', cap, cur, e1, hbg, hg, hcn, hcm, hcs, htk⟩
 · simp at e1
 simp only [Value.slice.injEq, Option.some.injEq, Addr.mk.injEq] at e1
 obtain ⟨⟨rfl, _⟩, _, rfl⟩ := e1
 obtain ⟨i0, hi0, hz0, hzs, hzb⟩ := info_parts Tryz.infoInt
 have hz2 : ¬ ((i : Int) = (n : Int)) := by omega
 have hz3 : (c : Int) < (n : Int) + 1 := by omega
 have hsz : (Tryz.prog.info? 3).map (·.size) = some 1 := by rw [hi0]; simp [hzs]
 have hgw : g < w.heap.size := (Array.getElem?_eq_some_iff.1 hg).1
 have hvw : vb < w.heap.size := (Array.getElem?_eq_some_iff.1 hvb).1
 have hadd : ∀ (b o j : Nat), (⟨b, o, none⟩ : Addr).add j = ⟨b, o + j, none⟩ := by intro b o j; unfold Addr.add; split <;> simp_all
 have hcells : ∀ (j : Nat) u, xs[j]? = some u → w.cell? ⟨g, j, none⟩ = some u := fun j u hj => by
  have := World.ownsRow.cells hown0 (g := g) rfl j u hj
  rw [hadd] at this
  simpa using this
 have htl : (xs.take (i)).length = i * 1 := by rw [List.length_take, hxl]; omega
 have hxd : (xs.drop (i)).length = (n - i) * 1 := by rw [List.length_drop, hxl]; omega
 have hold : (Builtin.firstCells i0.size i (.slice (some ⟨g, 0, none⟩) i c)).run Tryz.prog w.drew = .ok (xs.take (i)).toArray w.drew := by
  rw [hzs]
  exact run_firstCells_some w.drew 1 i ⟨g, 0, none⟩ i c (xs.take (i)) htl (fun j v hj => by
   rw [hadd, Nat.zero_add]
   rw [List.getElem?_take] at hj
   split at hj
   · exact hcells j v hj
   · cases hj)
 have hkk : (n : Int) + 1 - (i : Int) = ((n + 1 - i : Nat) : Int) := by omega
 have hik : i + (n + 1 - i) = n + 1 := by omega
 obtain ⟨G, hG⟩ : ∃ G, G = grownCap w (n + 1) c 3 := ⟨_, rfl⟩
 obtain ⟨ROW, hROW⟩ : ∃ ROW : Array Value, ROW = (xs.take (i)).toArray ++ Builtin.zeroCells (Value.cells (.int .i64 0)) (n + 1 - i) ++ Builtin.zeroCells (Value.cells (.int .i64 0)) (G - (n + 1)) := ⟨_, rfl⟩
 have hGn : n + 1 ≤ G := by rw [hG]; exact grownCap_ge w _ _ _
 have hGm : G ≤ maxLen := by rw [hG]; exact grownCap_le_maxLen w (n + 1) c 3 (by unfold maxLen; omega)
 have hRs : ROW.size = G * 1 := by
  rw [hROW]
  simp only [Array.size_append, List.size_toArray, htl, size_zeroCells]
  have : (Value.cells (.int .i64 0)).size = 1 := rfl
  rw [this]
  omega
 have hRt : ROW.toList.take (i) = xs.take (i) := by
  rw [hROW]
  simp only [Array.toList_append, List.append_assoc]
  exact List.take_left' (by rw [htl]; omega)
 have hrz : ∀ ty, (Builtin.append_ #[31, 3] ty #[.slice (some ⟨g, 0, none⟩) i c, .int .i64 ((n : Int) + 1 - (i : Int))]).run Tryz.prog w = .ok (.slice (some ⟨w.heap.size, 0, none⟩) (n + 1) G) (w.drew.alloc (.cells ROW 3)) := fun ty => by
  have h := Lib.run_append_grow_zeros w 31 3 ty 3 i0 _ .i64 .i64 Tryz.underlying31 Tryz.underlying3 hi0 hz0 (some ⟨g, 0, none⟩) i c (xs.take (i)) hold (n + 1 - i) (by omega) (by rw [hzs]; decide) (by omega) (by omega) (by rw [hzb]; omega) (by rw [hzb, hik]; exact growslice_fits hroom (by omega))
  rw [hik, ← hG, ← hROW] at h
  rw [hkk]
  exact h
 obtain ⟨W1, hW1⟩ : ∃ W1, W1 = w.drew.alloc (.cells ROW 3) := ⟨_, rfl⟩
 rw [← hW1] at hrz
 have hW1r : W1.heap[w.heap.size]? = some (.cells ROW 3 (0, 0)) := by rw [hW1]; exact heap_alloc_new w.drew _
 have hW1o : ∀ k o, w.heap[k]? = some o → W1.heap[k]? = some o := fun k o h => by
  rw [hW1]
  have := Below.heap_alloc w.drew (.cells ROW 3) k (Array.getElem?_eq_some_iff.1 h).1
  rw [this]
  exact h
 have hneg : g ≠ w.heap.size := by omega
 have hnev : vb ≠ w.heap.size := by omega
 obtain ⟨L1, hL1⟩ : ∃ L1 : List Value, L1 = ROW.toList.take (i) ++ vs ++ ROW.toList.drop (i + vs.length) := ⟨_, rfl⟩
 obtain ⟨W2, hW2⟩ : ∃ W2, W2 = W1.setRow w.heap.size L1.toArray := ⟨_, rfl⟩
 have hcp1 : ∀ ty dc, (Builtin.copy_ #[31, 31] ty #[.slice (some ⟨w.heap.size, i, none⟩) (n + 1 - i) dc, .slice (some ⟨vb, 0, none⟩) 1 1]).run Tryz.prog W1 = .ok (goInt 1) W2 := fun ty dc => by
  rw [hW2, hL1]
  have := run_copy_wide Tryz.prog W1 31 31 ty 3 w.heap.size (i) (n + 1 - i) dc ⟨vb, 0, none⟩ 1 1 ROW 3 vs 1 1 Tryz.underlying31 hsz hW1r (by simp only [Nat.min_def]; split <;> omega) (by rw [hvl])
   (fun j v hj => by rw [hadd, Nat.zero_add, cell_of_row _ vb j _ _ _ (hW1o _ _ hvb)]; simpa using hj)
   (by rw [hvl, hRs]; omega) h1
  simpa using this
 have hW2r : W2.heap[w.heap.size]? = some (.cells L1.toArray 3 (0, 0)) := by rw [hW2]; exact heap_setRow_at W1 _ _ hW1r
 have hW2o : ∀ k o, w.heap[k]? = some o → W2.heap[k]? = some o := fun k o h => by
  have : k ≠ w.heap.size := by have := (Array.getElem?_eq_some_iff.1 h).1; omega
  rw [hW2, heap_setRow_other _ _ _ _ this]
  exact hW1o k o h
 have hL1l : L1.length = G * 1 := by rw [hL1]; simp only [List.length_append, List.length_take, List.length_drop, Array.length_toList, hRs, hvl]; omega
 obtain ⟨hl2, ht2⟩ := gap_cells' ROW.toList vs (xs.drop (i)) (i) 1 ((n - i) * 1) hvl hxd (by rw [Array.length_toList, hRs]; omega)
 rw [← hL1] at hl2 ht2
 obtain ⟨W3, hW3⟩ : ∃ W3, W3 = W2.drew.setRow w.heap.size (L1.take (i + 1) ++ xs.drop (i) ++ L1.drop (i + 1 + (xs.drop (i)).length)).toArray := ⟨_, rfl⟩
 have hcp2 : ∀ ty dc sc, (Builtin.copy_ #[31, 31] ty #[.slice (some ⟨w.heap.size, i + 1, none⟩) (n - i) dc, .slice (some ⟨g, i, none⟩) (n - i) sc]).run Tryz.prog W2.drew = .ok (goInt ((n - i : Nat) : Int)) W3 := fun ty dc sc => by
  rw [hW3, show i + 1 = i + 1 by omega]
  have := run_copy_wide Tryz.prog W2.drew 31 31 ty 3 w.heap.size (i + 1) (n - i) dc ⟨g, i, none⟩ (n - i) sc L1.toArray 3 (xs.drop (i)) 1 (n - i) Tryz.underlying31 hsz hW2r (by simp only [Nat.min_def]; split <;> omega) hxd
   (fun j v hj => by
     rw [hadd]
     have e := hcells (i + j) v (by rwa [List.getElem?_drop] at hj)
     rw [cell_of_row _ g _ _ _ _ hg] at e
     have e2 : W2.drew.heap[g]? = some (.cells cur 3 (0, 0)) := hW2o _ _ hg
     rw [cell_of_row _ g _ _ _ _ e2]
     exact e)
   (by rw [List.size_toArray, hL1l, hxd]; omega) (fun v hv => hx1 v (List.mem_of_mem_drop hv))
  simpa using this
 have hfin : W3.ownsRow B 3 1 (.slice (some ⟨w.heap.size, 0, none⟩) (n + 1) G) (n + 1) (xs.take (i) ++ vs ++ xs.drop (i)) := by
  refine ⟨by simp only [List.length_append, htl, hvl, hxd]; omega, .inr ⟨w.heap.size, G, (L1.take (i + 1) ++ xs.drop (i) ++ L1.drop (i + 1 + (xs.drop (i)).length)).toArray, rfl, hB, ?_, hGn, hGm, ?_, ?_⟩⟩
  · rw [hW3]; exact heap_setRow_at W2.drew _ _ hW2r
  · rw [List.size_toArray, hl2, Array.length_toList, hRs]
  · show List.take _ (L1.take (i + 1) ++ xs.drop (i) ++ L1.drop (i + 1 + (xs.drop (i)).length)) = _
    rw [show (n + 1) * 1 = i + 1 + (n - i) * 1 by omega, ht2, hRt]
 have hkb : Kb [] w W3 := by
  rw [hW3, hW2, hW1]
  exact (((((Kb.refl [] w).drew).alloc _).trans' (Kb.setRow _ _ _) (fun k hk hlt => by simp at hk; omega)).drew).trans' (Kb.setRow _ _ _) (fun k hk hlt => by simp at hk; omega)
 have hw1 : IntKind.i64.wrap ((i : Int) + 1) = (i : Int) + 1 := by rw [IntKind.wrap_i64]; omega
 have hb1 : (0 : Int) ≤ (i : Int) + 1 := by omega
 have htn : ((i : Int) + 1).toNat = i + 1 := by omega
 have hb2 : ¬ (G = i + 1) := by omega
 have hb4 : ¬ (G = i) := by omega
 have hb5 : ¬ (c = i) := by omega
 have hG63 : G ≤ 9223372036854775807 := by unfold maxLen at hGm; omega
 have hin : i ≤ n := by omega
 have hin1 : (i : Int) ≤ (n : Int) + 1 := by omega
 clear hl2 ht2 htk hsz hown0 hvl h1 hx1 hcs hvb hxl hxd hadd hcells hW1r hW1o hL1 hL1l hW2 hW1 hg hold htl hi0 hz0 hzs hzb hW2r hW2o hW3 hROW hRs hRt hG hkk hik
 go_enter Tryz.func264, Tryz.ntmps264
 go_wp2_with (first | (at_builtin; refine wpList_append_runs _ rfl _ _ 31 3 rfl _ _ rfl rfl (hrz _) ?_) | (at_builtin; refine wpList_copy_run _ rfl _ _ 31 31 rfl _ _ rfl rfl (hcp1 _ _) ?_))
 go_region_law (refine step_copy_run rfl _ _ 31 31 rfl _ _ (by simp [Act.eval, Act.put]) (by simp [Act.eval, Act.put]) (hcp2 _ _ _) ?_)
 go_wp2_with fail
 go_ret
 exact ⟨G, rfl, hfin, hkb⟩
theorem insertInt_any (w : World) (B : Nat) (rd : Option Addr) (rc n i vb : Nat) (xs vs : List Value) (hown : w.ownsRow B 3 1 (.slice rd n rc) n xs) (hB : B ≤ w.heap.size) (hi : i ≤ n) (hn : n ≤ 1000000) (hx1 : ∀ u ∈ xs, u.oneCell' = true)
 (hvl : vs.length = 1) (hvb : w.heap[vb]? = some (.cells vs.toArray 3 (0, 0))) (hne : some vb ≠ Value.ownBlock (.slice rd n rc)) (h1 : ∀ u ∈ vs, u.oneCell' = true) :
 Calls Tryz.prog 264 #[.slice rd n rc, .int .i64 i, .slice (some ⟨vb, 0, none⟩) 1 1] w fun e w' => ∃ g cap, e = .returned (.slice (some ⟨g, 0, none⟩) (n + 1) cap) ∧ w'.ownsRow B 3 1 (.slice (some ⟨g, 0, none⟩) (n + 1) cap) (n + 1) (xs.take (i) ++ vs ++ xs.drop (i)) ∧ Kb (Value.ownBlock (.slice rd n rc)).toList w w' ∧ Fresh w (.slice rd n rc) (.slice (some ⟨g, 0, none⟩) (n + 1) cap) := by
 by_cases hin : i = n
 · subst hin
   have hvs : ∀ (j : Nat) u, vs[j]? = some u → w.cell? ⟨vb, j, none⟩ = some u := fun j u hj => by rw [cell_of_row _ vb j _ _ _ hvb]; simpa using hj
   refine (insEndInt w B rd rc i xs vs vb hown hB hn hvl hvs h1).mono ?_
   rintro e w' ⟨g, cap, rfl, h2, h3, h4⟩
   have e1 : xs.take (i) = xs := List.take_of_length_le (by rw [hown.1]; omega)
   have e2 : xs.drop (i) = [] := List.drop_of_length_le (by rw [hown.1]; omega)
   exact ⟨g, cap, rfl, by rw [e1, e2, List.append_nil]; exact h2, h3, h4⟩
 · have hrd : ∃ g, rd = some ⟨g, 0, none⟩ := by
    rcases hown.2 with ⟨_, e2⟩ | ⟨g, cap, cur, e1, _⟩
    · omega
    · simp only [Value.slice.injEq] at e1
      exact ⟨g, e1.1⟩
   obtain ⟨g, rfl⟩ := hrd
   have hne' : vb ≠ g := fun e => hne (by rw [e]; rfl)
   by_cases hr : n + 1 ≤ rc
   · refine (insRoomInt w B g n rc i vb xs vs hown (by omega) hr hn hx1 hvl hvb hne' h1).mono ?_
     rintro e w' ⟨rfl, h2, h3⟩
     exact ⟨g, rc, rfl, h2, h3, fun b hb => .inl hb⟩
   · refine (insGrowInt w B g n rc i vb xs vs hown hB (by omega) (by omega) hn hx1 hvl hvb h1).mono ?_
     rintro e w' ⟨cap, rfl, h2, h3⟩
     refine ⟨w.heap.size, cap, rfl, h2, h3.mono (fun k hk => by cases hk), ?_⟩
     intro b hb
     simp only [Value.ownBlock, Option.some.injEq] at hb
     exact .inr (by omega)
end Go.Proofs.YtdmicblafmhflaaGreatDoor
/- put: a fact's row into a table. -/
namespace Go.Proofs.YtdmicblafmhflaaGreatDoor
open Go.RowKit
open Go.Sort (grow)
structure TabAt (w : World) (g : Nat) (T : TypeId) (nm : ByteArray) (pl : Nat) (rd : Option Addr) (rc : Nat) (L : List (List ByteArray)) (rest : List Value) : Prop where
 blk : w.heap[g]? = some (.cells (Value.string nm :: .int .i64 pl :: .slice rd L.length rc :: rest).toArray T (0, 0))
 rows : RowsAt w rd rc L
 ord : Tb.Ord L
 type : T ≠ 119
theorem TabAt.below {w w' : World} {g : Nat} {T : TypeId} {nm : ByteArray} {pl : Nat} {rd : Option Addr} {rc : Nat} {L : List (List ByteArray)} {rest : List Value} (h : TabAt w g T nm pl rd rc L rest) (hb : Below w.heap.size w w') : TabAt w' g T nm pl rd rc L rest :=
 ⟨by rw [hb.block g (lt_of_heap h.blk)]; exact h.blk, h.rows.below hb, h.ord, h.type⟩
theorem TabAt.kept {w w' : World} {S : List Nat} {g : Nat} {T : TypeId} {nm : ByteArray} {pl : Nat} {rd : Option Addr} {rc : Nat} {L : List (List ByteArray)} {rest : List Value} (h : TabAt w g T nm pl rd rc L rest) (hk : Kb S w w') (hg : ¬ g ∈ S) (hr : ∀ b, Value.ownBlock (.slice rd L.length rc) = some b → ¬ b ∈ S) : TabAt w' g T nm pl rd rc L rest :=
 ⟨hk.heap h.blk hg, ⟨h.rows.three, hk.row h.rows.own hr⟩, h.ord, h.type⟩
theorem TabAt.cell2 {w : World} {g : Nat} {T : TypeId} {nm : ByteArray} {pl : Nat} {rd : Option Addr} {rc : Nat} {L : List (List ByteArray)} {rest : List Value} (h : TabAt w g T nm pl rd rc L rest) : w.cell? ⟨g, 2, none⟩ = some (.slice rd L.length rc) ∧ w.frozen? ⟨g, 2, none⟩ = false ∧ w.cell? ⟨g, 1, none⟩ = some (.int .i64 pl) ∧ w.cell? ⟨g, 0, none⟩ = some (.string nm) := by
 refine ⟨?_, ?_, ?_, ?_⟩
 · rw [cell_of_row _ _ 2 _ _ _ h.blk]; simp
 · simp [World.frozen?, h.blk]
 · rw [cell_of_row _ _ 1 _ _ _ h.blk]; simp
 · rw [cell_of_row _ _ 0 _ _ _ h.blk]; simp
theorem TabAt.apart {w : World} {g : Nat} {T : TypeId} {nm : ByteArray} {pl : Nat} {rd : Option Addr} {rc : Nat} {L : List (List ByteArray)} {rest : List Value} (h : TabAt w g T nm pl rd rc L rest) : ¬ g ∈ (Value.ownBlock (.slice rd L.length rc)).toList := by
 intro hc
 rcases h.rows.own.2 with ⟨e, _⟩ | ⟨g', cap, cur, e, _, hg, _⟩
 · rw [e] at hc; simp [Value.ownBlock] at hc
 · rw [e] at hc
   simp only [Value.ownBlock, Option.toList_some, List.mem_singleton] at hc
   rw [← hc, h.blk] at hg
   simp only [Option.some.injEq, Obj.cells.injEq] at hg
   exact h.type hg.2.1
theorem setCell_heap (w : World) {g : Nat} {cur : Array Value} {T : TypeId} {fr : Nat × Nat} (h : w.heap[g]? = some (.cells cur T fr)) (o : Nat) (v : Value) : (w.setCell ⟨g, o, none⟩ v).heap[g]? = some (.cells (cur.setIfInBounds o v) T fr) := by
 rw [setCell_eq_setRow w g o cur T fr v h]
 exact heap_setRow_at w g _ h
theorem put_world {w W w3 : World} {g : Nat} {T : TypeId} {nm : ByteArray} {pl : Nat} {rd : Option Addr} {rc : Nat} {L : List (List ByteArray)} {rest : List Value} (h : TabAt w g T nm pl rd rc L rest) (hW : Below w.heap.size w W) {a b c : ByteArray}
 (hni : Tb.inB L [a, b, c] = false) {g' cap : Nat}
 (hown : w3.ownsRow 0 119 3 (.slice (some ⟨g', 0, none⟩) (L.length + 1) cap) (L.length + 1) ((rowCells L).take (Tb.pos L [a, b, c] * 3) ++ [.string a, .string b, .string c] ++ (rowCells L).drop (Tb.pos L [a, b, c] * 3)))
 (hk : Kb (Value.ownBlock (.slice rd L.length rc)).toList W w3) (hf : Fresh W (.slice rd L.length rc) (.slice (some ⟨g', 0, none⟩) (L.length + 1) cap)) :
 TabAt (w3.setCell ⟨g, 2, none⟩ (.slice (some ⟨g', 0, none⟩) (L.length + 1) cap)) g T nm pl (some ⟨g', 0, none⟩) cap (Tb.put L [a, b, c]) rest ∧ (Tb.put L [a, b, c]).length = L.length + 1 ∧
  Kb (g :: (Value.ownBlock (.slice rd L.length rc)).toList) w (w3.setCell ⟨g, 2, none⟩ (.slice (some ⟨g', 0, none⟩) (L.length + 1) cap)) ∧ Fresh w (.slice rd L.length rc) (.slice (some ⟨g', 0, none⟩) (L.length + 1) cap) := by
 have hnm : ¬ [a, b, c] ∈ L := fun hc => by rw [Tb.inB_iff.2 hc] at hni; cases hni
 have hput : Tb.put L [a, b, c] = Tb.ins L [a, b, c] := by unfold Tb.put; rw [hni]; rfl
 have hlen : (Tb.put L [a, b, c]).length = L.length + 1 := by
  rw [hput]
  have := Tb.pos_le L [a, b, c]
  simp only [Tb.ins, List.length_append, List.length_cons, List.length_take, List.length_drop]
  omega
 have hap := h.apart
 have hblk : w3.heap[g]? = _ := hk.heap (by rw [hW.block g (lt_of_heap h.blk)]; exact h.blk) hap
 have hth : Three (Tb.put L [a, b, c]) := by
  intro r hr
  rcases Tb.mem_put.1 hr with rfl | hr
  · rfl
  · exact h.rows.three r hr
 have hcs : rowCells (Tb.put L [a, b, c]) = (rowCells L).take (Tb.pos L [a, b, c] * 3) ++ [.string a, .string b, .string c] ++ (rowCells L).drop (Tb.pos L [a, b, c] * 3) := by
  rw [hput, rowCells_take _ h.rows.three, rowCells_drop _ h.rows.three, Tb.ins, rowCells_app]
  simp [rowCells]
 have hgg : g' ≠ g := by
  rcases hown.2 with ⟨e, _⟩ | ⟨x, cap', cur, e, _, hg, _⟩
  · simp at e
  · simp only [Value.slice.injEq, Option.some.injEq, Addr.mk.injEq] at e
    obtain ⟨⟨rfl, _⟩, _⟩ := e
    rintro rfl
    rw [hblk] at hg
    simp only [Option.some.injEq, Obj.cells.injEq] at hg
    exact h.type hg.2.1
 refine ⟨⟨?_, ⟨hth, ?_⟩, Tb.ord_put h.ord _, h.type⟩, hlen, ?_, ?_⟩
 · rw [setCell_heap w3 hblk, hlen]
   rfl
 · rw [hlen, hcs]
   refine (Kb.setCell w3 ⟨g, 2, none⟩ _).row hown ?_
   intro x hx
   simp only [Value.ownBlock, Option.some.injEq] at hx
   subst hx
   simpa using hgg
 · refine Kb.trans' ((Kb.of_below hW _).trans (hk.mono ?_)) (Kb.setCell w3 _ _) ?_
   · intro i hi _; exact List.mem_cons_of_mem _ hi
   · intro i hi _
     simp only [List.mem_singleton] at hi
     subst hi
     simp
 · intro x hx
   rcases hf x hx with e | e
   · exact .inl e
   · exact .inr (Nat.le_trans hW.size e)
set_option maxRecDepth 100000 in
set_option maxHeartbeats 2000000 in
theorem put_any (w : World) (g : Nat) (T : TypeId) (nm : ByteArray) (pl : Nat) (rd : Option Addr) (rc : Nat) (L : List (List ByteArray)) (rest : List Value) (a b c : ByteArray) (h : TabAt w g T nm pl rd rc L rest) (hL : L.length ≤ 999999) :
 Calls Tryz.prog 196 #[.pointer (some ⟨g, 0, none⟩), .agg #[.string a, .string b, .string c]] w fun e w' => ∃ rd' rc',
  e = .returned (.tuple #[.int .i64 (Tb.pos L [a, b, c] : Nat), .bool (!Tb.inB L [a, b, c])]) ∧ TabAt w' g T nm pl rd' rc' (Tb.put L [a, b, c]) rest ∧
   Kb (g :: (Value.ownBlock (.slice rd L.length rc)).toList) w w' ∧ Fresh w (.slice rd L.length rc) (.slice rd' (Tb.put L [a, b, c]).length rc') := by
 obtain ⟨w0, hw0⟩ : ∃ w0, w0 = w.alloc (.cells #[.string a, .string b, .string c] 119) := ⟨_, rfl⟩
 have hb0 : Below w.heap.size w w0 := by rw [hw0]; exact (Below.refl _ _).alloc (Nat.le_refl _) _
 have htg : w0.heap[w.heap.size]? = some (.cells #[.string a, .string b, .string c] 119 (0, 0)) := by rw [hw0]; exact heap_alloc_new w _
 have t0 : w0.cell? ⟨w.heap.size, 0, none⟩ = some (.string a) := by rw [cell_of_row _ _ 0 _ _ _ htg]; rfl
 have t1 : w0.cell? ⟨w.heap.size, 1, none⟩ = some (.string b) := by rw [cell_of_row _ _ 1 _ _ _ htg]; rfl
 have t2 : w0.cell? ⟨w.heap.size, 2, none⟩ = some (.string c) := by rw [cell_of_row _ _ 2 _ _ _ htg]; rfl
 have h0 := h.below hb0
 have hfd := find_any w0 g rd rc L a b c h0.rows (by omega) h0.ord h0.cell2.1
 cases hin : Tb.inB L [a, b, c] with
 | true =>
  rw [hin] at hfd
  have hput : Tb.put L [a, b, c] = L := by unfold Tb.put; rw [hin]; rfl
  rw [hput]
  generalize Tb.pos L [a, b, c] = ps at hfd ⊢
  clear t0 t1 t2 htg hin hput
  go_enter Tryz.func196, Tryz.ntmps196
  go_wp2_with fail
  rw [← hw0]
  clear hw0
  refine hfd.mono ?_
  rintro e w1 ⟨rfl, hb1⟩
  have hb01 : Below w.heap.size w w1 := hb0.trans (hb1.mono hb0.size)
  have hend := h.below hb01
  clear hfd h0 h
  go_wp2_with fail
  go_ret2
  exact ⟨rd, rc, rfl, hend, Kb.of_below hb01 _, Fresh.refl _ _⟩
 | false =>
  rw [hin] at hfd
  have HIN : Hid (Tb.inB L [a, b, c] = false) := hin
  have hins : ∀ (W1 W : World), Below w0.heap.size w0 W1 → W.heap = (W1.alloc (.cells #[.string a, .string b, .string c] 119)).heap → Calls Tryz.prog 245 #[.slice rd L.length rc, .int .i64 (Tb.pos L [a, b, c] : Nat), .slice (some ⟨W1.heap.size, 0, none⟩) 1 1] W fun e w3 => ∃ g' cap, e = .returned (.slice (some ⟨g', 0, none⟩) (L.length + 1) cap) ∧
   (w3.ownsRow 0 119 3 (.slice (some ⟨g', 0, none⟩) (L.length + 1) cap) (L.length + 1) ((rowCells L).take (Tb.pos L [a, b, c] * 3) ++ [.string a, .string b, .string c] ++ (rowCells L).drop (Tb.pos L [a, b, c] * 3)) ∧ Kb (Value.ownBlock (.slice rd L.length rc)).toList W w3 ∧ Fresh W (.slice rd L.length rc) (.slice (some ⟨g', 0, none⟩) (L.length + 1) cap)) ∧ w3.cell? ⟨g, 2, none⟩ = some (.slice rd L.length rc) ∧ w3.frozen? ⟨g, 2, none⟩ = false := by
   intro W1 W hb1 hW
   have h1 := h0.below hb1
   have hr1 := h1.rows.own
   have hr2 : W.ownsRow 0 119 3 (.slice rd L.length rc) L.length (rowCells L) := by
    have := hr1.alloc (.cells #[.string a, .string b, .string c] 119)
    refine ⟨this.1, ?_⟩
    rw [hW]
    exact this.2
   have hg2 : W.heap[g]? = some (.cells (Value.string nm :: .int .i64 pl :: .slice rd L.length rc :: rest).toArray T (0, 0)) := by
    rw [hW, Below.heap_alloc _ _ _ (lt_of_heap h1.blk)]
    exact h1.blk
   refine (insertRow_any W 0 rd rc L.length (Tb.pos L [a, b, c]) W1.heap.size (rowCells L) [.string a, .string b, .string c] hr2 (Nat.zero_le _) (Tb.pos_le _ _) (by omega) (rowCells_one L) rfl (by rw [hW]; exact heap_alloc_new W1 _) ?_ (by intro u hu; simp at hu; rcases hu with rfl | rfl | rfl <;> rfl)).mono ?_
   · intro hc
     have := (World.ownsRow.lt hr1 W1.heap.size hc.symm).2
     omega
   · rintro e w3 ⟨g', cap, rfl, h2, h3, h4⟩
     have hg3 := h3.heap hg2 h1.apart
     exact ⟨g', cap, rfl, ⟨h2, h3, h4⟩, by rw [cell_of_row _ _ 2 _ _ _ hg3]; simp, by simp [World.frozen?, hg3]⟩
  have hgc := h0.cell2.1
  have hgf := h0.cell2.2.1
  have hgl := lt_of_heap h0.blk
  have hs0 : w0.heap.size = w.heap.size + 1 := by rw [hw0]; simp
  clear hin
  generalize hps : Tb.pos L [a, b, c] = ps at hfd hins ⊢
  have HPS : Hid (Tb.pos L [a, b, c] = ps) := hps
  clear htg hps
  go_enter Tryz.func196, Tryz.ntmps196
  go_wp2_with fail
  rw [← hw0]
  clear hw0
  refine hfd.mono ?_
  rintro e w1 ⟨rfl, hb1⟩
  have hb01 : Below w.heap.size w w1 := hb0.trans (hb1.mono hb0.size)
  have hins1 := fun W => hins w1 W hb1
  have s0 : w1.cell? ⟨w.heap.size, 0, none⟩ = some (.string a) := by rw [hb1.cell (by show w.heap.size < _; omega)]; exact t0
  have s1 : w1.cell? ⟨w.heap.size, 1, none⟩ = some (.string b) := by rw [hb1.cell (by show w.heap.size < _; omega)]; exact t1
  have s2 : w1.cell? ⟨w.heap.size, 2, none⟩ = some (.string c) := by rw [hb1.cell (by show w.heap.size < _; omega)]; exact t2
  have s3 : w1.cell? ⟨g, 2, none⟩ = some (.slice rd L.length rc) := by rw [hb1.cell (by show g < _; omega)]; exact hgc
  have hs1 := hb1.size
  have hw1l : w.heap.size < w1.heap.size := by omega
  have hgl1 : g < w1.heap.size := by omega
  clear hfd t0 t1 t2 hgc hgf hins h0
  go_upto_region 3 with fail
  go_region_with (go_at_call 245; refine (hins1 _ (by rfl)).mono ?_; rintro e w3 ⟨g', cap, rfl, hI, k2, kf⟩)
  all_goals
   (obtain ⟨p1, p2, p3, p4⟩ := put_world h ((hb01.alloc hb01.size _).drew) HIN.out (by rw [HPS.out]; exact hI.1) hI.2.1 hI.2.2
    clear hI k2 kf hins1 s0 s1 s2 s3
    go_wp2_with fail
    go_ret2
    exact ⟨_, cap, rfl, p1, p3, by rw [p2]; exact p4⟩)
end Go.Proofs.YtdmicblafmhflaaGreatDoor
