/- slices.Insert of one element, at rows and at ints. -/
import Derived.Test.YtdmicblafmhflaaGreatDoorC04
import Derived.Test.YtdmicblafmhflaaGreatDoorC12
import Derived.Lib.Overlaps
import Derived.Laws.Externs
import Derived.Deep.AppendLies
import Derived.Deep.RegionLaw
set_option linter.unusedSimpArgs false
set_option linter.unusedVariables false
namespace Go.Proofs.YtdmicblafmhflaaGreatDoor
open Go.RowKit
theorem wpList_copy_run {P : Program} (w : World) {ops : Array Oper} {rest : List Oper} {o : Oper} {a : Act} {Q : Exit → Act → World → Prop} (hgd : o.guard = none) (d s : Operand) (t t' : TypeId)
 (ho : o.op = .call { callee := .builtin .copy, args := #[d, s], argTypes := #[t, t'] }) (v u : Value) (hd : a.eval d = v) (hs : a.eval s = u) {v' : Value} {w' : World}
 (hr : (Builtin.copy_ #[t, t'] o.type #[v, u]).run P w = .ok v' w') (h : wpList P ops Q rest (a.put o.dst v') w') : wpList P ops Q (o :: rest) a w :=
 wpList_plain hgd fun _ hK => by
  unfold Oper.wp execOp
  simp only [ho, resolve, invoke, builtin, Sem.run_bind, Sem.run_pure, Result.andThen_ok, List.map_toArray, List.map_cons, List.map_nil, hd, hs, hr]
  exact hK _ _ h
theorem wpList_append_runs {P : Program} (w : World) {ops : Array Oper} {rest : List Oper} {o : Oper} {a : Act} {Q : Exit → Act → World → Prop} (hgd : o.guard = none) (d s : Operand) (t t' : TypeId)
 (ho : o.op = .call { callee := .builtin .append, args := #[d, s], argTypes := #[t, t'] }) (v u : Value) (hd : a.eval d = v) (hs : a.eval s = u) {v' : Value} {w' : World}
 (hr : (Builtin.append_ #[t, t'] o.type #[v, u]).run P w = .ok v' w') (h : wpList P ops Q rest (a.put o.dst v') w') : wpList P ops Q (o :: rest) a w :=
 wpList_plain hgd fun _ hK => by
  unfold Oper.wp execOp
  simp only [ho, resolve, invoke, builtin, Sem.run_bind, Sem.run_pure, Result.andThen_ok, List.map_toArray, List.map_cons, List.map_nil, hd, hs, hr]
  exact hK _ _ h
theorem step_copy_run {P : Program} {ops : Array Oper} {o : Oper} {a : Act} {w : World} {K : Act → World → Prop} {Q : Exit → Act → World → Prop} {E : Prop}
 (hg : o.guard = none) (d x : Operand) (dT sT : TypeId) (hop : o.op = Op.call { callee := Callee.builtin Builtin.copy, args := #[d, x], argTypes := #[dT, sT] })
 (v u : Value) (hd : a.eval d = v) (hx : a.eval x = u) {v' : Value} {w' : World} (hr : (Builtin.copy_ #[dT, sT] o.type #[v, u]).run P w = .ok v' w') (hK : K (a.put o.dst v') w') :
 if Region.wanted o (yielded ops a.tmps) = true then Oper.wp P o a w K Q else E := by
 have hw : Region.wanted o (yielded ops a.tmps) = true := by simp [Region.wanted, hg]
 rw [if_pos hw]
 unfold Oper.wp
 simp [execOp, hop, resolve, invoke, builtin, hd, hx, hr, Result.andThen]
 exact hK
theorem gap_cells (l vs : List Value) (a k m : Nat) (hk : vs.length = k) (hl : a + k + m ≤ l.length) :
 let c := (l.take (a + m)).drop a
 let l1 := l.take (a + k) ++ c ++ l.drop (a + k + c.length)
 let l2 := l1.take a ++ vs ++ l1.drop (a + vs.length)
 l2.length = l.length ∧ l2.take (a + k + m) = l.take a ++ vs ++ c := by
 intro c l1 l2
 have hc : c.length = m := by simp [c]; omega
 have e1 : l1.take a = l.take a := by
  simp only [l1, List.append_assoc]
  rw [List.take_append_of_le_length (by simp; omega), List.take_take]
  congr 1; omega
 have e2 : l1.drop (a + vs.length) = c ++ l.drop (a + k + c.length) := by
  simp only [l1, List.append_assoc]
  rw [List.drop_left' (by simp; omega)]
 have e3 : l2 = l.take a ++ vs ++ c ++ l.drop (a + k + c.length) := by
  simp only [l2, e1, e2, List.append_assoc]
 refine ⟨?_, ?_⟩
 · rw [e3]; simp [hc, hk]; omega
 · rw [e3]
   exact List.take_left' (by simp [hc, hk]; omega)
theorem gap_cells' (l vs c : List Value) (a k m : Nat) (hk : vs.length = k) (hc : c.length = m) (hl : a + k + m ≤ l.length) :
 let l1 := l.take a ++ vs ++ l.drop (a + vs.length)
 let l2 := l1.take (a + k) ++ c ++ l1.drop (a + k + c.length)
 l2.length = l.length ∧ l2.take (a + k + m) = l.take a ++ vs ++ c := by
 intro l1 l2
 have e1 : l1.take (a + k) = l.take a ++ vs := by
  simp only [l1]
  exact List.take_left' (by simp; omega)
 have h1 : l1.length = l.length := by simp [l1, hk]; omega
 refine ⟨?_, ?_⟩
 · simp only [l2, List.length_append, e1, List.length_drop, h1, hc, hk, List.length_take]; omega
 · simp only [l2, e1]
   exact List.take_left' (by simp; omega)
theorem Tryz.infoRow : (Tryz.prog.info? 119).map (fun i => (i.zero, i.size, i.bytes)) = some (some (.agg #[.string ByteArray.empty, .string ByteArray.empty, .string ByteArray.empty]), 3, 48) := by kernel_rfl
set_option maxRecDepth 100000 in
set_option maxHeartbeats 2000000 in
theorem insEndRow (w : World) (B : Nat) (rd : Option Addr) (rc n : Nat) (xs vs : List Value) (vb : Nat) (hown : w.ownsRow B 119 3 (.slice rd n rc) n xs) (hB : B ≤ w.heap.size) (hn : n ≤ 1000000)
 (hvl : vs.length = 3) (hvs : ∀ (j : Nat) u, vs[j]? = some u → w.cell? ⟨vb, j, none⟩ = some u) (h1 : ∀ u ∈ vs, u.oneCell' = true) :
 Calls Tryz.prog 245 #[.slice rd n rc, .int .i64 n, .slice (some ⟨vb, 0, none⟩) 1 1] w fun e w' => ∃ g cap, e = .returned (.slice (some ⟨g, 0, none⟩) (n + 1) cap) ∧ w'.ownsRow B 119 3 (.slice (some ⟨g, 0, none⟩) (n + 1) cap) (n + 1) (xs ++ vs) ∧ Kb (Value.ownBlock (.slice rd n rc)).toList w w' ∧ Fresh w (.slice rd n rc) (.slice (some ⟨g, 0, none⟩) (n + 1) cap) := by
 obtain ⟨i0, hi0, hz0, hz1, hz2⟩ := info_parts Tryz.infoRow
 have hle : n ≤ rc ∧ (rd = none → n = 0 ∧ rc = 0) := by
  rcases hown.2 with ⟨e1, e2⟩ | ⟨g, cap, cur, e1, _, hg, hc, _⟩
  · simp only [Value.slice.injEq] at e1; obtain ⟨rfl, _, rfl⟩ := e1; exact ⟨by omega, fun _ => ⟨by omega, rfl⟩⟩
  · simp only [Value.slice.injEq] at e1; obtain ⟨rfl, _, rfl⟩ := e1; exact ⟨hc, fun e => by cases e⟩
 have hnr := hle.1
 have hrn := hle.2
 clear hle
 have hnn : ¬ ((n : Int) < 0) := by omega
 have hadd : ∀ j, (⟨vb, 0, none⟩ : Addr).add j = ⟨vb, j, none⟩ := by intro j; unfold Addr.add; split <;> simp_all
 have hnews : Hid (∀ (j : Nat) u, vs[j]? = some u → w.cell? ((⟨vb, 0, none⟩ : Addr).add j) = some u) := fun j u hj => by rw [hadd]; exact hvs j u hj
 have HI : Hid (Tryz.prog.info? 119 = some i0) := hi0
 have H0 : Hid (i0.zero = some (.agg #[.string ByteArray.empty, .string ByteArray.empty, .string ByteArray.empty])) := hz0
 have H1 : Hid (i0.size = 3) := hz1
 have H2 : Hid (i0.bytes = 48) := hz2
 clear hvs hadd hi0 hz0 hz1 hz2
 go_enter Tryz.func245, Tryz.ntmps245
 cases rd with
 | none =>
  obtain ⟨rfl, rfl⟩ := hrn rfl
  go_wp2_with (at_builtin; refine wpList_append_lies _ rfl (.tmp 23) (.tmp 24) 113 rfl B 119 i0 _ 3 48 Tryz.underlying113 HI.out H0.out H1.out H2.out rfl (by decide) _ _ _ rfl hown ⟨vb, 0, none⟩ 1 1 vs rfl (by rw [hvl]) hnews.out h1 (by decide) (by unfold maxLen; omega) (by omega) hB w.heap.size rfl ?_; intro g2 cap2 w2 hown2 hgrow2 hg2 hlt2)
  go_ret
  refine ⟨g2, cap2, rfl, hown2, Kb.of_grown hgrow2, ?_⟩
  intro b hb
  simp only [Value.ownBlock, Option.some.injEq] at hb
  subst hb
  rcases hg2 with h | h
  · exact .inl h
  · exact .inr (by omega)
 | some ad =>
  by_cases hcn : rc = n
  · have hcn' : (rc = n) = True := by simp [hcn]
    go_wp2_with (at_builtin; refine wpList_append_lies _ rfl (.tmp 23) (.tmp 24) 113 rfl B 119 i0 _ 3 48 Tryz.underlying113 HI.out H0.out H1.out H2.out rfl (by decide) _ _ _ rfl hown ⟨vb, 0, none⟩ 1 1 vs rfl (by rw [hvl]) hnews.out h1 (by decide) (by unfold maxLen; omega) (by omega) hB w.heap.size rfl ?_; intro g2 cap2 w2 hown2 hgrow2 hg2 hlt2)
    go_ret
    refine ⟨g2, cap2, rfl, hown2, Kb.of_grown hgrow2, ?_⟩
    intro b hb
    simp only [Value.ownBlock, Option.some.injEq] at hb
    subst hb
    rcases hg2 with h | h
    · exact .inl h
    · exact .inr (by omega)
  · have hcn' : (rc = n) = False := by simp [hcn]
    go_wp2_with (at_builtin; refine wpList_append_lies _ rfl (.tmp 23) (.tmp 24) 113 rfl B 119 i0 _ 3 48 Tryz.underlying113 HI.out H0.out H1.out H2.out rfl (by decide) _ _ _ rfl hown ⟨vb, 0, none⟩ 1 1 vs rfl (by rw [hvl]) hnews.out h1 (by decide) (by unfold maxLen; omega) (by omega) hB w.heap.size rfl ?_; intro g2 cap2 w2 hown2 hgrow2 hg2 hlt2)
    go_ret
    refine ⟨g2, cap2, rfl, hown2, Kb.of_grown hgrow2, ?_⟩
    intro b hb
    simp only [Value.ownBlock, Option.some.injEq] at hb
    subst hb
    rcases hg2 with h | h
    · exact .inl h
    · exact .inr (by omega)
theorem Tryz.infoInt : (Tryz.prog.info? 3).map (fun i => (i.zero, i.size, i.bytes)) = some (some (.int .i64 0), 1, 8) := by kernel_rfl
set_option maxRecDepth 100000 in
set_option maxHeartbeats 2000000 in
theorem insEndInt (w : World) (B : Nat) (rd : Option Addr) (rc n : Nat) (xs vs : List Value) (vb : Nat) (hown : w.ownsRow B 3 1 (.slice rd n rc) n xs) (hB : B ≤ w.heap.size) (hn : n ≤ 1000000)
 (hvl : vs.length = 1) (hvs : ∀ (j : Nat) u, vs[j]? = some u → w.cell? ⟨vb, j, none⟩ = some u) (h1 : ∀ u ∈ vs, u.oneCell' = true) :
 Calls Tryz.prog 264 #[.slice rd n rc, .int .i64 n, .slice (some ⟨vb, 0, none⟩) 1 1] w fun e w' => ∃ g cap, e = .returned (.slice (some ⟨g, 0, none⟩) (n + 1) cap) ∧ w'.ownsRow B 3 1 (.slice (some ⟨g, 0, none⟩) (n + 1) cap) (n + 1) (xs ++ vs) ∧ Kb (Value.ownBlock (.slice rd n rc)).toList w w' ∧ Fresh w (.slice rd n rc) (.slice (some ⟨g, 0, none⟩) (n + 1) cap) := by
 obtain ⟨i0, hi0, hz0, hz1, hz2⟩ := info_parts Tryz.infoInt
 have hle : n ≤ rc ∧ (rd = none → n = 0 ∧ rc = 0) := by
  rcases hown.2 with ⟨e1, e2⟩ | ⟨g, cap, cur, e1, _, hg, hc, _⟩
  · simp only [Value.slice.injEq] at e1; obtain ⟨rfl, _, rfl⟩ := e1; exact ⟨by omega, fun _ => ⟨by omega, rfl⟩⟩
  · simp only [Value.slice.injEq] at e1; obtain ⟨rfl, _, rfl⟩ := e1; exact ⟨hc, fun e => by cases e⟩
 have hnr := hle.1
 have hrn := hle.2
 clear hle
 have hnn : ¬ ((n : Int) < 0) := by omega
 have hadd : ∀ j, (⟨vb, 0, none⟩ : Addr).add j = ⟨vb, j, none⟩ := by intro j; unfold Addr.add; split <;> simp_all
 have hnews : Hid (∀ (j : Nat) u, vs[j]? = some u → w.cell? ((⟨vb, 0, none⟩ : Addr).add j) = some u) := fun j u hj => by rw [hadd]; exact hvs j u hj
 have HI : Hid (Tryz.prog.info? 3 = some i0) := hi0
 have H0 : Hid (i0.zero = some (.int .i64 0)) := hz0
 have H1 : Hid (i0.size = 1) := hz1
 have H2 : Hid (i0.bytes = 8) := hz2
 clear hvs hadd hi0 hz0 hz1 hz2
 go_enter Tryz.func264, Tryz.ntmps264
 cases rd with
 | none =>
  obtain ⟨rfl, rfl⟩ := hrn rfl
  go_wp2_with (at_builtin; refine wpList_append_lies _ rfl (.tmp 23) (.tmp 24) 31 rfl B 3 i0 _ 1 8 Tryz.underlying31 HI.out H0.out H1.out H2.out rfl (by decide) _ _ _ rfl hown ⟨vb, 0, none⟩ 1 1 vs rfl (by rw [hvl]) hnews.out h1 (by decide) (by unfold maxLen; omega) (by omega) hB w.heap.size rfl ?_; intro g2 cap2 w2 hown2 hgrow2 hg2 hlt2)
  go_ret
  refine ⟨g2, cap2, rfl, hown2, Kb.of_grown hgrow2, ?_⟩
  intro b hb
  simp only [Value.ownBlock, Option.some.injEq] at hb
  subst hb
  rcases hg2 with h | h
  · exact .inl h
  · exact .inr (by omega)
 | some ad =>
  by_cases hcn : rc = n
  · have hcn' : (rc = n) = True := by simp [hcn]
    go_wp2_with (at_builtin; refine wpList_append_lies _ rfl (.tmp 23) (.tmp 24) 31 rfl B 3 i0 _ 1 8 Tryz.underlying31 HI.out H0.out H1.out H2.out rfl (by decide) _ _ _ rfl hown ⟨vb, 0, none⟩ 1 1 vs rfl (by rw [hvl]) hnews.out h1 (by decide) (by unfold maxLen; omega) (by omega) hB w.heap.size rfl ?_; intro g2 cap2 w2 hown2 hgrow2 hg2 hlt2)
    go_ret
    refine ⟨g2, cap2, rfl, hown2, Kb.of_grown hgrow2, ?_⟩
    intro b hb
    simp only [Value.ownBlock, Option.some.injEq] at hb
    subst hb
    rcases hg2 with h | h
    · exact .inl h
    · exact .inr (by omega)
  · have hcn' : (rc = n) = False := by simp [hcn]
    go_wp2_with (at_builtin; refine wpList_append_lies _ rfl (.tmp 23) (.tmp 24) 31 rfl B 3 i0 _ 1 8 Tryz.underlying31 HI.out H0.out H1.out H2.out rfl (by decide) _ _ _ rfl hown ⟨vb, 0, none⟩ 1 1 vs rfl (by rw [hvl]) hnews.out h1 (by decide) (by unfold maxLen; omega) (by omega) hB w.heap.size rfl ?_; intro g2 cap2 w2 hown2 hgrow2 hg2 hlt2)
    go_ret
    refine ⟨g2, cap2, rfl, hown2, Kb.of_grown hgrow2, ?_⟩
    intro b hb
    simp only [Value.ownBlock, Option.some.injEq] at hb
    subst hb
    rcases hg2 with h | h
    · exact .inl h
    · exact .inr (by omega)
set_option maxRecDepth 100000 in
set_option maxHeartbeats 4000000 in
theorem insRoomRow (w : World) (B g n c i vb : Nat) (xs vs : List Value) (hown : w.ownsRow B 119 3 (.slice (some ⟨g, 0, none⟩) n c) n xs) (hi : i < n) (hroom : n + 1 ≤ c) (hn : n ≤ 1000000) (hx1 : ∀ u ∈ xs, u.oneCell' = true)
 (hvl : vs.length = 3) (hvb : w.heap[vb]? = some (.cells vs.toArray 119 (0, 0))) (hne : vb ≠ g) (h1 : ∀ u ∈ vs, u.oneCell' = true) :
 Calls Tryz.prog 245 #[.slice (some ⟨g, 0, none⟩) n c, .int .i64 i, .slice (some ⟨vb, 0, none⟩) 1 1] w fun e w' => e = .returned (.slice (some ⟨g, 0, none⟩) (n + 1) c) ∧ w'.ownsRow B 119 3 (.slice (some ⟨g, 0, none⟩) (n + 1) c) (n + 1) (xs.take (i * 3) ++ vs ++ xs.drop (i * 3)) ∧ Kb [g] w w' := by
 have hown0 := hown
 obtain ⟨hxl, hown2⟩ := hown
 rcases hown2 with ⟨e1, e2⟩ | ⟨g', cap, cur, e1, hbg, hg, hcn, hcm, hcs, htk⟩
 · simp at e1
 simp only [Value.slice.injEq, Option.some.injEq, Addr.mk.injEq] at e1
 obtain ⟨⟨rfl, _⟩, _, rfl⟩ := e1
 have hc63 : c ≤ 9223372036854775807 := by unfold maxLen at hcm; omega
 have hz2 : ¬ ((i : Int) = (n : Int)) := by omega
 have hsz : (Tryz.prog.info? 119).map (·.size) = some 3 := by
  obtain ⟨i0, hi0, h0, h1', h2⟩ := info_parts Tryz.infoRow
  rw [hi0]; simp [h1']
 have hov : ∀ (o : Nat) lb cb, (callFunc 272 #[.slice (some ⟨vb, 0, none⟩) 1 1, .slice (some ⟨g, o, none⟩) lb cb]).run Tryz.prog w = .ok (.value (.bool false)) w := fun o lb cb => by
  rw [run_callFunc_extern Tryz.func272 (by kernel_rfl) (by kernel_rfl) (by kernel_rfl) (e := Extern.SlicesOverlaps.overlaps #[113, 113] #[4]) (by kernel_rfl),
   Lib.run_overlaps_apart w 113 4 119 Tryz.underlying113 3 Tryz.sizeOf119 ⟨vb, 0, none⟩ ⟨g, o, none⟩ 1 1 lb cb hne 119 119 3 cur.size (by simp [World.shape?, hvb, hvl]) (by simp [World.shape?, hg]) (by rw [hcs]; omega) (by simp [World.frozen?, hvb]) (by simp [World.frozen?, hvb])]
  rfl
 have hHO : Hid (∀ (o : Nat) lb cb, (callFunc 272 #[.slice (some ⟨vb, 0, none⟩) 1 1, .slice (some ⟨g, o, none⟩) lb cb]).run Tryz.prog w = .ok (.value (.bool false)) w) := hov
 have hinn : i ≤ n := by omega
 have hgo := gap_cells cur.toList vs (i * 3) 3 ((n - i) * 3) hvl (by rw [Array.length_toList, hcs]; omega)
 obtain ⟨hl2, ht2⟩ := hgo
 have htkn : cur.toList.take (i * 3 + (n - i) * 3) = xs := by rw [← htk]; congr 1; omega
 rw [htkn] at hl2 ht2
 have hxd : (xs.drop (i * 3)).length = (n - i) * 3 := by rw [List.length_drop, hxl]; omega
 have hadd : ∀ (b o j : Nat), (⟨b, o, none⟩ : Addr).add j = ⟨b, o + j, none⟩ := by intro b o j; unfold Addr.add; split <;> simp_all
 have hcells : ∀ (j : Nat) u, xs[j]? = some u → w.cell? ⟨g, j, none⟩ = some u := fun j u hj => by
  have := World.ownsRow.cells hown0 (g := g) rfl j u hj
  rw [hadd] at this
  simpa using this
 obtain ⟨W1, hW1⟩ : ∃ W1, W1 = w.drew.setRow g (cur.toList.take (i * 3 + 3) ++ xs.drop (i * 3) ++ cur.toList.drop (i * 3 + 3 + (xs.drop (i * 3)).length)).toArray := ⟨_, rfl⟩
 have hcp1 : ∀ ty dc sc, (Builtin.copy_ #[113, 113] ty #[.slice (some ⟨g, (i + 1) * 3, none⟩) (n - i) dc, .slice (some ⟨g, i * 3, none⟩) (n + 1 - i) sc]).run Tryz.prog w.drew = .ok (goInt ((n - i : Nat) : Int)) W1 := fun ty dc sc => by
  rw [hW1, show (i + 1) * 3 = i * 3 + 3 by omega]
  exact run_copy_wide Tryz.prog w.drew _ _ ty 119 g (i * 3 + 3) (n - i) dc ⟨g, i * 3, none⟩ (n + 1 - i) sc cur 119 (xs.drop (i * 3)) 3 (n - i) Tryz.underlying113 hsz hg (by simp only [Nat.min_def]; split <;> omega) hxd
   (fun j v hj => by rw [hadd]; exact hcells _ _ (by rwa [List.getElem?_drop] at hj))
   (by rw [hxd, hcs]; omega) (fun v hv => hx1 v (List.mem_of_mem_drop hv))
 have hW1g : W1.heap[g]? = some (.cells (cur.toList.take (i * 3 + 3) ++ xs.drop (i * 3) ++ cur.toList.drop (i * 3 + 3 + (xs.drop (i * 3)).length)).toArray 119 (0, 0)) := by rw [hW1]; exact heap_setRow_at w.drew g _ hg
 have hW1v : W1.heap[vb]? = some (.cells vs.toArray 119 (0, 0)) := by rw [hW1, heap_setRow_other _ _ _ _ hne]; exact hvb
 have hkb1 : Kb [g] w W1 := by rw [hW1]; exact ((Kb.refl [g] w).drew).trans (Kb.setRow w.drew g _)
 obtain ⟨L1, hL1⟩ : ∃ L1 : List Value, L1 = cur.toList.take (i * 3 + 3) ++ xs.drop (i * 3) ++ cur.toList.drop (i * 3 + 3 + (xs.drop (i * 3)).length) := ⟨_, rfl⟩
 rw [← hL1] at hW1g hl2 ht2
 have hL1l : L1.length = cur.size := by rw [hL1]; simp only [List.length_append, List.length_take, List.length_drop, Array.length_toList, hxd, hcs]; omega
 obtain ⟨W2, hW2⟩ : ∃ W2, W2 = W1.setRow g (L1.take (i * 3) ++ vs ++ L1.drop (i * 3 + vs.length)).toArray := ⟨_, rfl⟩
 have hcp2 : ∀ ty dc, (Builtin.copy_ #[113, 113] ty #[.slice (some ⟨g, i * 3, none⟩) (n + 1 - i) dc, .slice (some ⟨vb, 0, none⟩) 1 1]).run Tryz.prog W1 = .ok (goInt 1) W2 := fun ty dc => by
  rw [hW2]
  have := run_copy_wide Tryz.prog W1 113 113 ty 119 g (i * 3) (n + 1 - i) dc ⟨vb, 0, none⟩ 1 1 L1.toArray 119 vs 3 1 Tryz.underlying113 hsz hW1g (by simp only [Nat.min_def]; split <;> omega) (by rw [hvl])
   (fun j v hj => by rw [hadd, Nat.zero_add, cell_of_row _ vb j _ _ _ hW1v]; simpa using hj)
   (by rw [hvl, List.size_toArray, hL1l, hcs]; omega) h1
  simpa using this
 have hW2g : W2.ownsRow B 119 3 (.slice (some ⟨g, 0, none⟩) (n + 1) c) (n + 1) (xs.take (i * 3) ++ vs ++ xs.drop (i * 3)) := by
  refine ⟨by simp only [List.length_append, List.length_take, hxl, hvl, hxd]; rw [Nat.min_eq_left (by omega)]; omega, .inr ⟨g, c, (L1.take (i * 3) ++ vs ++ L1.drop (i * 3 + vs.length)).toArray, rfl, hbg, ?_, hroom, hcm, ?_, ?_⟩⟩
  · rw [hW2]; exact heap_setRow_at W1 g _ hW1g
  · rw [List.size_toArray]; rw [hl2, Array.length_toList, hcs]
  · show List.take _ (L1.take (i * 3) ++ vs ++ L1.drop (i * 3 + vs.length)) = _
    rw [show (n + 1) * 3 = i * 3 + 3 + (n - i) * 3 by omega, ht2]
    congr 2
    rw [← htk, List.take_take]
    congr 1; omega
 have hkb2 : Kb [g] w W2 := by rw [hW2]; exact hkb1.trans (Kb.setRow W1 g _)
 have hw1 : IntKind.i64.wrap ((i : Int) + 1) = (i : Int) + 1 := by rw [IntKind.wrap_i64]; omega
 have hb1 : (0 : Int) ≤ (i : Int) + 1 := by omega
 have htn : ((i : Int) + 1).toNat = i + 1 := by omega
 have hb2 : ¬ (c = i + 1) := by omega
 have hb3 : (i : Int) ≤ (n : Int) + 1 := by omega
 have hb4 : ¬ (c = i) := by omega
 clear hl2 ht2 htkn htk hsz hown0 hvl h1 hx1 hcs hHO hvb hxl hxd hadd hcells hW1g hW1v hkb1 hL1 hL1l hW2 hW1 hg
 go_enter Tryz.func245, Tryz.ntmps245
 go_wp2_with (simp only [hov])
 go_region_law (refine step_copy_run rfl _ _ 113 113 rfl _ _ (by simp [Act.eval, Act.put]) (by simp [Act.eval, Act.put]) (hcp1 _ _ _) ?_)
 go_wp2_with (at_builtin; refine wpList_copy_run _ rfl _ _ 113 113 rfl _ _ rfl rfl (hcp2 _ _) ?_)
 go_ret
 exact ⟨rfl, hW2g, hkb2⟩
set_option maxRecDepth 100000 in
set_option maxHeartbeats 4000000 in
theorem insRoomInt (w : World) (B g n c i vb : Nat) (xs vs : List Value) (hown : w.ownsRow B 3 1 (.slice (some ⟨g, 0, none⟩) n c) n xs) (hi : i < n) (hroom : n + 1 ≤ c) (hn : n ≤ 1000000) (hx1 : ∀ u ∈ xs, u.oneCell' = true)
 (hvl : vs.length = 1) (hvb : w.heap[vb]? = some (.cells vs.toArray 3 (0, 0))) (hne : vb ≠ g) (h1 : ∀ u ∈ vs, u.oneCell' = true) :
 Calls Tryz.prog 264 #[.slice (some ⟨g, 0, none⟩) n c, .int .i64 i, .slice (some ⟨vb, 0, none⟩) 1 1] w fun e w' => e = .returned (.slice (some ⟨g, 0, none⟩) (n + 1) c) ∧ w'.ownsRow B 3 1 (.slice (some ⟨g, 0, none⟩) (n + 1) c) (n + 1) (xs.take (i) ++ vs ++ xs.drop (i)) ∧ Kb [g] w w' := by
 have hown0 := hown
 obtain ⟨hxl, hown2⟩ := hown
 rcases hown2 with ⟨e1, e2⟩ | ⟨g', cap, cur, e1, hbg, hg, hcn, hcm, hcs, htk⟩
 · simp at e1
 simp only [Value.slice.injEq, Option.some.injEq, Addr.mk.injEq] at e1
 obtain ⟨⟨rfl, _⟩, _, rfl⟩ := e1
 have hc63 : c ≤ 9223372036854775807 := by unfold maxLen at hcm; omega
 have hz2 : ¬ ((i : Int) = (n : Int)) := by omega
 have hsz : (Tryz.prog.info? 3).map (·.size) = some 1 := by
  obtain ⟨i0, hi0, h0, h1', h2⟩ := info_parts Tryz.infoInt
  rw [hi0]; simp [h1']
 have hov : ∀ (o : Nat) lb cb, (callFunc 284 #[.slice (some ⟨vb, 0, none⟩) 1 1, .slice (some ⟨g, o, none⟩) lb cb]).run Tryz.prog w = .ok (.value (.bool false)) w := fun o lb cb => by
  rw [run_callFunc_extern Tryz.func284 (by kernel_rfl) (by kernel_rfl) (by kernel_rfl) (e := Extern.SlicesOverlaps.overlaps #[31, 31] #[4]) (by kernel_rfl),
   Lib.run_overlaps_apart w 31 4 3 Tryz.underlying31 1 Tryz.sizeOf3 ⟨vb, 0, none⟩ ⟨g, o, none⟩ 1 1 lb cb hne 3 3 1 cur.size (by simp [World.shape?, hvb, hvl]) (by simp [World.shape?, hg]) (by rw [hcs]; omega) (by simp [World.frozen?, hvb]) (by simp [World.frozen?, hvb])]
  rfl
 have hHO : Hid (∀ (o : Nat) lb cb, (callFunc 284 #[.slice (some ⟨vb, 0, none⟩) 1 1, .slice (some ⟨g, o, none⟩) lb cb]).run Tryz.prog w = .ok (.value (.bool false)) w) := hov
 have hinn : i ≤ n := by omega
 have hgo := gap_cells cur.toList vs (i) 1 ((n - i) * 1) hvl (by rw [Array.length_toList, hcs]; omega)
 obtain ⟨hl2, ht2⟩ := hgo
 have htkn : cur.toList.take (i + (n - i) * 1) = xs := by rw [← htk]; congr 1; omega
 rw [htkn] at hl2 ht2
 have hxd : (xs.drop (i)).length = (n - i) * 1 := by rw [List.length_drop, hxl]; omega
 have hadd : ∀ (b o j : Nat), (⟨b, o, none⟩ : Addr).add j = ⟨b, o + j, none⟩ := by intro b o j; unfold Addr.add; split <;> simp_all
 have hcells : ∀ (j : Nat) u, xs[j]? = some u → w.cell? ⟨g, j, none⟩ = some u := fun j u hj => by
  have := World.ownsRow.cells hown0 (g := g) rfl j u hj
  rw [hadd] at this
  simpa using this
 obtain ⟨W1, hW1⟩ : ∃ W1, W1 = w.drew.setRow g (cur.toList.take (i + 1) ++ xs.drop (i) ++ cur.toList.drop (i + 1 + (xs.drop (i)).length)).toArray := ⟨_, rfl⟩
 have hcp1 : ∀ ty dc sc, (Builtin.copy_ #[31, 31] ty #[.slice (some ⟨g, i + 1, none⟩) (n - i) dc, .slice (some ⟨g, i, none⟩) (n + 1 - i) sc]).run Tryz.prog w.drew = .ok (goInt ((n - i : Nat) : Int)) W1 := fun ty dc sc => by
  rw [hW1, show i + 1 = i + 1 by omega]
  exact run_copy_wide Tryz.prog w.drew _ _ ty 3 g (i + 1) (n - i) dc ⟨g, i, none⟩ (n + 1 - i) sc cur 3 (xs.drop (i)) 1 (n - i) Tryz.underlying31 hsz hg (by simp only [Nat.min_def]; split <;> omega) hxd
   (fun j v hj => by rw [hadd]; exact hcells _ _ (by rwa [List.getElem?_drop] at hj))
   (by rw [hxd, hcs]; omega) (fun v hv => hx1 v (List.mem_of_mem_drop hv))
 have hW1g : W1.heap[g]? = some (.cells (cur.toList.take (i + 1) ++ xs.drop (i) ++ cur.toList.drop (i + 1 + (xs.drop (i)).length)).toArray 3 (0, 0)) := by rw [hW1]; exact heap_setRow_at w.drew g _ hg
 have hW1v : W1.heap[vb]? = some (.cells vs.toArray 3 (0, 0)) := by rw [hW1, heap_setRow_other _ _ _ _ hne]; exact hvb
 have hkb1 : Kb [g] w W1 := by rw [hW1]; exact ((Kb.refl [g] w).drew).trans (Kb.setRow w.drew g _)
 obtain ⟨L1, hL1⟩ : ∃ L1 : List Value, L1 = cur.toList.take (i + 1) ++ xs.drop (i) ++ cur.toList.drop (i + 1 + (xs.drop (i)).length) := ⟨_, rfl⟩
 rw [← hL1] at hW1g hl2 ht2
 have hL1l : L1.length = cur.size := by rw [hL1]; simp only [List.length_append, List.length_take, List.length_drop, Array.length_toList, hxd, hcs]; omega
 obtain ⟨W2, hW2⟩ : ∃ W2, W2 = W1.setRow g (L1.take (i) ++ vs ++ L1.drop (i + vs.length)).toArray := ⟨_, rfl⟩
 have hcp2 : ∀ ty dc, (Builtin.copy_ #[31, 31] ty #[.slice (some ⟨g, i, none⟩) (n + 1 - i) dc, .slice (some ⟨vb, 0, none⟩) 1 1]).run Tryz.prog W1 = .ok (goInt 1) W2 := fun ty dc => by
  rw [hW2]
  have := run_copy_wide Tryz.prog W1 31 31 ty 3 g (i) (n + 1 - i) dc ⟨vb, 0, none⟩ 1 1 L1.toArray 3 vs 1 1 Tryz.underlying31 hsz hW1g (by simp only [Nat.min_def]; split <;> omega) (by rw [hvl])
   (fun j v hj => by rw [hadd, Nat.zero_add, cell_of_row _ vb j _ _ _ hW1v]; simpa using hj)
   (by rw [hvl, List.size_toArray, hL1l, hcs]; omega) h1
  simpa using this
 have hW2g : W2.ownsRow B 3 1 (.slice (some ⟨g, 0, none⟩) (n + 1) c) (n + 1) (xs.take (i) ++ vs ++ xs.drop (i)) := by
  refine ⟨by simp only [List.length_append, List.length_take, hxl, hvl, hxd]; rw [Nat.min_eq_left (by omega)]; omega, .inr ⟨g, c, (L1.take (i) ++ vs ++ L1.drop (i + vs.length)).toArray, rfl, hbg, ?_, hroom, hcm, ?_, ?_⟩⟩
  · rw [hW2]; exact heap_setRow_at W1 g _ hW1g
  · rw [List.size_toArray]; rw [hl2, Array.length_toList, hcs]
  · show List.take _ (L1.take (i) ++ vs ++ L1.drop (i + vs.length)) = _
    rw [show (n + 1) * 1 = i + 1 + (n - i) * 1 by omega, ht2]
    congr 2
    rw [← htk, List.take_take]
    congr 1; omega
 have hkb2 : Kb [g] w W2 := by rw [hW2]; exact hkb1.trans (Kb.setRow W1 g _)
 have hw1 : IntKind.i64.wrap ((i : Int) + 1) = (i : Int) + 1 := by rw [IntKind.wrap_i64]; omega
 have hb1 : (0 : Int) ≤ (i : Int) + 1 := by omega
 have htn : ((i : Int) + 1).toNat = i + 1 := by omega
 have hb2 : ¬ (c = i + 1) := by omega
 have hb3 : (i : Int) ≤ (n : Int) + 1 := by omega
 have hb4 : ¬ (c = i) := by omega
 clear hl2 ht2 htkn htk hsz hown0 hvl h1 hx1 hcs hHO hvb hxl hxd hadd hcells hW1g hW1v hkb1 hL1 hL1l hW2 hW1 hg
 go_enter Tryz.func264, Tryz.ntmps264
 go_wp2_with (simp only [hov])
 go_region_law (refine step_copy_run rfl _ _ 31 31 rfl _ _ (by simp [Act.eval, Act.put]) (by simp [Act.eval, Act.put]) (hcp1 _ _ _) ?_)
 go_wp2_with (at_builtin; refine wpList_copy_run _ rfl _ _ 31 31 rfl _ _ rfl rfl (hcp2 _ _) ?_)
 go_ret
 exact ⟨rfl, hW2g, hkb2⟩
end Go.Proofs.YtdmicblafmhflaaGreatDoor
