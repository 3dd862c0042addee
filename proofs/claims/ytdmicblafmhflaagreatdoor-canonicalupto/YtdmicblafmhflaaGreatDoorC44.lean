/- state.State.names, walked. -/
import Derived.Test.YtdmicblafmhflaaGreatDoorC43
set_option linter.unusedSimpArgs false
set_option linter.unusedVariables false
namespace Go.Proofs.YtdmicblafmhflaaGreatDoor
open Go.Shelf Go.RowKit Go.Maps
structure NmW (w1 wr : World) (v : Value) (n : Nat) (l : List ByteArray) : Prop where
 own : wr.ownsRow w1.heap.size 9 1 v n (strCells l)
 bel : Below w1.heap.size w1 wr
theorem NmW.len {w1 wr : World} {v : Value} {n : Nat} {l : List ByteArray} (h : NmW w1 wr v n l) : n = l.length := by
 have := h.own.1
 simp [strCells] at this
 omega
theorem NmW.grow {w1 w2 w4 : World} {v v4 : Value} {n p : Nat} {l m : List ByteArray} {o : Obj} (h : NmW w1 w2 v n l) (hown : w4.ownsRow w1.heap.size 9 1 v4 (n + p) (strCells l ++ strCells m)) (hgrow : (w2.alloc o).grownBy w4 v.ownBlock) : NmW w1 w4 v4 (n + p) (l ++ m) := by
 refine ⟨by simpa [strCells] using hown, ?_⟩
 exact (h.bel.alloc h.bel.size o).grown hgrow (by simp; have := h.bel.size; omega) (fun k hk => (h.own.lt k hk).1)
theorem NmW.below {w1 w2 w3 : World} {v : Value} {n : Nat} {l : List ByteArray} (h : NmW w1 w2 v n l) (hb : Below w2.heap.size w2 w3) : NmW w1 w3 v n l := ⟨ownsRow_below h.own hb, h.bel.trans (hb.mono h.bel.size)⟩
theorem sortComp_any (w1 w : World) (d : Option Addr) (n c : Nat) (l : List ByteArray) (h : NmW w1 w (.slice d n c) n l) (hl : n ≤ 1000) :
 Calls Tryz.prog 134 #[.slice d n c] w fun e w' => e = .returned (.tuple #[]) ∧ Hid (Below w1.heap.size w1 w') ∧ Hid (Calls Tryz.prog 135 #[.slice d n c] w' fun e w3 => ∃ d' c', e = .returned (.slice d' (Ex.nmB l).length c') ∧ Hid (w3.ownsRow w1.heap.size 9 1 (.slice d' (Ex.nmB l).length c') (Ex.nmB l).length (bCs (Ex.nmB l)) ∧ Below w1.heap.size w1 w3)) := by
 have hown := h.own
 have hnl := h.len
 rcases h.own.2 with ⟨e1, e2⟩ | ⟨g, cap, cur, e1, hB, hg, hc1, hc2, hc3, _⟩
 · simp only [Value.slice.injEq] at e1
   obtain ⟨rfl, rfl, rfl⟩ := e1
   have hl0 : l = [] := List.eq_nil_of_length_eq_zero hnl.symm
   subst hl0
   refine Calls.mono (AnyG.slices_Sort_string_none sortSLaid none 0 w) ?_
   rintro e w' ⟨rfl, rfl⟩
   refine ⟨rfl, h.bel, ?_⟩
   refine Calls.mono (AnyG.slices_Compact_string_empty compSLaid none 0 w') ?_
   rintro e w3 ⟨rfl, rfl⟩
   have e0 : Ex.nmB [] = [] := by
    refine List.eq_nil_iff_forall_not_mem.2 fun x hx => ?_
    have h9 := ((names_ok []).2 x).1 hx
    cases h9
   rw [e0]
   exact ⟨none, 0, rfl, World.ownsRow_nil _ _ _ _, h.bel⟩
 · simp only [Value.slice.injEq] at e1
   obtain ⟨rfl, _, rfl⟩ := e1
   rw [Ex.strB] at hown
   have hgB := hB
   have hsz := h.bel.size
   have hgl := lt_of_heap hg
   refine (sortS_any w1.heap.size w g n c _ hown (by omega)).mono ?_
   rintro e w' ⟨rfl, ho2, hk2⟩
   have hs2 := hk2.size
   have hb2 : Below w1.heap.size w1 w' := hk2.to_below h.bel hsz (by simp; omega)
   refine ⟨rfl, hb2, ?_⟩
   refine (compS_any w1.heap.size w' g n c _ ho2 (by omega) (by omega)).mono ?_
   rintro e w3 ⟨rfl, ho3, hk3⟩
   exact ⟨_, _, rfl, ho3, hk3.to_below hb2 (by omega) (by simp; omega)⟩
theorem row_get {l : List ByteArray} (hl : l.length ≤ 3) {x : Nat} {u : Value} (h : (strCells l)[x]? = some u) : [Value.string (Tb.at0 l 0), .string (Tb.at0 l 1), .string (Tb.at0 l 2)][x]? = some u := by
 rw [strCells, List.getElem?_map] at h
 obtain ⟨y, hy, rfl⟩ := Option.map_eq_some_iff.1 h
 have hlt := (List.getElem?_eq_some_iff.1 hy).1
 have e : Tb.at0 l x = y := by unfold Tb.at0; rw [List.getD_eq_getElem?_getD, hy]; rfl
 have hx : x = 0 ∨ x = 1 ∨ x = 2 := by omega
 rcases hx with rfl | rfl | rfl <;> simp [e]
set_option maxRecDepth 100000 in
set_option maxHeartbeats 4000000 in
theorem names_any (w : World) (kl : List Ax.KRule) (gv : Nat → Bool) (rd : Option Addr) (rn rc gm hm : Nat) (hd : List UInt8) (hS : StA w kl gv (.slice rd rn rc) gm hm) :
 Calls Tryz.prog 76 #[.agg (stCells (Ax.gtext kl) (.slice rd rn rc) gm hm hd)] w fun e w' => ∃ d c, e = .returned (.slice d (Ex.nms (En.leastN (En.nRules kl) gv)).length c) ∧ w'.ownsRow w.heap.size 9 1 (.slice d (Ex.nms (En.leastN (En.nRules kl) gv)).length c) (Ex.nms (En.leastN (En.nRules kl) gv)).length (strCells (Ex.nms (En.leastN (En.nRules kl) gv))) ∧ Below w.heap.size w w' := by
 obtain ⟨i0, hi0, hz0, hz1, hz2⟩ := info_parts Tryz.infoStr
 have HI : Hid (Tryz.prog.info? 9 = some i0) := hi0
 have H0 : Hid (i0.zero = some (.string ByteArray.empty)) := hz0
 have H1 : Hid (i0.size = 1) := hz1
 have H2 : Hid (i0.bytes = 16) := hz2
 clear hi0 hz0 hz1 hz2
 have HS : Hid (StA w kl gv (.slice rd rn rc) gm hm) := hS
 obtain ⟨cs, hcs⟩ : ∃ cs, cs = stCells (Ax.gtext kl) (.slice rd rn rc) gm hm hd := ⟨_, rfl⟩
 obtain ⟨w0, hw0⟩ : ∃ w0, w0 = w.alloc (.cells cs 107) := ⟨_, rfl⟩
 have hb0 : Below w.heap.size w w0 := by rw [hw0]; exact (Below.refl _ _).alloc (Nat.le_refl _) _
 have hg0 : w0.heap[w.heap.size]? = some (.cells cs 107 (0, 0)) := by rw [hw0]; exact heap_alloc_new w _
 have t0 : w0.cell? ⟨w.heap.size, 0, none⟩ = some (.string (Ax.gtext kl)) := by rw [cell_of_row _ _ _ _ _ _ hg0, hcs]; rfl
 have t1 : w0.cell? ⟨w.heap.size, 1, none⟩ = some (.slice rd rn rc) := by rw [cell_of_row _ _ _ _ _ _ hg0, hcs]; rfl
 have t3 : w0.cell? ⟨w.heap.size, 3, none⟩ = some (.map (some hm)) := by rw [cell_of_row _ _ _ _ _ _ hg0, hcs]; rfl
 have hgl0 := lt_of_heap hg0
 have HPR : Hid (Calls Tryz.prog 59 #[.agg #[.string (Ax.gtext kl), .slice rd rn rc]] w0 fun e w1 => ∃ qd qc, e = .returned (.slice qd 3 qc) ∧ w1.cell? ⟨w.heap.size, 3, none⟩ = some (.map (some hm)) ∧ Hid (w1.ownsRow w0.heap.size 112 2 (.slice qd 3 qc) 3 (predCells gQ) ∧ Below w.heap.size w w1)) := by
  refine (hS.preds w0 hb0).mono ?_
  rintro e w1 ⟨qd, qc, rfl, h1, h2⟩
  exact ⟨qd, qc, rfl, by rw [h2.cell hgl0]; exact t3, h1, hb0.trans (h2.mono hb0.size)⟩
 rw [← hcs]
 clear hcs hS hg0
 go_enter Tryz.func76, Tryz.ntmps76
 go_upto_region 2 with fail
 rw [← hw0]
 clear hw0
 go_wp2_with (go_at_call 59; refine HPR.out.mono ?_; rintro e w1 ⟨qd, qc, rfl, x3, HP1⟩)
 have HBW : Hid (Below w.heap.size w w1) := HP1.out.2
 have hwl : w.heap.size < w1.heap.size := block_lt_of_cell x3
 clear HPR t0 t1 t3 hgl0 hb0
 go_loopw [3, 12] (fun a i wr => ∃ (k n : Nat), k ≤ 3 ∧ i = .int .i64 k ∧ NmW w1 wr a n (Ex.allN (En.leastN (En.nRules kl) gv) (gQ.take k))) (fun _ i _ => 3 - (intOf i).toNat)
 case atStart => exact ⟨0, 0, Nat.zero_le _, rfl, World.ownsRow_nil _ _ _ _, Below.refl _ _⟩
 case round =>
  obtain ⟨k, n, hk, rfl, hN⟩ := hrel
  obtain ⟨ad, ac, ha0⟩ := ownsRow_shape hN.own
  subst ha0
  have hn9 : n ≤ 324 := by
   rw [hN.len]
   refine Nat.le_trans (Ex.allN_len _ _) ?_
   rw [List.length_take]
   have : gQ.length = 3 := rfl
   omega
  obtain ⟨wA, rfl⟩ : ∃ x, x = wr := ⟨_, rfl⟩
  have hwA : Below w.heap.size w wA := HBW.out.trans (hN.bel.mono HBW.out.size)
  have x3A : wA.cell? ⟨w.heap.size, 3, none⟩ = some (.map (some hm)) := by rw [hN.bel.cell hwl]; exact x3
  have hwlA : w.heap.size < wA.heap.size := block_lt_of_cell x3A
  by_cases hlt : k < 3
  · have hlq : k < gQ.length := hlt
    obtain ⟨g2, rfl, hg2, hc2, hcs⟩ := row_cells (ownsRow_below HP1.out.1 hN.bel) (by omega)
    have c0 := hcs _ _ (predCells_get gQ k hlq).1
    have c1 := hcs _ _ (predCells_get gQ k hlq).2
    have hpm : gQ[k] ∈ gQ := List.getElem_mem hlq
    obtain ⟨ug, hA⟩ := HS.out.hol _ hpm
    have HSU : Hid (Ex.allN (En.leastN (En.nRules kl) gv) (gQ.take (k + 1)) = Ex.allN (En.leastN (En.nRules kl) gv) (gQ.take k) ++ (holdP (En.leastN (En.nRules kl) gv) (gQ[k]).1).flatMap fun j => (dat j).2) := by
     have e0 : gQ.take (k + 1) = gQ.take k ++ [gQ[k]] := by rw [List.take_add_one, List.getElem?_eq_getElem hlq]; rfl
     have e1 : Ex.allN (En.leastN (En.nRules kl) gv) (gQ.take (k + 1)) = Ex.allN (En.leastN (En.nRules kl) gv) (gQ.take k) ++ (holdP (En.leastN (En.nRules kl) gv) (gQ[k]).1).flatMap fun j => (dat j).2 := by unfold Ex.allN; rw [e0, List.flatMap_append, List.flatMap_singleton]
     exact e1
    have HPM : Hid (∀ j, j ∈ holdP (En.leastN (En.nRules kl) gv) (gQ[k]).1 → (dat j).2.length = (gQ[k]).2) := by
     intro j hj
     obtain ⟨h1, _, h3⟩ := mem_holdP.1 hj
     have h4 := dat_pr h1
     rw [h3] at h4
     exact gPr_pl h4 (gQ_mem hpm)
    have hpp : (gQ[k]).2 ≤ 3 := by
     have : ∀ q, q ∈ gQ → q.2 ≤ 3 := by unfold gQ; decide
     exact this _ hpm
    generalize gQ[k] = p at c0 c1 hA HSU HPM hpp
    obtain ⟨pn, pp⟩ := p
    simp only at c0 c1 hA HSU HPM hpp
    have hug : ug < wA.heap.size := Nat.lt_of_lt_of_le hA.lt hwA.size
    obtain ⟨wP, hwP⟩ : ∃ wP, wP = wA.alloc (.cells #[.string pn, .int .i64 (pp : Nat)] 112) := ⟨_, rfl⟩
    have hbP : Below wA.heap.size wA wP := by rw [hwP]; exact (Below.refl _ _).alloc (Nat.le_refl _) _
    have hgP : wP.heap[wA.heap.size]? = some (.cells #[.string pn, .int .i64 (pp : Nat)] 112 (0, 0)) := by rw [hwP]; exact heap_alloc_new wA _
    have p0 : wP.cell? ⟨wA.heap.size, 0, none⟩ = some (.string pn) := by rw [cell_of_row _ _ _ _ _ _ hgP]; rfl
    have p3 : wP.cell? ⟨w.heap.size, 3, none⟩ = some (.map (some hm)) := by rw [hbP.cell hwlA]; exact x3A
    have hwP' : Below w.heap.size w wP := hwA.trans (hbP.mono hwA.size)
    have hlk := hA.look wP hwP'
    have hugP : ug < wP.heap.size := Nat.lt_of_lt_of_le hug hbP.size
    generalize hjs : holdP (En.leastN (En.nRules kl) gv) pn = js at HSU HPM
    have HRW : Hid (Calls Tryz.prog 133 #[.pointer (some ⟨ug, 0, none⟩)] wP fun e w3 => ∃ xd xc, e = .returned (.slice xd js.length xc) ∧ Hid (w3.ownsRow wP.heap.size 119 3 (.slice xd js.length xc) js.length (rowCells (js.map fun j => Tb.row3 (dat j).2)) ∧ NmW w1 w3 (.slice ad n ac) n (Ex.allN (En.leastN (En.nRules kl) gv) (gQ.take k)) ∧ w3.heap[wA.heap.size]? = some (.cells #[.string pn, .int .i64 (pp : Nat)] 112 (0, 0)))) := by
     refine (hA.rows wP hwP').mono ?_
     rintro e w3 ⟨xd, xc, rfl, q1, q2⟩
     rw [hjs] at q1 ⊢
     exact ⟨xd, xc, rfl, q1, (hN.below hbP).below q2, by rw [q2.block _ (lt_of_heap hgP)]; exact hgP⟩
    have hjl : js.length ≤ 36 := by
     rw [← hjs]
     unfold holdP
     exact Nat.le_trans (List.length_filter_le _ _) (by simp)
    clear hcs hA hjs hN hwA hgP hpm hwP' hbP HP1
    go_upto_region 5 with fail
    rw [← hwP]
    clear hwP
    go_wp2_with (go_at_call 133; refine HRW.out.mono ?_; rintro e w3 ⟨xd, xc, rfl, H3⟩)
    clear HRW hlk p0 p3 c0 c1
    generalize Ex.allN (En.leastN (En.nRules kl) gv) (gQ.take k) = base at H3 HSU
    go_loopw [3, 25] (fun a i w4 => ∃ (q m : Nat), q ≤ js.length ∧ i = .int .i64 q ∧ NmW w1 w4 a m (base ++ (js.take q).flatMap fun j => (dat j).2) ∧ Lib.OthersKept 9 none w3 w4) (fun _ i _ => js.length - (intOf i).toNat)
    case atStart => exact ⟨0, n, Nat.zero_le _, rfl, by simpa using H3.out.2.1, Lib.OthersKept.refl _ _ _⟩
    case round =>
     obtain ⟨q, m, hq, rfl, hN4, ho4⟩ := hrel
     obtain ⟨bd, bc, hb0⟩ := ownsRow_shape hN4.own
     subst hb0
     have HN4 : Hid (NmW w1 wr (.slice bd m bc) m (base ++ (js.take q).flatMap fun j => (dat j).2)) := hN4
     have HO4 : Hid (Lib.OthersKept 9 none w3 wr) := ho4
     have hblk : wr.heap[wA.heap.size]? = some (.cells #[.string pn, .int .i64 (pp : Nat)] 112 (0, 0)) := ho4 _ _ H3.out.2.2 (by simp) (fun c fz e => by simp at e)
     have y1 : wr.cell? ⟨wA.heap.size, 1, none⟩ = some (.int .i64 (pp : Nat)) := by rw [cell_of_row _ _ _ _ _ _ hblk]; rfl
     have hbl := lt_of_heap hblk
     by_cases hlj : q < js.length
     · have hrow := ownsRow_others H3.out.1 ho4 (by decide)
       obtain ⟨g3, rfl, hg3, hc3, hcs3⟩ := row_cells hrow (by omega)
       have h3 : Three (js.map fun j => Tb.row3 (dat j).2) := fun r hr => by
        obtain ⟨j, _, rfl⟩ := List.mem_map.1 hr
        rfl
       obtain ⟨r0, r1, r2⟩ := rowCells_get h3 (k := q) (by simpa using hlj) (a := Tb.at0 (dat js[q]).2 0) (b := Tb.at0 (dat js[q]).2 1) (c := Tb.at0 (dat js[q]).2 2) (by rw [List.getElem_map]; rfl)
       have z0 := hcs3 _ _ r0
       have z1 := hcs3 _ _ r1
       have z2 := hcs3 _ _ r2
       have HNX : Hid (base ++ (js.take (q + 1)).flatMap (fun j => (dat j).2) = base ++ (js.take q).flatMap (fun j => (dat j).2) ++ (dat js[q]).2) := by
        have e0 : js.take (q + 1) = js.take q ++ [js[q]] := by rw [List.take_add_one, List.getElem?_eq_getElem hlj]; rfl
        have e1 : base ++ (js.take (q + 1)).flatMap (fun j => (dat j).2) = base ++ (js.take q).flatMap (fun j => (dat j).2) ++ (dat js[q]).2 := by rw [e0, List.flatMap_append]; simp
        exact e1
       have hdl : (dat js[q]).2.length = pp := HPM.out _ (List.getElem_mem hlj)
       have hd2 := dat_len js[q]
       have hm9 : m ≤ 100000 := by
        have h8 := hN4.len
        rw [List.length_append] at h8
        have h7 := H3.out.2.1.len
        have h6 : ∀ l : List Nat, (l.flatMap fun j => (dat j).2).length ≤ 3 * l.length := by
         intro l
         induction l with
         | nil => simp
         | cons a l ih =>
          rw [List.flatMap_cons, List.length_append, List.length_cons]
          have := dat_len a
          omega
        have h5 := h6 (js.take q)
        rw [List.length_take] at h5
        omega
       have HNW : Hid (∀ (x : Nat) u, (strCells (dat js[q]).2)[x]? = some u → (wr.alloc (.cells #[.string (Tb.at0 (dat js[q]).2 0), .string (Tb.at0 (dat js[q]).2 1), .string (Tb.at0 (dat js[q]).2 2)] 119)).cell? ((⟨wr.heap.size, 0, none⟩ : Addr).add x) = some u) := by
        intro x u hu
        rw [Addr.add_lit, cell_of_row _ _ _ _ _ _ (heap_alloc_new wr _)]
        have h8 := row_get (by omega) hu
        simpa using h8
       have hown := hN4.own
       have hswr : w1.heap.size ≤ wr.heap.size := hN4.bel.size
       generalize Tb.at0 (dat js[q]).2 0 = s0 at *
       generalize Tb.at0 (dat js[q]).2 1 = s1 at *
       generalize Tb.at0 (dat js[q]).2 2 = s2 at *
       generalize (dat js[q]).2 = dl at *
       have hdl1 : (strCells dl).length = pp * 1 := by simp [strCells, hdl]
       have hdl2 : ∀ u ∈ strCells dl, u.oneCell' = true := by
        intro u hu
        obtain ⟨x, _, rfl⟩ := List.mem_map.1 hu
        rfl
       have b1 : (0 : Int) ≤ (pp : Int) := by omega
       have b2 : (pp : Int) ≤ 3 := by omega
       clear hcs3 hrow r0 r1 r2 h3 hN4 ho4 hblk
       go_wp2_with (at_builtin; go_must (refine wpList_append_own _ rfl (.tmp 29) (.tmp 32) 46 rfl w1.heap.size 9 i0 _ 1 16 Tryz.underlying46 HI.out H0.out H1.out H2.out rfl (by decide) _ _ _ rfl (hown.alloc _) ⟨wr.heap.size, 0, none⟩ pp 3 (strCells dl) rfl hdl1 HNW.out hdl2 (by unfold maxLen; omega) (by omega) (by simp; omega) ?_; intro v5 w5 hown5 hgrow5 _))
       have ho5 := (HO4.out.alloc _).grown hgrow5 (ownsRow_kind (hown.alloc _))
       have hN5 := HN4.out.grow hown5 hgrow5
       rw [← HNX.out] at hN5
       go_roundw
       case rel => exact ⟨q + 1, m + pp, hlj, by go_num, hN5, ho5⟩
       case measure => simp [intOf]; omega
     · have HE : Hid (NmW w1 wr (.slice bd m bc) m (Ex.allN (En.leastN (En.nRules kl) gv) (gQ.take (k + 1)))) := by
        rw [HSU.out]
        have e : js.take q = js := List.take_of_length_le (by omega)
        rw [e] at hN4
        exact hN4
       clear hN4 ho4 HN4
       go_wp2_with fail
       go_roundw
       case rel => exact ⟨k + 1, m, by omega, by go_num, HE.out⟩
       case measure => simp [intOf]; omega
  · have hke : k = 3 := by omega
    subst hke
    have HN9 : Hid (Calls Tryz.prog 134 #[.slice ad n ac] wA fun e w' => e = .returned (.tuple #[]) ∧ Hid (Below w1.heap.size w1 w') ∧ Hid (Calls Tryz.prog 135 #[.slice ad n ac] w' fun e w3 => ∃ d' c', e = .returned (.slice d' (Ex.nms (En.leastN (En.nRules kl) gv)).length c') ∧ Hid (w3.ownsRow w1.heap.size 9 1 (.slice d' (Ex.nms (En.leastN (En.nRules kl) gv)).length c') (Ex.nms (En.leastN (En.nRules kl) gv)).length (strCells (Ex.nms (En.leastN (En.nRules kl) gv))) ∧ Below w1.heap.size w1 w3))) := by
     have h9 := sortComp_any w1 wA ad n ac _ hN (by omega)
     have e1 : (Ex.nms (En.leastN (En.nRules kl) gv)).length = (Ex.nmB (Ex.allN (En.leastN (En.nRules kl) gv) (gQ.take 3))).length := by unfold Ex.nms; rw [List.length_map]; rfl
     have e2 : strCells (Ex.nms (En.leastN (En.nRules kl) gv)) = bCs (Ex.nmB (Ex.allN (En.leastN (En.nRules kl) gv) (gQ.take 3))) := by unfold Ex.nms; rw [Ex.strN]; rfl
     rw [e1, e2]
     exact h9
    clear hN hwA x3A x3
    go_wp2_with (first | (go_at_call 134; refine HN9.out.mono ?_; rintro e w5 ⟨rfl, HB5, HC5⟩) | (go_at_call 135; refine HC5.out.mono ?_; rintro e w6 ⟨d', c', rfl, H6⟩))
    go_ret
    exact ⟨d', c', rfl, ownsRow_base H6.out.1 HBW.out.size, HBW.out.trans (H6.out.2.mono HBW.out.size)⟩
end Go.Proofs.YtdmicblafmhflaaGreatDoor
