/- Engine.row. -/
import Derived.Test.YtdmicblafmhflaaGreatDoorC35
import Derived.Maps.OwnSet
import Derived.Deep.MidRow
set_option linter.unusedSimpArgs false
set_option linter.unusedVariables false
namespace Go.Proofs.YtdmicblafmhflaaGreatDoor
open Go.RowKit Go.Maps Go.WideMaps Go.WideElems
theorem PMap.lookOk {w : World} {mb : Nat} {m : List (ByteArray × Nat)} (h : PMap w mb m) {p : ByteArray} {g : Nat} (hl : Ax.look m p = some g) (hp : p.size ≤ 1000000) {t e : TypeId} (ht : Tryz.prog.underlying t = some (.map 9 e)) (hz : (zeroValue e).run Tryz.prog w = .ok (.pointer none) w) :
 (Instr.lookup t (.map (some mb)) (.string p) true).run Tryz.prog w = .ok (.tuple #[.pointer (some ⟨g, 0, none⟩), .bool true]) w := by
 obtain ⟨n, D, hown, hn, hD⟩ := h.has
 obtain ⟨v, ps, hrun, hv⟩ := hown.look_ok Tryz.lawStr ht hz (zd := .lit (.int .i64 (-1))) (zp := []) rfl (key := .string p) (kl := litOf p) (keyOf_string_mk Tryz.underlying9 (by unfold maxLen; omega))
 rw [(hD p).2 g hl] at hv
 have hh := (hD p).1
 rw [hl] at hh
 rw [hrun, ptrElem_inv hv, hh]
 rfl
set_option maxRecDepth 100000 in
set_option maxHeartbeats 2000000 in
theorem erow_any (w : World) (eg hm g pl : Nat) (m : List (ByteArray × Nat)) (p : ByteArray) (names : List ByteArray) (av : Value) (hc3 : w.cell? ⟨eg, 3, none⟩ = some (.map (some hm))) (hM : PMap w hm m) (hl : Ax.look m p = some g) (hp : p.size ≤ 1000000)
 (hc : w.cell? ⟨g, 1, none⟩ = some (.int .i64 pl)) (hv : w.ownsRow 0 9 1 av names.length (strCells names)) (hlen : names.length = pl) (h3 : names.length ≤ 3) (hn : ∀ a, a ∈ names → Ax.isName a = true) (hs : ∀ a, a ∈ names → a.size ≤ 1000) (hT : UTabs w) :
 Calls Tryz.prog 41 #[.pointer (some ⟨eg, 0, none⟩), .agg #[.string p, av]] w fun e w' => e = .returned (.tuple #[.agg (Tb.row3V names), .bool true]) ∧ Below w.heap.size w w' := by
 subst hlen
 obtain ⟨ad, ac, hav⟩ := ownsRow_shape hv
 subst hav
 obtain ⟨w0, hw0⟩ : ∃ w0, w0 = (w.alloc (.cells #[.string p, .slice ad names.length ac] 48)).alloc (.cells #[.string ⟨#[]⟩, .string ⟨#[]⟩, .string ⟨#[]⟩] 119) := ⟨_, rfl⟩
 have hb0 : Below w.heap.size w w0 := by rw [hw0]; exact ((Below.refl _ _).alloc (Nat.le_refl _) _).alloc (by simp) _
 have hg0 : w0.heap[w.heap.size]? = some (.cells #[.string p, .slice ad names.length ac] 48 (0, 0)) := by rw [hw0, Below.heap_alloc _ _ _ (by simp)]; exact heap_alloc_new w _
 have hg1 : w0.heap[w.heap.size + 1]? = some (.cells #[.string ⟨#[]⟩, .string ⟨#[]⟩, .string ⟨#[]⟩] 119 (0, 0)) := by rw [hw0]; exact new2 w _ _
 have t0 : w0.cell? ⟨w.heap.size, 0, none⟩ = some (.string p) := by rw [cell_of_row _ _ _ _ _ _ hg0]; rfl
 have t1 : w0.cell? ⟨w.heap.size, 1, none⟩ = some (.slice ad names.length ac) := by rw [cell_of_row _ _ _ _ _ _ hg0]; rfl
 have e3 : w0.cell? ⟨eg, 3, none⟩ = some (.map (some hm)) := by rw [hb0.cell (block_lt_of_cell hc3)]; exact hc3
 have hlk : ∀ W : World, Below w.heap.size w W → (Instr.lookup 103 (.map (some hm)) (.string p) true).run Tryz.prog W = .ok (.tuple #[.pointer (some ⟨g, 0, none⟩), .bool true]) W := fun W hW => (hM.below hW).lookOk hl hp Tryz.underlying103 (Tryz.zeroValue97 W)
 have hlk1 := hlk w0.drew hb0.drew
 have HRO : Hid (∀ W, Below w0.heap.size w0 W → Calls Tryz.prog 74 #[.pointer (some ⟨g, 0, none⟩), .slice ad names.length ac] W fun e w5 => e = .returned (.tuple #[.agg (Tb.row3V names), .bool true]) ∧ Hid (Below w.heap.size w w5 ∧ w5.heap[w.heap.size + 1]? = some (.cells #[.string ⟨#[]⟩, .string ⟨#[]⟩, .string ⟨#[]⟩] 119 (0, 0))) ∧ w5.cell? ⟨w.heap.size, 1, none⟩ = some (.slice ad names.length ac) ∧
  (∀ o, o < 3 → (w5.cell? ⟨w.heap.size + 1, o, none⟩) = some (.string ⟨#[]⟩)) ∧ ∀ o, w5.frozen? ⟨w.heap.size + 1, o, none⟩ = false) := by
  intro W hW
  have hbW : Below w.heap.size w W := hb0.trans (hW.mono hb0.size)
  refine (row_any W g names.length names _ (by rw [hbW.cell (block_lt_of_cell hc)]; exact hc) (ownsRow_below hv hbW) rfl h3 hn hs (Utf8Tabs_below hT hbW)).mono ?_
  rintro e w5 ⟨rfl, hb⟩
  have hb5 : Below w0.heap.size w0 w5 := hW.trans (hb.mono hW.size)
  have h5 : w5.heap[w.heap.size + 1]? = some (.cells #[.string ⟨#[]⟩, .string ⟨#[]⟩, .string ⟨#[]⟩] 119 (0, 0)) := by rw [hb5.block _ (lt_of_heap hg1)]; exact hg1
  refine ⟨rfl, ⟨hb0.trans (hb5.mono hb0.size), h5⟩, by rw [hb5.cell (block_lt_of_cell t1)]; exact t1, ?_, ?_⟩
  · intro o ho
    rw [cell_of_row _ _ _ _ _ _ h5]
    match o, ho with
    | 0, _ => rfl
    | 1, _ => rfl
    | 2, _ => rfl
  · intro o
    simp [World.frozen?, h5]
 have hegl := block_lt_of_cell hc3
 have hgl := block_lt_of_cell hc
 have hrow : Tb.row3V names = #[.string (Tb.at0 names 0), .string (Tb.at0 names 1), .string (Tb.at0 names 2)] := rfl
 rw [hrow] at HRO ⊢
 generalize Tb.at0 names 0 = x0 at HRO ⊢
 generalize Tb.at0 names 1 = x1 at HRO ⊢
 generalize Tb.at0 names 2 = x2 at HRO ⊢
 clear hlk hM hv hn hs hT hc3 hc hg0 hrow hg1
 go_enter Tryz.func41, Tryz.ntmps41
 go_wp2_with fail
 rw [← hw0]
 clear hw0
 go_region
 go_wp2_with fail
 go_region_held3 (fun w' => w'.cell? ⟨w.heap.size, 1, none⟩ = some (.slice ad names.length ac)) (go_keep) ((go_at_call 74; refine (HRO.out _ (by exact (Below.refl _ _).drew.drew)).mono ?_; rintro e w5 ⟨rfl, HR5, d1, dc, df⟩; have d00 := dc 0 (by omega); have d01 := dc 1 (by omega); have d02 := dc 2 (by omega); have df0 := df 0; have df1 := df 1; have df2 := df 2))
 all_goals
  go_wp2_with fail
  refine bodyPost_ret (v := .tuple #[.agg #[.string x0, .string x1, .string x2], .bool true]) ?_ rfl ⟨rfl, ((HR5.out.1.setCell (p := ⟨w.heap.size + 1, 0, none⟩) (by simp) _).setCell (p := ⟨w.heap.size + 1, 1, none⟩) (by simp) _).setCell (p := ⟨w.heap.size + 1, 2, none⟩) (by simp) _⟩
  refine Eq.trans (results_cell_row_tmp rfl _ _ _ _ _ _ _ rfl (stores3 HR5.out.2 _ _ _) Tryz.underlying119 rfl (by kernel_rfl)) ?_
  rfl
end Go.Proofs.YtdmicblafmhflaaGreatDoor
/- Engine.Ask. -/
namespace Go.Proofs.YtdmicblafmhflaaGreatDoor
open Go.RowKit Go.Maps
theorem row3_agg (names : List ByteArray) : Tb.row3V names = #[.string (Tb.at0 names 0), .string (Tb.at0 names 1), .string (Tb.at0 names 2)] := rfl
structure AskT (w w' : World) : Prop where
 blk : w'.heap[w.heap.size + 1]? = some (.cells #[.bool false, .bool false, .int .i64 0] 52 (0, 0))
 c0 : w'.cell? ⟨w.heap.size + 1, 0, none⟩ = some (.bool false)
 c1 : w'.cell? ⟨w.heap.size + 1, 1, none⟩ = some (.bool false)
 c2 : w'.cell? ⟨w.heap.size + 1, 2, none⟩ = some (.int .i64 0)
 fz : ∀ o, w'.frozen? ⟨w.heap.size + 1, o, none⟩ = false
theorem askT {w w2 w' : World} (h : w2.heap[w.heap.size + 1]? = some (.cells #[.bool false, .bool false, .int .i64 0] 52 (0, 0))) (hb : Below w2.heap.size w2 w') : AskT w w' := by
 have h2 : w'.heap[w.heap.size + 1]? = some (.cells #[.bool false, .bool false, .int .i64 0] 52 (0, 0)) := by rw [hb.block _ (lt_of_heap h)]; exact h
 exact ⟨h2, by rw [cell_of_row _ _ _ _ _ _ h2]; rfl, by rw [cell_of_row _ _ _ _ _ _ h2]; rfl, by rw [cell_of_row _ _ _ _ _ _ h2]; rfl, fun o => by simp [World.frozen?, h2]⟩
set_option maxRecDepth 100000 in
set_option maxHeartbeats 4000000 in
theorem ask_any (w : World) (eg gm hm : Nat) (G : List GT) (T : List HT) (s : En.Sea En.Fct) (t : GT) (u : HT) (p : ByteArray) (names : List ByteArray) (av : Value) (hc2 : w.cell? ⟨eg, 2, none⟩ = some (.map (some gm))) (hc3 : w.cell? ⟨eg, 3, none⟩ = some (.map (some hm)))
 (hG : GAt w gm G) (hH : HAt w hm T s) (ht : t ∈ G) (hu : u ∈ T) (htp : t.nm = p) (hup : u.nm = p) (hp : p.size ≤ 1000000) (htl : t.L.length ≤ 999999) (hul : u.L.length ≤ 999999)
 (hv : w.ownsRow 0 9 1 av names.length (strCells names)) (hlen : names.length = u.pl) (h3 : names.length ≤ 3) (hn : ∀ a, a ∈ names → Ax.isName a = true) (hs : ∀ a, a ∈ names → a.size ≤ 1000) (hT : UTabs w) :
 Calls Tryz.prog 21 #[.pointer (some ⟨eg, 0, none⟩), .agg #[.string p, av]] w fun e w' => e = .returned (.tuple #[.agg #[.bool (Tb.inB t.L (Tb.row3 names)), .bool (Tb.inB u.L (Tb.row3 names)), .int .i64 (Tb.cntOf u.L u.C (Tb.row3 names) : Nat)], .int .i64 0]) ∧ Below w.heap.size w w' := by
 obtain ⟨ad, ac, hav⟩ := ownsRow_shape hv
 subst hav
 obtain ⟨w0, hw0⟩ : ∃ w0, w0 = (w.alloc (.cells #[.string p, .slice ad names.length ac] 48)).alloc (.cells #[.bool false, .bool false, .int .i64 0] 52) := ⟨_, rfl⟩
 have hb0 : Below w.heap.size w w0 := by rw [hw0]; exact ((Below.refl _ _).alloc (Nat.le_refl _) _).alloc (by simp) _
 have hg0 : w0.heap[w.heap.size]? = some (.cells #[.string p, .slice ad names.length ac] 48 (0, 0)) := by rw [hw0, Below.heap_alloc _ _ _ (by simp)]; exact heap_alloc_new w _
 have hg1 : w0.heap[w.heap.size + 1]? = some (.cells #[.bool false, .bool false, .int .i64 0] 52 (0, 0)) := by rw [hw0]; exact new2 w _ _
 have t0 : w0.cell? ⟨w.heap.size, 0, none⟩ = some (.string p) := by rw [cell_of_row _ _ _ _ _ _ hg0]; rfl
 have t1 : w0.cell? ⟨w.heap.size, 1, none⟩ = some (.slice ad names.length ac) := by rw [cell_of_row _ _ _ _ _ _ hg0]; rfl
 have hlkg : ∀ W : World, Below w.heap.size w W → (Instr.lookup 102 (.map (some gm)) (.string p) false).run Tryz.prog W = .ok (.pointer (some ⟨t.g, 0, none⟩)) W := fun W hW => (hG.below hW).map.look (by rw [← htp]; exact glook_key hG.names ht) hp Tryz.underlying102 (Tryz.zeroValue122 W)
 have hulk : Ax.look (T.map HT.pk) p = some u.g := by rw [← hup]; exact look_key hH.names hu
 have hlkh : ∀ W : World, Below w.heap.size w W → (Instr.lookup 103 (.map (some hm)) (.string p) false).run Tryz.prog W = .ok (.pointer (some ⟨u.g, 0, none⟩)) W := fun W hW => (hH.below hW).map.look hulk hp Tryz.underlying103 (Tryz.zeroValue97 W)
 have huT := (hH.tabs u hu).tab
 have hro := erow_any w0 eg hm u.g u.pl (T.map HT.pk) p names _ (by rw [hb0.cell (block_lt_of_cell hc3)]; exact hc3) (hH.map.below hb0) hulk hp (huT.below hb0).cell2.2.2.1 (ownsRow_below hv hb0) hlen h3 hn hs (Utf8Tabs_below hT hb0)
 rw [row3_agg] at hro
 have hr3 : Tb.row3 names = [Tb.at0 names 0, Tb.at0 names 1, Tb.at0 names 2] := rfl
 rw [hr3]
 generalize Tb.at0 names 0 = x0 at hro ⊢
 generalize Tb.at0 names 1 = x1 at hro ⊢
 generalize Tb.at0 names 2 = x2 at hro ⊢
 have HLG : Hid (∀ W : World, Below w.heap.size w W → (Instr.lookup 102 (.map (some gm)) (.string p) false).run Tryz.prog W = .ok (.pointer (some ⟨t.g, 0, none⟩)) W) := hlkg
 have HLH : Hid (∀ W : World, Below w.heap.size w W → (Instr.lookup 103 (.map (some hm)) (.string p) false).run Tryz.prog W = .ok (.pointer (some ⟨u.g, 0, none⟩)) W) := hlkh
 have HGA : Hid (∀ W, Below w.heap.size w W → Calls Tryz.prog 42 #[.pointer (some ⟨t.g, 0, none⟩), .agg #[.string x0, .string x1, .string x2]] W fun e w' => e = .returned (.bool (Tb.inB t.L [x0, x1, x2])) ∧ Below W.heap.size W w') := fun W hW => has_any W t.g _ _ _ _ _ _ _ x0 x1 x2 ((hG.tabs t ht).below hW) htl
 have HHA : Hid (∀ W, Below w.heap.size w W → Calls Tryz.prog 42 #[.pointer (some ⟨u.g, 0, none⟩), .agg #[.string x0, .string x1, .string x2]] W fun e w' => e = .returned (.bool (Tb.inB u.L [x0, x1, x2])) ∧ Below W.heap.size W w') := fun W hW => has_any W u.g _ _ _ _ _ _ _ x0 x1 x2 (huT.below hW) hul
 have HCO : Hid (∀ W, Below w.heap.size w W → Calls Tryz.prog 43 #[.pointer (some ⟨u.g, 0, none⟩), .agg #[.string x0, .string x1, .string x2]] W fun e w' => e = .returned (.int .i64 (Tb.cntOf u.L u.C [x0, x1, x2] : Nat)) ∧ Below W.heap.size W w') := fun W hW => count_any W u.g _ _ _ _ _ _ _ _ x0 x1 x2 ((hH.tabs u hu).below hW) hul
 generalize Tb.inB t.L [x0, x1, x2] = b0 at HGA ⊢
 generalize Tb.inB u.L [x0, x1, x2] = b1 at HHA ⊢
 generalize Tb.cntOf u.L u.C [x0, x1, x2] = n1 at HCO ⊢
 have e2 : ∀ W : World, Below w.heap.size w W → W.cell? ⟨eg, 2, none⟩ = some (.map (some gm)) := fun W hW => by rw [hW.cell (block_lt_of_cell hc2)]; exact hc2
 have e3 : ∀ W : World, Below w.heap.size w W → W.cell? ⟨eg, 3, none⟩ = some (.map (some hm)) := fun W hW => by rw [hW.cell (block_lt_of_cell hc3)]; exact hc3
 have HRO : Hid (Calls Tryz.prog 41 #[.pointer (some ⟨eg, 0, none⟩), .agg #[.string p, .slice ad names.length ac]] w0 fun e w1 => e = .returned (.tuple #[.agg #[.string x0, .string x1, .string x2], .bool true]) ∧ Hid (Below w0.heap.size w0 w1)) := hro.mono (fun e w1 ⟨a, b⟩ => ⟨a, b⟩)
 have hegl := block_lt_of_cell hc2
 have htg : t.g < w.heap.size := lt_of_heap (TabAt.blk (hG.tabs t ht))
 have hug : u.g < w.heap.size := lt_of_heap huT.blk
 have hgu : t.g ≠ u.g := fun e => by
  have h7 := TabAt.blk (hG.tabs t ht)
  have h8 := huT.blk
  rw [e, h8] at h7
  simp at h7
 have HB0 : Hid (Below w.heap.size w w0) := hb0
 have HG1 : Hid (w0.heap[w.heap.size + 1]? = some (.cells #[.bool false, .bool false, .int .i64 0] 52 (0, 0))) := hg1
 have HE2 : Hid _ := e2
 have HE3 : Hid _ := e3
 generalize t.g = tg at *
 generalize u.g = ug at *
 clear hlkg hlkh hr3 hro hlen htp hup hG hH ht hu huT hulk hv hn hs hT hc2 hc3 htl hul hg0 hg1 hb0 h3 e2 e3
 go_enter Tryz.func21, Tryz.ntmps21
 go_wp2_with fail
 rw [← hw0]
 clear hw0
 refine HRO.out.mono ?_
 rintro e w1 ⟨rfl, HB1⟩
 go_wp2_with fail
 have hb1 := HB1.out
 have hb01 : Below w.heap.size w w1 := HB0.out.trans (hb1.mono HB0.out.size)
 obtain ⟨w2, hw2⟩ : ∃ w2, w2 = w1.alloc (.cells #[.string x0, .string x1, .string x2] 119) := ⟨_, rfl⟩
 have hb2 : Below w.heap.size w w2 := by rw [hw2]; exact hb01.alloc hb01.size _
 have hb02 : Below w0.heap.size w0 w2 := by rw [hw2]; exact hb1.alloc hb1.size _
 have hrb : w2.heap[w1.heap.size]? = some (.cells #[.string x0, .string x1, .string x2] 119 (0, 0)) := by rw [hw2]; exact heap_alloc_new w1 _
 have r0 : w2.cell? ⟨w1.heap.size, 0, none⟩ = some (.string x0) := by rw [cell_of_row _ _ _ _ _ _ hrb]; rfl
 have r1 : w2.cell? ⟨w1.heap.size, 1, none⟩ = some (.string x1) := by rw [cell_of_row _ _ _ _ _ _ hrb]; rfl
 have r2 : w2.cell? ⟨w1.heap.size, 2, none⟩ = some (.string x2) := by rw [cell_of_row _ _ _ _ _ _ hrb]; rfl
 have p0 : w2.cell? ⟨w.heap.size, 0, none⟩ = some (.string p) := by rw [hb02.cell (block_lt_of_cell t0)]; exact t0
 have HTR : Hid (w2.heap[w.heap.size + 1]? = some (.cells #[.bool false, .bool false, .int .i64 0] 52 (0, 0))) := by
  have := HG1.out
  rw [← hb02.block _ (lt_of_heap this)] at this
  exact this
 have c2 := HE2.out w2 hb2
 have c3 := HE3.out w2 hb2
 have l1 := HLG.out w2.drew hb2.drew
 have l2 := HLH.out w2.drew hb2.drew
 have HB2 : Hid (Below w.heap.size w w2) := hb2
 rw [← hw2]
 have hrl : w.heap.size + 1 < w1.heap.size := by
  have h9 := lt_of_heap HG1.out
  have h8 := hb1.size
  omega
 have hrn : w1.heap.size ≠ w.heap.size + 1 := by omega
 have hrn2 : w.heap.size + 1 ≠ w1.heap.size := by omega
 generalize w1.heap.size = rb at *
 clear hw2 hb1 hb01 hb02 hrb t0 t1 hb2 HB1 HRO
 obtain ⟨hbf, hbt, hbu⟩ : ∃ f : Nat → Bool, Hid (f tg = b0) ∧ Hid (f ug = b1) := ⟨fun g => if g = tg then b0 else b1, (if_pos rfl : (if tg = tg then b0 else b1) = b0), (if_neg (fun e => hgu e.symm) : (if ug = tg then b0 else b1) = b1)⟩
 have HAS : Hid (∀ W g, (g = tg ∨ g = ug) → Below w2.heap.size w2 W → Calls Tryz.prog 42 #[.pointer (some ⟨g, 0, none⟩), .agg #[.string x0, .string x1, .string x2]] W fun e w' => e = .returned (.bool (hbf g)) ∧ Below w2.heap.size w2 w' ∧ w'.cell? ⟨rb, 0, none⟩ = some (.string x0) ∧ w'.cell? ⟨rb, 1, none⟩ = some (.string x1) ∧ w'.cell? ⟨rb, 2, none⟩ = some (.string x2) ∧ AskT w w') := by
  intro W g hg hW
  have hh : Calls Tryz.prog 42 #[.pointer (some ⟨g, 0, none⟩), .agg #[.string x0, .string x1, .string x2]] W fun e w' => e = .returned (.bool (hbf g)) ∧ Below W.heap.size W w' := by
   rcases hg with rfl | rfl
   · rw [hbt.out]; exact HGA.out W (HB2.out.trans (hW.mono HB2.out.size))
   · rw [hbu.out]; exact HHA.out W (HB2.out.trans (hW.mono HB2.out.size))
  refine hh.mono ?_
  rintro e w' ⟨rfl, hb⟩
  have hb' : Below w2.heap.size w2 w' := hW.trans (hb.mono hW.size)
  exact ⟨rfl, hb', by rw [hb'.cell (block_lt_of_cell r0)]; exact r0, by rw [hb'.cell (block_lt_of_cell r1)]; exact r1, by rw [hb'.cell (block_lt_of_cell r2)]; exact r2, askT HTR.out hb'⟩
 have HCO2 : Hid (∀ W, Below w2.heap.size w2 W → Calls Tryz.prog 43 #[.pointer (some ⟨ug, 0, none⟩), .agg #[.string x0, .string x1, .string x2]] W fun e w' => e = .returned (.int .i64 (n1 : Nat)) ∧ Below w2.heap.size w2 w' ∧ w'.cell? ⟨rb, 0, none⟩ = some (.string x0) ∧ w'.cell? ⟨rb, 1, none⟩ = some (.string x1) ∧ w'.cell? ⟨rb, 2, none⟩ = some (.string x2) ∧ AskT w w') := by
  intro W hW
  refine (HCO.out W (HB2.out.trans (hW.mono HB2.out.size))).mono ?_
  rintro e w' ⟨rfl, hb⟩
  have hb' : Below w2.heap.size w2 w' := hW.trans (hb.mono hW.size)
  exact ⟨rfl, hb', by rw [hb'.cell (block_lt_of_cell r0)]; exact r0, by rw [hb'.cell (block_lt_of_cell r1)]; exact r1, by rw [hb'.cell (block_lt_of_cell r2)]; exact r2, askT HTR.out hb'⟩
 have HBW : Hid (Below w2.heap.size w2 w2.drew.drew) := (Below.refl _ _).drew.drew
 clear HGA HHA HCO
 go_region
 go_wp2_with fail
 clear hgu hrl c2 c3 l1 l2 p0 HLG HLH HE2 HE3 HB0 HG1
 go_region_held3 (fun w' => w'.cell? ⟨rb, 0, none⟩ = some (.string x0) ∧ w'.cell? ⟨rb, 1, none⟩ = some (.string x1) ∧ w'.cell? ⟨rb, 2, none⟩ = some (.string x2)) (go_keep) (first | (go_at_call 42; refine (HAS.out _ _ (by first | exact Or.inl rfl | exact Or.inr rfl) (by first | exact (Below.refl _ _).drew.drew | assumption)).mono ?_; rintro e wn ⟨rfl, hbn, k0, k1, k2, kT⟩; have kc0 := kT.c0; have kc1 := kT.c1; have kc2 := kT.c2; have kf0 := kT.fz 0; have kf1 := kT.fz 1; have kf2 := kT.fz 2) | (go_at_call 43; refine (HCO2.out _ (by first | exact (Below.refl _ _).drew.drew | assumption)).mono ?_; rintro e wn ⟨rfl, hbn, k0, k1, k2, kT⟩; have kc0 := kT.c0; have kc1 := kT.c1; have kc2 := kT.c2; have kf0 := kT.fz 0; have kf1 := kT.fz 1; have kf2 := kT.fz 2))
 all_goals
  have hbw : Below w.heap.size w wn := HB2.out.trans (hbn.mono HB2.out.size)
  go_wp2_with fail
  refine bodyPost_ret (v := .tuple #[.agg #[.bool (hbf tg), .bool (hbf ug), .int .i64 (n1 : Nat)], .int .i64 0]) ?_ rfl ⟨by rw [hbt.out, hbu.out], ((hbw.setCell (p := ⟨w.heap.size + 1, 0, none⟩) (by simp) _).setCell (p := ⟨w.heap.size + 1, 1, none⟩) (by simp) _).setCell (p := ⟨w.heap.size + 1, 2, none⟩) (by simp) _⟩
  refine Eq.trans (results_cell_row_tmp rfl _ _ _ _ _ _ _ rfl (stores3 kT.blk _ _ _) Tryz.underlying52 rfl (by kernel_rfl)) ?_
  rfl
end Go.Proofs.YtdmicblafmhflaaGreatDoor
/- An engine as it lies; what New's steps keep. -/
namespace Go.Proofs.YtdmicblafmhflaaGreatDoor
open Go.RowKit Go.Maps
def egCells (pl : ByteArray) (rv : Value) (gm hm : Nat) (hd : List UInt8) (lv : Value) : Array Value := ([Value.string pl, rv, .map (some gm), .map (some hm)] ++ Rc.u8s hd ++ [lv]).toArray
structure Eng (w : World) (B eg : Nat) (kl : List Ax.KRule) (gv : Nat → Bool) (n : Nat) : Prop where
 at_ : ∃ pl rd rc l gm G hm T s hd lv ln lx, w.heap[eg]? = some (.cells (egCells pl (.slice rd (List.length l) rc) gm hm hd lv) 109 (0, 0)) ∧
  RulesIn w rd rc l ∧ (l.map MR.rule).map Ax.erR = Ax.gR kl ∧ GAt w gm G ∧ GRel G gv ∧ HAt w hm T s ∧ En.Inv (En.sR (En.nRules kl)) (En.gF gv) s s.found.length ∧ (∀ p, p ∈ T.map prHT ↔ p ∈ gPr) ∧
  hd.length = 32 ∧ w.ownsRow B 5 1 lv ln lx ∧ ln ≤ 1000 * n ∧ pl = Ax.gtext kl
 ge : B ≤ eg
theorem blk_ne {w : World} {a b : Nat} {x y : Array Value} {s t : TypeId} {f g : Nat × Nat} (ha : w.heap[a]? = some (.cells x s f)) (hb : w.heap[b]? = some (.cells y t g)) (h : s ≠ t) : a ≠ b := fun e => by
 rw [e, hb] at ha
 simp at ha
 exact h ha.2.1.symm
theorem GAt.type_out {w : World} {gm : Nat} {G : List GT} (h : GAt w gm G) {x : Nat} {Z : Array Value} {t : TypeId} {f : Nat × Nat} (hx : w.heap[x]? = some (.cells Z t f)) (h1 : t ≠ 125) (h2 : t ≠ 119) : ∀ b, b ∈ gfoot gm G → ¬ b ∈ [x] := by
 intro b hb e
 simp only [List.mem_cons, List.not_mem_nil, or_false] at e
 subst e
 unfold gfoot at hb
 rcases List.mem_cons.1 hb with rfl | hb
 · obtain ⟨es, ck, e⟩ := h.map.block
   rw [e] at hx
   cases hx
 · obtain ⟨u, hu, hb⟩ := List.mem_flatMap.1 hb
   obtain ⟨cur, T, e, hT⟩ := (h.tabs u hu).types hb
   rw [e] at hx
   simp at hx
   rcases hT with rfl | rfl
   · exact h1 hx.2.1.symm
   · exact h2 hx.2.1.symm
structure NI (w1 : World) (g : Nat) (pl : ByteArray) (rv : Value) (prs : List Pd.Pr) (b : Option Nat) (q : Option (Option Addr × List Pd.Pr × Nat)) (m : Option (Nat × List GT)) (W : World) : Prop where
 bel : Below w1.heap.size w1 W
 gl : g < w1.heap.size
 c0 : W.cell? ⟨g, 0, none⟩ = some (.string pl)
 c1 : W.cell? ⟨g, 1, none⟩ = some rv
 blk : ∀ x, b = some x → w1.heap.size ≤ x ∧ ∃ Z, W.heap[x]? = some (.cells Z 107 (0, 0)) ∧ Z.size = 36
 row : ∀ qd Q qc, q = some (qd, Q, qc) → W.ownsRow 0 112 2 (.slice qd Q.length qc) Q.length (predCells Q) ∧ Pd.Srt Q ∧ ∀ p, p ∈ Q ↔ p ∈ prs
 giv : ∀ gm G, m = some (gm, G) → GAt W gm G ∧ GRel G (fun _ => false)
theorem NI.below {w1 W w' : World} {g : Nat} {pl : ByteArray} {rv : Value} {prs : List Pd.Pr} {b : Option Nat} {q : Option (Option Addr × List Pd.Pr × Nat)} {m : Option (Nat × List GT)} (h : NI w1 g pl rv prs b q m W) (hb : Below W.heap.size W w') : NI w1 g pl rv prs b q m w' := by
 have hgl : g < W.heap.size := Nat.lt_of_lt_of_le h.gl h.bel.size
 refine ⟨h.bel.trans (hb.mono h.bel.size), h.gl, by rw [hb.cell hgl]; exact h.c0, by rw [hb.cell hgl]; exact h.c1, ?_, ?_, ?_⟩
 · intro x hx
   obtain ⟨h1, Z, h2, h3⟩ := h.blk x hx
   exact ⟨h1, Z, by rw [hb.block _ (lt_of_heap h2)]; exact h2, h3⟩
 · intro qd Q qc hq
   obtain ⟨h1, h2⟩ := h.row qd Q qc hq
   exact ⟨ownsRow_below h1 hb, h2⟩
 · intro gm G hm
   obtain ⟨h1, h2⟩ := h.giv gm G hm
   exact ⟨h1.below hb, h2⟩
theorem NI.drew {w1 W : World} {g : Nat} {pl : ByteArray} {rv : Value} {prs : List Pd.Pr} {b : Option Nat} {q : Option (Option Addr × List Pd.Pr × Nat)} {m : Option (Nat × List GT)} (h : NI w1 g pl rv prs b q m W) : NI w1 g pl rv prs b q m W.drew := h.below (Below.refl _ _).drew
theorem NI.alloc {w1 W : World} {g : Nat} {pl : ByteArray} {rv : Value} {prs : List Pd.Pr} {q : Option (Option Addr × List Pd.Pr × Nat)} {m : Option (Nat × List GT)} {Z : Array Value} (h : NI w1 g pl rv prs none q m W) (hz : Z.size = 36) : NI w1 g pl rv prs (some W.heap.size) q m (W.alloc (.cells Z 107)) := by
 have h2 := h.below (w' := W.alloc (.cells Z 107)) ((Below.refl _ _).alloc (Nat.le_refl _) _)
 refine ⟨h2.bel, h2.gl, h2.c0, h2.c1, ?_, h2.row, h2.giv⟩
 intro x hx
 simp only [Option.some.injEq] at hx
 subst hx
 exact ⟨h.bel.size, Z, heap_alloc_new _ _, hz⟩
theorem NI.cells {w1 W : World} {g : Nat} {pl : ByteArray} {rv : Value} {prs : List Pd.Pr} {b : Option Nat} {q : Option (Option Addr × List Pd.Pr × Nat)} {m : Option (Nat × List GT)} (h : NI w1 g pl rv prs b q m W) : W.cell? ⟨g, 0, none⟩ = some (.string pl) ∧ W.cell? ⟨g, 1, none⟩ = some rv := ⟨h.c0, h.c1⟩
theorem NI.stored {w1 W : World} {g x : Nat} {pl : ByteArray} {rv : Value} {prs : List Pd.Pr} {q : Option (Option Addr × List Pd.Pr × Nat)} {m : Option (Nat × List GT)} {cs : Array Value} (h : NI w1 g pl rv prs (some x) q m W) (hc : cs.size = 36) : NI w1 g pl rv prs (some x) q m (W.setCells x 0 cs.toList) := by
 obtain ⟨h1, Z, h2, h3⟩ := h.blk x rfl
 obtain ⟨hh, hk⟩ := setCells_heap x cs.toList 0 Z W h2 (by simp; omega)
 have hh : (W.setCells x 0 cs.toList).heap[x]? = some (.cells cs 107 (0, 0)) := by
  rw [hh, List.drop_eq_nil_of_le (by simp; omega)]
  simp
 have hgx : g ≠ x := by have := h.gl; omega
 have hg : (W.setCells x 0 cs.toList).heap[g]? = W.heap[g]? := hk.block g (Nat.lt_of_lt_of_le h.gl h.bel.size) (by simpa using hgx)
 refine ⟨hk.to_below h.bel h.bel.size (by simpa using h1), h.gl, ?_, ?_, ?_, ?_, ?_⟩
 · rw [← h.c0]; simp only [World.cell?, hg]
 · rw [← h.c1]; simp only [World.cell?, hg]
 · intro y hy
   simp only [Option.some.injEq] at hy
   subst hy
   exact ⟨h1, cs, hh, hc⟩
 · intro qd Q qc hq
   obtain ⟨k1, k2⟩ := h.row qd Q qc hq
   exact ⟨hk.row_type k1 (fun b cur fz hb e => by simp at hb; subst hb; rw [h2] at e; simp at e), k2⟩
 · intro gm G hm
   obtain ⟨k1, k2⟩ := h.giv gm G hm
   exact ⟨k1.kept hk (k1.type_out h2 (by decide) (by decide)), k2⟩
theorem state_stored {W : World} {x : Nat} {Z cs : Array Value} (h2 : W.heap[x]? = some (.cells Z 107 (0, 0))) (hz : Z.size = 36) (hc : cs.size = 36) : (W.setCells x 0 cs.toList).heap[x]? = some (.cells cs 107 (0, 0)) := by
 obtain ⟨hh, hk⟩ := setCells_heap x cs.toList 0 Z W h2 (by simp; omega)
 rw [hh, List.drop_eq_nil_of_le (by simp; omega)]
 simp
theorem run_store_state {W : World} {x : Nat} {Z cs : Array Value} (h : W.heap[x]? = some (.cells Z 107 (0, 0))) (hz : Z.size = 36) (hc : cs.size = 36) (h1 : ∀ v, v ∈ cs.toList → v.oneCell' = true) : (storeCells ⟨x, 0, none⟩ cs.toList).run Tryz.prog W = .ok () (W.setCells x 0 cs.toList) := by
 have hx : ∀ j, j < cs.toList.length → (W.cell? ⟨x, 0 + 0 + j, none⟩).isSome = true := by
  intro j hj
  rw [cell_of_row _ _ _ _ _ _ h, Nat.zero_add, Array.getElem?_eq_getElem (by simp at hj; omega)]
  rfl
 exact run_storeCells_cells (P := Tryz.prog) x 0 cs.toList 0 W hx (fun j hj => by simp [World.frozen?, h]) h1
def StEq (cs : Array Value) (b : Option Nat) (w' : World) : Prop := match b with
 | some x => (storeCells ⟨x, 0, none⟩ cs.toList).run Tryz.prog w' = .ok () (w'.setCells x 0 cs.toList)
 | none => ∀ Z : Array Value, Z.size = 36 → (storeCells ⟨w'.heap.size, 0, none⟩ cs.toList).run Tryz.prog (w'.alloc (.cells Z 107)) = .ok () ((w'.alloc (.cells Z 107)).setCells w'.heap.size 0 cs.toList)
theorem stEq_of {w1 W : World} {g : Nat} {pl : ByteArray} {rv : Value} {prs : List Pd.Pr} {b : Option Nat} {q : Option (Option Addr × List Pd.Pr × Nat)} {m : Option (Nat × List GT)} {cs : Array Value} (h : NI w1 g pl rv prs b q m W) (hc : cs.size = 36) (h1 : ∀ v, v ∈ cs.toList → v.oneCell' = true) : StEq cs b W := by
 cases b with
 | some x =>
  obtain ⟨_, Z, h2, h3⟩ := h.blk x rfl
  exact run_store_state h2 h3 hc h1
 | none =>
  intro Z hZ
  exact run_store_state (heap_alloc_new _ _) hZ hc h1
end Go.Proofs.YtdmicblafmhflaaGreatDoor
/- New at axiomkeep's text. -/
namespace Go.Proofs.YtdmicblafmhflaaGreatDoor
open Go.RowKit Go.Maps
theorem read_gen (kl : List Ax.KRule) (w : World) : Calls Tryz.prog 56 #[.string (Ax.gtext kl)] w fun e w' => ∃ rd rc l, e = .returned (.tuple #[.agg #[.string (Ax.gtext kl), .slice rd (List.length l) rc], .int .i64 0, .int .i64 0]) ∧ (l.map MR.rule).map Ax.erR = Ax.gR kl ∧ RulesIn w' rd rc l ∧ Below w.heap.size w w' := by
 obtain ⟨rs, j, hR, he, h3, h4, h5, hrd⟩ := Ax.gen_rules kl
 have hsz := Ax.gtext_sz kl
 have hspl := Ax.split_length (Ax.gtext kl)
 have hfit := Ax.pRules_fits (M := 600) (fun t ht => Nat.le_trans (Ax.split_text (Ax.gtext kl) t ht) hsz) _ _ _ (fun _ h => by cases h) hR
 have HF : rs.length ≤ 1000 ∧ ∀ r, r ∈ rs → Ax.Fits 600 1000 r := by
  refine ⟨by have := hfit.2; simp only [List.length_nil, Nat.zero_add] at this; omega, fun r hr => ?_⟩
  have := hfit.1 r hr
  exact ⟨by have := this.1; omega, this.2⟩
 have hpl : (⟨(textsOf (Ax.split (Ax.gtext kl))).toArray⟩ : ByteArray) = Ax.gtext kl := by
  have h6 := Ax.read_0 (by omega : ¬ 600 < (Ax.gtext kl).size) hR h3 h4 h5
  rw [hrd] at h6
  exact (congrArg Prod.fst h6).symm
 refine (readR_0 (Ax.gtext kl) w hsz rs j hR HF h3 h4 h5).mono ?_
 rintro e w' ⟨rd, rc, l, rfl, hl, hin, hb⟩
 rw [hpl]
 exact ⟨rd, rc, l, rfl, by rw [hl]; exact he, hin, hb⟩
theorem newG_rel {w w' : World} {mb : Nat} {Q : List Pd.Pr} {T : List GT} (h : NewGTs w w' mb Q.length Q T) (hQ : ∀ p, p ∈ Q ↔ p ∈ gPr) (hs : Pd.Srt Q) : GAt w' mb T ∧ GRel T (fun _ => false) := by
 obtain ⟨D, ho, hD⟩ := h.map
 have hp : T.map prGT = Q.reverse := by rw [h.prs, List.take_length]
 have hn : T.map GT.nm = (T.map prGT).map Prod.fst := by simp [prGT, Function.comp_def]
 have hm : ∀ p, p ∈ T.map prGT ↔ p ∈ gPr := fun p => by rw [hp, List.mem_reverse]; exact hQ p
 have hql : Q.length ≤ 1000 := by
  have h1 := List.Nodup.length_le_of_subset (srt_nodup hs) (fun p hp => (hQ p).1 hp)
  exact Nat.le_trans h1 (by decide)
 refine ⟨⟨PMap.of ho (by omega) hD, fun t ht => (h.tabs t ht).1, h.apart, ?_, ?_⟩, ⟨hm, ?_⟩⟩
 · rw [hn, hp, List.map_reverse]
   exact List.pairwise_reverse.2 (List.Pairwise.imp (fun h => Ne.symm h) (srt_names hs))
 · intro t ht
   have := gPr_short _ ((hm _).1 (List.mem_map_of_mem ht))
   exact Nat.le_trans this (by decide)
 · intro t ht r
   obtain ⟨_, p, g, rfl, _⟩ := h.tabs t ht
   simp [newGT]
structure NCut (w1 : World) (kl : List Ax.KRule) (rv : Value) (hd : List UInt8) (v8 v9 : Value) (wx : World) : Prop where
 v9 : v9 = .bool true
 out : ∃ x gm hm G T s, v8 = .pointer (some ⟨x, 0, none⟩) ∧ wx.heap[x]? = some (.cells (stCells (Ax.gtext kl) rv gm hm hd) 107 (0, 0)) ∧ GAt wx gm G ∧ GRel G (fun _ => false) ∧ HAt wx hm T s ∧ En.Inv (En.sR (En.nRules kl)) (En.gF (fun _ => false)) s s.found.length ∧ (∀ p, p ∈ T.map prHT ↔ p ∈ gPr) ∧ Below w1.heap.size w1 wx
structure NE (w1 : World) (g : Nat) (kl : List Ax.KRule) (rv : Value) (prs : List Pd.Pr) (b : Option Nat) (q : Option (Option Addr × List Pd.Pr × Nat)) (gm hm : Nat) (G : List GT) (W : World) : Prop where
 ni : NI w1 g (Ax.gtext kl) rv prs b q (some (gm, G)) W
 out : ∃ T s, HAt W hm T s ∧ En.Inv (En.sR (En.nRules kl)) (En.gF (fun _ => false)) s s.found.length ∧ (∀ p, p ∈ T.map prHT ↔ p ∈ gPr) ∧ ∀ x, b = some x → ∀ y, y ∈ hallfoot hm T → y ≠ x
theorem stCells_size (pl : ByteArray) (rv : Value) (gm hm : Nat) {hd : List UInt8} (h : hd.length = 32) : (stCells pl rv gm hm hd).size = 36 := by simp [stCells, Rc.u8s_len, h]
theorem stCells_one (pl : ByteArray) (rd : Option Addr) (n rc gm hm : Nat) (hd : List UInt8) : ∀ v, v ∈ (stCells pl (.slice rd n rc) gm hm hd).toList → v.oneCell' = true := by
 intro v hv
 have hu1 := Rc.u8s_one hd
 simp [stCells] at hv
 rcases hv with rfl | rfl | rfl | rfl | hv
 · rfl
 · rfl
 · rfl
 · rfl
 · exact hu1 v hv
theorem NE.cut {w1 W : World} {g x : Nat} {kl : List Ax.KRule} {rv : Value} {prs : List Pd.Pr} {q : Option (Option Addr × List Pd.Pr × Nat)} {gm hm : Nat} {G : List GT} {hd : List UInt8} (h : NE w1 g kl rv prs (some x) q gm hm G W) (hh : hd.length = 32) : NCut w1 kl rv hd (.pointer (some ⟨x, 0, none⟩)) (.bool true) (W.setCells x 0 (stCells (Ax.gtext kl) rv gm hm hd).toList) := by
 have hs := h.ni.stored (cs := stCells (Ax.gtext kl) rv gm hm hd) (stCells_size _ _ _ _ hh)
 obtain ⟨_, Z, h2, h3⟩ := h.ni.blk x rfl
 obtain ⟨T, s, e1, e2, e3, e4⟩ := h.out
 obtain ⟨g1, g2⟩ := hs.giv gm G rfl
 obtain ⟨hh', hk⟩ := setCells_heap x (stCells (Ax.gtext kl) rv gm hm hd).toList 0 Z W h2 (by simp [stCells_size _ _ _ _ hh, h3])
 exact ⟨rfl, x, gm, hm, G, T, s, rfl, state_stored h2 h3 (stCells_size _ _ _ _ hh), g1, g2, e1.kept hk (fun b hb => by simpa using e4 x rfl b hb), e2, e3, hs.bel⟩
theorem NE.alloc {w1 W : World} {g : Nat} {kl : List Ax.KRule} {rv : Value} {prs : List Pd.Pr} {q : Option (Option Addr × List Pd.Pr × Nat)} {gm hm : Nat} {G : List GT} {Z : Array Value} (h : NE w1 g kl rv prs none q gm hm G W) (hz : Z.size = 36) : NE w1 g kl rv prs (some W.heap.size) q gm hm G (W.alloc (.cells Z 107)) := by
 obtain ⟨T, s, e1, e2, e3, e4⟩ := h.out
 refine ⟨h.ni.alloc hz, T, s, e1.below ((Below.refl _ _).alloc (Nat.le_refl _) _), e2, e3, ?_⟩
 intro x hx y hy e
 simp only [Option.some.injEq] at hx
 have := e1.lt hy
 omega
theorem egZ_lay {Z : Array Value} {U : List Value} (h : U.length = 36) (hz : Z.size = 37) : (U.zipIdx).foldl (fun cs x => cs.setIfInBounds (0 + x.snd) x.fst) Z = (U ++ Z.toList.drop 36).toArray := by
 rw [fold_lay 0 U 0 _ (by rw [h, hz]; decide)]
 simp [h]
end Go.Proofs.YtdmicblafmhflaaGreatDoor
