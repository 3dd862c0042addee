/- Package follow: match. -/
import Derived.Test.YtdmicblafmhflaaGreatDoorC19
set_option linter.unusedSimpArgs false
set_option linter.unusedVariables false
namespace Go.Proofs.YtdmicblafmhflaaGreatDoor
open Go.RowKit
open Go.Sort (grow)
theorem bmatch_step {t : Ax.Term} {ts : List Ax.Term} {n : ByteArray} {ns : List ByteArray} {b : En.Bind} : En.bmatch (t :: ts) (n :: ns) b = if En.tval (En.val b) t = n then En.bmatch ts ns b else if En.tval (En.val b) t = En.ee then En.bmatch ts ns (b ++ [(t.text, n)]) else none := rfl
theorem ee_list : En.ee.toList = [] := by rw [ByteArray.toList_eq]; rfl
def nth3 (a b c : ByteArray) : Nat → ByteArray := fun i => if i = 0 then a else if i = 1 then b else c
theorem drop3 {a b c : ByteArray} {i : Nat} (h : i < 3) : [a, b, c].drop i = nth3 a b c i :: [a, b, c].drop (i + 1) := by
 have : i = 0 ∨ i = 1 ∨ i = 2 := by omega
 rcases this with rfl | rfl | rfl <;> rfl
def bput (w : World) (r n : Nat) (X Y : Nat → ByteArray) : World := (((((((((((((w.setCell ⟨r, 0, none⟩ (.int .i64 n)).setCell ⟨r, 1, none⟩ (.string (X 0))).setCell ⟨r, 2, none⟩ (.string (Y 0))).setCell ⟨r, 3, none⟩ (.string (X 1))).setCell ⟨r, 4, none⟩ (.string (Y 1))).setCell ⟨r, 5, none⟩ (.string (X 2))).setCell ⟨r, 6, none⟩ (.string (Y 2))).setCell ⟨r, 7, none⟩ (.string (X 3))).setCell ⟨r, 8, none⟩ (.string (Y 3))).setCell ⟨r, 9, none⟩ (.string (X 4))).setCell ⟨r, 10, none⟩ (.string (Y 4))).setCell ⟨r, 11, none⟩ (.string (X 5))).setCell ⟨r, 12, none⟩ (.string (Y 5)))
set_option maxHeartbeats 2000000 in
theorem bput_spec {w : World} {r m n : Nat} {A B X Y : Nat → ByteArray} {T : TypeId} (h : w.heap[r]? = some (.cells (bArr m A B) T (0, 0))) : (bput w r n X Y).heap[r]? = some (.cells (bArr n X Y) T (0, 0)) ∧ Kb [r] w (bput w r n X Y) := by
 have h0 := setCell_heap _ h 0 (.int .i64 n)
 have h1 := setCell_heap _ h0 1 (.string (X 0))
 have h2 := setCell_heap _ h1 2 (.string (Y 0))
 have h3 := setCell_heap _ h2 3 (.string (X 1))
 have h4 := setCell_heap _ h3 4 (.string (Y 1))
 have h5 := setCell_heap _ h4 5 (.string (X 2))
 have h6 := setCell_heap _ h5 6 (.string (Y 2))
 have h7 := setCell_heap _ h6 7 (.string (X 3))
 have h8 := setCell_heap _ h7 8 (.string (Y 3))
 have h9 := setCell_heap _ h8 9 (.string (X 4))
 have h10 := setCell_heap _ h9 10 (.string (Y 4))
 have h11 := setCell_heap _ h10 11 (.string (X 5))
 have h12 := setCell_heap _ h11 12 (.string (Y 5))
 refine ⟨by simpa [bput, bArr] using h12, ?_⟩
 exact ((((((((((((Kb.setCell w ⟨r, 0, none⟩ (.int .i64 (n : Int))).trans (Kb.setCell _ ⟨r, 1, none⟩ (.string (X 0)))).trans (Kb.setCell _ ⟨r, 2, none⟩ (.string (Y 0)))).trans (Kb.setCell _ ⟨r, 3, none⟩ (.string (X 1)))).trans (Kb.setCell _ ⟨r, 4, none⟩ (.string (Y 1)))).trans (Kb.setCell _ ⟨r, 5, none⟩ (.string (X 2)))).trans (Kb.setCell _ ⟨r, 6, none⟩ (.string (Y 2)))).trans (Kb.setCell _ ⟨r, 7, none⟩ (.string (X 3)))).trans (Kb.setCell _ ⟨r, 8, none⟩ (.string (Y 3)))).trans (Kb.setCell _ ⟨r, 9, none⟩ (.string (X 4)))).trans (Kb.setCell _ ⟨r, 10, none⟩ (.string (Y 4)))).trans (Kb.setCell _ ⟨r, 11, none⟩ (.string (X 5)))).trans (Kb.setCell _ ⟨r, 12, none⟩ (.string (Y 5)))
def MPost (w : World) (R : Option En.Bind) (m : Nat) (e : Ending) (w' : World) : Prop := Below w.heap.size w w' ∧
 ((R = none ∧ e = .returned (.tuple #[.agg (bArr 0 (fun _ => ⟨#[]⟩) (fun _ => ⟨#[]⟩)), .bool false])) ∨ (∃ b1 n1 X1 Y1, R = some b1 ∧ BIs b1 n1 X1 Y1 ∧ n1 ≤ m ∧ e = .returned (.tuple #[.agg (bArr n1 X1 Y1), .bool true])))
set_option maxRecDepth 100000 in
set_option maxHeartbeats 2000000 in
theorem match_no (w : World) (b0 : En.Bind) (n0 : Nat) (X0 Y0 : Nat → ByteArray) (a : Ax.Atom) (ad : Option Addr) (ac m : Nat) (pr x y z : ByteArray) (hp : ¬ a.pred = pr) :
 Calls Tryz.prog 266 #[.agg (bArr n0 X0 Y0), .agg #[.int .i64 a.at_, .string a.pred, .slice ad a.terms.length ac], .agg #[.string pr, .string x, .string y, .string z]] w (MPost w none m) := by
 have hbb : (a.pred.toList == pr.toList) = false := by rw [beq_bytes]; simp [hp]
 have hbb' : (a.pred.toList != pr.toList) = true := by simp [bne, hbb]
 clear hp
 unfold bArr
 go_enter Tryz.func266, Tryz.ntmps266
 go_wp2_with fail
 exact bodyPost_ret (v := .tuple #[.agg #[.int .i64 0, .string ⟨#[]⟩, .string ⟨#[]⟩, .string ⟨#[]⟩, .string ⟨#[]⟩, .string ⟨#[]⟩, .string ⟨#[]⟩, .string ⟨#[]⟩, .string ⟨#[]⟩, .string ⟨#[]⟩, .string ⟨#[]⟩, .string ⟨#[]⟩, .string ⟨#[]⟩], .bool false]) (by simp [results, Tryz.results266, go_sem]) rfl ⟨((((Below.refl _ _).alloc (Nat.le_refl _) _).alloc (by simp) _).alloc (by simp; omega) _).alloc (by simp; omega) _, .inl ⟨rfl, rfl⟩⟩
structure MW (w w0 : World) (n : Nat) (X Y : Nat → ByteArray) (pr x y z : ByteArray) : Prop where
 below : Below w.heap.size w w0
 size : w0.heap.size = w.heap.size + 4
 bnd : w0.heap[w.heap.size]? = some (.cells (bArr n X Y) 369 (0, 0))
 fct : w0.heap[w.heap.size + 2]? = some (.cells #[.string pr, .string x, .string y, .string z] 325 (0, 0))
 res : w0.heap[w.heap.size + 3]? = some (.cells (bArr 0 (fun _ => ⟨#[]⟩) (fun _ => ⟨#[]⟩)) 369 (0, 0))
theorem mw_made (w : World) (n : Nat) (X Y : Nat → ByteArray) (o : Obj) (pr x y z : ByteArray) : MW w ((((w.alloc (.cells (bArr n X Y) 369)).alloc o).alloc (.cells #[.string pr, .string x, .string y, .string z] 325)).alloc (.cells (bArr 0 (fun _ => ⟨#[]⟩) (fun _ => ⟨#[]⟩)) 369)) n X Y pr x y z where
 below := ((((Below.refl _ _).alloc (Nat.le_refl _) _).alloc (by simp) _).alloc (by simp; omega) _).alloc (by simp; omega) _
 size := by simp
 bnd := by
  rw [Below.heap_alloc _ _ _ (by simp; omega), Below.heap_alloc _ _ _ (by simp; omega), Below.heap_alloc _ _ _ (by simp)]
  exact heap_alloc_new w _
 fct := by
  rw [Below.heap_alloc _ _ _ (by simp)]
  have := heap_alloc_new ((w.alloc (.cells (bArr n X Y) 369)).alloc o) (.cells #[.string pr, .string x, .string y, .string z] 325)
  simpa using this
 res := by
  have := heap_alloc_new (((w.alloc (.cells (bArr n X Y) 369)).alloc o).alloc (.cells #[.string pr, .string x, .string y, .string z] 325)) (.cells (bArr 0 (fun _ => ⟨#[]⟩) (fun _ => ⟨#[]⟩)) 369)
  simpa using this
set_option maxRecDepth 100000 in
set_option maxHeartbeats 4000000 in
theorem match_yes (w : World) (b0 : En.Bind) (n0 : Nat) (X0 Y0 : Nat → ByteArray) (hb0 : BIs b0 n0 X0 Y0) (a : Ax.Atom) (ad : Option Addr) (ac : Nat) (pr x y z : ByteArray) (hp : a.pred = pr)
 (ha : MA.ok w (a, .slice ad a.terms.length ac)) (hk : ∀ t, t ∈ a.terms → t.kind = 0 ∨ t.kind = 1) (h3 : a.terms.length ≤ 3) (hn : n0 + a.terms.length ≤ 6) :
 Calls Tryz.prog 266 #[.agg (bArr n0 X0 Y0), .agg #[.int .i64 a.at_, .string a.pred, .slice ad a.terms.length ac], .agg #[.string pr, .string x, .string y, .string z]] w (MPost w (En.bmatch a.terms [x, y, z] b0) (n0 + a.terms.length)) := by
 have hbb : (a.pred.toList == pr.toList) = true := by rw [beq_bytes]; simp [hp]
 have hbb' : (a.pred.toList != pr.toList) = false := by simp [bne, hbb]
 obtain ⟨w0, hw0, hmw⟩ : ∃ w0, w0 = ((((w.alloc (.cells (bArr n0 X0 Y0) 369)).alloc (.cells #[.int .i64 a.at_, .string a.pred, .slice ad a.terms.length ac] 219)).alloc (.cells #[.string pr, .string x, .string y, .string z] 325)).alloc (.cells (bArr 0 (fun _ => ⟨#[]⟩) (fun _ => ⟨#[]⟩)) 369)) ∧ MW w w0 n0 X0 Y0 pr x y z := ⟨_, rfl, mw_made w n0 X0 Y0 _ pr x y z⟩
 generalize hR : En.bmatch a.terms [x, y, z] b0 = R
 have HK : Hid (∀ t, t ∈ a.terms → t.kind = 0 ∨ t.kind = 1) := hk
 unfold MA.ok at ha
 simp only at ha
 have hle := ownsRow_le ha
 clear hp hk
 go_enter Tryz.func266, Tryz.ntmps266
 have hArr : ∀ n X Y, bArr n X Y = #[.int .i64 n, .string (X 0), .string (Y 0), .string (X 1), .string (Y 1), .string (X 2), .string (Y 2), .string (X 3), .string (Y 3), .string (X 4), .string (Y 4), .string (X 5), .string (Y 5)] := fun _ _ _ => rfl
 rw [hArr n0 X0 Y0]
 go_wp2_with fail
 rw [← hArr n0 X0 Y0]
 change Code.wp Tryz.prog _ _ _ ((((w.alloc (.cells (bArr n0 X0 Y0) 369)).alloc (.cells #[.int .i64 a.at_, .string a.pred, .slice ad a.terms.length ac] 219)).alloc (.cells #[.string pr, .string x, .string y, .string z] 325)).alloc (.cells (bArr 0 (fun _ => ⟨#[]⟩) (fun _ => ⟨#[]⟩)) 369))
 rw [← hw0]
 clear hw0 hArr hbb hbb'
 obtain ⟨mb, ms, mbnd, mfct, mres⟩ := hmw
 go_loopw [19] (fun iv wr => ∃ (k n : Nat) (b : En.Bind) (X Y : Nat → ByteArray), k ≤ a.terms.length ∧ n ≤ n0 + k ∧ iv = .int .i64 k ∧ BIs b n X Y ∧ wr.heap[w.heap.size]? = some (.cells (bArr n X Y) 369 (0, 0)) ∧ Kb [w.heap.size] w0 wr ∧ En.bmatch (a.terms.drop k) ([x, y, z].drop k) b = R) (fun iv _ => a.terms.length - (intOf iv).toNat)
 case atStart => exact ⟨0, n0, b0, X0, Y0, Nat.zero_le _, Nat.le_refl _, rfl, hb0, mbnd, Kb.refl _ _, by simpa using hR⟩
 case round =>
  obtain ⟨k, n, b, X, Y, hkl, hnk, rfl, hb, hbl, hkb, hr⟩ := hrel
  have HRR : Hid (En.bmatch (a.terms.drop k) ([x, y, z].drop k) b = R) := hr
  clear hr hR
  have hsz := hkb.size
  have hrow : wr.ownsRow 0 310 2 (.slice ad a.terms.length ac) a.terms.length (termCells a.terms) := hkb.row (ownsRow_below ha mb) (fun q hq hm => by
   simp only [List.mem_singleton] at hm
   have := (World.ownsRow.lt ha q hq).2
   omega)
  have hfct : wr.heap[w.heap.size + 1 + 1]? = some (.cells #[.string pr, .string x, .string y, .string z] 325 (0, 0)) := hkb.heap mfct (by simp only [List.mem_singleton]; omega)
  have hres : wr.heap[w.heap.size + 1 + 1 + 1]? = some (.cells (bArr 0 (fun _ => ⟨#[]⟩) (fun _ => ⟨#[]⟩)) 369 (0, 0)) := hkb.heap mres (by simp only [List.mem_singleton]; omega)
  have hbw : Below w.heap.size w wr := hkb.to_below mb (by omega) (fun i hi => by simp at hi; omega)
  by_cases hlt : k < a.terms.length
  · obtain ⟨tg, rfl, htg, htc, htcs⟩ := row_cells hrow (by omega)
    obtain ⟨y0, y1⟩ := termCells_get a.terms k hlt
    have d0 := htcs _ _ y0
    have d1 := htcs _ _ y1
    have hkt := HK.out _ (List.getElem_mem hlt)
    rw [List.drop_eq_getElem_cons hlt, drop3 (by omega), bmatch_step] at HRR
    generalize a.terms[k] = t at d0 d1 hkt HRR
    obtain ⟨tk, tt⟩ := t
    simp only at d0 d1
    have f0 : wr.cell? ⟨w.heap.size + 1 + 1, 1 + k, none⟩ = some (.string (nth3 x y z k)) := by
     rw [cell_of_row _ _ _ _ _ _ hfct]
     have : k = 0 ∨ k = 1 ∨ k = 2 := by omega
     rcases this with rfl | rfl | rfl <;> rfl
    have hnm : ∀ W, Below wr.heap.size wr W → Calls Tryz.prog 286 #[.pointer (some ⟨w.heap.size, 0, none⟩), .agg #[.int .i64 tk, .string tt]] W fun e w' => e = .returned (.string (En.tval (En.val b) ⟨tk, tt⟩)) ∧ Below W.heap.size W w' := fun W hW => name_any W w.heap.size n X Y b hb ⟨tk, tt⟩ hkt (by rw [hW.block _ (by omega)]; exact hbl)
    generalize hv : En.tval (En.val b) ⟨tk, tt⟩ = v at hnm HRR
    generalize hnn : nth3 x y z k = nn at f0 HRR
    have hwl : w.heap.size < wr.heap.size := by omega
    have hwl2 : w.heap.size + 1 + 1 < wr.heap.size := by omega
    clear htcs hrow mfct mres mbnd hfct y0 y1 hkt hv hnn
    by_cases heq : v = nn
    · have hbq : (v.toList == nn.toList) = true := by rw [beq_bytes]; simp [heq]
      rw [if_pos heq] at HRR
      clear heq
      go_wp2_with (go_at_call 286; refine (hnm _ (by exact (Below.refl _ _).alloc (Nat.le_refl _) _)).mono ?_; rintro e w1 ⟨rfl, hb1⟩; have hb01 : Below wr.heap.size wr w1 := ((Below.refl _ _).alloc (Nat.le_refl _) _).trans (hb1.mono (by simp)); have f1 : w1.cell? ⟨w.heap.size + 1 + 1, 1 + k, none⟩ = some (.string nn) := (hb01.cell hwl2).trans f0; have hs1 := hb01.size; have hwm2 : w.heap.size + 1 + 1 < w1.heap.size := (by omega); clear hb1 hnm)
      go_roundw
      case rel =>
       refine ⟨k + 1, n, b, X, Y, by omega, by omega, by go_num, hb, ?_, hkb.below hb01, HRR.out⟩
       rw [hb01.block _ hwl]
       exact hbl
      case measure => simp [intOf]; omega
    · have hbq : (v.toList == nn.toList) = false := by rw [beq_bytes]; simp [heq]
      rw [if_neg heq] at HRR
      clear heq
      by_cases hem : v = En.ee
      · have hbe : v.toList.isEmpty = true := by rw [hem, ee_list]; rfl
        rw [if_pos hem] at HRR
        have HEM : Hid (v = En.ee) := hem
        clear hem
        have UT : ∀ W : World, Below (wr.alloc (.cells #[.int .i64 tk, .string tt] 310)).heap.size (wr.alloc (.cells #[.int .i64 tk, .string tt] 310)) W → W.cell? ⟨wr.heap.size, 1, none⟩ = some (.string tt) := fun W hW => by
         have e : W.heap[wr.heap.size]? = some (.cells #[.int .i64 tk, .string tt] 310 (0, 0)) := by rw [hW.block _ (by simp)]; exact heap_alloc_new wr _
         rw [cell_of_row _ _ 1 _ _ _ e]; rfl
        go_upto_region 10 with (go_at_call 286; refine (hnm _ (by exact (Below.refl _ _).alloc (Nat.le_refl _) _)).mono ?_; rintro e w1 ⟨rfl, hb1⟩; have hb01 : Below wr.heap.size wr w1 := ((Below.refl _ _).alloc (Nat.le_refl _) _).trans (hb1.mono (by simp)); have f1 : w1.cell? ⟨w.heap.size + 1 + 1, 1 + k, none⟩ = some (.string nn) := (hb01.cell hwl2).trans f0; have hs1 := hb01.size; have hwm2 : w.heap.size + 1 + 1 < w1.heap.size := (by omega); have HB1 : Hid (Below (wr.alloc (.cells #[.int .i64 tk, .string tt] 310)).heap.size (wr.alloc (.cells #[.int .i64 tk, .string tt] 310)) w1) := hb1; clear hb1 hnm)
        have u1 : w1.cell? ⟨wr.heap.size, 1, none⟩ = some (.string tt) := UT w1 HB1.out
        have hbl1 : w1.heap[w.heap.size]? = some (.cells (bArr n X Y) 369 (0, 0)) := by rw [hb01.block _ hwl]; exact hbl
        have hset := fun W (hW : W.heap = w1.heap) => set_any W w.heap.size n X Y tt nn (by omega) (by rw [hW]; exact hbl1)
        have hwr1 : wr.heap.size < w1.heap.size := by have := HB1.out.size; simp at this; omega
        clear HB1 UT
        go_region_with (go_at_call 287; refine (hset _ (by rfl)).mono ?_; rintro e w2 ⟨rfl, hbl2, hkb2⟩)
        all_goals
         (go_wp2_with fail
          go_roundw
          case rel =>
           refine ⟨k + 1, n + 1, _, _, _, by omega, by omega, by go_num, hb.snoc (by omega) tt nn, hbl2, (hkb.below hb01).trans (Kb.drewL hkb2), HRR.out⟩
          case measure => simp [intOf]; omega)
      · have hbe : v.toList.isEmpty = false := by rw [Bool.eq_false_iff]; intro hc; rw [List.isEmpty_iff] at hc; exact hem (Tb.toList_inj (by rw [hc, ee_list]))
        rw [if_neg hem] at HRR
        clear hem
        go_upto_region 7 with (go_at_call 286; refine (hnm _ (by exact (Below.refl _ _).alloc (Nat.le_refl _) _)).mono ?_; rintro e w1 ⟨rfl, hb1⟩; have hb01 : Below wr.heap.size wr w1 := ((Below.refl _ _).alloc (Nat.le_refl _) _).trans (hb1.mono (by simp)); have f1 : w1.cell? ⟨w.heap.size + 1 + 1, 1 + k, none⟩ = some (.string nn) := (hb01.cell hwl2).trans f0; have hs1 := hb01.size; have hwm2 : w.heap.size + 1 + 1 < w1.heap.size := (by omega); clear hb1 hnm)
        have hres1 : w1.heap[w.heap.size + 1 + 1 + 1]? = some (.cells (bArr 0 (fun _ => ⟨#[]⟩) (fun _ => ⟨#[]⟩)) 369 (0, 0)) := by rw [hb01.block _ (by omega)]; exact hres
        have HRES : Hid (w1.heap[w.heap.size + 1 + 1 + 1]? = some (.cells (bArr 0 (fun _ => ⟨#[]⟩) (fun _ => ⟨#[]⟩)) 369 (0, 0))) := hres1
        have r0 : w1.cell? ⟨w.heap.size + 1 + 1 + 1, 0, none⟩ = some (.int .i64 0) := by rw [cell_of_row _ _ _ _ _ _ hres1]; rfl
        have r1 : w1.cell? ⟨w.heap.size + 1 + 1 + 1, 1, none⟩ = some (.string ⟨#[]⟩) := by rw [cell_of_row _ _ _ _ _ _ hres1]; rfl
        have r2 : w1.cell? ⟨w.heap.size + 1 + 1 + 1, 2, none⟩ = some (.string ⟨#[]⟩) := by rw [cell_of_row _ _ _ _ _ _ hres1]; rfl
        have r3 : w1.cell? ⟨w.heap.size + 1 + 1 + 1, 3, none⟩ = some (.string ⟨#[]⟩) := by rw [cell_of_row _ _ _ _ _ _ hres1]; rfl
        have r4 : w1.cell? ⟨w.heap.size + 1 + 1 + 1, 4, none⟩ = some (.string ⟨#[]⟩) := by rw [cell_of_row _ _ _ _ _ _ hres1]; rfl
        have r5 : w1.cell? ⟨w.heap.size + 1 + 1 + 1, 5, none⟩ = some (.string ⟨#[]⟩) := by rw [cell_of_row _ _ _ _ _ _ hres1]; rfl
        have r6 : w1.cell? ⟨w.heap.size + 1 + 1 + 1, 6, none⟩ = some (.string ⟨#[]⟩) := by rw [cell_of_row _ _ _ _ _ _ hres1]; rfl
        have r7 : w1.cell? ⟨w.heap.size + 1 + 1 + 1, 7, none⟩ = some (.string ⟨#[]⟩) := by rw [cell_of_row _ _ _ _ _ _ hres1]; rfl
        have r8 : w1.cell? ⟨w.heap.size + 1 + 1 + 1, 8, none⟩ = some (.string ⟨#[]⟩) := by rw [cell_of_row _ _ _ _ _ _ hres1]; rfl
        have r9 : w1.cell? ⟨w.heap.size + 1 + 1 + 1, 9, none⟩ = some (.string ⟨#[]⟩) := by rw [cell_of_row _ _ _ _ _ _ hres1]; rfl
        have r10 : w1.cell? ⟨w.heap.size + 1 + 1 + 1, 10, none⟩ = some (.string ⟨#[]⟩) := by rw [cell_of_row _ _ _ _ _ _ hres1]; rfl
        have r11 : w1.cell? ⟨w.heap.size + 1 + 1 + 1, 11, none⟩ = some (.string ⟨#[]⟩) := by rw [cell_of_row _ _ _ _ _ _ hres1]; rfl
        have r12 : w1.cell? ⟨w.heap.size + 1 + 1 + 1, 12, none⟩ = some (.string ⟨#[]⟩) := by rw [cell_of_row _ _ _ _ _ _ hres1]; rfl
        have rf : ∀ o, w1.frozen? ⟨w.heap.size + 1 + 1 + 1, o, none⟩ = false := fun o => by simp [World.frozen?, hres1]
        have hwl3 : w.heap.size + 1 + 1 + 1 < w1.heap.size := by omega
        have hb1w : Below w.heap.size w w1 := hbw.trans (hb01.mono (by omega))
        clear hres1 hres
        go_wp2_with fail
        change bodyPost Tryz.prog _ _ _ _ (bput w1 (w.heap.size + 1 + 1 + 1) 0 (fun _ => ⟨#[]⟩) (fun _ => ⟨#[]⟩))
        obtain ⟨hu, hku⟩ := bput_spec (n := 0) (X := fun _ => ⟨#[]⟩) (Y := fun _ => ⟨#[]⟩) HRES.out
        generalize bput w1 (w.heap.size + 1 + 1 + 1) 0 (fun _ => ⟨#[]⟩) (fun _ => ⟨#[]⟩) = wz at hu hku ⊢
        have hbz : Below w.heap.size w wz := hku.to_below hb1w (by omega) (fun i hi => by simp at hi; omega)
        have zc := cell_at hu
        have hwz := lt_of_heap hu
        refine bodyPost_ret (v := .tuple #[.agg (bArr 0 (fun _ => ⟨#[]⟩) (fun _ => ⟨#[]⟩)), .bool false]) ?_ rfl ⟨hbz, .inl ⟨HRR.out.symm, rfl⟩⟩
        unfold bArr at zc ⊢
        simp [results, Tryz.results266, go_sem, zc]
  · have e1 : a.terms.drop k = [] := List.drop_of_length_le (by omega)
    have HF : Hid (R = some b) := by rw [← HRR.out, e1]; rfl
    have q0 : wr.cell? ⟨w.heap.size, 0, none⟩ = some (.int .i64 n) := by rw [cell_of_row _ _ _ _ _ _ hbl]; rfl
    have q1 : wr.cell? ⟨w.heap.size, 1, none⟩ = some (.string (X 0)) := by rw [cell_of_row _ _ _ _ _ _ hbl]; rfl
    have q2 : wr.cell? ⟨w.heap.size, 2, none⟩ = some (.string (Y 0)) := by rw [cell_of_row _ _ _ _ _ _ hbl]; rfl
    have q3 : wr.cell? ⟨w.heap.size, 3, none⟩ = some (.string (X 1)) := by rw [cell_of_row _ _ _ _ _ _ hbl]; rfl
    have q4 : wr.cell? ⟨w.heap.size, 4, none⟩ = some (.string (Y 1)) := by rw [cell_of_row _ _ _ _ _ _ hbl]; rfl
    have q5 : wr.cell? ⟨w.heap.size, 5, none⟩ = some (.string (X 2)) := by rw [cell_of_row _ _ _ _ _ _ hbl]; rfl
    have q6 : wr.cell? ⟨w.heap.size, 6, none⟩ = some (.string (Y 2)) := by rw [cell_of_row _ _ _ _ _ _ hbl]; rfl
    have q7 : wr.cell? ⟨w.heap.size, 7, none⟩ = some (.string (X 3)) := by rw [cell_of_row _ _ _ _ _ _ hbl]; rfl
    have q8 : wr.cell? ⟨w.heap.size, 8, none⟩ = some (.string (Y 3)) := by rw [cell_of_row _ _ _ _ _ _ hbl]; rfl
    have q9 : wr.cell? ⟨w.heap.size, 9, none⟩ = some (.string (X 4)) := by rw [cell_of_row _ _ _ _ _ _ hbl]; rfl
    have q10 : wr.cell? ⟨w.heap.size, 10, none⟩ = some (.string (Y 4)) := by rw [cell_of_row _ _ _ _ _ _ hbl]; rfl
    have q11 : wr.cell? ⟨w.heap.size, 11, none⟩ = some (.string (X 5)) := by rw [cell_of_row _ _ _ _ _ _ hbl]; rfl
    have q12 : wr.cell? ⟨w.heap.size, 12, none⟩ = some (.string (Y 5)) := by rw [cell_of_row _ _ _ _ _ _ hbl]; rfl
    have hwl : w.heap.size < wr.heap.size := by omega
    have hwl3 : w.heap.size + 1 + 1 + 1 < wr.heap.size := by omega
    have r0 : wr.cell? ⟨w.heap.size + 1 + 1 + 1, 0, none⟩ = some (.int .i64 0) := by rw [cell_of_row _ _ _ _ _ _ hres]; rfl
    have r1 : wr.cell? ⟨w.heap.size + 1 + 1 + 1, 1, none⟩ = some (.string ⟨#[]⟩) := by rw [cell_of_row _ _ _ _ _ _ hres]; rfl
    have r2 : wr.cell? ⟨w.heap.size + 1 + 1 + 1, 2, none⟩ = some (.string ⟨#[]⟩) := by rw [cell_of_row _ _ _ _ _ _ hres]; rfl
    have r3 : wr.cell? ⟨w.heap.size + 1 + 1 + 1, 3, none⟩ = some (.string ⟨#[]⟩) := by rw [cell_of_row _ _ _ _ _ _ hres]; rfl
    have r4 : wr.cell? ⟨w.heap.size + 1 + 1 + 1, 4, none⟩ = some (.string ⟨#[]⟩) := by rw [cell_of_row _ _ _ _ _ _ hres]; rfl
    have r5 : wr.cell? ⟨w.heap.size + 1 + 1 + 1, 5, none⟩ = some (.string ⟨#[]⟩) := by rw [cell_of_row _ _ _ _ _ _ hres]; rfl
    have r6 : wr.cell? ⟨w.heap.size + 1 + 1 + 1, 6, none⟩ = some (.string ⟨#[]⟩) := by rw [cell_of_row _ _ _ _ _ _ hres]; rfl
    have r7 : wr.cell? ⟨w.heap.size + 1 + 1 + 1, 7, none⟩ = some (.string ⟨#[]⟩) := by rw [cell_of_row _ _ _ _ _ _ hres]; rfl
    have r8 : wr.cell? ⟨w.heap.size + 1 + 1 + 1, 8, none⟩ = some (.string ⟨#[]⟩) := by rw [cell_of_row _ _ _ _ _ _ hres]; rfl
    have r9 : wr.cell? ⟨w.heap.size + 1 + 1 + 1, 9, none⟩ = some (.string ⟨#[]⟩) := by rw [cell_of_row _ _ _ _ _ _ hres]; rfl
    have r10 : wr.cell? ⟨w.heap.size + 1 + 1 + 1, 10, none⟩ = some (.string ⟨#[]⟩) := by rw [cell_of_row _ _ _ _ _ _ hres]; rfl
    have r11 : wr.cell? ⟨w.heap.size + 1 + 1 + 1, 11, none⟩ = some (.string ⟨#[]⟩) := by rw [cell_of_row _ _ _ _ _ _ hres]; rfl
    have r12 : wr.cell? ⟨w.heap.size + 1 + 1 + 1, 12, none⟩ = some (.string ⟨#[]⟩) := by rw [cell_of_row _ _ _ _ _ _ hres]; rfl
    have rf : ∀ o, wr.frozen? ⟨w.heap.size + 1 + 1 + 1, o, none⟩ = false := fun o => by simp [World.frozen?, hres]
    have HRES : Hid (wr.heap[w.heap.size + 1 + 1 + 1]? = some (.cells (bArr 0 (fun _ => ⟨#[]⟩) (fun _ => ⟨#[]⟩)) 369 (0, 0))) := hres
    clear HRR e1 hfct hrow hbl mbnd mfct mres hres
    go_wp2_with fail
    change bodyPost Tryz.prog _ _ _ _ (bput wr (w.heap.size + 1 + 1 + 1) n X Y)
    obtain ⟨hu, hku⟩ := bput_spec (n := n) (X := X) (Y := Y) HRES.out
    generalize bput wr (w.heap.size + 1 + 1 + 1) n X Y = wz at hu hku ⊢
    have hbz : Below w.heap.size w wz := hku.to_below hbw (by omega) (fun i hi => by simp at hi; omega)
    have z := cell_at hu
    have hwz := lt_of_heap hu
    refine bodyPost_ret (v := .tuple #[.agg (bArr n X Y), .bool true]) ?_ rfl ⟨hbz, .inr ⟨b, n, X, Y, HF.out, hb, by omega, rfl⟩⟩
    unfold bArr at z ⊢
    simp [results, Tryz.results266, go_sem, z]
theorem match_any (w : World) (b0 : En.Bind) (n0 : Nat) (X0 Y0 : Nat → ByteArray) (hb0 : BIs b0 n0 X0 Y0) (a : Ax.Atom) (ad : Option Addr) (ac : Nat) (pr x y z : ByteArray)
 (ha : MA.ok w (a, .slice ad a.terms.length ac)) (hk : ∀ t, t ∈ a.terms → t.kind = 0 ∨ t.kind = 1) (h3 : a.terms.length ≤ 3) (hn : n0 + a.terms.length ≤ 6) :
 Calls Tryz.prog 266 #[.agg (bArr n0 X0 Y0), .agg #[.int .i64 a.at_, .string a.pred, .slice ad a.terms.length ac], .agg #[.string pr, .string x, .string y, .string z]] w (MPost w (En.amatch a (pr, [x, y, z]) b0) (n0 + a.terms.length)) := by
 unfold En.amatch
 by_cases hp : a.pred = pr
 · rw [if_pos hp]
   exact match_yes w b0 n0 X0 Y0 hb0 a ad ac pr x y z hp ha hk h3 hn
 · rw [if_neg hp]
   exact match_no w b0 n0 X0 Y0 a ad ac _ pr x y z hp
end Go.Proofs.YtdmicblafmhflaaGreatDoor
/- Package follow: fact. -/
namespace Go.Proofs.YtdmicblafmhflaaGreatDoor
open Go.RowKit
open Go.Sort (grow)
def part3 (f : Nat → ByteArray) (k : Nat) : Nat → ByteArray := fun i => if i < k then f i else ⟨#[]⟩
def fArr (pr : ByteArray) (F : Nat → ByteArray) : Array Value := #[.string pr, .string (F 0), .string (F 1), .string (F 2)]
theorem fArr_set {pr : ByteArray} {f : Nat → ByteArray} {k : Nat} (hk : k < 3) {v : ByteArray} (hv : f k = v) : (fArr pr (part3 f k)).setIfInBounds (1 + k) (.string v) = fArr pr (part3 f (k + 1)) := by
 subst hv
 have : k = 0 ∨ k = 1 ∨ k = 2 := by omega
 rcases this with rfl | rfl | rfl <;> rfl
theorem fArr_get {pr : ByteArray} {F : Nat → ByteArray} {k : Nat} (hk : k < 3) : (fArr pr F)[1 + k]? = some (.string (F k)) := by
 have : k = 0 ∨ k = 1 ∨ k = 2 := by omega
 rcases this with rfl | rfl | rfl <;> rfl
def tnth (ts : List Ax.Term) (s : ByteArray → ByteArray) : Nat → ByteArray := fun i => ((ts[i]?).map (En.tval s)).getD ⟨#[]⟩
theorem fArr_pad (pr : ByteArray) (ts : List Ax.Term) (s : ByteArray → ByteArray) (h : ts.length ≤ 3) : fArr pr (part3 (tnth ts s) ts.length) = #[.string pr, .string ((En.pad (ts.map (En.tval s)))[0]?.getD ⟨#[]⟩), .string ((En.pad (ts.map (En.tval s)))[1]?.getD ⟨#[]⟩), .string ((En.pad (ts.map (En.tval s)))[2]?.getD ⟨#[]⟩)] := by
 match ts, h with
 | [], _ => rfl
 | [_], _ => rfl
 | [_, _], _ => rfl
 | [_, _, _], _ => rfl
theorem pad_three {l : List ByteArray} (h : l.length ≤ 3) : ∃ a b c, En.pad l = [a, b, c] := by
 match l, h with
 | [], _ => exact ⟨_, _, _, rfl⟩
 | [_], _ => exact ⟨_, _, _, rfl⟩
 | [_, _], _ => exact ⟨_, _, _, rfl⟩
 | [_, _, _], _ => exact ⟨_, _, _, rfl⟩
def fput (w : World) (r : Nat) (pr : ByteArray) (F : Nat → ByteArray) : World := (((w.setCell ⟨r, 0, none⟩ (.string pr)).setCell ⟨r, 1, none⟩ (.string (F 0))).setCell ⟨r, 2, none⟩ (.string (F 1))).setCell ⟨r, 3, none⟩ (.string (F 2))
theorem fput_spec {w : World} {r : Nat} {q pr : ByteArray} {G F : Nat → ByteArray} {T : TypeId} (h : w.heap[r]? = some (.cells (fArr q G) T (0, 0))) : (fput w r pr F).heap[r]? = some (.cells (fArr pr F) T (0, 0)) ∧ Kb [r] w (fput w r pr F) := by
 have h0 := setCell_heap _ h 0 (.string pr)
 have h1 := setCell_heap _ h0 1 (.string (F 0))
 have h2 := setCell_heap _ h1 2 (.string (F 1))
 have h3 := setCell_heap _ h2 3 (.string (F 2))
 refine ⟨by simpa [fput, fArr] using h3, ?_⟩
 exact (((Kb.setCell w ⟨r, 0, none⟩ (.string pr)).trans (Kb.setCell _ ⟨r, 1, none⟩ (.string (F 0)))).trans (Kb.setCell _ ⟨r, 2, none⟩ (.string (F 1)))).trans (Kb.setCell _ ⟨r, 3, none⟩ (.string (F 2)))
theorem fw_made (w : World) (o1 o2 o3 : Obj) : Below w.heap.size w (((w.alloc o1).alloc o2).alloc o3) ∧ (((w.alloc o1).alloc o2).alloc o3).heap.size = w.heap.size + 3 ∧ (((w.alloc o1).alloc o2).alloc o3).heap[w.heap.size + 1]? = some o2 ∧ (((w.alloc o1).alloc o2).alloc o3).heap[w.heap.size + 1 + 1]? = some o3 := by
 refine ⟨(((Below.refl _ _).alloc (Nat.le_refl _) _).alloc (by simp) _).alloc (by simp; omega) _, by simp, ?_, ?_⟩
 · rw [Below.heap_alloc _ _ _ (by simp)]
   have := heap_alloc_new (w.alloc o1) o2
   simpa using this
 · have := heap_alloc_new ((w.alloc o1).alloc o2) o3
   simpa using this
set_option maxRecDepth 100000 in
set_option maxHeartbeats 2000000 in
theorem fact_any (w : World) (g n : Nat) (X Y : Nat → ByteArray) (b : En.Bind) (hb : BIs b n X Y) (hg : w.heap[g]? = some (.cells (bArr n X Y) 369 (0, 0))) (a : Ax.Atom) (ad : Option Addr) (ac : Nat)
 (ha : MA.ok w (a, .slice ad a.terms.length ac)) (hk : ∀ t, t ∈ a.terms → t.kind = 0 ∨ t.kind = 1) (h3 : a.terms.length ≤ 3) :
 Calls Tryz.prog 265 #[.pointer (some ⟨g, 0, none⟩), .agg #[.int .i64 a.at_, .string a.pred, .slice ad a.terms.length ac]] w fun e w' => Below w.heap.size w w' ∧ e = .returned (.agg (fArr a.pred (part3 (tnth a.terms (En.val b)) a.terms.length))) := by
 have hgl := lt_of_heap hg
 unfold MA.ok at ha
 simp only at ha
 have hle := ownsRow_le ha
 have HK : Hid (∀ t, t ∈ a.terms → t.kind = 0 ∨ t.kind = 1) := hk
 clear hk
 generalize hf : tnth a.terms (En.val b) = f
 have HF : Hid (tnth a.terms (En.val b) = f) := hf
 clear hf
 go_enter Tryz.func265, Tryz.ntmps265
 go_wp2_with fail
 change Code.wp Tryz.prog _ _ _ (((w.alloc (.cells #[.int .i64 a.at_, .string a.pred, .slice ad a.terms.length ac] 219)).alloc (.cells (fArr ⟨#[]⟩ (part3 f 0)) 325)).alloc (.cells (fArr a.pred (part3 f 0)) 325))
 obtain ⟨mb, ms, mres, mfct⟩ := fw_made w (.cells #[.int .i64 a.at_, .string a.pred, .slice ad a.terms.length ac] 219) (.cells (fArr ⟨#[]⟩ (part3 f 0)) 325) (.cells (fArr a.pred (part3 f 0)) 325)
 generalize (((w.alloc (.cells #[.int .i64 a.at_, .string a.pred, .slice ad a.terms.length ac] 219)).alloc (.cells (fArr ⟨#[]⟩ (part3 f 0)) 325)).alloc (.cells (fArr a.pred (part3 f 0)) 325)) = w0 at mb ms mres mfct ⊢
 have hg0 : w0.heap[g]? = some (.cells (bArr n X Y) 369 (0, 0)) := by rw [mb.block _ hgl]; exact hg
 go_loopw [14] (fun iv wr => ∃ k : Nat, k ≤ a.terms.length ∧ iv = .int .i64 k ∧ wr.heap[w.heap.size + 1 + 1]? = some (.cells (fArr a.pred (part3 f k)) 325 (0, 0)) ∧ Kb [w.heap.size + 1 + 1] w0 wr) (fun iv _ => a.terms.length - (intOf iv).toNat)
 case atStart => exact ⟨0, Nat.zero_le _, rfl, mfct, Kb.refl _ _⟩
 case round =>
  obtain ⟨k, hkl, rfl, hfc, hkb⟩ := hrel
  have hsz := hkb.size
  have hrow : wr.ownsRow 0 310 2 (.slice ad a.terms.length ac) a.terms.length (termCells a.terms) := hkb.row (ownsRow_below ha mb) (fun q hq hm => by
   simp only [List.mem_singleton] at hm
   have := (World.ownsRow.lt ha q hq).2
   omega)
  have hres : wr.heap[w.heap.size + 1]? = some (.cells (fArr ⟨#[]⟩ (part3 f 0)) 325 (0, 0)) := hkb.heap mres (by simp only [List.mem_singleton]; omega)
  have hgr : wr.heap[g]? = some (.cells (bArr n X Y) 369 (0, 0)) := hkb.heap hg0 (by simp only [List.mem_singleton]; omega)
  have hbw : Below w.heap.size w wr := hkb.to_below mb (by omega) (fun i hi => by simp at hi; omega)
  have hwl2 : w.heap.size + 1 + 1 < wr.heap.size := by omega
  by_cases hlt : k < a.terms.length
  · obtain ⟨tg, rfl, htg, htc, htcs⟩ := row_cells hrow (by omega)
    obtain ⟨y0, y1⟩ := termCells_get a.terms k hlt
    have d0 := htcs _ _ y0
    have d1 := htcs _ _ y1
    have hkt := HK.out _ (List.getElem_mem hlt)
    have hfk : f k = En.tval (En.val b) a.terms[k] := by rw [← HF.out]; simp [tnth, List.getElem?_eq_getElem hlt]
    generalize a.terms[k] = t at d0 d1 hkt hfk
    obtain ⟨tk, tt⟩ := t
    simp only at d0 d1
    have hnm : ∀ W, Below wr.heap.size wr W → Calls Tryz.prog 286 #[.pointer (some ⟨g, 0, none⟩), .agg #[.int .i64 tk, .string tt]] W fun e w' => e = .returned (.string (En.tval (En.val b) ⟨tk, tt⟩)) ∧ Below W.heap.size W w' := fun W hW => name_any W g n X Y b hb ⟨tk, tt⟩ hkt (by rw [hW.block _ (by omega)]; exact hgr)
    rw [← hfk] at hnm
    generalize hv : f k = v at hnm
    have HV : Hid (f k = v) := hv
    clear htcs hrow mfct mres y0 y1 hkt hfk hgr hg hg0 hv hres
    go_wp2_with (go_at_call 286; refine (hnm _ (by exact (Below.refl _ _).alloc (Nat.le_refl _) _)).mono ?_; rintro e w1 ⟨rfl, hb1⟩; have hb01 : Below wr.heap.size wr w1 := ((Below.refl _ _).alloc (Nat.le_refl _) _).trans (hb1.mono (by simp)); have hfc1 : w1.heap[w.heap.size + 1 + 1]? = some (.cells (fArr a.pred (part3 f k)) 325 (0, 0)) := (by rw [hb01.block _ hwl2]; exact hfc); have hs1 := hb01.size; have hwm2 : w.heap.size + 1 + 1 < w1.heap.size := (by omega); have fx : (w1.cell? ⟨w.heap.size + 1 + 1, 1 + k, none⟩) = some (.string (part3 f k k)) := (by rw [cell_of_row _ _ _ _ _ _ hfc1]; exact fArr_get (by omega)); have fz : w1.frozen? ⟨w.heap.size + 1 + 1, 1 + k, none⟩ = false := (by simp [World.frozen?, hfc1]); have HFC1 : Hid (w1.heap[w.heap.size + 1 + 1]? = some (.cells (fArr a.pred (part3 f k)) 325 (0, 0))) := hfc1; clear hb1 hnm hfc1)
    have hset := setCell_heap w1 HFC1.out (1 + k) (.string v)
    rw [fArr_set (by omega) HV.out] at hset
    go_roundw
    case rel => exact ⟨k + 1, by omega, by go_num, hset, (hkb.below hb01).trans (Kb.setCell w1 ⟨w.heap.size + 1 + 1, 1 + k, none⟩ (.string v))⟩
    case measure => simp [intOf]; omega
  · have hkl2 : k = a.terms.length := by omega
    subst hkl2
    have q0 : wr.cell? ⟨w.heap.size + 1 + 1, 0, none⟩ = some (.string a.pred) := by rw [cell_of_row _ _ _ _ _ _ hfc]; rfl
    have q1 : wr.cell? ⟨w.heap.size + 1 + 1, 1, none⟩ = some (.string (part3 f a.terms.length 0)) := by rw [cell_of_row _ _ _ _ _ _ hfc]; rfl
    have q2 : wr.cell? ⟨w.heap.size + 1 + 1, 2, none⟩ = some (.string (part3 f a.terms.length 1)) := by rw [cell_of_row _ _ _ _ _ _ hfc]; rfl
    have q3 : wr.cell? ⟨w.heap.size + 1 + 1, 3, none⟩ = some (.string (part3 f a.terms.length 2)) := by rw [cell_of_row _ _ _ _ _ _ hfc]; rfl
    have r0 : wr.cell? ⟨w.heap.size + 1, 0, none⟩ = some (.string ⟨#[]⟩) := by rw [cell_of_row _ _ _ _ _ _ hres]; rfl
    have r1 : wr.cell? ⟨w.heap.size + 1, 1, none⟩ = some (.string ⟨#[]⟩) := by rw [cell_of_row _ _ _ _ _ _ hres]; rfl
    have r2 : wr.cell? ⟨w.heap.size + 1, 2, none⟩ = some (.string ⟨#[]⟩) := by rw [cell_of_row _ _ _ _ _ _ hres]; rfl
    have r3 : wr.cell? ⟨w.heap.size + 1, 3, none⟩ = some (.string ⟨#[]⟩) := by rw [cell_of_row _ _ _ _ _ _ hres]; rfl
    have rf : ∀ o, wr.frozen? ⟨w.heap.size + 1, o, none⟩ = false := fun o => by simp [World.frozen?, hres]
    have HRES : Hid (wr.heap[w.heap.size + 1]? = some (.cells (fArr ⟨#[]⟩ (part3 f 0)) 325 (0, 0))) := hres
    have hwl1 : w.heap.size + 1 < wr.heap.size := by omega
    clear hfc hrow mfct mres hres hgr hg hg0
    go_wp2_with fail
    change bodyPost Tryz.prog _ _ _ _ (fput wr (w.heap.size + 1) a.pred (part3 f a.terms.length))
    obtain ⟨hu, hku⟩ := fput_spec (pr := a.pred) (F := part3 f a.terms.length) HRES.out
    generalize fput wr (w.heap.size + 1) a.pred (part3 f a.terms.length) = wz at hu hku ⊢
    have hbz : Below w.heap.size w wz := hku.to_below hbw (by omega) (fun i hi => by simp at hi; omega)
    have zc := cell_at hu
    have hwz := lt_of_heap hu
    refine bodyPost_ret (v := .agg (fArr a.pred (part3 f a.terms.length))) ?_ rfl ⟨hbz, rfl⟩
    unfold fArr at zc ⊢
    simp [results, Tryz.results265, go_sem, zc]
end Go.Proofs.YtdmicblafmhflaaGreatDoor
