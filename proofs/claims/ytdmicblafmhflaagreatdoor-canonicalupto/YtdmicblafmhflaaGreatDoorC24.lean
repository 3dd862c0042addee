/- slices.Compact at predicates. -/
import Derived.Test.YtdmicblafmhflaaGreatDoorC23
import Derived.BigQuiet
import Derived.Deep.QuietTactic
import Derived.Deep.RegionLaw
import Derived.Test.YtdmicblafmhflaaGreatDoorC19
set_option linter.unusedSimpArgs false
set_option linter.unusedVariables false
namespace Go.Proofs.YtdmicblafmhflaaGreatDoor
open Go.RowKit
theorem Tryz.fieldsPred : (Tryz.prog.fieldsOf 112).toList = [{ name := "Name", type := 9, offset := 0, embedded := false, tag := "", pkgPath := "", byteOffset := 0 }, { name := "Places", type := 3, offset := 1, embedded := false, tag := "", pkgPath := "", byteOffset := 16 }] := by kernel_rfl
theorem Tryz.structPred : Tryz.prog.underlying 112 = some (.struct (Tryz.prog.fieldsOf 112)) := by kernel_rfl
theorem Tryz.heldPred : Tryz.prog.stoodInHeld 112 = false := by kernel_rfl
theorem Tryz.guardPred : Tryz.prog.eqGuardType Tryz.prog.depth 112 = false := by kernel_rfl
theorem Tryz.zeroPred (w : World) : (zeroValue 112).run Tryz.prog w = .ok (.agg #[.string ByteArray.empty, .int .i64 0]) w := by kernel_rfl
theorem run_equal_pred (s t : ByteArray) (a b : Int) (w : World) : (Op.equalIn 10000 112 (.agg #[.string s, .int .i64 a]) (.agg #[.string t, .int .i64 b])).run Tryz.prog w = .ok (decide (s = t ∧ a = b)) w := by
 have h3 : Tryz.prog.underlying 3 = some (.int .i64) := Tryz.underlying3
 have h9 : Tryz.prog.underlying 9 = some .string := Tryz.underlying9
 rw [run_equalIn_struct w 9999 112 _ _ Tryz.structPred Tryz.heldPred, Tryz.fieldsPred]
 have hst : (s = t) ↔ (s.toList = t.toList) := ⟨fun e => by rw [e], fun e => Tb.toList_inj e⟩
 simp only [Op.eqFields, part, isAgg, run_underlying h3, run_underlying h9, hst]
 simp [part, isAgg, run_underlying h3, run_underlying h9, run_equalIn_int w 9998 3 .i64 .i64 a b h3, run_equalIn_string w 9998 9 s t h9]
 by_cases h1 : a = b <;> by_cases h2 : s.toList = t.toList <;> simp [h1, h2]
theorem run_eql_pred (s t : ByteArray) (a b : Int) (w : World) : (binOp .eql 112 (.agg #[.string s, .int .i64 a]) (.agg #[.string t, .int .i64 b])).run Tryz.prog w = .ok (.bool (decide (s = t ∧ a = b))) w := by
 rw [run_eql_struct, run_equal_pred]
 rfl
theorem run_neq_pred (s t : ByteArray) (a b : Int) (w : World) : (binOp .neq 112 (.agg #[.string s, .int .i64 a]) (.agg #[.string t, .int .i64 b])).run Tryz.prog w = .ok (.bool (!decide (s = t ∧ a = b))) w := by
 rw [run_neq_struct, run_equal_pred]
 rfl
theorem run_clear_wide (P : Program) (w : World) (t ty elem : TypeId) (z : Value) (g o n c : Nat) (cur : Array Value) (T : TypeId) (cs : List Value) (hu : P.underlying t = some (.slice elem)) (hz : ∀ w, (zeroValue elem).run P w = .ok z w) (hcs : (Builtin.zeroCells z.cells n).toList = cs)
 (hg : w.heap[g]? = some (.cells cur T (0, 0))) (hfit : o + cs.length ≤ cur.size) (h1 : ∀ v ∈ cs, v.oneCell' = true) (hn : 0 < n) :
 (Builtin.clear_ #[t] ty #[.slice (some ⟨g, o, none⟩) n c]).run P w = .ok (.tuple #[]) (w.setRow g (cur.toList.take o ++ cs ++ cur.toList.drop (o + cs.length)).toArray) := by
 have hst := run_storeCells_at P g o T cs 0 cur w hg (by simpa using hfit) h1
 obtain ⟨m, rfl⟩ : ∃ m, n = m + 1 := ⟨n - 1, by omega⟩
 simp only [Nat.add_zero] at hst
 simp [Builtin.clear_, run_underlying hu, hz, hcs, hst]
theorem predCells_set (R : List Pd.Pr) {j : Nat} (hj : j < R.length) (x : Pd.Pr) : ((predCells R).set (j * 2) (.string x.1)).set (j * 2 + 1) (.int .i64 x.2) = predCells (R.set j x) := by
 induction R generalizing j with
 | nil => simp at hj
 | cons a R ih =>
  cases j with
  | zero => simp [predCells_cons]
  | succ j =>
   have := ih (j := j) (by simpa using hj)
   rw [show (j + 1) * 2 + 1 = (j * 2 + 1) + 1 + 1 by omega, show (j + 1) * 2 = j * 2 + 1 + 1 by omega]
   simp only [List.set_cons_succ, predCells_cons, this]
theorem predCells_take (R : List Pd.Pr) (j : Nat) : (predCells R).take (j * 2) = predCells (R.take j) := by
 induction R generalizing j with
 | nil => simp [predCells]
 | cons a R ih =>
  cases j with
  | zero => simp [predCells]
  | succ j => rw [List.take_succ_cons, predCells_cons, predCells_cons, show (j + 1) * 2 = j * 2 + 1 + 1 by omega, List.take_succ_cons, List.take_succ_cons, ih]
theorem zero_pred (n : Nat) : (Builtin.zeroCells (Value.agg #[.string ByteArray.empty, .int .i64 0]).cells n).toList.length = n * 2 ∧ ∀ v ∈ (Builtin.zeroCells (Value.agg #[.string ByteArray.empty, .int .i64 0]).cells n).toList, v.oneCell' = true := by
 have e : (Value.agg #[.string ByteArray.empty, .int .i64 0]).cells = #[.string ByteArray.empty, .int .i64 0] := rfl
 rw [e]
 refine ⟨by simp [Builtin.zeroCells], ?_⟩
 intro v hv
 simp only [Builtin.zeroCells, Array.toList_map, List.mem_map] at hv
 obtain ⟨i, _, rfl⟩ := hv
 have h2 : (#[Value.string ByteArray.empty, .int .i64 0] : Array Value).size = 2 := rfl
 rw [h2]
 have : i % 2 = 0 ∨ i % 2 = 1 := by omega
 rcases this with h | h <;> rw [h] <;> rfl
structure CpRel (B : Nat) (w wr : World) (g pc : Nat) (D : List Pd.Pr) (m j : Nat) (R : List Pd.Pr) : Prop where
 len : R.length = D.length
 lt : j < m
 le : m ≤ D.length
 took : R.take j = Pd.cpt (D.take m)
 left : R.drop (m - 1) = D.drop (m - 1)
 own : wr.ownsRow B 112 2 (.slice (some ⟨g, 0, none⟩) D.length pc) D.length (predCells R)
 kept : Kb [g] w wr
theorem CpRel.get {B : Nat} {w wr : World} {g pc : Nat} {D : List Pd.Pr} {m j : Nat} {R : List Pd.Pr} (h : CpRel B w wr g pc D m j R) {i : Nat} (hi : m - 1 ≤ i) (hl : i < D.length) : R[i]'(by rw [h.len]; exact hl) = D[i] := by
 have := congrArg (fun l => l[i - (m - 1)]?) h.left
 simp only [List.getElem?_drop] at this
 rw [show m - 1 + (i - (m - 1)) = i by omega, List.getElem?_eq_getElem hl, List.getElem?_eq_getElem (by rw [h.len]; exact hl)] at this
 simpa using this
theorem CpRel.same {B : Nat} {w wr : World} {g pc : Nat} {D : List Pd.Pr} {m j : Nat} {R : List Pd.Pr} (h : CpRel B w wr g pc D m j R) (hm : m < D.length) (he : D[m] = D[m - 1]'(by omega)) {wx : World} (hx : wx.heap = wr.heap) (hk : Kb [g] w wx) : CpRel B w wx g pc D (m + 1) j R := by
 refine ⟨h.len, by have := h.lt; omega, hm, ?_, ?_, ⟨h.own.1, by rw [hx]; exact h.own.2⟩, hk⟩
 · rw [Pd.cpt_take_succ D hm (by have := h.lt; omega), if_pos he]
   exact h.took
 · have := congrArg (fun l => l.drop 1) h.left
   simp only [List.drop_drop] at this
   have h0 := h.lt
   rw [show m - 1 + 1 = m by omega] at this
   exact this
theorem CpRel.next {B : Nat} {w wr : World} {g pc : Nat} {D : List Pd.Pr} {m j : Nat} {R : List Pd.Pr} (h : CpRel B w wr g pc D m j R) (hm : m < D.length) (he : ¬ D[m] = D[m - 1]'(by omega)) {wx : World} (hx : wx.heap = wr.heap) (hk : Kb [g] w wx) :
 CpRel B w ((wx.setCell ⟨g, j * 2, none⟩ (.string (D[m]).1)).setCell ⟨g, j * 2 + 1, none⟩ (.int .i64 (D[m]).2)) g pc D (m + 1) (j + 1) (R.set j D[m]) := by
 have hox : wx.ownsRow B 112 2 (.slice (some ⟨g, 0, none⟩) D.length pc) D.length (predCells R) := ⟨h.own.1, by rw [hx]; exact h.own.2⟩
 have hlt := h.lt
 have hlen := h.len
 refine ⟨by simpa using hlen, by omega, hm, ?_, ?_, ?_, (hk.trans (Kb.setCell wx ⟨g, j * 2, none⟩ _)).trans (Kb.setCell _ ⟨g, j * 2 + 1, none⟩ _)⟩
 · rw [Pd.cpt_take_succ D hm (by omega), if_neg he, ← h.took, List.take_add_one, List.getElem?_set_self (by omega), List.take_set_of_le (Nat.le_refl _)]
   rfl
 · rw [List.drop_set_of_lt (by omega)]
   have := congrArg (fun l => l.drop 1) h.left
   simp only [List.drop_drop] at this
   rw [show m - 1 + 1 = m by omega] at this
   exact this
 · have h1 := (World.ownsRow.stored hox (j * 2) (.string (D[m]).1)).1
   have h2 := (World.ownsRow.stored h1 (j * 2 + 1) (.int .i64 (D[m]).2)).1
   rw [predCells_set R (by omega)] at h2
   exact h2
set_option maxRecDepth 100000 in
set_option maxHeartbeats 2000000 in
theorem compact_any (B : Nat) (w : World) (pd : Option Addr) (pc : Nat) (D : List Pd.Pr) (hown : w.ownsRow B 112 2 (.slice pd D.length pc) D.length (predCells D)) (hD : D.length ≤ 2000000) :
 Calls Tryz.prog 116 #[.slice pd D.length pc] w fun e w' => e = .returned (.slice pd (Pd.cpt D).length pc) ∧ w'.ownsRow B 112 2 (.slice pd (Pd.cpt D).length pc) (Pd.cpt D).length (predCells (Pd.cpt D)) ∧ Kb (Value.ownBlock (.slice pd D.length pc)).toList w w' := by
 by_cases h2 : D.length < 2
 · have hc : Pd.cpt D = D := by
    match D, h2 with
    | [], _ => rfl
    | [x], _ => rfl
   rw [hc]
   go_enter Tryz.func116, Tryz.ntmps116
   go_wp2_with fail
   go_ret
   exact ⟨rfl, hown, Kb.refl _ _⟩
 · obtain ⟨g, rfl, hg, hcap, hcs⟩ := row_cells hown (by omega)
   have heq := run_eql_pred
   have hneq := run_neq_pred
   have hgd : ∀ (op : BinOp) (x y : Operand) (xs ys : Array Value) (w : World), (eqGuard op 112 x y (.agg xs) (.agg ys)).run Tryz.prog w = .ok () w := fun op x y xs ys w => run_eqGuard_agg w op 112 x y xs ys Tryz.guardPred
   go_enter Tryz.func116, Tryz.ntmps116
   go_wp2_with fail
   go_loopw [3] (fun v wr => ∃ k m : Nat, k + 1 ≤ D.length ∧ v = .int .i64 ((k : Int) + 1) ∧ wr = w.drewN m ∧ Pd.cpt (D.take (k + 1)) = D.take (k + 1)) (fun v _ => D.length - (intOf v).toNat)
   case atStart => exact ⟨0, 0, by omega, rfl, rfl, by rw [Pd.cpt_take_one D (by omega)]; cases D with | nil => simp at h2 | cons a t => rfl⟩
   case round =>
    obtain ⟨k, m, hk, rfl, rfl, hcpt⟩ := hrel
    have HCP : Hid (Pd.cpt (D.take (k + 1)) = D.take (k + 1)) := hcpt
    clear hcpt
    by_cases hlt : k + 1 < D.length
    · have c0 := hcs _ _ (predCells_get D (k + 1) hlt).1
      have c1 := hcs _ _ (predCells_get D (k + 1) hlt).2
      have b0 := hcs _ _ (predCells_get D k (by omega)).1
      have b1 := hcs _ _ (predCells_get D k (by omega)).2
      generalize hx : D[k + 1] = x at c0 c1
      generalize hy : D[k] = y at b0 b1
      have HX : Hid (D[k + 1] = x) := hx
      have HY : Hid (D[k] = y) := hy
      clear hx hy hcs
      cases hv : decide (x.1 = y.1 ∧ (x.2 : Int) = (y.2 : Int))
      case false =>
       go_upto_region 6 with fail
       go_quiet (fail)
       go_wp2_with fail
       go_roundw
       case rel =>
        refine ⟨k + 1, _, by omega, by go_num, rfl, ?_⟩
        have e0 : D.take (k + 1 + 1) = D.take (k + 1) ++ [D[k + 1]] := by rw [List.take_add_one, List.getElem?_eq_getElem hlt]; rfl
        rw [Pd.cpt_take_succ D hlt (by omega), if_neg, HCP.out, e0]
        · intro e
          have e2 : x = y := by rw [← HX.out, ← HY.out]; exact e
          subst e2
          simp at hv
       case measure => simp [intOf]; omega
      case true =>
       have hxy : x = y := by
        simp at hv
        exact Prod.ext hv.1 (by have := hv.2; omega)
       have HST : Hid (∀ q : Nat, CpRel B w (w.drewN q) g pc D (k + 2) (k + 1) D) := by
        intro q
        refine ⟨rfl, by omega, hlt, ?_, rfl, ⟨hown.1, hown.2⟩, ⟨rfl, rfl, rfl, Nat.le_refl _, fun _ _ _ => rfl⟩⟩
        rw [Pd.cpt_take_succ D hlt (by omega), if_pos, HCP.out]
        rw [HX.out, hxy, ← HY.out]
        rfl
       go_upto_region 6 with fail
       go_quiet (fail)
       go_wp2_with fail
       clear hxy c0 c1 b0 b1 hv HX HY HCP
       go_loopw [3, 5] (fun a b wr => ∃ (j q : Nat) (R : List Pd.Pr), a = .int .i64 j ∧ b = .int .i64 ((q : Int) + 1) ∧ CpRel B w wr g pc D (k + q + 2) j R) (fun _ b _ => D.length - (intOf b).toNat)
       case atStart => exact ⟨k + 1, 0, D, by go_num, rfl, HST.out _⟩
       case round =>
        obtain ⟨j, q, R, rfl, rfl, hcp⟩ := hrel
        have HCP : Hid (CpRel B w wr g pc D (k + q + 2) j R) := hcp
        have hRl := hcp.len
        have hjl := hcp.lt
        have hle := hcp.le
        obtain ⟨g', e0, hg', hcap', hcs⟩ := row_cells hcp.own (by omega)
        obtain rfl : g = g' := by simpa using e0
        by_cases hlq : k + q + 2 < D.length
        · have c0 := hcs _ _ (predCells_get R (k + q + 2) (by omega)).1
          have c1 := hcs _ _ (predCells_get R (k + q + 2) (by omega)).2
          have b0 := hcs _ _ (predCells_get R (k + q + 1) (by omega)).1
          have b1 := hcs _ _ (predCells_get R (k + q + 1) (by omega)).2
          rw [hcp.get (by omega) hlq] at c0 c1
          rw [hcp.get (by omega) (show k + q + 1 < D.length by omega)] at b0 b1
          clear hcp
          generalize hx : D[k + q + 2] = x at c0 c1
          generalize hy : D[k + q + 1] = y at b0 b1
          have HX : Hid (D[k + q + 2] = x) := hx
          have HY : Hid (D[k + q + 1] = y) := hy
          clear hx hy
          rw [show (k + q + 2) * 2 = (k + 1) * 2 + (q + 1) * 2 by omega] at c0 c1
          rw [show (k + q + 1) * 2 = (k + 1) * 2 + q * 2 by omega] at b0 b1
          cases hv : decide (x.1 = y.1 ∧ (x.2 : Int) = (y.2 : Int))
          case true =>
           have HV : Hid (x = y) := by
            simp at hv
            exact Prod.ext hv.1 (by have := hv.2; omega)
           go_upto_region 11 with fail
           go_quiet (fail)
           go_wp2_with fail
           go_roundw
           case rel => exact ⟨j, q + 1, R, rfl, by go_num, HCP.out.same hlq (by rw [HX.out, HV.out, ← HY.out]; rfl) rfl ⟨HCP.out.kept.os, HCP.out.kept.tape, HCP.out.kept.output, HCP.out.kept.size, HCP.out.kept.block⟩⟩
           case measure => simp [intOf]; omega
          case false =>
           have HV : Hid (¬ x = y) := fun e => by subst e; simp at hv
           have s0 : ∃ v, wr.cell? ⟨g, j * 2, none⟩ = some v := ⟨_, hcs _ _ (predCells_get R j (by omega)).1⟩
           have s1 : ∃ v, wr.cell? ⟨g, j * 2 + 1, none⟩ = some v := ⟨_, hcs _ _ (predCells_get R j (by omega)).2⟩
           obtain ⟨v0, s0⟩ := s0
           obtain ⟨v1, s1⟩ := s1
           have f0 : wr.frozen? ⟨g, j * 2, none⟩ = false := by
            obtain ⟨cur, e⟩ := block_type HCP.out.own (b := g) rfl
            simp [World.frozen?, e]
           have f1 : wr.frozen? ⟨g, j * 2 + 1, none⟩ = false := by
            obtain ⟨cur, e⟩ := block_type HCP.out.own (b := g) rfl
            simp [World.frozen?, e]
           clear hcs
           go_upto_region 11 with fail
           go_quiet (fail)
           go_wp2_with fail
           go_roundw
           case rel =>
            refine ⟨j + 1, q + 1, R.set j x, by go_num, by go_num, ?_⟩
            have := HCP.out.next hlq (by rw [HX.out]; intro e; exact HV.out (e.trans HY.out)) (wx := wr.drewN nq) rfl ⟨HCP.out.kept.os, HCP.out.kept.tape, HCP.out.kept.output, HCP.out.kept.size, HCP.out.kept.block⟩
            rw [HX.out] at this
            exact this
           case measure => simp [intOf]; omega
        · have hke : k + q + 2 = D.length := by omega
          rw [hke] at hcp hjl
          obtain ⟨cur, hcur, hpm, hcsz, htk⟩ : ∃ cur : Array Value, wr.heap[g]? = some (.cells cur 112 (0, 0)) ∧ pc ≤ maxLen ∧ cur.size = pc * 2 ∧ cur.toList.take (D.length * 2) = predCells R := by
           rcases hcp.own.2 with ⟨e, _⟩ | ⟨g', cap, cur, e, _, q1, _, q4, q2, q3⟩
           · simp at e
           · simp only [Value.slice.injEq, Option.some.injEq, Addr.mk.injEq, and_true, true_and] at e
             obtain ⟨rfl, rfl⟩ := e
             exact ⟨cur, q1, q4, q2, q3⟩
          obtain ⟨zs, hzs⟩ : ∃ zs, zs = (Builtin.zeroCells (Value.agg #[.string ByteArray.empty, .int .i64 0]).cells (D.length - j)).toList := ⟨_, rfl⟩
          obtain ⟨hz1, hz2⟩ := zero_pred (D.length - j)
          rw [← hzs] at hz1 hz2
          obtain ⟨row, hrow⟩ : ∃ row, row = (cur.toList.take (j * 2) ++ zs ++ cur.toList.drop (j * 2 + zs.length)).toArray := ⟨_, rfl⟩
          have hclr : ∀ ty, (Builtin.clear_ #[144] ty #[.slice (some ⟨g, j * 2, none⟩) (D.length - j) (pc - j)]).run Tryz.prog wr = .ok (.tuple #[]) (wr.setRow g row) := fun ty => by rw [hrow]; exact run_clear_wide Tryz.prog wr 144 ty 112 _ g (j * 2) (D.length - j) (pc - j) cur 112 zs Tryz.underlying144 Tryz.zeroPred hzs.symm hcur (by omega) hz2 (by omega)
          have HEND : Hid ((wr.setRow g row).ownsRow B 112 2 (.slice (some ⟨g, 0, none⟩) (Pd.cpt D).length pc) (Pd.cpt D).length (predCells (Pd.cpt D)) ∧ Kb [g] w (wr.setRow g row) ∧ (Pd.cpt D).length = j) := by
           subst hrow
           have ht := hcp.took
           rw [List.take_length] at ht
           have hlj : (Pd.cpt D).length = j := by rw [← ht, List.length_take]; omega
           have hB : B ≤ g := (hcp.own.lt g rfl).1
           have hmx := ownsRow_le hcp.own
           refine ⟨⟨predCells_len _, .inr ⟨g, pc, _, rfl, hB, heap_setRow_at wr g _ hcur, by omega, hpm, ?_, ?_⟩⟩, hcp.kept.trans (Kb.setRow wr g _), hlj⟩
           · simp [hcsz, hz1]; omega
           · rw [hlj, ← ht, ← predCells_take, ← htk]
             simp only [List.toList_toArray, List.append_assoc]
             rw [List.take_append_of_le_length (by simp [hcsz]; omega), List.take_take, List.take_take]
             congr 1
             omega
          clear hcp hcs HCP hcur hcsz htk hzs hz1 hz2 hrow
          go_wp2_with fail
          go_ret
          exact ⟨by rw [HEND.out.2.2]; rfl, HEND.out.1, HEND.out.2.1⟩
    · have hke : D.take (k + 1) = D := List.take_of_length_le (by omega)
      have HE : Hid (Pd.cpt D = D) := by
       have := HCP.out
       rw [hke] at this
       exact this
      go_wp2_with fail
      go_ret
      rw [HE.out]
      exact ⟨rfl, hown, ⟨rfl, rfl, rfl, Nat.le_refl _, fun _ _ _ => rfl⟩⟩
end Go.Proofs.YtdmicblafmhflaaGreatDoor
/- slices.Delete of one row. -/
namespace Go.Proofs.YtdmicblafmhflaaGreatDoor
open Go.RowKit
theorem setCells_heap (g : Nat) {T : TypeId} : ∀ (vs : List Value) (o : Nat) (cur : Array Value) (w : World), w.heap[g]? = some (.cells cur T (0, 0)) → o + vs.length ≤ cur.size →
 (w.setCells g o vs).heap[g]? = some (.cells (cur.toList.take o ++ vs ++ cur.toList.drop (o + vs.length)).toArray T (0, 0)) ∧ Kb [g] w (w.setCells g o vs)
 | [], o, cur, w, h, hl => by
  refine ⟨?_, Kb.refl _ _⟩
  simpa [World.setCells] using h
 | v :: vs, o, cur, w, h, hl => by
  have h1 := setCell_heap w h o v
  rw [List.length_cons] at hl
  obtain ⟨h2, h3⟩ := setCells_heap g vs (o + 1) _ _ h1 (by simp; omega)
  refine ⟨?_, (Kb.setCell w ⟨g, o, none⟩ v).trans h3⟩
  show ((w.setCell ⟨g, o, none⟩ v).setCells g (o + 1) vs).heap[g]? = _
  rw [h2]
  have e1 : (cur.setIfInBounds o v).toList.take (o + 1) = cur.toList.take o ++ [v] := by
   rw [Array.toList_setIfInBounds, List.take_add_one, List.take_set_of_le (Nat.le_refl _), List.getElem?_set_self (by simp; omega)]
   rfl
  have e2 : (cur.setIfInBounds o v).toList.drop (o + 1 + vs.length) = cur.toList.drop (o + (vs.length + 1)) := by
   rw [Array.toList_setIfInBounds, List.drop_set_of_lt (by omega)]
   congr 1
   omega
  rw [e1, e2]
  simp
def e3 : List Value := [.string ByteArray.empty, .string ByteArray.empty, .string ByteArray.empty]
theorem zero_row1 : (Builtin.zeroCells (Value.agg #[.string ByteArray.empty, .string ByteArray.empty, .string ByteArray.empty]).cells 1).toList = e3 := by
 have e : (Value.agg #[.string ByteArray.empty, .string ByteArray.empty, .string ByteArray.empty]).cells = #[.string ByteArray.empty, .string ByteArray.empty, .string ByteArray.empty] := rfl
 rw [e]
 simp [Builtin.zeroCells]
 rfl
set_option maxRecDepth 100000 in
set_option maxHeartbeats 4000000 in
theorem deleteRow_any (w : World) (g rc i j n : Nat) (xs : List Value) (hj : j = i + 1) (hjn : j ≤ n) (hown : w.ownsRow 0 119 3 (.slice (some ⟨g, 0, none⟩) n rc) n xs) (hx1 : ∀ u ∈ xs, u.oneCell' = true) (hn : n ≤ 1000000) :
 Calls Tryz.prog 197 #[.slice (some ⟨g, 0, none⟩) n rc, .int .i64 i, .int .i64 j] w fun e w' => e = .returned (.slice (some ⟨g, 0, none⟩) (i + (n - j)) rc) ∧
  w'.ownsRow 0 119 3 (.slice (some ⟨g, 0, none⟩) (i + (n - j)) rc) (i + (n - j)) (xs.take (i * 3) ++ xs.drop (j * 3)) ∧ Kb [g] w w' := by
 have hxl : xs.length = n * 3 := hown.1
 obtain ⟨cur, hcur, hrc, hpm, hcsz, htk⟩ : ∃ cur : Array Value, w.heap[g]? = some (.cells cur 119 (0, 0)) ∧ n ≤ rc ∧ rc ≤ maxLen ∧ cur.size = rc * 3 ∧ cur.toList.take (n * 3) = xs := by
  rcases hown.2 with ⟨e, _⟩ | ⟨g', cap, cur, e, _, q1, q5, q4, q2, q3⟩
  · simp at e
  · simp only [Value.slice.injEq, Option.some.injEq, Addr.mk.injEq, and_true, true_and] at e
    obtain ⟨rfl, rfl⟩ := e
    exact ⟨cur, q1, q5, q4, q2, q3⟩
 obtain ⟨i0, hi, hz0, hz1, hz2⟩ := info_parts Tryz.infoRow
 obtain ⟨news, hnews⟩ : ∃ news, news = xs.drop (j * 3) := ⟨_, rfl⟩
 have hnl : news.length = (n - j) * 3 := by rw [hnews, List.length_drop]; omega
 obtain ⟨W1, hW1⟩ : ∃ W1, W1 = w.drew.setCells g (0 + i * 3) news := ⟨_, rfl⟩
 obtain ⟨A, hA, hsrc⟩ : ∃ A : Addr, (if rc = j then some (⟨g, 0, none⟩ : Addr) else some ⟨g, j * 3, none⟩) = some A ∧ Hid (∀ t u, news[t]? = some u → w.drew.cell? (A.add t) = some u) := by
  by_cases h : rc = j
  · refine ⟨⟨g, 0, none⟩, by simp [h], fun t u hu => ?_⟩
    have h0 : news.length = 0 := by rw [hnl]; omega
    rw [List.length_eq_zero_iff.1 h0] at hu
    simp at hu
  · refine ⟨⟨g, j * 3, none⟩, by simp [h], fun t u hu => ?_⟩
    have hlt := (List.getElem?_eq_some_iff.1 hu).1
    rw [hnews, ← htk, List.getElem?_drop, List.getElem?_take] at hu
    split at hu
    · rw [Addr.add_lit]
      show w.cell? ⟨g, j * 3 + t, none⟩ = some u
      rw [cell_of_row _ _ _ _ _ _ hcur]
      simpa using hu
    · simp at hu
 have s1 : Hid (news.length = (n - j) * 3) := hnl
 have s2 : Hid (∀ u ∈ news, u.oneCell' = true) := fun u hu => hx1 u (by rw [hnews] at hu; exact List.mem_of_mem_drop hu)
 have s3 : Hid (∀ t, t < news.length → (w.drew.cell? ⟨g, 0 + i * 3 + t, none⟩).isSome = true ∧ w.drew.frozen? ⟨g, 0 + i * 3 + t, none⟩ = false) := by
  intro t ht
  refine ⟨?_, ?_⟩
  · show (w.cell? ⟨g, 0 + i * 3 + t, none⟩).isSome = true
    rw [cell_of_row _ _ _ _ _ _ hcur, Array.getElem?_eq_getElem (by omega)]
    rfl
  · show w.frozen? ⟨g, 0 + i * 3 + t, none⟩ = false
    simp [World.frozen?, hcur]
 have HI : Hid (Tryz.prog.info? 119 = some i0) := hi
 have HZ : Hid (i0.size = 3) := hz1
 have hW : Hid (W1 = w.drew.setCells g (0 + i * 3) news) := hW1
 obtain ⟨q1, q2⟩ := setCells_heap g news (0 + i * 3) cur w.drew hcur (by omega)
 rw [← hW1] at q1 q2
 obtain ⟨cu2, hcu2⟩ : ∃ c : Array Value, c = (cur.toList.take (0 + i * 3) ++ news ++ cur.toList.drop (0 + i * 3 + news.length)).toArray := ⟨_, rfl⟩
 rw [← hcu2] at q1
 have hc2 : cu2.size = rc * 3 := by rw [hcu2]; simp; omega
 have hzz : (Builtin.zeroCells (Value.agg #[.string ByteArray.empty, .string ByteArray.empty, .string ByteArray.empty]).cells (n - (i + (n - j)))).toList = e3 := by
  rw [show n - (i + (n - j)) = 1 by omega]
  exact zero_row1
 obtain ⟨W2, hW2⟩ : ∃ W2, W2 = W1.setRow g (cu2.toList.take ((i + (n - j)) * 3) ++ e3 ++ cu2.toList.drop ((i + (n - j)) * 3 + e3.length)).toArray := ⟨_, rfl⟩
 have hclr : ∀ ty, (Builtin.clear_ #[113] ty #[.slice (some ⟨g, (i + (n - j)) * 3, none⟩) (n - (i + (n - j))) (rc - (i + (n - j)))]).run Tryz.prog W1 = .ok (.tuple #[]) W2 := fun ty => by
  rw [hW2]
  exact run_clear_wide Tryz.prog W1 113 ty 119 _ g ((i + (n - j)) * 3) (n - (i + (n - j))) (rc - (i + (n - j))) cu2 119 _ Tryz.underlying113 Tryz.zeroValue119 hzz q1 (by simp [e3]; omega) (by intro v hv; simp [e3] at hv; rw [hv]; rfl) (by omega)
 have HEND : Hid (W2.ownsRow 0 119 3 (.slice (some ⟨g, 0, none⟩) (i + (n - j)) rc) (i + (n - j)) (xs.take (i * 3) ++ news) ∧ Kb [g] w W2) := by
  rw [hW2]
  refine ⟨⟨by simp [hnl, hxl]; omega, .inr ⟨g, rc, _, rfl, Nat.zero_le _, heap_setRow_at W1 g _ q1, by omega, hpm, by simp [hc2, e3]; omega, ?_⟩⟩, ((Kb.refl [g] w).drew.trans q2).trans (Kb.setRow W1 g _)⟩
  simp only [List.toList_toArray, List.append_assoc]
  rw [List.take_append_of_le_length (by simp [hc2]; omega), List.take_take, Nat.min_self, hcu2]
  simp only [List.toList_toArray, List.append_assoc]
  rw [← htk, ← List.append_assoc, List.take_append_of_le_length (by simp [hnl, hcsz]; omega), List.take_of_length_le (by simp [hnl, hcsz]; omega), List.take_take, Nat.zero_add]
  congr 2
  omega
 rw [← hnews]
 have hWg : g < W1.heap.size := lt_of_heap q1
 have hij : i < j := by omega
 have hne : ((i : Int) == (j : Int)) = false := beq_eq_false_iff_ne.2 (by omega)
 have HJ : Hid (j = i + 1) := hj
 have hic : i ≤ rc := by omega
 have hjc : j ≤ rc := by omega
 clear hown q1 q2 hcu2 hc2 hW1 hW2 hzz hnews hnl htk hcsz hi hz0 hz1 hz2 hxl hx1 hcur hj
 go_enter Tryz.func197, Tryz.ntmps197
 go_wp2_with fail
 go_region_law (refine step_append_room rfl (.tmp 22) (.tmp 25) 113 rfl 119 i0 3 Tryz.underlying113 HI.out HZ.out g 0 i rc (by simp [Act.eval, Act.put]) A (n - j) (rc - j) news (by simp [Act.eval, Act.put]) s1.out hsrc.out s2.out (by omega) s3.out ?_; rw [← hW.out])
 go_wp2_with fail
 go_ret
 exact ⟨rfl, HEND.out⟩
end Go.Proofs.YtdmicblafmhflaaGreatDoor
/- facts.Given.Leave. -/
namespace Go.Proofs.YtdmicblafmhflaaGreatDoor
open Go.RowKit
open Go.Sort (grow)
theorem leave_len {L : List (List ByteArray)} {r : List ByteArray} (h : Tb.inB L r = true) (ho : Tb.Ord L) : Tb.pos L r < L.length ∧ (Tb.leave L r).length = Tb.pos L r + (L.length - (Tb.pos L r + 1)) ∧ Tb.leave L r = L.take (Tb.pos L r) ++ L.drop (Tb.pos L r + 1) := by
 have hlt : Tb.pos L r < L.length := (List.getElem?_eq_some_iff.1 ((Tb.pos_found ho _).2 (Tb.inB_iff.1 h))).1
 have e : Tb.leave L r = L.take (Tb.pos L r) ++ L.drop (Tb.pos L r + 1) := by unfold Tb.leave; rw [h]; rfl
 refine ⟨hlt, ?_, e⟩
 rw [e]
 simp
 omega
set_option maxRecDepth 100000 in
set_option maxHeartbeats 2000000 in
theorem leave_any (w : World) (g : Nat) (nm : ByteArray) (pl : Nat) (rd : Option Addr) (rc : Nat) (L : List (List ByteArray)) (a b c : ByteArray) (h : TabAt w g 125 nm pl rd rc L []) (hL : L.length ≤ 999999) :
 Calls Tryz.prog 128 #[.pointer (some ⟨g, 0, none⟩), .agg #[.string a, .string b, .string c]] w fun e w' =>
  e = .returned (.tuple #[]) ∧ TabAt w' g 125 nm pl rd rc (Tb.leave L [a, b, c]) [] ∧ Kb (g :: (Value.ownBlock (.slice rd L.length rc)).toList) w w' := by
 obtain ⟨w0, hw0⟩ : ∃ w0, w0 = w.alloc (.cells #[.string a, .string b, .string c] 119) := ⟨_, rfl⟩
 have hb0 : Below w.heap.size w w0 := by rw [hw0]; exact (Below.refl _ _).alloc (Nat.le_refl _) _
 have htg : w0.heap[w.heap.size]? = some (.cells #[.string a, .string b, .string c] 119 (0, 0)) := by rw [hw0]; exact heap_alloc_new w _
 have t0 : w0.cell? ⟨w.heap.size, 0, none⟩ = some (.string a) := by rw [cell_of_row _ _ 0 _ _ _ htg]; rfl
 have t1 : w0.cell? ⟨w.heap.size, 1, none⟩ = some (.string b) := by rw [cell_of_row _ _ 1 _ _ _ htg]; rfl
 have t2 : w0.cell? ⟨w.heap.size, 2, none⟩ = some (.string c) := by rw [cell_of_row _ _ 2 _ _ _ htg]; rfl
 have h0 := h.below hb0
 have hfd : Hid (∀ W, Below w0.heap.size w0 W → Calls Tryz.prog 75 #[.pointer (some ⟨g, 0, none⟩), .agg #[.string a, .string b, .string c]] W fun e w' => e = .returned (.tuple #[.int .i64 (Tb.pos L [a, b, c] : Nat), .bool (Tb.inB L [a, b, c])]) ∧ Hid (Below w.heap.size w w') ∧ w'.cell? ⟨g, 2, none⟩ = some (.slice rd L.length rc) ∧ g < w'.heap.size) := by
  intro W hW
  have h1 := h0.below hW
  refine (find_any W g rd rc L a b c h1.rows (by omega) h1.ord h1.cell2.1).mono ?_
  rintro e w' ⟨rfl, hb⟩
  have hbW : Below w.heap.size w W := hb0.trans (hW.mono hb0.size)
  have hbe : Below w.heap.size w w' := hbW.trans (hb.mono hbW.size)
  exact ⟨rfl, hbe, (h.below hbe).cell2.1, lt_of_heap (h.below hbe).blk⟩
 have hgl := lt_of_heap h.blk
 have HT : Hid (TabAt w g 125 nm pl rd rc L []) := h
 cases hin : Tb.inB L [a, b, c] with
 | false =>
  rw [hin] at hfd
  have hlv : Tb.leave L [a, b, c] = L := by unfold Tb.leave; rw [hin]; rfl
  rw [hlv]
  generalize Tb.pos L [a, b, c] = ps at hfd
  clear h h0 htg hin hlv
  go_enter Tryz.func128, Tryz.ntmps128
  go_wp2_with fail
  rw [← hw0]
  clear hw0
  go_region_with (go_at_call 75; refine (hfd.out _ (by exact (Below.refl _ _).drew)).mono ?_; rintro e w1 ⟨rfl, HE, hc1, hg1⟩)
  all_goals
   go_wp2_with fail
   go_end0
   exact ⟨rfl, HT.out.below HE.out, Kb.of_below HE.out _⟩
 | true =>
  rw [hin] at hfd
  obtain ⟨hlt, hll, hle⟩ := leave_len hin h.ord
  obtain ⟨gr, rfl⟩ : ∃ gr, rd = some ⟨gr, 0, none⟩ := by
   obtain ⟨gr, _, _, _, e, _⟩ := h.rows.at hlt
   exact ⟨gr, e⟩
  have hdl : Hid (∀ W, Below w.heap.size w W → Calls Tryz.prog 197 #[.slice (some ⟨gr, 0, none⟩) L.length rc, .int .i64 (Tb.pos L [a, b, c] : Nat), .int .i64 ((Tb.pos L [a, b, c] : Nat) + 1)] W fun e w3 => e = .returned (.slice (some ⟨gr, 0, none⟩) (Tb.leave L [a, b, c]).length rc) ∧
   Hid (TabAt (w3.setCell ⟨g, 2, none⟩ (.slice (some ⟨gr, 0, none⟩) (Tb.leave L [a, b, c]).length rc)) g 125 nm pl (some ⟨gr, 0, none⟩) rc (Tb.leave L [a, b, c]) [] ∧ Kb (g :: (Value.ownBlock (.slice (some ⟨gr, 0, none⟩) L.length rc)).toList) w (w3.setCell ⟨g, 2, none⟩ (.slice (some ⟨gr, 0, none⟩) (Tb.leave L [a, b, c]).length rc))) ∧ w3.cell? ⟨g, 2, none⟩ = some (.slice (some ⟨gr, 0, none⟩) L.length rc) ∧ w3.frozen? ⟨g, 2, none⟩ = false ∧ g < w3.heap.size) := by
   intro W hW
   have h1 := h.below hW
   refine (deleteRow_any W gr rc (Tb.pos L [a, b, c]) (Tb.pos L [a, b, c] + 1) L.length (rowCells L) rfl hlt h1.rows.own (rowCells_one L) (by omega)).mono ?_
   rintro e w3 ⟨rfl, q1, q2⟩
   have hap : g ≠ gr := by
    have := h.apart
    simpa [Value.ownBlock] using this
   have hb3 : w3.heap[g]? = _ := q2.heap h1.blk (by simpa using hap)
   rw [← hll] at q1 ⊢
   have hk : Kb (g :: (Value.ownBlock (.slice (some ⟨gr, 0, none⟩) L.length rc)).toList) w w3 := (Kb.of_below hW _).trans (q2.mono (fun x hx _ => by simp at hx; simp [Value.ownBlock, hx]))
   refine ⟨rfl, ⟨⟨?_, ⟨?_, ?_⟩, Tb.ord_leave h.ord _, h.type⟩, hk.trans ((Kb.setCell w3 ⟨g, 2, none⟩ _).mono (fun x hx _ => by simp at hx; simp [hx]))⟩, ?_, ?_, lt_of_heap hb3⟩
   · rw [setCell_heap _ hb3]
     simp [Array.setIfInBounds]
   · intro r hr
     rw [hle] at hr
     rcases List.mem_append.1 hr with hr | hr
     · exact h.rows.three r (List.mem_of_mem_take hr)
     · exact h.rows.three r (List.mem_of_mem_drop hr)
   · have e1 : rowCells (Tb.leave L [a, b, c]) = (rowCells L).take (Tb.pos L [a, b, c] * 3) ++ (rowCells L).drop ((Tb.pos L [a, b, c] + 1) * 3) := by
      rw [hle, rowCells_app, rowCells_take _ h.rows.three, rowCells_drop _ h.rows.three]
     rw [e1]
     exact (Kb.setCell w3 ⟨g, 2, none⟩ _).row q1 (fun x hx => by simp [Value.ownBlock] at hx; simp; omega)
   · rw [cell_of_row _ _ 2 _ _ _ hb3]; simp
   · simp [World.frozen?, hb3]
  generalize Tb.leave L [a, b, c] = L' at hdl ⊢
  have hpl : Tb.pos L [a, b, c] < 1000000 := by omega
  generalize Tb.pos L [a, b, c] = ps at hfd hdl hpl
  clear h h0 htg hin hle hll hlt
  go_enter Tryz.func128, Tryz.ntmps128
  go_wp2_with fail
  rw [← hw0]
  clear hw0
  go_region_with (go_at_call 75; refine (hfd.out _ (by exact (Below.refl _ _).drew)).mono ?_; rintro e w1 ⟨rfl, HE, hc1, hg1⟩)
  all_goals
   go_wp2_with (go_at_call 197; refine (hdl.out _ HE.out).mono ?_; rintro e w3 ⟨rfl, HF, hc3, hf3, hg3⟩)
   go_end0
   exact ⟨rfl, HF.out.1, HF.out.2⟩
end Go.Proofs.YtdmicblafmhflaaGreatDoor
