/- append, and what becomes of the row that was there: its cells stay. A law of no program. -/
import Derived.Test.YtdmicblafmhflaaGreatDoorC12
import Derived.Deep.AppendLies
import Derived.Deep.RegionLaw
import Derived.Test.YtdmicblafmhflaaGreatDoorC13
import Derived.Test.YtdmicblafmhflaaGreatDoorC00
set_option linter.unusedSimpArgs false
set_option linter.unusedVariables false
namespace Go.Proofs.YtdmicblafmhflaaGreatDoor
open Go.RowKit
section
variable {P : Program} (w : World)
theorem run_append_keep (t ty : TypeId) (base : Nat) (e : TypeId) (i : TypeInfo) (z : Value) (size bytes : Nat) (ht : P.underlying t = some (.slice e)) (hi : P.info? e = some i) (hz : i.zero = some z)
 (hsize : i.size = size) (hby : i.bytes = bytes) (hzs : z.cells.size = size) (hsz : 0 < size)
 (v : Value) (n : Nat) (xs : List Value) (hown : w.ownsRow base e size v n xs)
 (ad : Addr) (m c : Nat) (news : List Value) (hl : news.length = m * size) (hnews : ∀ j u, news[j]? = some u → w.cell? (ad.add j) = some u) (h1 : ∀ u ∈ news, u.oneCell' = true)
 (hm : 0 < m) (h63 : n + m ≤ maxLen) (hbytes : (n + m) * bytes ≤ 140737488355328) (hbase : base ≤ w.heap.size) :
 ∃ g cap w', (Builtin.append_ #[t, t] ty #[v, .slice (some ad) m c]).run P w = .ok (.slice (some ⟨g, 0, none⟩) (n + m) cap) w' ∧
  w'.ownsRow base e size (.slice (some ⟨g, 0, none⟩) (n + m) cap) (n + m) (xs ++ news) ∧ w.grownBy w' v.ownBlock ∧ Fresh w v (.slice (some ⟨g, 0, none⟩) (n + m) cap) ∧ (∀ (b : Nat), v.ownBlock = some b → (∃ cur, w'.heap[b]? = some (.cells cur e (0, 0))) ∧ ∀ j, j < n * size → w'.cell? ⟨b, j, none⟩ = w.cell? ⟨b, j, none⟩) := by
 obtain ⟨g, cap, w', hr, h2, h3, h4, h5⟩ := run_append_lies (P := P) w t ty base e i z size bytes ht hi hz hsize hby hzs hsz v n xs hown ad m c news hl hnews h1 hm h63 hbytes hbase w.heap.size rfl
 refine ⟨g, cap, w', hr, h2, h3, ?_, ?_⟩
 · intro b hb
   simp only [Value.ownBlock, Option.some.injEq] at hb
   subst hb
   rcases h4 with h | h
   · exact .inl h
   · exact .inr (by omega)
 · intro b hb
   subst hsize
   subst hby
   rcases hown.2 with ⟨rfl, _⟩ | ⟨g', cap', cur, rfl, _, hg, hnc, hcm, hcs, htk⟩
   · cases hb
   · simp only [Value.ownBlock, Option.some.injEq] at hb
     subst hb
     have hlt : g' < w.heap.size := (Array.getElem?_eq_some_iff.1 hg).1
     by_cases hroom : n + m ≤ cap'
     · have hfit : n * i.size + news.length ≤ cur.size := by rw [hl, hcs, ← Nat.add_mul]; exact Nat.mul_le_mul_right _ hroom
       have hr' := run_append_room (P := P) w t ty e i ht hi g' n cap' cur hg ad m c news hl hnews h1 hroom hfit
       rw [hr'] at hr
       simp only [Result.ok.injEq] at hr
       rw [← hr.2]
       refine ⟨⟨_, heap_setRow_at w g' _ hg⟩, fun j hj => ?_⟩
       have hjc : j < cur.size := by rw [hcs]; exact Nat.lt_of_lt_of_le hj (Nat.mul_le_mul_right _ hnc)
       rw [cell_of_row _ g' j _ _ _ (heap_setRow_at w g' _ hg), cell_of_row _ g' j _ _ _ hg]
       simp only [List.getElem?_toArray]
       rw [List.append_assoc, List.getElem?_append_left (by rw [List.length_take, Array.length_toList]; omega), List.getElem?_take, if_pos hj]
       simp
     · have holds : ∀ j u, xs[j]? = some u → w.cell? ((⟨g', 0, none⟩ : Addr).add j) = some u := hown.cells (g := g') rfl
       have hsm : n + m ≤ 9223372036854775807 := by unfold maxLen at h63; omega
       have hr' := run_append_grow (P := P) w t ty e i z ht hi hz ⟨g', 0, none⟩ n cap' xs hown.1 holds ad m c news hl hnews (by omega) (by omega) (growslice_fits (by omega) hbytes)
       rw [hr'] at hr
       simp only [Result.ok.injEq] at hr
       rw [← hr.2]
       refine ⟨⟨cur, ?_⟩, fun j _ => World.cell?_of_block (Below.heap_alloc w.drew _ _ hlt)⟩
       rw [Below.heap_alloc w.drew _ _ hlt]
       exact hg
theorem wp_append_keep {o : Oper} {a : Act} {K : Act → World → Prop} {Q : Exit → Act → World → Prop} (s x : Operand) (t : TypeId)
 (ho : o.op = .call { callee := .builtin .append, args := #[s, x], argTypes := #[t, t] })
 (base : Nat) (e : TypeId) (i : TypeInfo) (z : Value) (size bytes : Nat) (ht : P.underlying t = some (.slice e)) (hi : P.info? e = some i) (hz : i.zero = some z)
 (hsize : i.size = size) (hby : i.bytes = bytes) (hzs : z.cells.size = size) (hsz : 0 < size)
 (v : Value) (n : Nat) (xs : List Value) (hs : a.eval s = v) (hown : w.ownsRow base e size v n xs)
 (ad : Addr) (m c : Nat) (news : List Value) (hx : a.eval x = .slice (some ad) m c) (hl : news.length = m * size) (hnews : ∀ j u, news[j]? = some u → w.cell? (ad.add j) = some u) (h1 : ∀ u ∈ news, u.oneCell' = true)
 (hm : 0 < m) (h63 : n + m ≤ maxLen) (hbytes : (n + m) * bytes ≤ 140737488355328) (hbase : base ≤ w.heap.size)
 (h : ∀ g cap w', w'.ownsRow base e size (.slice (some ⟨g, 0, none⟩) (n + m) cap) (n + m) (xs ++ news) → w.grownBy w' v.ownBlock → Fresh w v (.slice (some ⟨g, 0, none⟩) (n + m) cap) → (∀ (b : Nat), v.ownBlock = some b → (∃ cur, w'.heap[b]? = some (.cells cur e (0, 0))) ∧ ∀ j, j < n * size → w'.cell? ⟨b, j, none⟩ = w.cell? ⟨b, j, none⟩) → K (a.put o.dst (.slice (some ⟨g, 0, none⟩) (n + m) cap)) w') : o.wp P a w K Q := by
 obtain ⟨g, cap, w', hr, h2, h3, h4, h5⟩ := run_append_keep (P := P) w t o.type base e i z size bytes ht hi hz hsize hby hzs hsz v n xs hown ad m c news hl hnews h1 hm h63 hbytes hbase
 unfold Oper.wp execOp
 simp only [ho, resolve, invoke, builtin, Sem.run_bind, Sem.run_pure, Result.andThen_ok, List.map_toArray, List.map_cons, List.map_nil, hs, hx, hr]
 exact h g cap w' h2 h3 h4 h5
theorem step_append_keep {ops : Array Oper} {o : Oper} {a : Act} {K : Act → World → Prop} {Q : Exit → Act → World → Prop} {E : Prop} (hgd : o.guard = none) (s x : Operand) (t : TypeId)
 (ho : o.op = .call { callee := .builtin .append, args := #[s, x], argTypes := #[t, t] })
 (base : Nat) (e : TypeId) (i : TypeInfo) (z : Value) (size bytes : Nat) (ht : P.underlying t = some (.slice e)) (hi : P.info? e = some i) (hz : i.zero = some z)
 (hsize : i.size = size) (hby : i.bytes = bytes) (hzs : z.cells.size = size) (hsz : 0 < size)
 (v : Value) (n : Nat) (xs : List Value) (hs : a.eval s = v) (hown : w.ownsRow base e size v n xs)
 (ad : Addr) (m c : Nat) (news : List Value) (hx : a.eval x = .slice (some ad) m c) (hl : news.length = m * size) (hnews : ∀ j u, news[j]? = some u → w.cell? (ad.add j) = some u) (h1 : ∀ u ∈ news, u.oneCell' = true)
 (hm : 0 < m) (h63 : n + m ≤ maxLen) (hbytes : (n + m) * bytes ≤ 140737488355328) (hbase : base ≤ w.heap.size)
 (h : ∀ g cap w', w'.ownsRow base e size (.slice (some ⟨g, 0, none⟩) (n + m) cap) (n + m) (xs ++ news) → w.grownBy w' v.ownBlock → Fresh w v (.slice (some ⟨g, 0, none⟩) (n + m) cap) → (∀ (b : Nat), v.ownBlock = some b → (∃ cur, w'.heap[b]? = some (.cells cur e (0, 0))) ∧ ∀ j, j < n * size → w'.cell? ⟨b, j, none⟩ = w.cell? ⟨b, j, none⟩) → K (a.put o.dst (.slice (some ⟨g, 0, none⟩) (n + m) cap)) w') :
 if Region.wanted o (yielded ops a.tmps) = true then Oper.wp P o a w K Q else E := by
 have hw : Region.wanted o (yielded ops a.tmps) = true := by simp [Region.wanted, hgd]
 rw [if_pos hw]
 exact wp_append_keep w s x t ho base e i z size bytes ht hi hz hsize hby hzs hsz v n xs hs hown ad m c news hx hl hnews h1 hm h63 hbytes hbase h
end
end Go.Proofs.YtdmicblafmhflaaGreatDoor
/- tooMany. -/
namespace Go.Proofs.YtdmicblafmhflaaGreatDoor
open Go.RowKit
theorem ruleCells_get (l : List MR) (k : Nat) (h : k < l.length) :
 (ruleCells l)[k * 4]? = some (.int .i64 (l[k]).head.1.at_) ∧ (ruleCells l)[k * 4 + 1]? = some (.string (l[k]).head.1.pred) ∧ (ruleCells l)[k * 4 + 2]? = some (l[k]).head.2 ∧ (ruleCells l)[k * 4 + 3]? = some (l[k]).bv := by
 induction l generalizing k with
 | nil => simp at h
 | cons a l ih =>
  cases k with
  | zero => simp [ruleCells]
  | succ k =>
   have := ih k (by simpa using h)
   have e : ∀ j, (ruleCells (a :: l))[(k + 1) * 4 + j]? = (ruleCells l)[k * 4 + j]? := by
    intro j
    have : ruleCells (a :: l) = [.int .i64 a.head.1.at_, .string a.head.1.pred, a.head.2, a.bv] ++ ruleCells l := by simp [ruleCells]
    rw [this, List.getElem?_append_right (by simp; omega)]
    congr 1
    simp; omega
   have e0 := e 0
   simp only [Nat.add_zero] at e0
   rw [e0, e 1, e 2, e 3]
   simpa using this
def RulesIn (w : World) (rd : Option Addr) (rc : Nat) (l : List MR) : Prop :=
 w.ownsRow 0 222 4 (.slice rd l.length rc) l.length (ruleCells l) ∧ mrs w l ∧ ∀ r, r ∈ l → r.body.length ≤ 1000
theorem RulesIn.below {w w' : World} {rd : Option Addr} {rc : Nat} {l : List MR} (h : RulesIn w rd rc l) (hb : Below w.heap.size w w') : RulesIn w' rd rc l := ⟨ownsRow_below h.1 hb, mrs_below h.2.1 hb, h.2.2⟩
theorem RulesIn.at {w : World} {rd : Option Addr} {rc : Nat} {l : List MR} (h : RulesIn w rd rc l) {k : Nat} (hk : k < l.length) :
 ∃ g a ad c bd d body, rd = some ⟨g, 0, none⟩ ∧ g < w.heap.size ∧ l.length ≤ rc ∧ w.cell? ⟨g, k * 4, none⟩ = some (.int .i64 (Ax.Atom.at_ a)) ∧ w.cell? ⟨g, k * 4 + 1, none⟩ = some (.string a.pred) ∧ w.cell? ⟨g, k * 4 + 2, none⟩ = some (.slice ad a.terms.length c) ∧
  w.cell? ⟨g, k * 4 + 3, none⟩ = some (.slice bd body.length d) ∧ MR.ok w ⟨(a, .slice ad a.terms.length c), .slice bd body.length d, body⟩ ∧ body.length ≤ 1000 ∧ (l[k]).rule = ⟨a, List.map Prod.fst body⟩ := by
 obtain ⟨g, rfl, hg, hc, hcs⟩ := row_cells h.1 (by omega)
 have hm := List.getElem_mem hk
 have hok := h.2.1 _ hm
 have hbl := h.2.2 _ hm
 obtain ⟨c0, c1, c2, c3⟩ := ruleCells_get l k hk
 generalize l[k] = r at *
 rcases r with ⟨⟨a, hv⟩, bv, body⟩
 obtain ⟨ad, c, e1⟩ := ownsRow_shape hok.1
 obtain ⟨bd, d, e2⟩ := ownsRow_shape hok.2.1
 simp only at e1 e2
 subst e1 e2
 exact ⟨g, a, ad, c, bd, d, body, rfl, hg, hc, hcs _ _ c0, hcs _ _ c1, hcs _ _ c2, hcs _ _ c3, hok, hbl, rfl⟩
theorem many_ge {i : Nat} {ps : List ByteArray} {r : Ax.Rule} (h : 8 ≤ i) : Ax.manyAt i ps r = true := by simp [Ax.manyAt, h]
theorem many_body {i : Nat} {ps : List ByteArray} {r : Ax.Rule} (h : 2 < r.body.length) : Ax.manyAt i ps r = true := by simp [Ax.manyAt, h]
theorem many_preds {i : Nat} {ps : List ByteArray} {r : Ax.Rule} (h : 6 < ps.length) : Ax.manyAt i ps r = true := by simp [Ax.manyAt, h]
theorem many_wide {i : Nat} {ps : List ByteArray} {r : Ax.Rule} (h : Ax.anyWide r.atoms = true) : Ax.manyAt i ps r = true := by simp [Ax.manyAt, h]
theorem many_none {i : Nat} {ps : List ByteArray} {r : Ax.Rule} (h1 : ¬ 8 ≤ i) (h2 : ¬ 2 < r.body.length) (h3 : ¬ 6 < ps.length) (h4 : Ax.anyWide r.atoms = false) : Ax.manyAt i ps r = false := by simp [Ax.manyAt, h1, h2, h3, h4]
def TooRel (w wr : World) (v : Value) (ps : List ByteArray) (k : Nat) (L : List Ax.Rule) (R : Option Nat) : Prop :=
 wr.ownsRow w.heap.size 9 1 v ps.length (strCells ps) ∧ Below w.heap.size w wr ∧ ps.length ≤ 6 ∧ Ax.tooMany k ps (L.drop k) = R
set_option maxHeartbeats 2000000 in
theorem tooMany_any (w : World) (rd : Option Addr) (rc : Nat) (l : List MR) (h : RulesIn w rd rc l) :
 Calls Tryz.prog 106 #[.slice rd l.length rc] w fun e w' => Below w.heap.size w w' ∧ ((∃ at_ : Nat, Ax.tooMany 0 [] (l.map MR.rule) = some at_ ∧ e = .returned (.tuple #[.int .i64 at_, .bool true])) ∨ (Ax.tooMany 0 [] (l.map MR.rule) = none ∧ e = .returned (.tuple #[.int .i64 0, .bool false]))) := by
 have hle := ownsRow_le h.1
 generalize hR : Ax.tooMany 0 [] (l.map MR.rule) = R
 go_enter Tryz.func106, Tryz.ntmps106
 go_wp2_with fail
 go_loopw [4, 9] (fun v i wr => ∃ (k : Nat) (ps : List ByteArray), k ≤ l.length ∧ i = .int .i64 k ∧ TooRel w wr v ps k (l.map MR.rule) R) (fun _ i _ => l.length - (intOf i).toNat)
 case atStart => exact ⟨0, [], Nat.zero_le _, rfl, World.ownsRow_nil _ _ _ _, Below.refl _ _, Nat.zero_le _, hR⟩
 case round =>
  obtain ⟨k, ps, hk, rfl, hown, hbel, hpl, hr⟩ := hrel
  have HR : Hid (Ax.tooMany k ps ((l.map MR.rule).drop k) = R) := hr
  clear hr hR
  obtain ⟨pd, pc, hq0⟩ := ownsRow_shape hown
  subst hq0
  have hsz := hbel.size
  by_cases hlt : k < l.length
  · obtain ⟨g, a, ad, c, bd, d, body, rfl, hg, hcap, d0, d1, d2, d3, hmr, hbl, hrule⟩ := (h.below hbel).at hlt
    have hdrop : (l.map MR.rule).drop k = ⟨a, List.map Prod.fst body⟩ :: (l.map MR.rule).drop (k + 1) := by
     rw [List.drop_eq_getElem_cons (by simpa using hlt)]; simp [hrule]
    rw [hdrop] at HR
    clear hdrop hrule
    obtain ⟨qs, hqs⟩ : ∃ qs, Ax.addPreds ps (a :: List.map Prod.fst body) = qs := ⟨_, rfl⟩
    have HQ : Hid (Ax.addPreds ps (a :: List.map Prod.fst body) = qs) := hqs
    clear hqs
    have hyes : Ax.manyAt k qs ⟨a, List.map Prod.fst body⟩ = true → R = some a.at_ := by
     intro hm
     have := HR.out
     simp only [Ax.tooMany, Ax.Rule.atoms, HQ.out, hm, if_true] at this
     exact this.symm
    have hno : Ax.manyAt k qs ⟨a, List.map Prod.fst body⟩ = false → Ax.tooMany (k + 1) qs ((l.map MR.rule).drop (k + 1)) = R := by
     intro hm
     have := HR.out
     simp only [Ax.tooMany, Ax.Rule.atoms, HQ.out, hm, Bool.false_eq_true, if_false] at this
     exact this
    by_cases h8 : 8 ≤ k
    · have HY : Hid (R = some a.at_) := hyes (many_ge h8)
      clear hyes hno HR
      go_wp2_with (first | (go_at_call 180; refine (addPreds_any w.heap.size _ pd pc ps _ _ _ _ _ _ (MR.below hmr ((Below.refl _ _).alloc (Nat.le_refl _) _)) hbl (by simp; omega) (hown.alloc _) (by omega)).mono ?_; rintro e w2 ⟨qd, qc, qs', rfl, hqs, hown2, hbel2, hoth2, hql⟩; have hqs' : qs' = qs := hqs.out.trans HQ.out; subst hqs'; have hblk := hoth2 _ _ (heap_alloc_new wr _) (by simp) (by intro c fz e1; simp at e1); have hsz2 := hbel2.size; have e0 := cell_at hblk 0; have e1 := cell_at hblk 1; have e2 := cell_at hblk 2; have e3 := cell_at hblk 3; simp only [List.getElem?_toArray, List.getElem?_cons_zero, List.getElem?_cons_succ] at e0 e1 e2 e3; simp only [World.size_alloc] at hsz2))
      go_ret2
      exact ⟨(hbel.alloc hsz _).trans hbel2, .inl ⟨a.at_, HY.out, rfl⟩⟩
    · by_cases h2 : 2 < body.length
      · have HY : Hid (R = some a.at_) := hyes (many_body (by simpa using h2))
        clear hyes hno HR
        go_wp2_with (first | (go_at_call 180; refine (addPreds_any w.heap.size _ pd pc ps _ _ _ _ _ _ (MR.below hmr ((Below.refl _ _).alloc (Nat.le_refl _) _)) hbl (by simp; omega) (hown.alloc _) (by omega)).mono ?_; rintro e w2 ⟨qd, qc, qs', rfl, hqs, hown2, hbel2, hoth2, hql⟩; have hqs' : qs' = qs := hqs.out.trans HQ.out; subst hqs'; have hblk := hoth2 _ _ (heap_alloc_new wr _) (by simp) (by intro c fz e1; simp at e1); have hsz2 := hbel2.size; have e0 := cell_at hblk 0; have e1 := cell_at hblk 1; have e2 := cell_at hblk 2; have e3 := cell_at hblk 3; simp only [List.getElem?_toArray, List.getElem?_cons_zero, List.getElem?_cons_succ] at e0 e1 e2 e3; simp only [World.size_alloc] at hsz2))
        go_ret2
        exact ⟨(hbel.alloc hsz _).trans hbel2, .inl ⟨a.at_, HY.out, rfl⟩⟩
      · by_cases h6 : 6 < qs.length
        · have HY : Hid (R = some a.at_) := hyes (many_preds h6)
          clear hyes hno HR
          go_wp2_with (first | (go_at_call 180; refine (addPreds_any w.heap.size _ pd pc ps _ _ _ _ _ _ (MR.below hmr ((Below.refl _ _).alloc (Nat.le_refl _) _)) hbl (by simp; omega) (hown.alloc _) (by omega)).mono ?_; rintro e w2 ⟨qd, qc, qs', rfl, hqs, hown2, hbel2, hoth2, hql⟩; have hqs' : qs' = qs := hqs.out.trans HQ.out; subst hqs'; have hblk := hoth2 _ _ (heap_alloc_new wr _) (by simp) (by intro c fz e1; simp at e1); have hsz2 := hbel2.size; have e0 := cell_at hblk 0; have e1 := cell_at hblk 1; have e2 := cell_at hblk 2; have e3 := cell_at hblk 3; simp only [List.getElem?_toArray, List.getElem?_cons_zero, List.getElem?_cons_succ] at e0 e1 e2 e3; simp only [World.size_alloc] at hsz2))
          go_ret2
          exact ⟨(hbel.alloc hsz _).trans hbel2, .inl ⟨a.at_, HY.out, rfl⟩⟩
        · cases hvw : Ax.anyWide (a :: List.map Prod.fst body)
          case true =>
           have HY : Hid (R = some a.at_) := hyes (many_wide hvw)
           clear hyes hno HR
           go_wp2_with (first | (go_at_call 180; refine (addPreds_any w.heap.size _ pd pc ps _ _ _ _ _ _ (MR.below hmr ((Below.refl _ _).alloc (Nat.le_refl _) _)) hbl (by simp; omega) (hown.alloc _) (by omega)).mono ?_; rintro e w2 ⟨qd, qc, qs', rfl, hqs, hown2, hbel2, hoth2, hql⟩; have hqs' : qs' = qs := hqs.out.trans HQ.out; subst hqs'; have hblk := hoth2 _ _ (heap_alloc_new wr _) (by simp) (by intro c fz e1; simp at e1); have hsz2 := hbel2.size; have e0 := cell_at hblk 0; have e1 := cell_at hblk 1; have e2 := cell_at hblk 2; have e3 := cell_at hblk 3; simp only [List.getElem?_toArray, List.getElem?_cons_zero, List.getElem?_cons_succ] at e0 e1 e2 e3; simp only [World.size_alloc] at hsz2; have hmr2 := MR.others (MR.below hmr ((Below.refl _ _).alloc (Nat.le_refl _) _)) hoth2 (by decide) (by decide)) | (go_at_call 112; refine (atomsOf_any _ _ _ _ _ _ _ hmr2 hbl).mono ?_; rintro e w3 ⟨ad3, c3, rfl, hats, hoks, hb3⟩; have hoth3 := others_below (e := 9) hb3; have hblk3 := (hb3.block _ (lt_of_heap hblk)).trans hblk) | (go_at_call 181; refine (containsWide_any w3 0 ad3 c3 ((a, .slice ad a.terms.length c) :: body) (by exact hats) hoks).mono ?_; rintro e w4 ⟨rfl, hb4⟩; have hw : Ax.anyWide (((a, Value.slice ad a.terms.length c) :: body).map Prod.fst) = true := hvw; rw [hw]; have hblk4 := (hb4.block _ (lt_of_heap hblk3)).trans hblk3; have g0 := cell_at hblk4 0; simp only [List.getElem?_toArray, List.getElem?_cons_zero] at g0; have hsz4 := lt_of_heap hblk4))
           go_ret2
           exact ⟨(((hbel.alloc hsz _).trans hbel2).trans (hb3.mono (by omega))).trans (hb4.mono (by have := hb3.size; omega)), .inl ⟨a.at_, HY.out, rfl⟩⟩
          case false =>
           have HN : Hid (Ax.tooMany (k + 1) qs ((l.map MR.rule).drop (k + 1)) = R) := hno (many_none h8 (by simpa using h2) h6 hvw)
           clear hyes hno HR
           go_wp2_with (first | (go_at_call 180; refine (addPreds_any w.heap.size _ pd pc ps _ _ _ _ _ _ (MR.below hmr ((Below.refl _ _).alloc (Nat.le_refl _) _)) hbl (by simp; omega) (hown.alloc _) (by omega)).mono ?_; rintro e w2 ⟨qd, qc, qs', rfl, hqs, hown2, hbel2, hoth2, hql⟩; have hqs' : qs' = qs := hqs.out.trans HQ.out; subst hqs'; have hblk := hoth2 _ _ (heap_alloc_new wr _) (by simp) (by intro c fz e1; simp at e1); have hsz2 := hbel2.size; have e0 := cell_at hblk 0; have e1 := cell_at hblk 1; have e2 := cell_at hblk 2; have e3 := cell_at hblk 3; simp only [List.getElem?_toArray, List.getElem?_cons_zero, List.getElem?_cons_succ] at e0 e1 e2 e3; simp only [World.size_alloc] at hsz2; have hmr2 := MR.others (MR.below hmr ((Below.refl _ _).alloc (Nat.le_refl _) _)) hoth2 (by decide) (by decide)) | (go_at_call 112; refine (atomsOf_any _ _ _ _ _ _ _ hmr2 hbl).mono ?_; rintro e w3 ⟨ad3, c3, rfl, hats, hoks, hb3⟩; have hoth3 := others_below (e := 9) hb3; have hblk3 := (hb3.block _ (lt_of_heap hblk)).trans hblk) | (go_at_call 181; refine (containsWide_any w3 0 ad3 c3 ((a, .slice ad a.terms.length c) :: body) (by exact hats) hoks).mono ?_; rintro e w4 ⟨rfl, hb4⟩; have hw : Ax.anyWide (((a, Value.slice ad a.terms.length c) :: body).map Prod.fst) = false := hvw; rw [hw]; have hblk4 := (hb4.block _ (lt_of_heap hblk3)).trans hblk3; have g0 := cell_at hblk4 0; simp only [List.getElem?_toArray, List.getElem?_cons_zero] at g0; have hsz4 := lt_of_heap hblk4))
           go_roundw
           case rel =>
            exact ⟨k + 1, qs', by omega, by go_num, ownsRow_below (ownsRow_below hown2 hb3) hb4, (((hbel.alloc hsz _).trans hbel2).trans (hb3.mono (by omega))).trans (hb4.mono (by have := hb3.size; omega)), by omega, HN.out⟩
           case measure => simp [intOf]; omega
  · have HE : Hid (R = none) := by
     have := HR.out
     rw [List.drop_eq_nil_of_le (by simp; omega)] at this
     exact this.symm
    go_wp2_with fail
    go_ret2
    exact ⟨hbel, .inr ⟨HE.out, rfl⟩⟩
end Go.Proofs.YtdmicblafmhflaaGreatDoor
/- openHead. -/
namespace Go.Proofs.YtdmicblafmhflaaGreatDoor
open Go.RowKit
set_option maxHeartbeats 2000000 in
theorem openHead_any (w : World) (rd : Option Addr) (rc : Nat) (l : List MR) (h : RulesIn w rd rc l) :
 Calls Tryz.prog 108 #[.slice rd l.length rc] w fun e w' => Below w.heap.size w w' ∧ ((∃ at_ : Nat, Ax.openHead (l.map MR.rule) = some at_ ∧ e = .returned (.tuple #[.int .i64 at_, .bool true])) ∨ (Ax.openHead (l.map MR.rule) = none ∧ e = .returned (.tuple #[.int .i64 0, .bool false]))) := by
 have hle := ownsRow_le h.1
 generalize hR : Ax.openHead (l.map MR.rule) = R
 go_enter Tryz.func108, Tryz.ntmps108
 go_wp2_with fail
 go_loopw [10] (fun i wr => ∃ (k : Nat), k ≤ l.length ∧ i = .int .i64 k ∧ Below w.heap.size w wr ∧ Ax.openHead ((l.map MR.rule).drop k) = R) (fun i _ => l.length - (intOf i).toNat)
 case atStart => exact ⟨0, Nat.zero_le _, rfl, Below.refl _ _, hR⟩
 case round =>
  obtain ⟨k, hk, rfl, hbel, hr⟩ := hrel
  have HR : Hid (Ax.openHead ((l.map MR.rule).drop k) = R) := hr
  clear hr hR
  obtain ⟨w0, rfl⟩ : ∃ x, x = wr := ⟨_, rfl⟩
  have hsz := hbel.size
  by_cases hlt : k < l.length
  · obtain ⟨g, a, ad, c, bd, d, body, rfl, hg, hcap, d0, d1, d2, d3, hmr, hbl, hrule⟩ := (h.below hbel).at hlt
    have hdrop : (l.map MR.rule).drop k = ⟨a, List.map Prod.fst body⟩ :: (l.map MR.rule).drop (k + 1) := by
     rw [List.drop_eq_getElem_cons (by simpa using hlt)]; simp [hrule]
    rw [hdrop] at HR
    clear hdrop hrule
    have hyes : Ax.openAt ⟨a, List.map Prod.fst body⟩ = true → R = some a.at_ := by
     intro hm
     have := HR.out
     simp only [Ax.openHead, hm, if_true] at this
     exact this.symm
    have hno : Ax.openAt ⟨a, List.map Prod.fst body⟩ = false → Ax.openHead ((l.map MR.rule).drop (k + 1)) = R := by
     intro hm
     have := HR.out
     simp only [Ax.openHead, hm, Bool.false_eq_true, if_false] at this
     exact this
    have HY : Hid (Ax.openAt ⟨a, List.map Prod.fst body⟩ = true → R = some a.at_) := hyes
    have HN : Hid (Ax.openAt ⟨a, List.map Prod.fst body⟩ = false → Ax.openHead ((l.map MR.rule).drop (k + 1)) = R) := hno
    clear hyes hno HR
    have hatl := ownsRow_le hmr.1
    simp only at hatl
    go_wp2_with fail
    go_loopw [18] (fun i w2 => ∃ (q : Nat), q ≤ a.terms.length ∧ i = .int .i64 q ∧ Below (w0.heap.size + 1) (w0.alloc (.cells #[.int .i64 a.at_, .string a.pred, .slice ad a.terms.length c, .slice bd body.length d] 222)) w2 ∧ ∀ j (hj : j < a.terms.length), j < q → Ax.openTerm (List.map Prod.fst body) a.terms[j] = false) (fun i _ => a.terms.length - (intOf i).toNat)
    case atStart => exact ⟨0, Nat.zero_le _, rfl, Below.refl _ _, fun j _ hj => by omega⟩
    case round =>
     obtain ⟨q, hq, rfl, hb2, hno⟩ := hrel
     have HO : Hid (∀ j (hj : j < a.terms.length), j < q → Ax.openTerm (List.map Prod.fst body) a.terms[j] = false) := hno
     clear hno
     have hsz2 := hb2.size
     simp only [World.size_alloc] at hsz2
     have hlt0 : w0.heap.size < wr.heap.size := by omega
     have hblk := (hb2.block _ (by omega)).trans (heap_alloc_new w0 _)
     have e0 := cell_at hblk 0
     have e1 := cell_at hblk 1
     have e2 := cell_at hblk 2
     have e3 := cell_at hblk 3
     simp only [List.getElem?_toArray, List.getElem?_cons_zero, List.getElem?_cons_succ] at e0 e1 e2 e3
     have hmr2 := MR.below (MR.below hmr ((Below.refl _ _).alloc (Nat.le_refl _) _)) (hb2.mono (by simp))
     by_cases hlq : q < a.terms.length
     · obtain ⟨tg, hadg, htg, htc, htcs⟩ := row_cells hmr2.1 (by show 0 < a.terms.length; omega)
       simp only at hadg htcs
       subst hadg
       have t0 := htcs _ _ (termCells_get a.terms q hlq).1
       have t1 := htcs _ _ (termCells_get a.terms q hlq).2
       clear htcs
       generalize ht : a.terms[q] = t at t0 t1
       have HT : Hid (a.terms[q] = t) := ht
       clear ht
       by_cases hk1 : t.kind = 1
       · cases hbh : Ax.bodyHas (List.map Prod.fst body) t
         case false =>
          have HRR : Hid (R = some a.at_) := HY.out (by
           simp only [Ax.openAt, List.any_eq_true]
           exact ⟨t, by rw [← HT.out]; exact List.getElem_mem hlq, by simp [Ax.openTerm, hk1, hbh]⟩)
          have hkb : (t.kind == 1) = true := by simp [hk1]
          clear hk1
          go_wp2_with (first | (go_at_call 183; refine (bodyHas_any _ _ _ _ _ _ _ (MR.below hmr2 ((Below.refl _ _).alloc (Nat.le_refl _) _)) t).mono ?_; rintro e w3 ⟨rfl, hb3⟩; have hblk3 := (hb3.block _ (by simp; omega)).trans ((Below.heap_alloc _ _ _ (lt_of_heap hblk)).trans hblk); have g0 := cell_at hblk3 0; simp only [List.getElem?_toArray, List.getElem?_cons_zero] at g0; have hl3 := lt_of_heap hblk3; simp only [World.size_alloc] at hb3))
          go_ret2
          refine ⟨?_, .inl ⟨a.at_, HRR.out, rfl⟩⟩
          exact ((hbel.alloc hsz _).trans (hb2.mono (by omega))).trans (((Below.refl _ _).alloc (by omega) _).trans (hb3.mono (by omega)))
         case true =>
          have hopen : Hid (Ax.openTerm (List.map Prod.fst body) t = false) := by simp [Hid, Ax.openTerm, hbh]
          have hkb : (t.kind == 1) = true := by simp [hk1]
          clear hk1
          go_wp2_with (first | (go_at_call 183; refine (bodyHas_any _ _ _ _ _ _ _ (MR.below hmr2 ((Below.refl _ _).alloc (Nat.le_refl _) _)) t).mono ?_; rintro e w3 ⟨rfl, hb3⟩; have hblk3 := (hb3.block _ (by simp; omega)).trans ((Below.heap_alloc _ _ _ (lt_of_heap hblk)).trans hblk); have g0 := cell_at hblk3 0; simp only [List.getElem?_toArray, List.getElem?_cons_zero] at g0; have hl3 := lt_of_heap hblk3; simp only [World.size_alloc] at hb3))
          go_roundw
          case rel =>
           refine ⟨q + 1, by omega, by go_num, hb2.trans (((Below.refl _ _).alloc (by omega) _).trans (hb3.mono (by omega))), fun j hj hjq => ?_⟩
           by_cases e : j = q
           · subst e; rw [HT.out]; exact hopen.out
           · exact HO.out j hj (by omega)
          case measure => simp [intOf]; omega
       · have hopen : Hid (Ax.openTerm (List.map Prod.fst body) t = false) := by simp [Hid, Ax.openTerm, hk1]
         have hkb : (t.kind == 1) = false := by simp [hk1]
         clear hk1
         go_wp2_with fail
         go_roundw
         case rel =>
          refine ⟨q + 1, by omega, by go_num, hb2.alloc (by omega) _, fun j hj hjq => ?_⟩
          by_cases e : j = q
          · subst e; rw [HT.out]; exact hopen.out
          · exact HO.out j hj (by omega)
         case measure => simp [intOf]; omega
     · have hshut : Ax.openAt ⟨a, List.map Prod.fst body⟩ = false := by
        rw [Bool.eq_false_iff]
        intro ho
        simp only [Ax.openAt, List.any_eq_true] at ho
        obtain ⟨t, ht, hto⟩ := ho
        obtain ⟨j, hj, e⟩ := List.getElem_of_mem ht
        have := HO.out j hj (by omega)
        rw [e, hto] at this
        cases this
       have HNN : Hid (Ax.openHead ((l.map MR.rule).drop (k + 1)) = R) := HN.out hshut
       clear hshut
       go_wp2_with fail
       go_roundw
       case rel => exact ⟨k + 1, by omega, by go_num, (hbel.alloc hsz _).trans (hb2.mono (by omega)), HNN.out⟩
       case measure => simp [intOf]; omega
  · have HE : Hid (R = none) := by
     have := HR.out
     rw [List.drop_eq_nil_of_le (by simp; omega)] at this
     exact this.symm
    go_wp2_with fail
    go_ret2
    exact ⟨hbel, .inr ⟨HE.out, rfl⟩⟩
end Go.Proofs.YtdmicblafmhflaaGreatDoor
