/- twoArities. -/
import Derived.Test.YtdmicblafmhflaaN6
import Derived.Maps.Own
import Derived.Maps.OwnOps
import Derived.Maps.OwnSet
import Derived.Maps.Views
import Derived.StringKeys
namespace Go.Proofs.Ytdmicblafmhflaa
set_option linter.unusedSimpArgs false
set_option linter.unusedVariables false
open Go.RowKit Go.Maps Go.WideMaps Go.WideElems

theorem Try.lawStr : Keyed Try.prog 9 := string_keyed Try.underlying9
theorem Try.zeroInt (w : World) : (zeroValue 3).run Try.prog w = .ok (.int .i64 0) w := by kernel_rfl

def litOf (p : ByteArray) : Lit := .string p.data.toList
theorem litOf_inj {p q : ByteArray} (h : litOf p = litOf q) : p = q := by
  simp only [litOf, Lit.string.injEq] at h
  rcases p with ⟨⟨p⟩⟩
  rcases q with ⟨⟨q⟩⟩
  simp at h
  rw [h]

/-- the map reads as the list -/
def MapIs (D : DataW Unit) (m : List (ByteArray × Nat)) : Prop :=
  ∀ p : ByteArray, Maps.has D (litOf p) = (Ax.look m p).isSome ∧ ∀ n, Ax.look m p = some n → D.atKey (litOf p) (.lit (.int .i64 0)) = .lit (.int .i64 n)
theorem mapIs_nil : MapIs (.map []) [] := fun p => ⟨rfl, fun n h => by simp [Ax.look] at h⟩
theorem look_cons (m : List (ByteArray × Nat)) (p q : ByteArray) (n : Nat) : Ax.look ((p, n) :: m) q = if p = q then some n else Ax.look m q := by
  by_cases h : p = q <;> simp [Ax.look, List.find?_cons, h]
theorem mapIs_put {D : DataW Unit} {m : List (ByteArray × Nat)} (h : MapIs D m) (hD : IsMap D) (p : ByteArray) (n : Nat) : MapIs (D.put (litOf p) (.lit (.int .i64 n))) ((p, n) :: m) := by
  intro q
  rw [look_cons]
  by_cases e : p = q
  · subst e
    rw [if_pos rfl, has_put_same hD (k := litOf p) trivial, atKey_put_same hD (k := litOf p) trivial]
    exact ⟨rfl, fun k hk => by simp at hk; rw [hk]⟩
  · have hne : litOf q ≠ litOf p := fun h2 => e (litOf_inj h2).symm
    rw [if_neg e, has_put_other hne, atKey_put_other hne]
    exact h q
theorem mapIs_again {D : DataW Unit} {m : List (ByteArray × Nat)} (h : MapIs D m) (hD : IsMap D) (p : ByteArray) (n : Nat) (hn : Ax.look m p = some n) : MapIs (D.put (litOf p) (.lit (.int .i64 n))) m := by
  intro q
  have := mapIs_put h hD p n q
  rw [look_cons] at this
  by_cases e : p = q
  · subst e
    rw [if_pos rfl] at this
    rw [hn]; exact this
  · rw [if_neg e] at this
    exact this

theorem ownsRow_notmap {w w' : World} {b : Nat} {e : TypeId} {size : Nat} {v : Value} {n : Nat} {xs : List Value} {B : Nat} (h : w.ownsRow b e size v n xs) (hg : w.grownBy w' (some B)) {es : Array MapEntry} {ck : Nat} (hB : w.heap[B]? = some (.map es ck)) : w'.ownsRow b e size v n xs := by
  refine h.kept hg ?_
  rcases h.2 with ⟨rfl, _⟩ | ⟨g, cap, cur, rfl, _, hh, _⟩
  · exact .inl rfl
  · refine .inr fun e1 => ?_
    simp only [Value.ownBlock, Option.some.injEq] at e1
    rw [e1, hB] at hh
    simp at hh
theorem oks_notmap {w w' : World} {l : List MA} {B : Nat} (h : oks w l) (hg : w.grownBy w' (some B)) {es : Array MapEntry} {ck : Nat} (hB : w.heap[B]? = some (.map es ck)) : oks w' l := fun x hx => ownsRow_notmap (h x hx) hg hB
theorem ownsMap_block {w : World} {R : Value → Option (DataW Unit × List MemPlace)} {b n : Nat} {D : DataW Unit} (h : w.ownsMap Try.prog 9 R b n D) : ∃ es ck, w.heap[b]? = some (.map es ck) := by
  obtain ⟨es, ck, hb, _⟩ := h
  exact ⟨es, ck, hb⟩
theorem ownsMap_below {w w' : World} {R : Value → Option (DataW Unit × List MemPlace)} {b n : Nat} {D : DataW Unit} (h : w.ownsMap Try.prog 9 R b n D) (hb : Below w.heap.size w w') : w'.ownsMap Try.prog 9 R b n D := h.kept (row := none) (grownBy_of_below hb none) (by simp)

def ArRel (w wr : World) (m : List (ByteArray × Nat)) (n : Nat) (L : List Ax.Atom) (R : Option Nat) : Prop :=
  (∃ D : DataW Unit, wr.ownsMap Try.prog 9 (plainElem Try.prog 3) w.heap.size n D ∧ MapIs D m) ∧ Below w.heap.size w wr ∧ Ax.twoAr m L = R

set_option maxRecDepth 100000 in
set_option maxHeartbeats 2000000 in
theorem twoArities_any (w : World) (rd : Option Addr) (rc : Nat) (l : List MR) (h : RulesIn w rd rc l) (hll : l.length ≤ 1000) (hpr : ∀ a, a ∈ (l.map MR.rule).flatMap Ax.Rule.atoms → a.pred.size ≤ 600) :
    Calls Try.prog 27 #[.slice rd l.length rc] w fun e w' => Below w.heap.size w w' ∧ ((∃ at_ : Nat, Ax.twoAr [] ((l.map MR.rule).flatMap Ax.Rule.atoms) = some at_ ∧ e = .returned (.tuple #[.int .i64 at_, .bool true])) ∨ (Ax.twoAr [] ((l.map MR.rule).flatMap Ax.Rule.atoms) = none ∧ e = .returned (.tuple #[.int .i64 0, .bool false]))) := by
  generalize hR : Ax.twoAr [] ((l.map MR.rule).flatMap Ax.Rule.atoms) = R
  have HPR : Hid (∀ a, a ∈ (l.map MR.rule).flatMap Ax.Rule.atoms → a.pred.size ≤ 600) := hpr
  clear hpr
  have hmm := @run_makeMap Try.prog
  go_enter Try.func27, Try.ntmps27
  go_wp2_with fail
  go_loopw [14] (fun i wr => ∃ (k n : Nat) (m : List (ByteArray × Nat)), k ≤ l.length ∧ n ≤ 1001 * k ∧ i = .int .i64 k ∧ ArRel w wr m n (((l.map MR.rule).drop k).flatMap Ax.Rule.atoms) R) (fun i _ => l.length - (intOf i).toNat)
  case atStart => exact ⟨0, 0, [], Nat.zero_le _, Nat.zero_le _, rfl, ⟨_, World.ownsMap_made _ _ _ _, mapIs_nil⟩, (Below.refl _ _).alloc (Nat.le_refl _) _, hR⟩
  case round =>
    obtain ⟨k, n, m, hk, hnk, rfl, ⟨D, hown, hmi⟩, hbel, hr⟩ := hrel
    have HR : Hid (Ax.twoAr m (((l.map MR.rule).drop k).flatMap Ax.Rule.atoms) = R) := hr
    clear hr hR
    obtain ⟨w0, rfl⟩ : ∃ x, x = wr := ⟨_, rfl⟩
    have hsz := hbel.size
    have hmb := hown.lt
    by_cases hlt : k < l.length
    · obtain ⟨g, a, ad, c, bd, d, body, rfl, hg, hcap, d0, d1, d2, d3, hmr, hbl, hrule⟩ := (h.below hbel).at hlt
      have hdrop : (l.map MR.rule).drop k = ⟨a, List.map Prod.fst body⟩ :: (l.map MR.rule).drop (k + 1) := by
        rw [List.drop_eq_getElem_cons (by simpa using hlt)]; simp [hrule]
      have hmemk : ∀ x, x ∈ a :: List.map Prod.fst body → x.pred.size ≤ 600 := by
        intro x hx
        refine HPR.out x ?_
        rw [← List.take_append_drop k (l.map MR.rule), hdrop]
        simp only [List.flatMap_append, List.flatMap_cons, List.mem_append]
        exact .inr (.inl hx)
      have HM : Hid (∀ x, x ∈ a :: List.map Prod.fst body → x.pred.size ≤ 600) := hmemk
      rw [hdrop, List.flatMap_cons] at HR
      clear hdrop hrule hmemk
      go_wp2_with (go_at_call 41; refine (atomsOf_any _ _ _ _ _ _ _ (MR.below hmr ((Below.refl _ _).alloc (Nat.le_refl _) _)) hbl).mono ?_; rintro e w1 ⟨ad', c', rfl, hats, hoks, hb1⟩)
      have hb0 : Below w0.heap.size w0 w1 := ((Below.refl _ _).alloc (Nat.le_refl _) _).trans (hb1.mono (by simp))
      have hown1 := ownsMap_below hown hb0
      have hs1 := hb0.size
      have hbel1 := hbel.trans (hb0.mono hsz)
      clear hb1 hmr hown hb0 d0 d1 d2 d3 hbel
      obtain ⟨es1, ck1, hmap1⟩ := ownsMap_block hown1
      generalize hL : (a, Value.slice ad a.terms.length c) :: body = L at hats hoks
      have hLl : L.length = body.length + 1 := by rw [← hL]; rfl
      have hLm : L.map Prod.fst = a :: body.map Prod.fst := by rw [← hL]; rfl
      have hLa : L.length ≤ body.length + 1 := by omega
      have hLb : body.length + 1 ≤ L.length := by omega
      have HR2 : Hid (Ax.twoAr m (L.map Prod.fst ++ ((l.map MR.rule).drop (k + 1)).flatMap Ax.Rule.atoms) = R) := by rw [hLm]; exact HR.out
      have HM2 : Hid (∀ x, x ∈ L.map Prod.fst → x.pred.size ≤ 600) := by rw [hLm]; exact HM.out
      clear hL hLm hLl HR HM
      go_loopw [21] (fun i w2 => ∃ (q n' : Nat) (m' : List (ByteArray × Nat)), q ≤ L.length ∧ n' ≤ n + q ∧ i = .int .i64 q ∧ ArRel w w2 m' n' ((L.map Prod.fst).drop q ++ ((l.map MR.rule).drop (k + 1)).flatMap Ax.Rule.atoms) R ∧ w1.grownBy w2 (some w.heap.size)) (fun i _ => L.length - (intOf i).toNat)
      case atStart => exact ⟨0, n, m, Nat.zero_le _, by omega, rfl, ⟨⟨D, hown1, hmi⟩, hbel1, HR2.out⟩, grownBy_refl _ _⟩
      case round =>
        obtain ⟨q, n', m', hq, hnq, rfl, ⟨⟨D', hown', hmi'⟩, hbel', hr'⟩, hgr⟩ := hrel
        have HRq : Hid (Ax.twoAr m' ((L.map Prod.fst).drop q ++ ((l.map MR.rule).drop (k + 1)).flatMap Ax.Rule.atoms) = R) := hr'
        have HMI : Hid (MapIs D' m') := hmi'
        have hD' := hown'.isMap
        clear hr' HR2 hmi'
        have hs2 := hgr.size
        have hmb' := hown'.lt
        by_cases hlq : q < L.length
        · have hrow := ownsRow_notmap hats hgr hmap1
          obtain ⟨g2, rfl, hg2, hc2, hcs⟩ := row_cells hrow (by omega)
          have hcell0 := hcs _ _ (atomCells_get L q hlq).1
          have hcell1 := hcs _ _ (atomCells_get L q hlq).2.1
          have hcell2 := hcs _ _ (atomCells_get L q hlq).2.2
          have hxk : MA.ok wr L[q] := oks_notmap hoks hgr hmap1 _ (List.getElem_mem hlq)
          have hxl := ownsRow_le hxk
          obtain ⟨xd, xc, hsh⟩ := ownsRow_shape hxk
          rw [hsh] at hcell2
          have hdrop : (L.map Prod.fst).drop q = (L[q]).1 :: (L.map Prod.fst).drop (q + 1) := by
            rw [List.drop_eq_getElem_cons (by simpa using hlq)]; simp
          rw [hdrop, List.cons_append] at HRq
          have hps : (L[q]).1.pred.size ≤ 600 := HM2.out _ (List.mem_map.2 ⟨_, List.getElem_mem hlq, rfl⟩)
          generalize (L[q]).1 = x at hcell0 hcell1 hcell2 HRq hps hxl
          clear hsh hcs hrow hdrop hxk hats hoks
          have hkey : keyOf Try.prog 9 (.string x.pred) = some (litOf x.pred) := keyOf_string_mk Try.underlying9 (by unfold maxLen; omega)
          have HK : Hid (keyOf Try.prog 9 (.string x.pred) = some (litOf x.pred)) := hkey
          clear hkey
          cases hlk : Ax.look m' x.pred with
          | none =>
            have hhas : Maps.has D' (litOf x.pred) = false := by rw [(HMI.out x.pred).1, hlk]; rfl
            have HN : Hid (Ax.twoAr ((x.pred, x.terms.length) :: m') ((L.map Prod.fst).drop (q + 1) ++ ((l.map MR.rule).drop (k + 1)).flatMap Ax.Rule.atoms) = R) := by
              have := HRq.out
              simp only [Ax.twoAr, hlk] at this
              exact this
            clear hlk HRq
            go_wp2_with (first | (at_lookup; go_must (refine wpList_lookup_own_ok_int _ rfl _ _ 99 rfl 9 3 .i64 Try.lawStr Try.underlying99 Try.underlying3 (Try.zeroInt _) w.heap.size n' D' rfl (hown'.alloc _) _ (litOf x.pred) rfl HK.out ?_; intro cc hat hwc; clear hat hwc)) | (at_mapUpdate; go_must (refine wpList_mapUpdate_own _ rfl _ _ _ 99 rfl 9 3 Try.lawStr Try.underlying99 _ w.heap.size n' D' rfl (hown'.alloc _) (by unfold maxLen; omega) _ _ (litOf x.pred) rfl rfl HK.out (.lit (.int .i64 x.terms.length)) [] (plainElem_int Try.underlying3 (WalkArith.wf_i64 (by omega))) ?_; intro w3 hown3 hgrow3)))
            go_roundw
            case rel =>
              refine ⟨q + 1, n' + 1, (x.pred, x.terms.length) :: m', by omega, by omega, by go_num, ⟨⟨_, hown3, mapIs_put HMI.out hD' _ _⟩, ?_, HN.out⟩, ?_⟩
              · exact (hbel'.alloc (by omega) _).grown hgrow3 (by simp; omega) (fun j hj => by cases hj; exact Nat.le_refl _)
              · exact grownBy_trans (grownBy_alloc hgr _) hgrow3
            case measure => simp [intOf]; omega
          | some n0 =>
            have hhas : Maps.has D' (litOf x.pred) = true := by rw [(HMI.out x.pred).1, hlk]; rfl
            have hat0 : Hid (D'.atKey (litOf x.pred) (.lit (.int .i64 0)) = .lit (.int .i64 n0)) := (HMI.out x.pred).2 n0 hlk
            by_cases hne : n0 = x.terms.length
            · have HN : Hid (Ax.twoAr m' ((L.map Prod.fst).drop (q + 1) ++ ((l.map MR.rule).drop (k + 1)).flatMap Ax.Rule.atoms) = R) := by
                have := HRq.out
                simp only [Ax.twoAr, hlk, hne, if_true] at this
                exact this
              have HLK : Hid (Ax.look m' x.pred = some x.terms.length) := by rw [hlk, hne]; rfl
              subst hne
              clear hlk HRq
              go_wp2_with (first | (at_lookup; go_must (refine wpList_lookup_own_ok_int _ rfl _ _ 99 rfl 9 3 .i64 Try.lawStr Try.underlying99 Try.underlying3 (Try.zeroInt _) w.heap.size n' D' rfl (hown'.alloc _) _ (litOf x.pred) rfl HK.out ?_; intro cc hat hwc; obtain rfl : cc = x.terms.length := by (rw [hat0.out] at hat; simpa using hat.symm))) | (at_mapUpdate; go_must (refine wpList_mapUpdate_own _ rfl _ _ _ 99 rfl 9 3 Try.lawStr Try.underlying99 _ w.heap.size n' D' rfl (hown'.alloc _) (by unfold maxLen; omega) _ _ (litOf x.pred) rfl rfl HK.out (.lit (.int .i64 x.terms.length)) [] (plainElem_int Try.underlying3 (WalkArith.wf_i64 (by omega))) ?_; intro w3 hown3 hgrow3)))
              go_roundw
              case rel =>
                refine ⟨q + 1, n' + 1, m', by omega, by omega, by go_num, ⟨⟨_, hown3, mapIs_again HMI.out hD' _ _ HLK.out⟩, ?_, HN.out⟩, ?_⟩
                · exact (hbel'.alloc (by omega) _).grown hgrow3 (by simp; omega) (fun j hj => by cases hj; exact Nat.le_refl _)
                · exact grownBy_trans (grownBy_alloc hgr _) hgrow3
              case measure => simp [intOf]; omega

            · have HY : Hid (R = some x.at_) := by
                have := HRq.out
                simp only [Ax.twoAr, hlk, hne, if_false] at this
                exact this.symm
              have hnb : ((n0 : Int) != (x.terms.length : Int)) = true := by simp; omega
              clear hlk HRq hne
              go_wp2_with (first | (at_lookup; go_must (refine wpList_lookup_own_ok_int _ rfl _ _ 99 rfl 9 3 .i64 Try.lawStr Try.underlying99 Try.underlying3 (Try.zeroInt _) w.heap.size n' D' rfl (hown'.alloc _) _ (litOf x.pred) rfl HK.out ?_; intro cc hat hwc; obtain rfl : cc = n0 := by (rw [hat0.out] at hat; simpa using hat.symm))) | (at_mapUpdate; go_must (refine wpList_mapUpdate_own _ rfl _ _ _ 99 rfl 9 3 Try.lawStr Try.underlying99 _ w.heap.size n' D' rfl (hown'.alloc _) (by unfold maxLen; omega) _ _ (litOf x.pred) rfl rfl HK.out (.lit (.int .i64 x.terms.length)) [] (plainElem_int Try.underlying3 (WalkArith.wf_i64 (by omega))) ?_; intro w3 hown3 hgrow3)))
              go_ret2
              exact ⟨hbel'.alloc (by omega) _, .inl ⟨x.at_, HY.out, rfl⟩⟩
        · have HN : Hid (Ax.twoAr m' (((l.map MR.rule).drop (k + 1)).flatMap Ax.Rule.atoms) = R) := by
            have := HRq.out
            rw [List.drop_eq_nil_of_le (by simp; omega), List.nil_append] at this
            exact this
          clear HRq
          go_wp2_with fail
          go_roundw
          case rel => exact ⟨k + 1, n', m', by omega, by omega, by go_num, ⟨D', hown', HMI.out⟩, hbel', HN.out⟩
          case measure => simp [intOf]; omega
    · have HE : Hid (R = none) := by
        have := HR.out
        rw [List.drop_eq_nil_of_le (by simp; omega)] at this
        exact this.symm
      go_wp2_with fail
      go_ret2
      exact ⟨hbel, .inr ⟨HE.out, rfl⟩⟩
end Go.Proofs.Ytdmicblafmhflaa
