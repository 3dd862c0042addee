/- twoArities. -/
import Derived.Test.YtdmicblafmhflaaGreatDoorC21
import Derived.Maps.Own
import Derived.Maps.OwnOps
import Derived.Maps.OwnSet
import Derived.Maps.Views
import Derived.StringKeys
import Derived.Test.YtdmicblafmhflaaGreatDoorC18
import Derived.Test.YtdmicblafmhflaaGreatDoorC20
import Derived.Test.YtdmicblafmhflaaGreatDoorC19
set_option linter.unusedSimpArgs false
set_option linter.unusedVariables false
namespace Go.Proofs.YtdmicblafmhflaaGreatDoor
open Go.RowKit Go.Maps Go.WideMaps Go.WideElems
theorem Tryz.lawStr : Keyed Tryz.prog 9 := string_keyed Tryz.underlying9
theorem Tryz.zeroInt (w : World) : (zeroValue 3).run Tryz.prog w = .ok (.int .i64 0) w := by kernel_rfl
def litOf (p : ByteArray) : Lit := .string p.data.toList
theorem litOf_inj {p q : ByteArray} (h : litOf p = litOf q) : p = q := by
 simp only [litOf, Lit.string.injEq] at h
 rcases p with ⟨⟨p⟩⟩
 rcases q with ⟨⟨q⟩⟩
 simp at h
 rw [h]
def MapIs (D : DataW Unit) (m : List (ByteArray × Nat)) : Prop :=
 ∀ p : ByteArray, Maps.has D (litOf p) = (Ax.look m p).isSome ∧ ∀ n, Ax.look m p = some n → D.atKey (litOf p) (.lit (.int .i64 0)) = .lit (.int .i64 n)
theorem mapIs_nil : MapIs (.map []) [] := fun p => ⟨rfl, fun n h => by simp [Ax.look] at h⟩
theorem look_cons (m : List (ByteArray × Nat)) (p q : ByteArray) (n : Nat) : Ax.look ((p, n) :: m) q = if p = q then some n else Ax.look m q := by
 by_cases h : p = q <;> simp [Ax.look, List.find?_cons, h]
theorem mapIs_put {D : DataW Unit} {m : List (ByteArray × Nat)} (h : MapIs D m) (hD : IsMap D) (p : ByteArray) (n : Nat) : MapIs (D.put (litOf p) (.lit (.int .i64 n))) ((p, n) :: m) := by
 intro q
 rw [look_cons]
 by_cases e : p = q
 · subst e
   rw [if_pos rfl, has_put_same hD (k := litOf p) trivial, atKey_put_same hD (k := litOf p) trivial]
   exact ⟨rfl, fun k hk => by simp at hk; rw [hk]⟩
 · have hne : litOf q ≠ litOf p := fun h2 => e (litOf_inj h2).symm
   rw [if_neg e, has_put_other hne, atKey_put_other hne]
   exact h q
theorem mapIs_again {D : DataW Unit} {m : List (ByteArray × Nat)} (h : MapIs D m) (hD : IsMap D) (p : ByteArray) (n : Nat) (hn : Ax.look m p = some n) : MapIs (D.put (litOf p) (.lit (.int .i64 n))) m := by
 intro q
 have := mapIs_put h hD p n q
 rw [look_cons] at this
 by_cases e : p = q
 · subst e
   rw [if_pos rfl] at this
   rw [hn]; exact this
 · rw [if_neg e] at this
   exact this
theorem ownsRow_notmap {w w' : World} {b : Nat} {e : TypeId} {size : Nat} {v : Value} {n : Nat} {xs : List Value} {B : Nat} (h : w.ownsRow b e size v n xs) (hg : w.grownBy w' (some B)) {es : Array MapEntry} {ck : Nat} (hB : w.heap[B]? = some (.map es ck)) : w'.ownsRow b e size v n xs := by
 refine h.kept hg ?_
 rcases h.2 with ⟨rfl, _⟩ | ⟨g, cap, cur, rfl, _, hh, _⟩
 · exact .inl rfl
 · refine .inr fun e1 => ?_
   simp only [Value.ownBlock, Option.some.injEq] at e1
   rw [e1, hB] at hh
   simp at hh
theorem oks_notmap {w w' : World} {l : List MA} {B : Nat} (h : oks w l) (hg : w.grownBy w' (some B)) {es : Array MapEntry} {ck : Nat} (hB : w.heap[B]? = some (.map es ck)) : oks w' l := fun x hx => ownsRow_notmap (h x hx) hg hB
theorem ownsMap_block {w : World} {R : Value → Option (DataW Unit × List MemPlace)} {b n : Nat} {D : DataW Unit} (h : w.ownsMap Tryz.prog 9 R b n D) : ∃ es ck, w.heap[b]? = some (.map es ck) := by
 obtain ⟨es, ck, hb, _⟩ := h
 exact ⟨es, ck, hb⟩
theorem ownsMap_below {w w' : World} {R : Value → Option (DataW Unit × List MemPlace)} {b n : Nat} {D : DataW Unit} (h : w.ownsMap Tryz.prog 9 R b n D) (hb : Below w.heap.size w w') : w'.ownsMap Tryz.prog 9 R b n D := h.kept (row := none) (grownBy_of_below hb none) (by simp)
def ArRel (w wr : World) (m : List (ByteArray × Nat)) (n : Nat) (L : List Ax.Atom) (R : Option Nat) : Prop :=
 (∃ D : DataW Unit, wr.ownsMap Tryz.prog 9 (plainElem Tryz.prog 3) w.heap.size n D ∧ MapIs D m) ∧ Below w.heap.size w wr ∧ Ax.twoAr m L = R
set_option maxRecDepth 100000 in
set_option maxHeartbeats 2000000 in
theorem twoArities_any (w : World) (rd : Option Addr) (rc : Nat) (l : List MR) (h : RulesIn w rd rc l) (hll : l.length ≤ 1000) (hpr : ∀ a, a ∈ (l.map MR.rule).flatMap Ax.Rule.atoms → a.pred.size ≤ 600) :
 Calls Tryz.prog 107 #[.slice rd l.length rc] w fun e w' => Below w.heap.size w w' ∧ ((∃ at_ : Nat, Ax.twoAr [] ((l.map MR.rule).flatMap Ax.Rule.atoms) = some at_ ∧ e = .returned (.tuple #[.int .i64 at_, .bool true])) ∨ (Ax.twoAr [] ((l.map MR.rule).flatMap Ax.Rule.atoms) = none ∧ e = .returned (.tuple #[.int .i64 0, .bool false]))) := by
 generalize hR : Ax.twoAr [] ((l.map MR.rule).flatMap Ax.Rule.atoms) = R
 have HPR : Hid (∀ a, a ∈ (l.map MR.rule).flatMap Ax.Rule.atoms → a.pred.size ≤ 600) := hpr
 clear hpr
 have hmm := @run_makeMap Tryz.prog
 go_enter Tryz.func107, Tryz.ntmps107
 go_wp2_with fail
 go_loopw [14] (fun i wr => ∃ (k n : Nat) (m : List (ByteArray × Nat)), k ≤ l.length ∧ n ≤ 1001 * k ∧ i = .int .i64 k ∧ ArRel w wr m n (((l.map MR.rule).drop k).flatMap Ax.Rule.atoms) R) (fun i _ => l.length - (intOf i).toNat)
 case atStart => exact ⟨0, 0, [], Nat.zero_le _, Nat.zero_le _, rfl, ⟨_, World.ownsMap_made _ _ _ _, mapIs_nil⟩, (Below.refl _ _).alloc (Nat.le_refl _) _, hR⟩
 case round =>
  obtain ⟨k, n, m, hk, hnk, rfl, ⟨D, hown, hmi⟩, hbel, hr⟩ := hrel
  have HR : Hid (Ax.twoAr m (((l.map MR.rule).drop k).flatMap Ax.Rule.atoms) = R) := hr
  clear hr hR
  obtain ⟨w0, rfl⟩ : ∃ x, x = wr := ⟨_, rfl⟩
  have hsz := hbel.size
  have hmb := hown.lt
  by_cases hlt : k < l.length
  · obtain ⟨g, a, ad, c, bd, d, body, rfl, hg, hcap, d0, d1, d2, d3, hmr, hbl, hrule⟩ := (h.below hbel).at hlt
    have hdrop : (l.map MR.rule).drop k = ⟨a, List.map Prod.fst body⟩ :: (l.map MR.rule).drop (k + 1) := by
     rw [List.drop_eq_getElem_cons (by simpa using hlt)]; simp [hrule]
    have hmemk : ∀ x, x ∈ a :: List.map Prod.fst body → x.pred.size ≤ 600 := by
     intro x hx
     refine HPR.out x ?_
     rw [← List.take_append_drop k (l.map MR.rule), hdrop]
     simp only [List.flatMap_append, List.flatMap_cons, List.mem_append]
     exact .inr (.inl hx)
    have HM : Hid (∀ x, x ∈ a :: List.map Prod.fst body → x.pred.size ≤ 600) := hmemk
    rw [hdrop, List.flatMap_cons] at HR
    clear hdrop hrule hmemk
    go_wp2_with (go_at_call 112; refine (atomsOf_any _ _ _ _ _ _ _ (MR.below hmr ((Below.refl _ _).alloc (Nat.le_refl _) _)) hbl).mono ?_; rintro e w1 ⟨ad', c', rfl, hats, hoks, hb1⟩)
    have hb0 : Below w0.heap.size w0 w1 := ((Below.refl _ _).alloc (Nat.le_refl _) _).trans (hb1.mono (by simp))
    have hown1 := ownsMap_below hown hb0
    have hs1 := hb0.size
    have hbel1 := hbel.trans (hb0.mono hsz)
    clear hb1 hmr hown hb0 d0 d1 d2 d3 hbel
    obtain ⟨es1, ck1, hmap1⟩ := ownsMap_block hown1
    generalize hL : (a, Value.slice ad a.terms.length c) :: body = L at hats hoks
    have hLl : L.length = body.length + 1 := by rw [← hL]; rfl
    have hLm : L.map Prod.fst = a :: body.map Prod.fst := by rw [← hL]; rfl
    have hLa : L.length ≤ body.length + 1 := by omega
    have hLb : body.length + 1 ≤ L.length := by omega
    have HR2 : Hid (Ax.twoAr m (L.map Prod.fst ++ ((l.map MR.rule).drop (k + 1)).flatMap Ax.Rule.atoms) = R) := by rw [hLm]; exact HR.out
    have HM2 : Hid (∀ x, x ∈ L.map Prod.fst → x.pred.size ≤ 600) := by rw [hLm]; exact HM.out
    clear hL hLm hLl HR HM
    go_loopw [21] (fun i w2 => ∃ (q n' : Nat) (m' : List (ByteArray × Nat)), q ≤ L.length ∧ n' ≤ n + q ∧ i = .int .i64 q ∧ ArRel w w2 m' n' ((L.map Prod.fst).drop q ++ ((l.map MR.rule).drop (k + 1)).flatMap Ax.Rule.atoms) R ∧ w1.grownBy w2 (some w.heap.size)) (fun i _ => L.length - (intOf i).toNat)
    case atStart => exact ⟨0, n, m, Nat.zero_le _, by omega, rfl, ⟨⟨D, hown1, hmi⟩, hbel1, HR2.out⟩, grownBy_refl _ _⟩
    case round =>
     obtain ⟨q, n', m', hq, hnq, rfl, ⟨⟨D', hown', hmi'⟩, hbel', hr'⟩, hgr⟩ := hrel
     have HRq : Hid (Ax.twoAr m' ((L.map Prod.fst).drop q ++ ((l.map MR.rule).drop (k + 1)).flatMap Ax.Rule.atoms) = R) := hr'
     have HMI : Hid (MapIs D' m') := hmi'
     have hD' := hown'.isMap
     clear hr' HR2 hmi'
     have hs2 := hgr.size
     have hmb' := hown'.lt
     by_cases hlq : q < L.length
     · have hrow := ownsRow_notmap hats hgr hmap1
       obtain ⟨g2, rfl, hg2, hc2, hcs⟩ := row_cells hrow (by omega)
       have hcell0 := hcs _ _ (atomCells_get L q hlq).1
       have hcell1 := hcs _ _ (atomCells_get L q hlq).2.1
       have hcell2 := hcs _ _ (atomCells_get L q hlq).2.2
       have hxk : MA.ok wr L[q] := oks_notmap hoks hgr hmap1 _ (List.getElem_mem hlq)
       have hxl := ownsRow_le hxk
       obtain ⟨xd, xc, hsh⟩ := ownsRow_shape hxk
       rw [hsh] at hcell2
       have hdrop : (L.map Prod.fst).drop q = (L[q]).1 :: (L.map Prod.fst).drop (q + 1) := by
        rw [List.drop_eq_getElem_cons (by simpa using hlq)]; simp
       rw [hdrop, List.cons_append] at HRq
       have hps : (L[q]).1.pred.size ≤ 600 := HM2.out _ (List.mem_map.2 ⟨_, List.getElem_mem hlq, rfl⟩)
       generalize (L[q]).1 = x at hcell0 hcell1 hcell2 HRq hps hxl
       clear hsh hcs hrow hdrop hxk hats hoks
       have hkey : keyOf Tryz.prog 9 (.string x.pred) = some (litOf x.pred) := keyOf_string_mk Tryz.underlying9 (by unfold maxLen; omega)
       have HK : Hid (keyOf Tryz.prog 9 (.string x.pred) = some (litOf x.pred)) := hkey
       clear hkey
       cases hlk : Ax.look m' x.pred with
       | none =>
        have hhas : Maps.has D' (litOf x.pred) = false := by rw [(HMI.out x.pred).1, hlk]; rfl
        have HN : Hid (Ax.twoAr ((x.pred, x.terms.length) :: m') ((L.map Prod.fst).drop (q + 1) ++ ((l.map MR.rule).drop (k + 1)).flatMap Ax.Rule.atoms) = R) := by
         have := HRq.out
         simp only [Ax.twoAr, hlk] at this
         exact this
        clear hlk HRq
        go_wp2_with (first | (at_lookup; go_must (refine wpList_lookup_own_ok_int _ rfl _ _ 307 rfl 9 3 .i64 Tryz.lawStr Tryz.underlying307 Tryz.underlying3 (Tryz.zeroInt _) w.heap.size n' D' rfl (hown'.alloc _) _ (litOf x.pred) rfl HK.out ?_; intro cc hat hwc; clear hat hwc)) | (at_mapUpdate; go_must (refine wpList_mapUpdate_own _ rfl _ _ _ 307 rfl 9 3 Tryz.lawStr Tryz.underlying307 _ w.heap.size n' D' rfl (hown'.alloc _) (by unfold maxLen; omega) _ _ (litOf x.pred) rfl rfl HK.out (.lit (.int .i64 x.terms.length)) [] (plainElem_int Tryz.underlying3 (WalkArith.wf_i64 (by omega))) ?_; intro w3 hown3 hgrow3)))
        go_roundw
        case rel =>
         refine ⟨q + 1, n' + 1, (x.pred, x.terms.length) :: m', by omega, by omega, by go_num, ⟨⟨_, hown3, mapIs_put HMI.out hD' _ _⟩, ?_, HN.out⟩, ?_⟩
         · exact (hbel'.alloc (by omega) _).grown hgrow3 (by simp; omega) (fun j hj => by cases hj; exact Nat.le_refl _)
         · exact grownBy_trans (grownBy_alloc hgr _) hgrow3
        case measure => simp [intOf]; omega
       | some n0 =>
        have hhas : Maps.has D' (litOf x.pred) = true := by rw [(HMI.out x.pred).1, hlk]; rfl
        have hat0 : Hid (D'.atKey (litOf x.pred) (.lit (.int .i64 0)) = .lit (.int .i64 n0)) := (HMI.out x.pred).2 n0 hlk
        by_cases hne : n0 = x.terms.length
        · have HN : Hid (Ax.twoAr m' ((L.map Prod.fst).drop (q + 1) ++ ((l.map MR.rule).drop (k + 1)).flatMap Ax.Rule.atoms) = R) := by
           have := HRq.out
           simp only [Ax.twoAr, hlk, hne, if_true] at this
           exact this
          have HLK : Hid (Ax.look m' x.pred = some x.terms.length) := by rw [hlk, hne]; rfl
          subst hne
          clear hlk HRq
          go_wp2_with (first | (at_lookup; go_must (refine wpList_lookup_own_ok_int _ rfl _ _ 307 rfl 9 3 .i64 Tryz.lawStr Tryz.underlying307 Tryz.underlying3 (Tryz.zeroInt _) w.heap.size n' D' rfl (hown'.alloc _) _ (litOf x.pred) rfl HK.out ?_; intro cc hat hwc; obtain rfl : cc = x.terms.length := by (rw [hat0.out] at hat; simpa using hat.symm))) | (at_mapUpdate; go_must (refine wpList_mapUpdate_own _ rfl _ _ _ 307 rfl 9 3 Tryz.lawStr Tryz.underlying307 _ w.heap.size n' D' rfl (hown'.alloc _) (by unfold maxLen; omega) _ _ (litOf x.pred) rfl rfl HK.out (.lit (.int .i64 x.terms.length)) [] (plainElem_int Tryz.underlying3 (WalkArith.wf_i64 (by omega))) ?_; intro w3 hown3 hgrow3)))
          go_roundw
          case rel =>
           refine ⟨q + 1, n' + 1, m', by omega, by omega, by go_num, ⟨⟨_, hown3, mapIs_again HMI.out hD' _ _ HLK.out⟩, ?_, HN.out⟩, ?_⟩
           · exact (hbel'.alloc (by omega) _).grown hgrow3 (by simp; omega) (fun j hj => by cases hj; exact Nat.le_refl _)
           · exact grownBy_trans (grownBy_alloc hgr _) hgrow3
          case measure => simp [intOf]; omega
        · have HY : Hid (R = some x.at_) := by
           have := HRq.out
           simp only [Ax.twoAr, hlk, hne, if_false] at this
           exact this.symm
          have hnb : ((n0 : Int) != (x.terms.length : Int)) = true := by simp; omega
          clear hlk HRq hne
          go_wp2_with (first | (at_lookup; go_must (refine wpList_lookup_own_ok_int _ rfl _ _ 307 rfl 9 3 .i64 Tryz.lawStr Tryz.underlying307 Tryz.underlying3 (Tryz.zeroInt _) w.heap.size n' D' rfl (hown'.alloc _) _ (litOf x.pred) rfl HK.out ?_; intro cc hat hwc; obtain rfl : cc = n0 := by (rw [hat0.out] at hat; simpa using hat.symm))) | (at_mapUpdate; go_must (refine wpList_mapUpdate_own _ rfl _ _ _ 307 rfl 9 3 Tryz.lawStr Tryz.underlying307 _ w.heap.size n' D' rfl (hown'.alloc _) (by unfold maxLen; omega) _ _ (litOf x.pred) rfl rfl HK.out (.lit (.int .i64 x.terms.length)) [] (plainElem_int Tryz.underlying3 (WalkArith.wf_i64 (by omega))) ?_; intro w3 hown3 hgrow3)))
          go_ret2
          exact ⟨hbel'.alloc (by omega) _, .inl ⟨x.at_, HY.out, rfl⟩⟩
     · have HN : Hid (Ax.twoAr m' (((l.map MR.rule).drop (k + 1)).flatMap Ax.Rule.atoms) = R) := by
        have := HRq.out
        rw [List.drop_eq_nil_of_le (by simp; omega), List.nil_append] at this
        exact this
       clear HRq
       go_wp2_with fail
       go_roundw
       case rel => exact ⟨k + 1, n', m', by omega, by omega, by go_num, ⟨D', hown', HMI.out⟩, hbel', HN.out⟩
       case measure => simp [intOf]; omega
  · have HE : Hid (R = none) := by
     have := HR.out
     rw [List.drop_eq_nil_of_le (by simp; omega)] at this
     exact this.symm
    go_wp2_with fail
    go_ret2
    exact ⟨hbel, .inr ⟨HE.out, rfl⟩⟩
end Go.Proofs.YtdmicblafmhflaaGreatDoor
/- Package follow: the state of a search as it lies. -/
namespace Go.Proofs.YtdmicblafmhflaaGreatDoor
open Go.RowKit Go.Maps Go.WideMaps Go.WideElems
open Go.Sort (grow)
def ptrElem (v : Value) : Option (DataW Unit × List MemPlace) := match v with
 | .pointer none => some (.lit (.int .i64 (-1)), [])
 | .pointer (some ⟨g, 0, none⟩) => some (.lit (.int .i64 g), [])
 | _ => none
theorem ptrElem_inv {v : Value} {g : Nat} {ps : List MemPlace} (h : ptrElem v = some (.lit (.int .i64 g), ps)) : v = .pointer (some ⟨g, 0, none⟩) := by
 unfold ptrElem at h
 split at h
 · simp at h
 · rename_i g'
   simp at h
   have e : g' = g := by omega
   rw [e]
 · cases h
structure PMap (w : World) (mb : Nat) (m : List (ByteArray × Nat)) : Prop where
 has : ∃ n D, w.ownsMap Tryz.prog 9 ptrElem mb n D ∧ n ≤ 1000000 ∧ ∀ p : ByteArray, Maps.has D (litOf p) = (Ax.look m p).isSome ∧ ∀ g, Ax.look m p = some g → D.atKey (litOf p) (.lit (.int .i64 (-1))) = .lit (.int .i64 g)
theorem PMap.kept {w w' : World} {S : List Nat} {mb : Nat} {m : List (ByteArray × Nat)} (h : PMap w mb m) (hk : Kb S w w') (hS : ¬ mb ∈ S) : PMap w' mb m := by
 obtain ⟨n, D, ⟨es, ck, hb, hr⟩, hn, hD⟩ := h.has
 exact ⟨n, D, ⟨es, ck, hk.heap hb hS, hr⟩, hn, hD⟩
theorem PMap.below {w w' : World} {mb : Nat} {m : List (ByteArray × Nat)} (h : PMap w mb m) (hb : Below w.heap.size w w') : PMap w' mb m := h.kept (Kb.of_below hb []) (by simp)
theorem PMap.block {w : World} {mb : Nat} {m : List (ByteArray × Nat)} (h : PMap w mb m) : ∃ es ck, w.heap[mb]? = some (.map es ck) := by
 obtain ⟨n, D, ⟨es, ck, hb, hr⟩, hn, hD⟩ := h.has
 exact ⟨es, ck, hb⟩
theorem PMap.look {w : World} {mb : Nat} {m : List (ByteArray × Nat)} (h : PMap w mb m) {p : ByteArray} {g : Nat} (hl : Ax.look m p = some g) (hp : p.size ≤ 1000000) {t e : TypeId} (ht : Tryz.prog.underlying t = some (.map 9 e)) (hz : (zeroValue e).run Tryz.prog w = .ok (.pointer none) w) :
 (Instr.lookup t (.map (some mb)) (.string p) false).run Tryz.prog w = .ok (.pointer (some ⟨g, 0, none⟩)) w := by
 obtain ⟨n, D, hown, hn, hD⟩ := h.has
 obtain ⟨v, ps, hrun, hv⟩ := hown.lookup Tryz.lawStr ht hz (zd := .lit (.int .i64 (-1))) (zp := []) rfl (key := .string p) (kl := litOf p) (keyOf_string_mk Tryz.underlying9 (by unfold maxLen; omega))
 rw [(hD p).2 g hl] at hv
 rw [hrun, ptrElem_inv hv]
structure HT where
 nm : ByteArray
 pl : Nat
 g : Nat
 rd : Option Addr
 rc : Nat
 cd : Option Addr
 cc : Nat
 L : List (List ByteArray)
 C : List Nat
def HT.ok (w : World) (t : HT) : Prop := HoldAt w t.g t.nm t.pl t.rd t.rc t.cd t.cc t.L t.C
def HT.foot (t : HT) : List Nat := hfoot t.g t.rd t.rc t.cd t.cc t.L.length
def HT.pk (t : HT) : ByteArray × Nat := (t.nm, t.g)
def HT.key (t : HT) : ByteArray × Nat × Nat := (t.nm, t.g, t.pl)
theorem HT.ok.types {w : World} {t : HT} (h : t.ok w) {b : Nat} (hb : b ∈ t.foot) : ∃ cur T, w.heap[b]? = some (.cells cur T (0, 0)) ∧ (T = 117 ∨ T = 119 ∨ T = 3) := by
 unfold HT.foot hfoot at hb
 rcases List.mem_cons.1 hb with rfl | hb
 · exact ⟨_, _, h.tab.blk, .inl rfl⟩
 · rcases List.mem_append.1 hb with hb | hb
   · rw [Option.mem_toList] at hb
     obtain ⟨cur, e⟩ := block_type h.tab.rows.own hb
     exact ⟨cur, _, e, .inr (.inl rfl)⟩
   · rw [Option.mem_toList] at hb
     obtain ⟨cur, e⟩ := block_type h.cnt hb
     exact ⟨cur, _, e, .inr (.inr rfl)⟩
def fCells (f : En.Fct) : List Value := .string f.1 :: f.2.map .string
def factCells (l : List En.Fct) : List Value := l.flatMap fCells
def Four (l : List En.Fct) : Prop := ∀ f, f ∈ l → f.2.length = 3
structure SAt (w : World) (sb mb : Nat) (rv : Value) (fd : Option Addr) (fc : Nat) (T : List HT) (s : En.Sea En.Fct) : Prop where
 blk : w.heap[sb]? = some (.cells #[rv, .map (some mb), .slice fd s.found.length fc] 322 (0, 0))
 map : PMap w mb (T.map HT.pk)
 fnd : w.ownsRow 0 325 4 (.slice fd s.found.length fc) s.found.length (factCells s.found)
 tabs : ∀ t, t ∈ T → t.ok w
 apart : T.Pairwise fun a b => ∀ x, x ∈ a.foot → ¬ x ∈ b.foot
 names : (T.map HT.nm).Nodup
 rows : ∀ t, t ∈ T → ∀ r, r ∈ t.L ↔ (t.nm, r) ∈ s.found
 cnts : ∀ t, t ∈ T → t.C = t.L.map fun r => s.count (t.nm, r)
 zero : ∀ f, ¬ f ∈ s.found → s.count f = 0
 three : Four s.found
 short : ∀ t, t ∈ T → t.nm.size ≤ 1000000
def sfoot (sb : Nat) (fd : Option Addr) (fc n : Nat) (T : List HT) : List Nat := sb :: ((Value.ownBlock (.slice fd n fc)).toList ++ T.flatMap HT.foot)
theorem SAt.below {w w' : World} {sb mb : Nat} {rv : Value} {fd : Option Addr} {fc : Nat} {T : List HT} {s : En.Sea En.Fct} (h : SAt w sb mb rv fd fc T s) (hb : Below w.heap.size w w') : SAt w' sb mb rv fd fc T s :=
 ⟨by rw [hb.block sb (lt_of_heap h.blk)]; exact h.blk, h.map.below hb, ownsRow_below h.fnd hb, fun t ht => (h.tabs t ht).below hb, h.apart, h.names, h.rows, h.cnts, h.zero, h.three, h.short⟩
theorem look_key : ∀ {T : List HT} (_ : (T.map HT.nm).Nodup) {t : HT}, t ∈ T → Ax.look (T.map HT.pk) t.nm = some t.g
 | [], _, t, h => by cases h
 | a :: T, hn, t, h => by
  rw [List.map_cons, List.nodup_cons] at hn
  show Ax.look ((a.nm, a.g) :: T.map HT.pk) t.nm = _
  rw [look_cons]
  rcases List.mem_cons.1 h with rfl | h
  · rw [if_pos rfl]
  · have : ¬ a.nm = t.nm := fun e => hn.1 (by rw [e]; exact List.mem_map.2 ⟨t, h, rfl⟩)
    rw [if_neg this]
    exact look_key hn.2 h
theorem sfoot_types {w : World} {sb mb : Nat} {rv : Value} {fd : Option Addr} {fc : Nat} {T : List HT} {s : En.Sea En.Fct} (h : SAt w sb mb rv fd fc T s) {b : Nat} (hb : b ∈ sfoot sb fd fc s.found.length T) : ∃ cur U, w.heap[b]? = some (.cells cur U (0, 0)) ∧ (U = 322 ∨ U = 325 ∨ U = 117 ∨ U = 119 ∨ U = 3) := by
 unfold sfoot at hb
 rcases List.mem_cons.1 hb with rfl | hb
 · exact ⟨_, _, h.blk, .inl rfl⟩
 · rcases List.mem_append.1 hb with hb | hb
   · rw [Option.mem_toList] at hb
     obtain ⟨cur, e⟩ := block_type h.fnd hb
     exact ⟨cur, _, e, .inr (.inl rfl)⟩
   · obtain ⟨t, ht, hb⟩ := List.mem_flatMap.1 hb
     obtain ⟨cur, U, e, hU⟩ := (h.tabs t ht).types hb
     exact ⟨cur, U, e, .inr (.inr hU)⟩
theorem HT.ok.kept {w w' : World} {S : List Nat} {t : HT} (h : t.ok w) (hk : Kb S w w') (hS : ∀ b, b ∈ t.foot → ¬ b ∈ S) : t.ok w' := HoldAt.kept h hk hS
theorem HT.ok.lt {w : World} {t : HT} (h : t.ok w) {b : Nat} (hb : b ∈ t.foot) : b < w.heap.size := by
 obtain ⟨cur, T, e, _⟩ := h.types hb
 exact lt_of_heap e
def HT.held (t : HT) (rd : Option Addr) (rc : Nat) (cd : Option Addr) (cc : Nat) (r : List ByteArray) (n : Nat) : HT := ⟨t.nm, t.pl, t.g, rd, rc, cd, cc, Tb.put t.L r, Tb.holdC t.L t.C r n⟩
theorem HT.held_foot {w : World} {t : HT} {rd : Option Addr} {rc : Nat} {cd : Option Addr} {cc : Nat} {r : List ByteArray} {n : Nat} (h1 : Fresh w (.slice t.rd t.L.length t.rc) (.slice rd (Tb.put t.L r).length rc)) (h2 : Fresh w (.slice t.cd t.L.length t.cc) (.slice cd (Tb.put t.L r).length cc)) {b : Nat} (hb : b ∈ (t.held rd rc cd cc r n).foot) : b ∈ t.foot ∨ w.heap.size ≤ b := by
 unfold HT.foot hfoot at hb ⊢
 rcases List.mem_cons.1 hb with rfl | hb
 · exact .inl (by simp [HT.held])
 · rcases List.mem_append.1 hb with hb | hb
   · rw [Option.mem_toList] at hb
     rcases h1 b hb with e | e
     · exact .inl (by simp only [List.mem_cons, List.mem_append, Option.mem_toList]; exact .inr (.inl e))
     · exact .inr e
   · rw [Option.mem_toList] at hb
     rcases h2 b hb with e | e
     · exact .inl (by simp only [List.mem_cons, List.mem_append, Option.mem_toList]; exact .inr (.inr e))
     · exact .inr e
abbrev Apart (a b : HT) : Prop := ∀ x, x ∈ a.foot → ¬ x ∈ b.foot
theorem Apart.symm {a b : HT} (h : Apart a b) : Apart b a := fun x h1 h2 => h x h2 h1
theorem tabs_step {w w1 : World} {A B : List HT} {t t' : HT} (hok : ∀ u, u ∈ A ++ t :: B → u.ok w) (hap : (A ++ t :: B).Pairwise Apart) (hk : Kb t.foot w w1) (ht' : t'.ok w1) (hf : ∀ b, b ∈ t'.foot → b ∈ t.foot ∨ w.heap.size ≤ b) :
 (∀ u, u ∈ A ++ t' :: B → u.ok w1) ∧ (A ++ t' :: B).Pairwise Apart := by
 rw [List.pairwise_append, List.pairwise_cons] at hap
 obtain ⟨p1, ⟨p2, p3⟩, p4⟩ := hap
 have hA : ∀ a, a ∈ A → Apart a t := fun a ha => p4 a ha t (by simp)
 have key : ∀ u, u.ok w → Apart u t → Apart u t' := by
  intro u hu hut x hx hx'
  rcases hf x hx' with e | e
  · exact hut x hx e
  · have := hu.lt hx
    omega
 refine ⟨?_, ?_⟩
 · intro u hu
   rcases List.mem_append.1 hu with hu | hu
   · exact (hok u (by simp [hu])).kept hk (fun b hb => hA u hu b hb)
   · rcases List.mem_cons.1 hu with rfl | hu
     · exact ht'
     · exact (hok u (by simp [hu])).kept hk (fun b hb => (p2 u hu).symm b hb)
 · rw [List.pairwise_append, List.pairwise_cons]
   refine ⟨p1, ⟨?_, p3⟩, ?_⟩
   · intro b hb
     exact (key b (hok b (by simp [hb])) (p2 b hb).symm).symm
   · intro a ha b hb
     rcases List.mem_cons.1 hb with rfl | hb
     · exact key a (hok a (by simp [ha])) (hA a ha)
     · exact p4 a ha b (by simp [hb])
structure SMid (w : World) (sb mb : Nat) (rv : Value) (fd : Option Addr) (fc : Nat) (T : List HT) (F : List En.Fct) (s : En.Sea En.Fct) : Prop where
 blk : w.heap[sb]? = some (.cells #[rv, .map (some mb), .slice fd F.length fc] 322 (0, 0))
 map : PMap w mb (T.map HT.pk)
 fnd : w.ownsRow 0 325 4 (.slice fd F.length fc) F.length (factCells F)
 tabs : ∀ t, t ∈ T → t.ok w
 apart : T.Pairwise Apart
 names : (T.map HT.nm).Nodup
 rows : ∀ t, t ∈ T → ∀ r, r ∈ t.L ↔ (t.nm, r) ∈ s.found
 cnts : ∀ t, t ∈ T → t.C = t.L.map fun r => s.count (t.nm, r)
 zero : ∀ f, ¬ f ∈ s.found → s.count f = 0
 three : Four s.found
 short : ∀ t, t ∈ T → t.nm.size ≤ 1000000
theorem hold_in {s : En.Sea En.Fct} {f g : En.Fct} {n : Nat} : g ∈ (En.hold s f n).found ↔ g = f ∨ g ∈ s.found := by
 unfold En.hold
 simp only
 split
 · rename_i h
   constructor
   · exact .inr
   · rintro (rfl | h2)
     · exact h
     · exact h2
 · rw [List.mem_append, List.mem_singleton]
   exact Or.comm
theorem SAt.mid {w W w1 : World} {sb mb : Nat} {rv : Value} {fd : Option Addr} {fc : Nat} {A B : List HT} {t : HT} {s : En.Sea En.Fct} (h : SAt w sb mb rv fd fc (A ++ t :: B) s) (hW : Below w.heap.size w W)
 {rd' : Option Addr} {rc' : Nat} {cd' : Option Addr} {cc' : Nat} {r : List ByteArray} {n : Nat} (hr : r.length = 3)
 (ht' : (t.held rd' rc' cd' cc' r n).ok w1) (hk : Kb t.foot W w1) (h1 : Fresh W (.slice t.rd t.L.length t.rc) (.slice rd' (Tb.put t.L r).length rc')) (h2 : Fresh W (.slice t.cd t.L.length t.cc) (.slice cd' (Tb.put t.L r).length cc')) :
 SMid w1 sb mb rv fd fc (A ++ t.held rd' rc' cd' cc' r n :: B) s.found (En.hold s (t.nm, r) n) ∧ Kb t.foot w w1 ∧ (∀ b, b ∈ (t.held rd' rc' cd' cc' r n).foot → b ∈ t.foot ∨ w.heap.size ≤ b) := by
 have hbW := h.below hW
 have hmt : t ∈ A ++ t :: B := by simp
 have htW := hbW.tabs t hmt
 have hno : ∀ b, b ∈ t.foot → ∀ cur U, W.heap[b]? = some (.cells cur U (0, 0)) → (U = 117 ∨ U = 119 ∨ U = 3) := by
  intro b hb cur U e
  obtain ⟨cur', U', e', hU⟩ := htW.types hb
  rw [e] at e'
  simp only [Option.some.injEq, Obj.cells.injEq] at e'
  rw [e'.2.1]
  exact hU
 have hf : ∀ b, b ∈ (t.held rd' rc' cd' cc' r n).foot → b ∈ t.foot ∨ W.heap.size ≤ b := fun b hb => HT.held_foot h1 h2 hb
 obtain ⟨hok, hap⟩ := tabs_step hbW.tabs hbW.apart hk ht' hf
 have hnd := h.names
 rw [List.map_append, List.map_cons, List.nodup_append, List.nodup_cons] at hnd
 have hother : ∀ u, u ∈ A ∨ u ∈ B → u.nm ≠ t.nm := by
  rintro u (hu | hu) e
  · exact hnd.2.2 u.nm (List.mem_map.2 ⟨u, hu, rfl⟩) t.nm (by simp) e
  · exact hnd.2.1.1 (by rw [← e]; exact List.mem_map.2 ⟨u, hu, rfl⟩)
 have hsplit : ∀ u, u ∈ A ++ t.held rd' rc' cd' cc' r n :: B → u = t.held rd' rc' cd' cc' r n ∨ (u ∈ A ++ t :: B ∧ u.nm ≠ t.nm) := by
  intro u hu
  rcases List.mem_append.1 hu with hu | hu
  · exact .inr ⟨by simp [hu], hother u (.inl hu)⟩
  · rcases List.mem_cons.1 hu with rfl | hu
    · exact .inl rfl
    · exact .inr ⟨by simp [hu], hother u (.inr hu)⟩
 refine ⟨⟨?_, ?_, ?_, hok, hap, ?_, ?_, ?_, ?_, ?_, ?_⟩, (Kb.of_below hW _).trans hk, fun b hb => ?_⟩
 · refine hk.heap hbW.blk ?_
   intro hc
   have := hno sb hc _ _ hbW.blk
   rcases this with e | e | e <;> cases e
 · have e : (A ++ t.held rd' rc' cd' cc' r n :: B).map HT.pk = (A ++ t :: B).map HT.pk := by simp [HT.pk, HT.held]
   rw [e]
   refine hbW.map.kept hk ?_
   intro hc
   obtain ⟨es, ck, eb⟩ := hbW.map.block
   obtain ⟨cur, U, e2, _⟩ := htW.types hc
   rw [eb] at e2
   cases e2
 · refine hk.row hbW.fnd ?_
   intro b hb hc
   obtain ⟨cur, e⟩ := block_type hbW.fnd hb
   have := hno b hc _ _ e
   rcases this with e | e | e <;> cases e
 · have e : (A ++ t.held rd' rc' cd' cc' r n :: B).map HT.nm = (A ++ t :: B).map HT.nm := by simp [HT.held]
   rw [e]
   exact h.names
 · intro u hu x
   rw [hold_in]
   rcases hsplit u hu with rfl | ⟨hu, hne⟩
   · show x ∈ Tb.put t.L r ↔ _
     rw [Tb.mem_put, h.rows t hmt]
     constructor
     · rintro (rfl | e)
       · exact .inl rfl
       · exact .inr e
     · rintro (e | e)
       · exact .inl (by simpa [HT.held] using e)
       · exact .inr e
   · rw [h.rows u hu]
     constructor
     · exact .inr
     · rintro (e | e)
       · simp only [Prod.mk.injEq] at e
         exact absurd e.1 hne
       · exact e
 · intro u hu
   rcases hsplit u hu with rfl | ⟨hu, hne⟩
   · show Tb.holdC t.L t.C r n = (Tb.put t.L r).map _
     rw [h.cnts t hmt, Tb.put_map (htW.tab.ord) r n _ (fun hc => h.zero _ (fun e => hc ((h.rows t hmt r).2 e)))]
     refine List.map_congr_left fun x _ => ?_
     show _ = (En.hold s (t.nm, r) n).count (t.nm, x)
     rw [En.hold_count]
     by_cases e : x = r
     · subst e; simp
     · simp [e]
   · rw [h.cnts u hu]
     refine List.map_congr_left fun x _ => ?_
     rw [En.hold_count, if_neg (by simp only [Prod.mk.injEq, not_and]; exact fun e => absurd e hne), Nat.add_zero]
 · intro g hg
   rw [En.hold_count]
   have h3 : ¬ g = (t.nm, r) ∧ ¬ g ∈ s.found := by
    constructor
    · intro e; exact hg (hold_in.2 (.inl e))
    · intro e; exact hg (hold_in.2 (.inr e))
   rw [if_neg h3.1, Nat.add_zero]
   exact h.zero g h3.2
 · intro g hg
   rcases hold_in.1 hg with rfl | hg
   · exact hr
   · exact h.three g hg
 · intro u hu
   rcases hsplit u hu with rfl | ⟨hu, _⟩
   · exact h.short t hmt
   · exact h.short u hu
 · rcases hf b hb with e | e
   · exact .inl e
   · exact .inr (Nat.le_trans hW.size e)
end Go.Proofs.YtdmicblafmhflaaGreatDoor
/- Tables of what was given; maps of tables, as they are made. -/
namespace Go.Proofs.YtdmicblafmhflaaGreatDoor
open Go.RowKit Go.Maps Go.WideMaps Go.WideElems
def PIs (D : DataW Unit) (m : List (ByteArray × Nat)) : Prop :=
 ∀ p : ByteArray, Maps.has D (litOf p) = (Ax.look m p).isSome ∧ ∀ g, Ax.look m p = some g → D.atKey (litOf p) (.lit (.int .i64 (-1))) = .lit (.int .i64 g)
theorem pis_nil : PIs (.map []) [] := fun p => ⟨rfl, fun n h => by simp [Ax.look] at h⟩
theorem pis_put {D : DataW Unit} {m : List (ByteArray × Nat)} (h : PIs D m) (hD : IsMap D) (p : ByteArray) (n : Nat) : PIs (D.put (litOf p) (.lit (.int .i64 n))) ((p, n) :: m) := by
 intro q
 rw [look_cons]
 by_cases e : p = q
 · subst e
   rw [if_pos rfl, has_put_same hD (k := litOf p) trivial, atKey_put_same hD (k := litOf p) trivial]
   exact ⟨rfl, fun k hk => by simp at hk; rw [hk]⟩
 · have hne : litOf q ≠ litOf p := fun h2 => e (litOf_inj h2).symm
   rw [if_neg e, has_put_other hne, atKey_put_other hne]
   exact h q
theorem PMap.of {w : World} {mb n : Nat} {D : DataW Unit} {m : List (ByteArray × Nat)} (h : w.ownsMap Tryz.prog 9 ptrElem mb n D) (hn : n ≤ 1000000) (hD : PIs D m) : PMap w mb m := ⟨n, D, h, hn, hD⟩
theorem look_none : ∀ {m : List (ByteArray × Nat)} {p : ByteArray}, ¬ p ∈ m.map Prod.fst → Ax.look m p = none
 | [], _, _ => rfl
 | (q, n) :: m, p, h => by
  rw [look_cons]
  simp only [List.map_cons, List.mem_cons, not_or] at h
  rw [if_neg (fun e => h.1 e.symm)]
  exact look_none h.2
structure GT where
 nm : ByteArray
 pl : Nat
 g : Nat
 rd : Option Addr
 rc : Nat
 L : List (List ByteArray)
def GT.ok (w : World) (t : GT) : Prop := TabAt w t.g 125 t.nm t.pl t.rd t.rc t.L []
def GT.foot (t : GT) : List Nat := t.g :: (Value.ownBlock (.slice t.rd t.L.length t.rc)).toList
def GT.key (t : GT) : ByteArray × Nat := (t.nm, t.g)
theorem GT.ok.types {w : World} {t : GT} (h : t.ok w) {b : Nat} (hb : b ∈ t.foot) : ∃ cur T, w.heap[b]? = some (.cells cur T (0, 0)) ∧ (T = 125 ∨ T = 119) := by
 unfold GT.foot at hb
 rcases List.mem_cons.1 hb with rfl | hb
 · exact ⟨_, _, TabAt.blk h, .inl rfl⟩
 · rw [Option.mem_toList] at hb
   obtain ⟨cur, e⟩ := block_type (TabAt.rows h).own hb
   exact ⟨cur, _, e, .inr rfl⟩
theorem GT.ok.lt {w : World} {t : GT} (h : t.ok w) {b : Nat} (hb : b ∈ t.foot) : b < w.heap.size := by
 obtain ⟨cur, T, e, _⟩ := h.types hb
 exact lt_of_heap e
theorem GT.ok.kept {w w' : World} {S : List Nat} {t : GT} (h : t.ok w) (hk : Kb S w w') (hS : ∀ b, b ∈ t.foot → ¬ b ∈ S) : t.ok w' :=
 TabAt.kept h hk (hS t.g (by simp [GT.foot])) (fun b hb => hS b (by simp [GT.foot, hb]))
theorem GT.ok.below {w w' : World} {t : GT} (h : t.ok w) (hb : Below w.heap.size w w') : t.ok w' := TabAt.below h hb
abbrev GApart (a b : GT) : Prop := ∀ x, x ∈ a.foot → ¬ x ∈ b.foot
structure GAt (w : World) (mb : Nat) (G : List GT) : Prop where
 map : PMap w mb (G.map GT.key)
 tabs : ∀ t, t ∈ G → t.ok w
 apart : G.Pairwise GApart
 names : (G.map GT.nm).Nodup
 short : ∀ t, t ∈ G → t.nm.size ≤ 1000000
def gfoot (mb : Nat) (G : List GT) : List Nat := mb :: G.flatMap GT.foot
theorem GAt.below {w w' : World} {mb : Nat} {G : List GT} (h : GAt w mb G) (hb : Below w.heap.size w w') : GAt w' mb G := ⟨h.map.below hb, fun t ht => (h.tabs t ht).below hb, h.apart, h.names, h.short⟩
theorem GAt.kept {w w' : World} {S : List Nat} {mb : Nat} {G : List GT} (h : GAt w mb G) (hk : Kb S w w') (hS : ∀ b, b ∈ gfoot mb G → ¬ b ∈ S) : GAt w' mb G := by
 refine ⟨h.map.kept hk (hS mb (by simp [gfoot])), fun t ht => (h.tabs t ht).kept hk fun b hb => hS b ?_, h.apart, h.names, h.short⟩
 unfold gfoot
 simp only [List.mem_cons, List.mem_flatMap]
 exact .inr ⟨t, ht, hb⟩
theorem glook_key : ∀ {G : List GT} (_ : (G.map GT.nm).Nodup) {t : GT}, t ∈ G → Ax.look (G.map GT.key) t.nm = some t.g
 | [], _, t, h => by cases h
 | a :: G, hn, t, h => by
  rw [List.map_cons, List.nodup_cons] at hn
  show Ax.look ((a.nm, a.g) :: G.map GT.key) t.nm = _
  rw [look_cons]
  rcases List.mem_cons.1 h with rfl | h
  · rw [if_pos rfl]
  · have : ¬ a.nm = t.nm := fun e => hn.1 (by rw [e]; exact List.mem_map.2 ⟨t, h, rfl⟩)
    rw [if_neg this]
    exact glook_key hn.2 h
end Go.Proofs.YtdmicblafmhflaaGreatDoor
