/- Engine.All; what of an engine's predicate is listed. -/
import Derived.Test.YtdmicblafmhflaaGreatDoorC41
import Derived.Test.YtdmicblafmhflaaGreatDoorC44
import Derived.Test.YtdmicblafmhflaaGreatDoorC16
import Derived.Test.YtdmicblafmhflaaGreatDoorC08
import Derived.BigQuiet
import Derived.Deep.Cut
set_option linter.unusedSimpArgs false
set_option linter.unusedVariables false
namespace Go.Proofs.YtdmicblafmhflaaGreatDoor
open Go.RowKit Go.Maps Go.WideMaps Go.WideElems
theorem PMap.lookNo {w : World} {mb : Nat} {m : List (ByteArray × Nat)} (h : PMap w mb m) {p : ByteArray} (hl : Ax.look m p = none) (hp : p.size ≤ 1000000) {t e : TypeId} (ht : Tryz.prog.underlying t = some (.map 9 e)) (hz : (zeroValue e).run Tryz.prog w = .ok (.pointer none) w) :
 (Instr.lookup t (.map (some mb)) (.string p) true).run Tryz.prog w = .ok (.tuple #[.pointer none, .bool false]) w := by
 obtain ⟨n, D, hown, hn, hD⟩ := h.has
 obtain ⟨v, ps, hrun, hv⟩ := hown.look_ok Tryz.lawStr ht hz (zd := .lit (.int .i64 (-1))) (zp := []) rfl (key := .string p) (kl := litOf p) (keyOf_string_mk Tryz.underlying9 (by unfold maxLen; omega))
 have hh := (hD p).1
 rw [hl] at hh
 have hh' : Maps.has D (litOf p) = false := hh
 rw [Maps.atKey_of_not_has hh'] at hv
 have hvn : v = .pointer none := by
  unfold ptrElem at hv
  split at hv
  · rfl
  · simp at hv
  · cases hv
 rw [hrun, hvn, hh']
def holdP (H : Nat → Bool) (p : ByteArray) : List Nat := (List.range 36).filter fun i => H i && decide ((dat i).1 = p)
theorem mem_holdP {H : Nat → Bool} {p : ByteArray} {i : Nat} : i ∈ holdP H p ↔ i < 36 ∧ H i = true ∧ (dat i).1 = p := by
 simp [holdP, and_assoc]
theorem holdP_nodup (H : Nat → Bool) (p : ByteArray) : (holdP H p).Nodup := List.Pairwise.filter _ List.nodup_range
structure Lst (H : Nat → Bool) (p : ByteArray) (js : List Nat) : Prop where
 mem : ∀ j, j ∈ js ↔ j < 36 ∧ H j = true ∧ (dat j).1 = p
 ord : js.Pairwise fun a b => Tb.rcmp (Tb.row3 (dat a).2) (Tb.row3 (dat b).2) < 0
theorem Lst.len {H : Nat → Bool} {p : ByteArray} {js : List Nat} (h : Lst H p js) : js.length = (holdP H p).length := by
 have hn : js.Nodup := List.Pairwise.imp (fun {a b} hab e => by subst e; rw [Tb.rcmp_irr] at hab; omega) h.ord
 have h1 := List.Nodup.length_le_of_subset hn (fun j hj => mem_holdP.2 ((h.mem j).1 hj))
 have h2 := List.Nodup.length_le_of_subset (holdP_nodup H p) (fun j hj => (h.mem j).2 (mem_holdP.1 hj))
 omega
theorem row3_take {j : Nat} (hj : j < 36) : (Tb.row3 (dat j).2).take (dat j).2.length = (dat j).2 := by
 have key : ∀ p x y, (Tb.row3 (fdat p x y).2).take (fdat p x y).2.length = (fdat p x y).2 := by
  intro p x y
  unfold fdat
  split <;> rfl
 unfold dat
 split
 · exact key _ _ _
 · split <;> exact key _ _ _
theorem lst_of {H : Nat → Bool} {p : ByteArray} {pl : Nat} (hp : (p, pl) ∈ gPr) : ∀ (L : List (List ByteArray)), (∀ r, r ∈ L → ∃ j, j < 36 ∧ H j = true ∧ (p, r) = En.uF j) → ∃ js : List Nat, L = js.map (fun j => Tb.row3 (dat j).2) ∧ L.map (fun r => (p, r.take pl)) = js.map dat ∧ ∀ j, j ∈ js → j < 36 ∧ H j = true ∧ (dat j).1 = p
 | [], _ => ⟨[], rfl, rfl, by simp⟩
 | r :: L, h => by
  obtain ⟨js, e1, e2, e3⟩ := lst_of hp L (fun x hx => h x (by simp [hx]))
  obtain ⟨j, hj, hH, e⟩ := h r (by simp)
  rw [uF_dat] at e
  have ep : p = (dat j).1 := congrArg Prod.fst e
  have er : r = Tb.row3 (dat j).2 := congrArg Prod.snd e
  have hpl : pl = (dat j).2.length := gPr_pl (p := p) hp (by rw [ep]; exact dat_pr hj)
  refine ⟨j :: js, by rw [List.map_cons, ← e1, er], ?_, ?_⟩
  · rw [List.map_cons, List.map_cons, e2, er, hpl, row3_take hj, ep]
  · intro i hi
    rcases List.mem_cons.1 hi with rfl | hi
    · exact ⟨hj, hH, ep.symm⟩
    · exact e3 i hi
theorem zz_look {T : List HT} (hT : ∀ p, p ∈ T.map prHT ↔ p ∈ gPr) : Ax.look (T.map HT.pk) ⟨#[122, 122]⟩ = none := by
 refine look_none ?_
 intro hm
 obtain ⟨x, hx, e⟩ := List.mem_map.1 hm
 obtain ⟨u, hu, rfl⟩ := List.mem_map.1 hx
 have h1 := (hT _).1 (List.mem_map_of_mem hu)
 have h2 : ∀ q, q ∈ gPr → q.1 ≠ ⟨#[122, 122]⟩ := by unfold gPr; decide
 exact h2 _ h1 e
set_option maxRecDepth 100000 in
set_option maxHeartbeats 2000000 in
theorem all_zz {w : World} {B eg : Nat} {kl : List Ax.KRule} {gv : Nat → Bool} {n : Nat} (hE : Eng w B eg kl gv n) :
 Calls Tryz.prog 17 #[.pointer (some ⟨eg, 0, none⟩), .string ⟨#[122, 122]⟩] w fun e w' => e = .returned (.tuple #[.slice none 0 0, .int .i64 6]) ∧ Below w.heap.size w w' := by
 obtain ⟨pl, rd, rc, l, gm, G, hm, T, s, hd, lv, ln, lx, eb, hin, he, hG, hR, hH, hI, hT, hd32, hlog, hln⟩ := hE.at_
 obtain ⟨k0, k1, k2, k3, k4, k5⟩ := eg_cells eb hd32
 have hlk := hH.map.lookNo (zz_look hT) (by decide) Tryz.underlying103 (Tryz.zeroValue97 w)
 have hegl := lt_of_heap eb
 clear hE eb hin he hG hR hH hI hT hlog hln k0 k1 k2 k4 k5
 go_enter Tryz.func17, Tryz.ntmps17
 go_wp2_with fail
 go_ret2
 exact ⟨rfl, Below.refl _ _⟩
set_option maxRecDepth 100000 in
set_option maxHeartbeats 2000000 in
theorem all_eng {w : World} {B eg : Nat} {kl : List Ax.KRule} {gv : Nat → Bool} {n : Nat} (hE : Eng w B eg kl gv n) (hg : GvOk gv) {p : ByteArray} {pl : Nat} (hp : (p, pl) ∈ gPr) :
 Calls Tryz.prog 17 #[.pointer (some ⟨eg, 0, none⟩), .string p] w fun e w' => ∃ lb F js, e = .returned (.tuple #[.slice (some ⟨lb, 0, none⟩) (List.length F) (List.length F), .int .i64 0]) ∧ FactsIn w' (some ⟨lb, 0, none⟩) F.length F ∧ F.map (fun f => (f.pred, f.args)) = js.map dat ∧ Lst (En.leastN (En.nRules kl) gv) p js ∧ Below w.heap.size w w' := by
 obtain ⟨pl', rd, rc, l, gm, G, hm, T, s, hd, lv, ln, lx, eb, hin, he, hG, hR, hH, hI, hT, hd32, hlog, hln⟩ := hE.at_
 obtain ⟨k0, k1, k2, k3, k4, k5⟩ := eg_cells eb hd32
 obtain ⟨u, hu, hu2⟩ := List.mem_map.1 ((hT _).2 hp)
 simp only [prHT, Prod.mk.injEq] at hu2
 have hps : p.size ≤ 1000000 := Nat.le_trans (gPr_short _ hp) (by decide)
 have hpl : 1 ≤ pl ∧ pl ≤ 3 := by
  have : ∀ q, q ∈ gPr → 1 ≤ q.2 ∧ q.2 ≤ 3 := by unfold gPr; decide
  exact this _ hp
 have hlk := hH.map.lookOk (by rw [← hu2.1]; exact look_key hH.names hu) hps Tryz.underlying103 (Tryz.zeroValue97 w)
 have hfs := found_short hI
 have hlU := hH.few u hu
 have hok := En.nRules_ok kl
 have hTab := (hH.tabs u hu).tab
 have hrows : ∀ r, r ∈ u.L ↔ (p, r) ∈ s.found := fun r => by rw [hH.rows u hu, hu2.1]
 obtain ⟨js, e1, e2, e3⟩ := lst_of (H := En.leastN (En.nRules kl) gv) hp u.L (fun r hr => by
  have h1 := (hrows r).1 hr
  obtain ⟨j, hj, e⟩ := En.can_uF (En.found_can hok hI _ h1)
  rw [e] at h1
  exact ⟨j, hj, (En.found_iff hok hg hI hj).1 h1, e⟩)
 have hLst : Lst (En.leastN (En.nRules kl) gv) p js := by
  refine ⟨fun j => ⟨e3 j, ?_⟩, ?_⟩
  · rintro ⟨hj, hH9, hd9⟩
    have h1 := (En.found_iff hok hg hI hj).2 hH9
    rw [uF_dat, hd9] at h1
    have h2 := (hrows _).2 h1
    rw [e1] at h2
    obtain ⟨i, hi, e⟩ := List.mem_map.1 h2
    obtain ⟨hi36, _, hid⟩ := e3 i hi
    have : i = j := En.uF_inj hi36 hj (by rw [uF_dat, uF_dat, hid, hd9, e])
    rw [← this]
    exact hi
  · have h1 : Tb.Ord u.L := hTab.ord
    rw [e1] at h1
    exact List.pairwise_map.1 h1
 have HFA : Hid (Calls Tryz.prog 40 #[.pointer (some ⟨u.g, 0, none⟩)] w fun e w' => ∃ lb F, e = .returned (.slice (some ⟨lb, 0, none⟩) (List.length F) (List.length F)) ∧ Hid (FactsIn w' (some ⟨lb, 0, none⟩) F.length F ∧ F.map (fun f => (f.pred, f.args)) = js.map dat ∧ Below w.heap.size w w')) := by
  refine (facts_any w u.g _ u.nm u.pl u.rd u.rc u.L _ hTab (by omega) (by rw [hu2.2]; exact hpl.1) (by rw [hu2.2]; exact hpl.2)).mono ?_
  rintro e w' ⟨lb, F, rfl, q1, q2, q3, q4⟩
  rw [hu2.1, hu2.2, e2] at q3
  rw [← q2] at q1 ⊢
  exact ⟨lb, F, rfl, q1, q3, q4⟩
 have hegl := lt_of_heap eb
 have hugl := lt_of_heap hTab.blk
 have HLS : Hid (Lst (En.leastN (En.nRules kl) gv) p js) := hLst
 generalize u.g = ug at *
 clear hE eb hin he hG hR hH hI hT hlog hln k0 k1 k2 k4 k5 hTab hrows e1 e2 e3 hLst hu2 hlU hfs
 go_enter Tryz.func17, Tryz.ntmps17
 go_wp2_with (go_at_call 40; refine HFA.out.mono ?_; rintro e w1 ⟨lb, F, rfl, HF⟩)
 go_ret2
 exact ⟨lb, F, js, rfl, HF.out.1, HF.out.2.1, HLS.out, HF.out.2.2⟩
end Go.Proofs.YtdmicblafmhflaaGreatDoor
/- axiomkeep.ahead. -/
namespace Go.Proofs.YtdmicblafmhflaaGreatDoor
open Go.RowKit
def aheadB : List ByteArray → List ByteArray → Bool
 | x :: a, y :: b => if x = y then aheadB a b else Tb.slt x y
 | _, _ => false
theorem aheadB_at : ∀ {a b : List ByteArray} {k : Nat} (ha : k < a.length) (hb : k < b.length), a.take k = b.take k → a[k] ≠ b[k] → aheadB a b = Tb.slt a[k] b[k]
 | x :: a, y :: b, 0, _, _, _, hn => by
  have hn' : x ≠ y := hn
  unfold aheadB
  rw [if_neg hn']
  rfl
 | x :: a, y :: b, k + 1, ha, hb, ht, hn => by
  simp only [List.take_succ_cons, List.cons.injEq] at ht
  unfold aheadB
  rw [if_pos ht.1]
  exact aheadB_at (a := a) (b := b) (k := k) (by simpa using ha) (by simpa using hb) ht.2 hn
theorem aheadB_no : ∀ {a b : List ByteArray} {k : Nat}, a.take k = b.take k → (a.length ≤ k ∨ b.length ≤ k) → aheadB a b = false
 | [], _, _, _, _ => by simp [aheadB]
 | _ :: _, [], _, _, _ => by simp [aheadB]
 | x :: a, y :: b, 0, _, h => by simp at h
 | x :: a, y :: b, k + 1, ht, h => by
  simp only [List.take_succ_cons, List.cons.injEq] at ht
  unfold aheadB
  rw [if_pos ht.1]
  exact aheadB_no (a := a) (b := b) (k := k) ht.2 (by simpa using h)
theorem take_next {a b : List ByteArray} {k : Nat} (ha : k < a.length) (hb : k < b.length) (h : a.take k = b.take k) (e : a[k] = b[k]) : a.take (k + 1) = b.take (k + 1) := by
 rw [List.take_add_one, List.take_add_one, List.getElem?_eq_getElem ha, List.getElem?_eq_getElem hb, h, e]
theorem ahead_rows {x y : List ByteArray} (h : Tb.rcmp (x ++ List.replicate (3 - x.length) ⟨#[]⟩) (y ++ List.replicate (3 - y.length) ⟨#[]⟩) < 0) (hl : x.length = y.length) : aheadB x y = true := by
 have key : ∀ (x y t : List ByteArray), x.length = y.length → Tb.rcmp (x ++ t) (y ++ t) < 0 → aheadB x y = true := by
  intro x
  induction x with
  | nil =>
   intro y t hl h
   have : y = [] := List.eq_nil_of_length_eq_zero hl.symm
   subst this
   rw [List.nil_append, Tb.rcmp_irr] at h
   omega
  | cons a x ih =>
   intro y t hl h
   match y, hl with
   | b :: y, hl =>
    simp only [List.cons_append] at h
    unfold Tb.rcmp at h
    unfold aheadB
    by_cases e : a = b
    · rw [if_pos e]
      rw [if_neg (by simp [Tb.scmp_zero.2 e])] at h
      exact ih y t (by simpa using hl) h
    · rw [if_neg e]
      rw [if_pos (fun h0 => e (Tb.scmp_zero.1 h0))] at h
      exact Tb.scmp_neg.1 h
 rw [hl] at h
 exact key x y _ hl h
set_option maxRecDepth 100000 in
set_option maxHeartbeats 2000000 in
theorem ahead_any (w : World) (av bv : Value) (a b : List ByteArray) (ha : w.ownsRow 0 9 1 av a.length (strCells a)) (hb : w.ownsRow 0 9 1 bv b.length (strCells b)) :
 Calls Tryz.prog 20 #[av, bv] w fun e w' => e = .returned (.bool (aheadB a b)) ∧ Below w.heap.size w w' := by
 obtain ⟨ad, ac, rfl⟩ := ownsRow_shape ha
 obtain ⟨bd, bc, rfl⟩ := ownsRow_shape hb
 have HA : Hid (w.ownsRow 0 9 1 (.slice ad a.length ac) a.length (strCells a)) := ha
 have HB : Hid (w.ownsRow 0 9 1 (.slice bd b.length bc) b.length (strCells b)) := hb
 have hla := ownsRow_le ha
 have hlb := ownsRow_le hb
 generalize hR : aheadB a b = R
 have HRR : Hid (aheadB a b = R) := hR
 clear ha hb hR
 go_enter Tryz.func20, Tryz.ntmps20
 go_wp2_with fail
 go_loopw [5] (fun i wr => ∃ k : Nat, k ≤ a.length ∧ k ≤ b.length ∧ i = .int .i64 k ∧ a.take k = b.take k ∧ Below w.heap.size w wr) (fun i _ => a.length - (intOf i).toNat)
 case atStart => exact ⟨0, Nat.zero_le _, Nat.zero_le _, rfl, rfl, Below.refl _ _⟩
 case round =>
  obtain ⟨k, hka, hkb, rfl, ht, hbel⟩ := hrel
  have HT : Hid (a.take k = b.take k) := ht
  have HBE : Hid (Below w.heap.size w wr) := hbel
  by_cases h1 : k < a.length
  · have hd1 : decide ((k : Int) < (a.length : Int)) = true := decide_eq_true (by omega)
    by_cases h2 : k < b.length
    · have hd2 : decide ((k : Int) < (b.length : Int)) = true := decide_eq_true (by omega)
      obtain ⟨ga, rfl, hga, hca, hcsa⟩ := row_cells (ownsRow_below HA.out hbel) (by omega)
      obtain ⟨gb, rfl, hgb, hcb, hcsb⟩ := row_cells (ownsRow_below HB.out hbel) (by omega)
      have c1 := hcsa _ _ (strCells_get a k h1)
      have c2 := hcsb _ _ (strCells_get b k h2)
      have i1 : (0 : Int) ≤ (k : Int) := by omega
      have i2 : (k : Int) < (a.length : Int) := by omega
      have i3 : (k : Int) < (b.length : Int) := by omega
      by_cases he : a[k] = b[k]
      · have HN : Hid (a.take (k + 1) = b.take (k + 1)) := take_next h1 h2 ht he
        have hq : (a[k].toList == b[k].toList) = true := by rw [he]; simp
        rw [he] at c1
        clear hcsa hcsb ht hbel hq he
        generalize b[k] = x at *
        go_upto_region 4 with fail
        go_quiet (fail)
        have HB9 : Hid (Below w.heap.size w (wr.drewN nq)) := HBE.out.trans ⟨rfl, rfl, rfl, Nat.le_refl _, fun _ _ => rfl⟩
        go_wp2_with fail
        all_goals
         (go_roundw
          case rel => exact ⟨k + 1, h1, h2, by go_num, HN.out, HB9.out⟩
          case measure => (simp [intOf]; omega))
      · have HN : Hid (R = Tb.slt a[k] b[k]) := by
         have e : R = Tb.slt a[k] b[k] := by rw [← HRR.out]; exact aheadB_at h1 h2 ht he
         exact e
        have hq : (a[k].toList == b[k].toList) = false := by
         rw [beq_eq_false_iff_ne]
         exact fun e => he (Tb.toList_inj e)
        clear hcsa hcsb ht hbel
        generalize a[k] = x at *
        generalize b[k] = y at *
        go_upto_region 4 with fail
        go_quiet (fail)
        have HB9 : Hid (∀ q1 q2, Below w.heap.size w ((wr.drewN q1).drewN q2)) := fun q1 q2 => HBE.out.trans ⟨rfl, rfl, rfl, Nat.le_refl _, fun _ _ => rfl⟩
        go_upto_region 5 with fail
        go_quiet (fail)
        go_wp2_with fail
        all_goals
         (go_ret
          exact ⟨by rw [HN.out]; rfl, HB9.out _ _⟩)
    · have hd2 : decide ((k : Int) < (b.length : Int)) = false := decide_eq_false (by omega)
      have HN : Hid (R = false) := by
       have e : R = false := by rw [← HRR.out]; exact aheadB_no ht (.inr (by omega))
       exact e
      clear ht hbel
      go_wp2_with fail
      go_ret
      exact ⟨by rw [HN.out]; rfl, HBE.out⟩
  · have hd1 : decide ((k : Int) < (a.length : Int)) = false := decide_eq_false (by omega)
    have HN : Hid (R = false) := by
     have e : R = false := by rw [← HRR.out]; exact aheadB_no ht (.inl (by omega))
     exact e
    clear ht hbel
    go_wp2_with fail
    go_ret
    exact ⟨by rw [HN.out]; rfl, HBE.out⟩
end Go.Proofs.YtdmicblafmhflaaGreatDoor
/- Listed: how many facts hold. No program here. -/
namespace Go.Proofs.YtdmicblafmhflaaGreatDoor
open Go.RowKit
def tal (H : Nat → Bool) (k : Nat) : Nat := ((List.range k).filter fun i => H i).length
theorem tal_succ (H : Nat → Bool) (k : Nat) : tal H (k + 1) = tal H k + if H k = true then 1 else 0 := by
 unfold tal
 rw [List.range_succ, List.filter_append, List.length_append]
 congr 1
 cases h : H k <;> simp [h]
theorem tal_le (H : Nat → Bool) (k : Nat) : tal H k ≤ k := by
 unfold tal
 exact Nat.le_trans (List.length_filter_le _ _) (by simp)
def sumP (H : Nat → Bool) : Nat → Nat
 | 0 => 0
 | p + 1 => sumP H p + (holdP H (Ax.gpred p)).length
theorem dat_pred {i : Nat} (hi : i < 36) : (dat i).1 = Ax.gpred (if i < 4 then 0 else if i < 20 then 1 else 2) := by
 unfold dat
 by_cases h1 : i < 4
 · rw [if_pos h1, if_pos h1]; rfl
 · rw [if_neg h1, if_neg h1]
   by_cases h2 : i < 20
   · rw [if_pos h2, if_pos h2]; rfl
   · rw [if_neg h2, if_neg h2]; rfl
theorem filter_split {α : Type} (l : List α) (f g h : α → Bool) (e : ∀ x, x ∈ l → (f x = (g x || h x)) ∧ (g x && h x) = false) : (l.filter f).length = (l.filter g).length + (l.filter h).length := by
 induction l with
 | nil => rfl
 | cons x l ih =>
  have hx := e x (by simp)
  have ih2 := ih (fun y hy => e y (by simp [hy]))
  rw [List.filter_cons, List.filter_cons, List.filter_cons, hx.1]
  cases hg : g x <;> cases hh : h x <;> simp [hg, hh] at hx ⊢ <;> omega
theorem sumP_3 (H : Nat → Bool) : sumP H 3 = tal H 36 := by
 have h01 : Ax.gpred 0 ≠ Ax.gpred 1 := by decide
 have h02 : Ax.gpred 0 ≠ Ax.gpred 2 := by decide
 have h12 : Ax.gpred 1 ≠ Ax.gpred 2 := by decide
 have e1 := filter_split (List.range 36) (fun i => H i) (fun i => H i && decide ((dat i).1 = Ax.gpred 0)) (fun i => H i && decide ((dat i).1 ≠ Ax.gpred 0)) (fun i _ => by
  cases H i <;> by_cases h : (dat i).1 = Ax.gpred 0 <;> simp [h])
 have e2 := filter_split (List.range 36) (fun i => H i && decide ((dat i).1 ≠ Ax.gpred 0)) (fun i => H i && decide ((dat i).1 = Ax.gpred 1)) (fun i => H i && decide ((dat i).1 = Ax.gpred 2)) (fun i hi => by
  have hd := dat_pred (i := i) (by simpa using hi)
  rw [hd]
  by_cases a1 : i < 4
  · simp [a1, h01, h02]
  · by_cases a2 : i < 20
    · simp [a1, a2, h01.symm, h12]
    · simp [a1, a2, h02.symm, h12.symm])
 unfold tal
 show 0 + (holdP H (Ax.gpred 0)).length + (holdP H (Ax.gpred 1)).length + (holdP H (Ax.gpred 2)).length = _
 unfold holdP
 omega
theorem holdP_le (H : Nat → Bool) (p : ByteArray) : (holdP H p).length ≤ 36 := by
 unfold holdP
 exact Nat.le_trans (List.length_filter_le _ _) (by simp)
theorem sumP_le (H : Nat → Bool) {p : Nat} (hp : p ≤ 3) : sumP H p ≤ 108 := by
 have h0 := holdP_le H (Ax.gpred 0)
 have h1 := holdP_le H (Ax.gpred 1)
 have h2 := holdP_le H (Ax.gpred 2)
 have : p = 0 ∨ p = 1 ∨ p = 2 ∨ p = 3 := by omega
 rcases this with rfl | rfl | rfl | rfl
 · exact Nat.zero_le _
 · show 0 + (holdP H (Ax.gpred 0)).length ≤ 108
   omega
 · show 0 + (holdP H (Ax.gpred 0)).length + (holdP H (Ax.gpred 1)).length ≤ 108
   omega
 · show 0 + (holdP H (Ax.gpred 0)).length + (holdP H (Ax.gpred 1)).length + (holdP H (Ax.gpred 2)).length ≤ 108
   omega
theorem gpred_pr {p : Nat} (h : p < 3) : (Ax.gpred p, (if p = 0 then 1 else 2)) ∈ gPr := by
 have : p = 0 ∨ p = 1 ∨ p = 2 := by omega
 rcases this with rfl | rfl | rfl <;> simp [gPr]
theorem Lst.ahead {H : Nat → Bool} {p : ByteArray} {js : List Nat} (h : Lst H p js) {k : Nat} (hk : k + 1 < js.length) : aheadB (dat js[k]).2 (dat js[k + 1]).2 = true := by
 have h1 := List.pairwise_iff_getElem.1 h.ord k (k + 1) (by omega) hk (by omega)
 have m1 := (h.mem js[k]).1 (List.getElem_mem _)
 have m2 := (h.mem js[k + 1]).1 (List.getElem_mem _)
 have hl : (dat js[k]).2.length = (dat js[k + 1]).2.length := gPr_pl (p := p) (by rw [← m1.2.2]; exact dat_pr m1.1) (by rw [← m2.2.2]; exact dat_pr m2.1)
 refine ahead_rows ?_ hl
 have key : ∀ i, i < 36 → (dat i).2 ++ List.replicate (3 - (dat i).2.length) ⟨#[]⟩ = Tb.row3 (dat i).2 := by
  intro i hi
  have hu : En.uF i = ((dat i).1, Tb.row3 (dat i).2) := uF_dat i
  have key2 : ∀ p x y, (fdat p x y).2 ++ List.replicate (3 - (fdat p x y).2.length) (⟨#[]⟩ : ByteArray) = Tb.row3 (fdat p x y).2 := by
   intro p x y
   unfold fdat
   split <;> rfl
  unfold dat
  split
  · exact key2 _ _ _
  · split <;> exact key2 _ _ _
 rw [key _ m1.1, key _ m2.1]
 exact h1
end Go.Proofs.YtdmicblafmhflaaGreatDoor
