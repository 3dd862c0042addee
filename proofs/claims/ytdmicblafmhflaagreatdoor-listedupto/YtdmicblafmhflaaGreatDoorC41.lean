/- What an engine answers of the 36 facts. -/
import Derived.Test.YtdmicblafmhflaaGreatDoorC40
import Derived.Test.YtdmicblafmhflaaGreatDoorC13
import Derived.Test.YtdmicblafmhflaaGreatDoorC12
import Derived.Deep.CutRange
import Derived.Test.YtdmicblafmhflaaGreatDoorC14

namespace Go.Proofs.YtdmicblafmhflaaGreatDoor
set_option linter.unusedSimpArgs false
set_option linter.unusedVariables false
open Go.RowKit Go.Maps
/-- by how many instances a fact is said -/
def cnN (kl : List Ax.KRule) (gv : Nat → Bool) (i : Nat) : Nat := (if i < 4 ∧ (En.leastN (En.nRules kl) gv i && En.leastN (En.nRules kl) gv (4 + 5 * i)) = true then 1 else 0) + ((if i < 4 ∧ (En.leastN (En.nRules kl) gv i && En.leastN (En.nRules kl) gv (20 + 5 * i)) = true then 1 else 0) + ((En.nRules kl).map fun r => En.countN (En.instN r (En.leastN (En.nRules kl) gv)) i).sum)
/-- nothing beyond the 36 is given -/
def GvOk (gv : Nat → Bool) : Prop := ∀ i, 36 ≤ i → gv i = false
theorem GvOk.set {gv : Nat → Bool} (h : GvOk gv) {i : Nat} (hi : i < 36) (b : Bool) : GvOk (setG gv i b) := fun j hj => by
  unfold setG
  rw [if_neg (by omega)]
  exact h j hj
theorem GvOk.setAll {b : Bool} : ∀ (is : List Nat) {gv : Nat → Bool}, GvOk gv → (∀ i, i ∈ is → i < 36) → GvOk (setAllG gv is b)
  | [], _, h, _ => h
  | i :: is, _, h, hi => GvOk.setAll is (h.set (hi i (by simp)) b) (fun j hj => hi j (by simp [hj]))
theorem found_short {kl : List Ax.KRule} {gv : Nat → Bool} {s : En.Sea En.Fct} (hI : En.Inv (En.sR (En.nRules kl)) (En.gF gv) s s.found.length) : s.found.length ≤ 36 := by
  have h1 := En.found_can (En.nRules_ok kl) hI
  have h2 : s.found ⊆ (List.range 36).map En.uF := by
    intro f hf
    obtain ⟨i, hi, e⟩ := En.can_uF (h1 f hf)
    exact List.mem_map.2 ⟨i, by simpa using hi, e.symm⟩
  have := List.Nodup.length_le_of_subset hI.nodup h2
  simpa using this
theorem cntOf_map {L : List (List ByteArray)} (ho : Tb.Ord L) (f : List ByteArray → Nat) (r : List ByteArray) : Tb.cntOf L (L.map f) r = if Tb.inB L r = true then f r else 0 := by
  unfold Tb.cntOf
  by_cases h : Tb.inB L r = true
  · rw [if_pos h, if_pos h]
    have := (Tb.pos_found ho r).2 (Tb.inB_iff.1 h)
    simp [List.getD, this]
  · rw [if_neg h, if_neg h]
theorem ask_eng {w : World} {B eg : Nat} {kl : List Ax.KRule} {gv : Nat → Bool} {n : Nat} (hE : Eng w B eg kl gv n) (hg : GvOk gv) (hU : UTabs w) {i : Nat} (hi : i < 36) {av : Value} (hav : w.ownsRow 0 9 1 av (dat i).2.length (strCells (dat i).2)) :
    Calls Tryz.prog 21 #[.pointer (some ⟨eg, 0, none⟩), .agg #[.string (dat i).1, av]] w fun e w' => e = .returned (.tuple #[.agg #[.bool (gv i), .bool (En.leastN (En.nRules kl) gv i), .int .i64 (cnN kl gv i : Nat)], .int .i64 0]) ∧ Below w.heap.size w w' := by
  obtain ⟨pl, rd, rc, l, gm, G, hm, T, s, hd, lv, ln, lx, eb, hin, he, hG, hR, hH, hI, hT, hd32, hlog, hln⟩ := hE.at_
  obtain ⟨k0, k1, k2, k3, k4, k5⟩ := eg_cells eb hd32
  have hpr := dat_pr hi
  obtain ⟨t, ht, hnm, hpl⟩ := hR.has hpr
  obtain ⟨u, hu, hu2⟩ := List.mem_map.1 ((hT _).2 hpr)
  simp only [prHT, Prod.mk.injEq] at hu2
  have hps : (dat i).1.size ≤ 1000000 := Nat.le_trans (gPr_short _ hpr) (by decide)
  have hlL : t.L.length ≤ 36 := Nat.le_trans (gsum_mem ht) (hR.sum hG.names (fun t ht => TabAt.ord (hG.tabs t ht)))
  have hfs := found_short hI
  have hlU := hH.few u hu
  have h3 : (dat i).2.length ≤ 3 := by have := dat_len i; omega
  have hok := En.nRules_ok kl
  refine (ask_any w eg gm hm G T s t u (dat i).1 (dat i).2 av k2 k3 hG hH ht hu hnm hu2.1 hps (by omega) (by omega) hav hu2.2.symm h3 (fun a ha => (dat_names i a ha).1) (fun a ha => Nat.le_trans (dat_names i a ha).2 (by decide)) hU).mono ?_
  rintro e w' ⟨rfl, hb⟩
  have huf : (u.nm, Tb.row3 (dat i).2) = En.uF i := by rw [uF_dat, hu2.1]
  have htf : (t.nm, Tb.row3 (dat i).2) = En.uF i := by rw [uF_dat, hnm]
  have e1 : Tb.inB t.L (Tb.row3 (dat i).2) = gv i := by
    rw [Bool.eq_iff_iff, Tb.inB_iff, hR.rows t ht]
    constructor
    · rintro ⟨j, hj, hgj, e⟩
      rw [htf] at e
      rw [← En.uF_inj hj hi e]
      exact hgj
    · intro h
      exact ⟨i, hi, h, htf.symm⟩
  have e2 : Tb.inB u.L (Tb.row3 (dat i).2) = En.leastN (En.nRules kl) gv i := by
    rw [Bool.eq_iff_iff, Tb.inB_iff, hH.rows u hu, huf]
    exact En.found_iff hok hg hI hi
  have e3 : Tb.cntOf u.L u.C (Tb.row3 (dat i).2) = cnN kl gv i := by
    have hord : Tb.Ord u.L := (hH.tabs u hu).tab.ord
    have hc : s.count (En.uF i) = cnN kl gv i := En.found_count' hok hg hI hi
    rw [hH.cnts u hu, cntOf_map hord]
    by_cases h : Tb.inB u.L (Tb.row3 (dat i).2) = true
    · rw [if_pos h, huf]
      exact hc
    · rw [if_neg h, ← hc]
      rw [Tb.inB_iff, hH.rows u hu, huf] at h
      exact (hH.zero _ h).symm
  rw [e1, e2, e3]
  exact ⟨rfl, hb⟩
/-- a shop's cells -/
def shCells (eg : Nat) (rv : Value) (gv : Nat → Bool) : Array Value := ([Value.pointer (some ⟨eg, 0, none⟩), rv] ++ bCells gv).toArray
def ShopIs (w : World) (sb eg : Nat) (rv : Value) (gv : Nat → Bool) : Prop := w.heap[sb]? = some (.cells (shCells eg rv gv) 43 (0, 0))
theorem ShopIs.below {w w' : World} {sb eg : Nat} {rv : Value} {gv : Nat → Bool} (h : ShopIs w sb eg rv gv) (hb : Below w.heap.size w w') : ShopIs w' sb eg rv gv := by
  unfold ShopIs
  rw [hb.block _ (lt_of_heap h)]
  exact h
theorem ShopIs.ekb {w w' : World} {sb eg : Nat} {rv : Value} {gv : Nat → Bool} (h : ShopIs w sb eg rv gv) (hb : EKb w w') : ShopIs w' sb eg rv gv := hb.heap h (offE_cells (by decide) (by decide))
theorem ShopIs.cells {w : World} {sb eg : Nat} {rv : Value} {gv : Nat → Bool} (h : ShopIs w sb eg rv gv) : w.cell? ⟨sb, 0, none⟩ = some (.pointer (some ⟨eg, 0, none⟩)) ∧ w.cell? ⟨sb, 1, none⟩ = some rv ∧ ∀ i, i < 36 → w.cell? ⟨sb, 2 + i, none⟩ = some (.bool (gv i)) := by
  refine ⟨by rw [cell_of_row _ _ _ _ _ _ h]; rfl, by rw [cell_of_row _ _ _ _ _ _ h]; rfl, ?_⟩
  intro i hi
  rw [cell_of_row _ _ _ _ _ _ h]
  unfold shCells
  rw [List.getElem?_toArray, List.getElem?_append_right (by simp)]
  simpa using bCells_at gv hi
theorem Eng.below {w w' : World} {B eg : Nat} {kl : List Ax.KRule} {gv : Nat → Bool} {n : Nat} (h : Eng w B eg kl gv n) (hb : Below w.heap.size w w') : Eng w' B eg kl gv n := by
  obtain ⟨pl, rd, rc, l, gm, G, hm, T, s, hd, lv, ln, lx, eb, hin, he, hG, hR, hH, hI, hT, hd32, hlog, hln⟩ := h.at_
  exact ⟨⟨pl, rd, rc, l, gm, G, hm, T, s, hd, lv, ln, lx, by rw [hb.block _ (lt_of_heap eb)]; exact eb, hin.below hb, he, hG.below hb, hR, hH.below hb, hI, hT, hd32, ownsRow_below hlog hb, hln⟩, h.ge⟩
end Go.Proofs.YtdmicblafmhflaaGreatDoor

/- axiomkeep: what text calls, as it calls it. -/
namespace Go.Proofs.YtdmicblafmhflaaGreatDoor
set_option linter.unusedSimpArgs false
set_option linter.unusedVariables false
open Go.RowKit
structure RuleAt (w : World) (g o : Nat) (r : Ax.KRule) : Prop where
  head : AtomAt w g o r.head
  body : ∃ bd bn bc, w.cell? ⟨g, o + 3, none⟩ = some (.slice bd bn bc) ∧ BodyAt w bd bn bc r.body
structure RulesAt (w : World) (ad : Option Addr) (n c : Nat) (l : List Ax.KRule) : Prop where
  len : l.length = n
  cap : n ≤ c
  max : c ≤ maxLen
  at_ : ∀ k (h : k < l.length), ∃ g o, ad = some ⟨g, o, none⟩ ∧ RuleAt w g (o + k * 4) l[k]
theorem wloop_size : ∀ (ts : List Nat) (i : Nat) (p : ByteArray), (wloop ts i p).size ≤ p.size + 3 * ts.length
  | [], _, p => by simp [wloop]
  | x :: l, i, p => by
    rw [wloop]
    have h := wloop_size l (i + 1) (wstep i p x)
    have hx := gtx_size x
    have hc : (⟨#[44]⟩ : ByteArray).size = 1 := rfl
    have hs : (wstep i p x).size ≤ p.size + 3 := by
      unfold wstep
      split
      · rw [ByteArray.size_append, ByteArray.size_append]; omega
      · rw [ByteArray.size_append]; omega
    rw [List.length_cons]
    omega
theorem wAtom_size (p : Nat) (ts : List Nat) (h : ts.length ≤ 2) : (wAtom p ts).size ≤ 12 := by
  unfold wAtom
  have h1 := wloop_size ts 0 (Ax.gpred p ++ ⟨#[40]⟩)
  have h2 := gpred_size p
  have h3 : (⟨#[40]⟩ : ByteArray).size = 1 := rfl
  have h4 : (⟨#[41]⟩ : ByteArray).size = 1 := rfl
  rw [ByteArray.size_append] at h1 ⊢
  omega
theorem gterms_seven (a : Ax.KAtom) : ∀ x, x ∈ Ax.gterms a → x < 7 := by
  intro x hx
  have h1 := Ax.gpick_lt a.a 7 (by decide)
  have h2 := Ax.gpick_lt a.b 7 (by decide)
  unfold Ax.gterms at hx
  split at hx
  · simp at hx; omega
  · simp at hx; omega
theorem ghead_two (r : Ax.KRule) : 0 < (Ax.ghead r).length ∧ (Ax.ghead r).length ≤ 2 := by
  unfold Ax.ghead
  rw [List.length_map]
  exact gterms_two r.head
theorem ghead_seven (r : Ax.KRule) : ∀ x, x ∈ Ax.ghead r → x < 7 := by
  intro x hx
  unfold Ax.ghead at hx
  obtain ⟨y, hy, rfl⟩ := List.mem_map.1 hx
  have := gterms_seven r.head y hy
  split <;> omega
/-- a row of small numbers that the call has made -/
def Row7 (B : Nat) (w : World) (d : Option Addr) (c : Nat) (ts : List Nat) : Prop := w.ownsRow B 3 1 (.slice d ts.length c) ts.length (natCells ts)
theorem head_of {w : World} {ad : Option Addr} {n c : Nat} {r : Ax.KRule} (hB : BodyAt w ad n c r.body) (h0 : Fit64 r.head.pred) (h1 : Fit64 r.head.a) (h2 : Fit64 r.head.b) (T : List Nat) (hT : Ax.ghead r = T) : ∀ W, Below w.heap.size w W →
    Calls Tryz.prog 62 #[.agg #[.int .i64 r.head.pred, .int .i64 r.head.a, .int .i64 r.head.b, .slice ad n c]] W fun e w' => ∃ d c', e = .returned (.slice d T.length c') ∧ Row7 w.heap.size w' d c' T ∧ Below w.heap.size w w' := by
  intro W hb
  subst hT
  refine (head_any W r ad n c (hB.below hb) h0 h1 h2).mono ?_
  rintro e w' ⟨d, c', rfl, ho, hb'⟩
  exact ⟨d, c', rfl, ownsRow_base ho hb.size, hb.trans (hb'.mono hb.size)⟩
theorem terms_of {w : World} {a : Ax.KAtom} (h0 : Fit64 a.pred) (h1 : Fit64 a.a) (h2 : Fit64 a.b) (T : List Nat) (hT : Ax.gterms a = T) : ∀ W, Below w.heap.size w W →
    Calls Tryz.prog 64 #[.agg #[.int .i64 a.pred, .int .i64 a.a, .int .i64 a.b]] W fun e w' => ∃ d c', e = .returned (.slice d T.length c') ∧ Row7 w.heap.size w' d c' T ∧ Below w.heap.size w w' := by
  intro W hb
  subst hT
  refine (terms_any' W a h0 h1 h2).mono ?_
  rintro e w' ⟨d, c', rfl, ho, hb'⟩
  exact ⟨d, c', rfl, ownsRow_base ho hb.size, hb.trans (hb'.mono hb.size)⟩
theorem written_of {w : World} {p : Int} (hp : Fit64 p) (T : List Nat) (h2 : T.length ≤ 2) (h7 : ∀ x, x ∈ T → x < 7) (A : ByteArray) (hA : wAtom (Ax.gpick p 3) T = A) : ∀ W d c, Below w.heap.size w W → Row7 w.heap.size W d c T →
    Calls Tryz.prog 61 #[.int .i64 p, .slice d T.length c] W fun e w' => e = .returned (.string A) ∧ Below w.heap.size w w' := by
  intro W d c hb ho
  subst hA
  refine (written_any W p hp _ d c T ho (by omega) h7 _ rfl).mono ?_
  rintro e w' ⟨rfl, hb'⟩
  exact ⟨rfl, hb.trans (hb'.mono hb.size)⟩
theorem body_of {w : World} {ad : Option Addr} {n c : Nat} {l : List Ax.KAtom} (h : BodyAt w ad n c l) (p a b : Int) (m : Nat) (hm : min n 2 = m) : ∀ W, Below w.heap.size w W → Calls Tryz.prog 63 #[.agg #[.int .i64 p, .int .i64 a, .int .i64 b, .slice ad n c]] W fun e w' => e = .returned (.slice ad m c) ∧ Below w.heap.size w w' := by
  intro W hb
  subst hm
  refine (body_val h p a b W).mono ?_
  rintro e w' ⟨rfl, hb'⟩
  exact ⟨rfl, hb.trans (hb'.mono hb.size)⟩
end Go.Proofs.YtdmicblafmhflaaGreatDoor

/- axiomkeep: text, walked. -/
namespace Go.Proofs.YtdmicblafmhflaaGreatDoor
set_option linter.unusedSimpArgs false
set_option linter.unusedVariables false
open Go.RowKit
set_option maxRecDepth 100000 in
set_option maxHeartbeats 8000000 in
theorem text_any (w : World) (ad : Option Addr) (n c : Nat) (l : List Ax.KRule) (h : RulesAt w ad n c l) (R : ByteArray) (HR : Hid (trules (l.take 6) tbase = R)) :
    Calls Tryz.prog 35 #[.slice ad n c] w fun e w' => e = .returned (.string R) ∧ Below w.heap.size w w' ∧ R.size ≤ 338 := by
  have hcm : c ≤ 9223372036854775807 := h.max
  have hnc := h.cap
  have hlen := h.len
  rw [tbase_eq] at HR
  go_enter Tryz.func35, Tryz.ntmps35
  go_wp2_with fail
  go_loopw [3, 4] (fun sv iv wr => ∃ (i : Nat) (q : ByteArray), i ≤ min n 6 ∧ sv = .string q ∧ iv = .int .i64 i ∧ Below w.heap.size w wr ∧ q.size ≤ 38 + 50 * i ∧ trules ((l.take 6).drop i) q = R) (fun _ iv _ => 6 - (intOf iv).toNat)
  case atStart => exact ⟨0, _, Nat.zero_le _, rfl, rfl, Below.refl _ _, by decide, HR.out⟩
  case round =>
    obtain ⟨i, q, hi, rfl, rfl, hbel, hqs, hr⟩ := hrel
    have HRi : Hid (trules ((l.take 6).drop i) q = R) := hr
    clear hr HR
    have hsz := hbel.size
    by_cases hlt : i < min n 6
    · have hn1 : decide ((i : Int) < (n : Int)) = true := by simp; omega
      have hn2 : decide ((i : Int) < 6) = true := by simp; omega
      have hn3 : (i : Int) < (n : Int) := by omega
      have hdrop : (l.take 6).drop i = l[i] :: (l.take 6).drop (i + 1) := by
        rw [List.drop_eq_getElem_cons (by rw [List.length_take]; omega), List.getElem_take]
      rw [hdrop] at HRi
      clear hdrop
      obtain ⟨g, o, had, hra⟩ := h.at_ i (by omega)
      subst had
      generalize l[i] = r at *
      have HN : Hid (trules ((l.take 6).drop (i + 1)) (trule r q) = R) := HRi
      clear HRi
      obtain ⟨⟨e0, e1, e2, f0, f1, f2⟩, bd, bn, bc, e3, hB⟩ := hra
      have HT : Hid (trule r q = tbody (Ax.gbody r) 0 (q ++ wAtom (Ax.gpick r.head.pred 3) (Ax.ghead r)) ++ ⟨#[46]⟩) := rfl
      have hhd := head_of hB f0 f1 f2 _ rfl
      have hwr := written_of (w := w) f0 _ (ghead_two r).2 (ghead_seven r) _ rfl
      have hAs := wAtom_size (Ax.gpick r.head.pred 3) (Ax.ghead r) (ghead_two r).2
      have hB2 := hB.two
      obtain ⟨m, hm⟩ : ∃ m, min bn 2 = m := ⟨_, rfl⟩
      have hm2 : m ≤ 2 := by omega
      have hbd := body_of hB r.head.pred r.head.a r.head.b m hm
      rw [hm] at hB2
      clear hm hB
      generalize trule r q = Q at *
      generalize wAtom (Ax.gpick r.head.pred 3) (Ax.ghead r) = A at *
      generalize Ax.ghead r = T at *
      generalize Ax.gbody r = gb at *
      rcases r with ⟨⟨p, a, b⟩, rb⟩
      simp only at *
      have E0 := cell_below hbel e0
      have E1 := cell_below hbel e1
      have E2 := cell_below hbel e2
      have E3 := cell_below hbel e3
      have hA1 : (q ++ A).size ≤ 50 + 50 * i := by rw [ByteArray.size_append]; omega
      go_upto_region 5 with fail
      go_cut [3] from 7 to 62 (fun sv wx => sv = .string (q ++ A) ∧ Below w.heap.size w wx)
      case first =>
        go_region_with (first | (go_at_call 62; refine (hhd _ (by first | exact hbel | exact hbel.drew)).mono ?_; rintro e w2 ⟨d2, c2, rfl, ho2, hb2⟩; have G0 := cell_below hb2 e0) | (go_at_call 61; refine (hwr _ _ _ hb2 ho2).mono ?_; rintro e w3 ⟨rfl, hb3⟩))
        all_goals (go_wp2_with fail)
        all_goals go_meet
        all_goals exact ⟨rfl, by first | exact hb3 | exact hb3.drew⟩
      case rest =>
        obtain ⟨rfl, hbc⟩ := hcut
        clear E0 E1 E2 E3 hbel hhd hwr hqs hsz
        have K0 := cell_below hbc e0
        have K1 := cell_below hbc e1
        have K2 := cell_below hbc e2
        have K3 := cell_below hbc e3
        go_wp2_with (go_at_call 63; refine (hbd _ hbc).mono ?_; rintro e w4 ⟨rfl, hb4⟩)
        generalize (q ++ A : ByteArray) = q1 at *
        clear K0 K1 K2 K3 hbc hbd
        obtain ⟨Z, hZ⟩ : ∃ Z, tbody gb 0 q1 = Z := ⟨_, rfl⟩
        have HZ : Hid (tbody gb 0 q1 = Z) := hZ
        rw [hZ] at HT
        clear hZ e0 e1 e2 e3
        have hgl := hB2.len
        have hbm : bc ≤ 9223372036854775807 := hB2.max
        have hmc := hB2.cap
        go_loopw [3, 6] (fun sv kv wx => ∃ (k : Nat) (q2 : ByteArray), k ≤ m ∧ sv = .string q2 ∧ kv = .int .i64 k ∧ Below w.heap.size w wx ∧ q2.size ≤ 50 + 50 * i + 15 * k ∧ tbody (gb.drop k) k q2 = Z) (fun _ kv _ => m - (intOf kv).toNat)
        case atStart => exact ⟨0, _, Nat.zero_le _, rfl, rfl, hb4, by omega, HZ.out⟩
        case round =>
          obtain ⟨k, q2, hk, rfl, rfl, hbk, hq2, hz⟩ := hrel
          have HZk : Hid (tbody (gb.drop k) k q2 = Z) := hz
          clear hz HZ hb4
          by_cases hkm : k < m
          · have hdrop : gb.drop k = gb[k] :: gb.drop (k + 1) := List.drop_eq_getElem_cons (by omega)
            rw [hdrop] at HZk
            clear hdrop
            obtain ⟨bg, bo, had, ha⟩ := hB2.at_ k (by omega)
            subst had
            generalize gb[k] = x at *
            obtain ⟨e0, e1, e2, f0, f1, f2⟩ := ha
            have hte := terms_of (w := w) f0 f1 f2 _ rfl
            have hwr := written_of (w := w) f0 _ (gterms_two x).2 (gterms_seven x) (wA x) rfl
            have hAs := wAtom_size (Ax.gpick x.pred 3) (Ax.gterms x) (gterms_two x).2
            have hAs : (wA x).size ≤ 12 := hAs
            have HZx : Hid (tbody (gb.drop (k + 1)) (k + 1) ((if k = 0 then q2 ++ ⟨#[58, 45]⟩ else q2 ++ ⟨#[44]⟩) ++ wA x) = Z) := HZk
            clear HZk
            generalize wA x = A at *
            generalize Ax.gterms x = T at *
            rcases x with ⟨p, a, b⟩
            simp only at *
            have E0 := cell_below hbk e0
            have E1 := cell_below hbk e1
            have E2 := cell_below hbk e2
            have hk3 : (k : Int) < (m : Int) := by omega
            by_cases hk0 : k = 0
            · have hb0 : (((k : Nat) : Int) == 0) = true := by simp; omega
              have HQ : Hid (tbody (gb.drop (k + 1)) (k + 1) (q2 ++ ⟨#[58, 45]⟩ ++ A) = Z) := by
                have := HZx.out
                rw [if_pos hk0] at this
                exact this
              have h1s : (⟨#[58, 45]⟩ : ByteArray).size = 2 := rfl
              have hs1 : (q2 ++ ⟨#[58, 45]⟩ : ByteArray).size ≤ 52 + 50 * i + 15 * k := by rw [ByteArray.size_append]; omega
              have hs2 : (q2 ++ ⟨#[58, 45]⟩ ++ A : ByteArray).size ≤ 50 + 50 * i + 15 * (k + 1) := by rw [ByteArray.size_append, ByteArray.size_append]; omega
              clear HZx hk0
              go_wp2_with fail
              go_region_with (first | (go_at_call 64; refine (hte _ (by first | exact hbk | exact hbk.drew)).mono ?_; rintro e w2 ⟨d2, c2, rfl, ho2, hb2⟩; have G0 := cell_below hb2 e0) | (go_at_call 61; refine (hwr _ _ _ hb2 ho2).mono ?_; rintro e w3 ⟨rfl, hb3⟩))
              all_goals (go_wp2_with fail)
              all_goals (go_roundw; (case rel => exact ⟨k + 1, _, by omega, rfl, by go_num, (by first | exact hb3 | exact hb3.drew), by omega, HQ.out⟩); (case measure => simp [intOf]; omega))
            · have hb0 : (((k : Nat) : Int) == 0) = false := by simp; omega
              have HQ : Hid (tbody (gb.drop (k + 1)) (k + 1) (q2 ++ ⟨#[44]⟩ ++ A) = Z) := by
                have := HZx.out
                rw [if_neg hk0] at this
                exact this
              have h1s : (⟨#[44]⟩ : ByteArray).size = 1 := rfl
              have hs1 : (q2 ++ ⟨#[44]⟩ : ByteArray).size ≤ 52 + 50 * i + 15 * k := by rw [ByteArray.size_append]; omega
              have hs2 : (q2 ++ ⟨#[44]⟩ ++ A : ByteArray).size ≤ 50 + 50 * i + 15 * (k + 1) := by rw [ByteArray.size_append, ByteArray.size_append]; omega
              clear HZx hk0
              go_wp2_with fail
              go_region_with (first | (go_at_call 64; refine (hte _ (by first | exact hbk | exact hbk.drew)).mono ?_; rintro e w2 ⟨d2, c2, rfl, ho2, hb2⟩; have G0 := cell_below hb2 e0) | (go_at_call 61; refine (hwr _ _ _ hb2 ho2).mono ?_; rintro e w3 ⟨rfl, hb3⟩))
              all_goals (go_wp2_with fail)
              all_goals (go_roundw; (case rel => exact ⟨k + 1, _, by omega, rfl, by go_num, (by first | exact hb3 | exact hb3.drew), by omega, HQ.out⟩); (case measure => simp [intOf]; omega))
          · have hqZ : q2 = Z := by
              have := HZk.out
              rw [List.drop_eq_nil_of_le (by omega)] at this
              exact this
            subst hqZ
            clear HZk
            have h1s : (⟨#[46]⟩ : ByteArray).size = 1 := rfl
            have hqs3 : (q2 ++ ⟨#[46]⟩ : ByteArray).size ≤ 88 + 50 * i := by rw [ByteArray.size_append]; omega
            go_wp2_with fail
            go_roundw
            case rel => exact ⟨i + 1, _, by omega, rfl, by go_num, hbk, by omega, by rw [← HT.out]; exact HN.out⟩
            case measure => simp [intOf]; omega
    · by_cases hin : i < n
      · have hn1 : decide ((i : Int) < (n : Int)) = true := by simp; omega
        have hn2 : decide ((i : Int) < 6) = false := by simp; omega
        have hqR : q = R := by
          have := HRi.out
          rw [List.drop_eq_nil_of_le (by simp; omega)] at this
          exact this
        subst hqR
        clear HRi
        go_wp2_with fail
        go_ret
        exact ⟨rfl, hbel, by omega⟩
      · have hn1 : decide ((i : Int) < (n : Int)) = false := by simp; omega
        have hqR : q = R := by
          have := HRi.out
          rw [List.drop_eq_nil_of_le (by simp; omega)] at this
          exact this
        subst hqR
        clear HRi
        go_wp2_with fail
        go_ret
        exact ⟨rfl, hbel, by omega⟩
end Go.Proofs.YtdmicblafmhflaaGreatDoor

/- axiomkeep.Shop.least: what its loops work out. -/
namespace Go.Proofs.YtdmicblafmhflaaGreatDoor
set_option linter.unusedSimpArgs false
set_option linter.unusedVariables false
open Go.RowKit
theorem rounds_succ (R : List En.NRule) : ∀ (n : Nat) (H : Nat → Bool), En.rounds R (n + 1) H = En.oneRound R (En.rounds R n H)
  | 0, _ => rfl
  | n + 1, H => by
    show En.rounds R (n + 1) (En.oneRound R H) = _
    rw [rounds_succ R n]
    rfl
/-- a round, so far -/
def partR (R : List En.NRule) (i : Nat) (H : Nat → Bool) : Nat → Bool := (R.take i).foldl (fun H r => En.setAll H (En.instN r H)) H
theorem partR_all (R : List En.NRule) (H : Nat → Bool) : partR R R.length H = En.oneRound R H := by unfold partR En.oneRound; rw [List.take_length]
theorem partR_succ {R : List En.NRule} {i : Nat} (hi : i < R.length) (H : Nat → Bool) : partR R (i + 1) H = En.setAll (partR R i H) (En.instN R[i] (partR R i H)) := by
  unfold partR
  rw [List.take_add_one, List.getElem?_eq_getElem hi, List.foldl_append]
  rfl
theorem setAll_nil (H : Nat → Bool) : En.setAll H [] = H := by
  funext i
  simp [En.setAll]
theorem bCells_ext {H K : Nat → Bool} (h : ∀ i, i < 36 → H i = K i) : bCells H = bCells K := by
  unfold bCells
  refine List.map_congr_left ?_
  intro i hi
  rw [h i (by simpa using hi)]
theorem bCells_len (H : Nat → Bool) : (bCells H).length = 36 := by simp [bCells]
theorem bCells_set (H : Nat → Bool) (x : Nat) (b : Bool) : (bCells H).toArray.setIfInBounds x (.bool b) = (bCells (setG H x b)).toArray := by
  rw [List.setIfInBounds_toArray]
  congr 1
  apply List.ext_getElem?
  intro i
  rw [List.getElem?_set]
  by_cases hi : i < 36
  · by_cases e : x = i
    · subst e
      rw [if_pos rfl, if_pos (by rw [bCells_len]; exact hi), bCells_at _ hi]
      simp [setG]
    · rw [if_neg e, bCells_at _ hi, bCells_at _ hi]
      simp [setG, Ne.symm e]
  · have h1 : (bCells H)[i]? = none := List.getElem?_eq_none (by rw [bCells_len]; omega)
    have h2 : (bCells (setG H x b))[i]? = none := List.getElem?_eq_none (by rw [bCells_len]; omega)
    rw [h1, h2]
    by_cases e : x = i
    · subst e
      rw [if_pos rfl, if_neg (by rw [bCells_len]; omega)]
    · rw [if_neg e]
theorem setAll_snoc (H : Nat → Bool) (l : List Nat) (x : Nat) : En.setAll H (l ++ [x]) = setG (En.setAll H l) x true := by
  funext i
  unfold En.setAll setG
  by_cases e : i = x
  · simp [e]
  · simp [e]
theorem HoldIs.set {w : World} {hb : Nat} {H : Nat → Bool} (h : HoldIs w hb H) (x : Nat) (b : Bool) : HoldIs (w.setCell ⟨hb, x, none⟩ (.bool b)) hb (setG H x b) := by
  unfold HoldIs
  rw [setCell_heap w h x, bCells_set]
theorem HoldIs.ext {w : World} {hb : Nat} {H K : Nat → Bool} (h : HoldIs w hb H) (e : ∀ i, i < 36 → H i = K i) : HoldIs w hb K := by
  unfold HoldIs at h ⊢
  rw [← bCells_ext e]
  exact h
/-- the rules' places in numbers -/
theorem nRules_get {kl : List Ax.KRule} {i : Nat} (h : i < (kl.take 6).length) : ∃ hi : i < (En.nRules kl).length, (En.nRules kl)[i] = En.nOf (kl.take 6)[i] := by
  have hl : (En.nRules kl).length = (kl.take 6).length := by simp [En.nRules]
  exact ⟨by omega, by simp [En.nRules]⟩
theorem nRules_len (kl : List Ax.KRule) : (En.nRules kl).length = (kl.take 6).length := by simp [En.nRules]
theorem RuleAt.below {w w' : World} {g o : Nat} {r : Ax.KRule} (h : RuleAt w g o r) (hb : Below w.heap.size w w') : RuleAt w' g o r := by
  obtain ⟨bd, bn, bc, h1, h2⟩ := h.body
  exact ⟨h.head.below hb, bd, bn, bc, cell_below hb h1, h2.below hb⟩
theorem RulesAt.below {w w' : World} {ad : Option Addr} {n c : Nat} {l : List Ax.KRule} (h : RulesAt w ad n c l) (hb : Below w.heap.size w w') : RulesAt w' ad n c l :=
  ⟨h.len, h.cap, h.max, fun k hk => let ⟨g, o, e, ha⟩ := h.at_ k hk; ⟨g, o, e, ha.below hb⟩⟩
/-- least, while it goes on -/
structure LeW (w wr : World) (hb : Nat) (H : Nat → Bool) : Prop where
  hold : HoldIs wr hb H
  bel : Below w.heap.size w wr
  ge : w.heap.size ≤ hb
theorem LeW.below {w wr w' : World} {hb : Nat} {H : Nat → Bool} (h : LeW w wr hb H) (hbw : Below wr.heap.size wr w') : LeW w w' hb H := ⟨h.hold.below hbw, h.bel.trans (hbw.mono h.bel.size), h.ge⟩
theorem LeW.set {w wr : World} {hb : Nat} {H : Nat → Bool} (h : LeW w wr hb H) (x : Nat) (b : Bool) : LeW w (wr.setCell ⟨hb, x, none⟩ (.bool b)) hb (setG H x b) := ⟨h.hold.set x b, h.bel.setCell (p := ⟨hb, x, none⟩) h.ge _, h.ge⟩
theorem LeW.cell {w wr : World} {hb : Nat} {H : Nat → Bool} (h : LeW w wr hb H) {i : Nat} (hi : i < 36) : wr.cell? ⟨hb, i, none⟩ = some (.bool (H i)) ∧ wr.frozen? ⟨hb, i, none⟩ = false ∧ hb < wr.heap.size := ⟨h.hold.cell hi, by have := h.hold; unfold HoldIs at this; simp [World.frozen?, this], lt_of_heap h.hold⟩
theorem hold_made {w : World} {base g : Nat} (h : w.ownsRow base 4 1 (.slice (some ⟨g, 0, none⟩) 36 36) 36 (madeCells ((Value.bool false).cells) (36 * 1)).toList) : HoldIs w g (fun _ => false) := by
  obtain ⟨_, ⟨h1, _⟩ | ⟨g', cap, cur, h1, _, h3, _, _, h6, h7⟩⟩ := h
  · cases h1
  · simp only [Value.slice.injEq, Option.some.injEq, Addr.mk.injEq, and_true, true_and] at h1
    obtain ⟨rfl, rfl⟩ := h1
    have e : (madeCells ((Value.bool false).cells) (36 * 1)).toList = bCells (fun _ => false) := by kernel_rfl
    rw [e, List.take_of_length_le (by rw [Array.length_toList, h6]; exact Nat.le_refl _)] at h7
    unfold HoldIs
    rw [h3, ← h7]
/-- the given facts, copied so far -/
def upG (gv : Nat → Bool) (k : Nat) : Nat → Bool := fun i => decide (i < k) && gv i
theorem upG_succ (gv : Nat → Bool) (k : Nat) : setG (upG gv k) k (gv k) = upG gv (k + 1) := by
  funext i
  unfold setG upG
  by_cases e : i = k
  · subst e
    simp
  · rw [if_neg e]
    congr 1
    rw [decide_eq_decide]
    omega
end Go.Proofs.YtdmicblafmhflaaGreatDoor
