/- What an engine answers of the 36 facts. -/
import Derived.Test.YtdmicblafmhflaaGreatDoorC38
import Derived.Test.YtdmicblafmhflaaGreatDoorC12
import Derived.Test.YtdmicblafmhflaaGreatDoorC11
import Derived.Deep.CutRange
import Derived.Deep.RegionHeld3
import Derived.Deep.AppendLies
import Derived.Test.YtdmicblafmhflaaGreatDoorC35
set_option linter.unusedSimpArgs false
set_option linter.unusedVariables false
namespace Go.Proofs.YtdmicblafmhflaaGreatDoor
open Go.RowKit Go.Maps
def cnN (kl : List Ax.KRule) (gv : Nat → Bool) (i : Nat) : Nat := (if i < 4 ∧ (En.leastN (En.nRules kl) gv i && En.leastN (En.nRules kl) gv (4 + 5 * i)) = true then 1 else 0) + ((if i < 4 ∧ (En.leastN (En.nRules kl) gv i && En.leastN (En.nRules kl) gv (20 + 5 * i)) = true then 1 else 0) + ((En.nRules kl).map fun r => En.countN (En.instN r (En.leastN (En.nRules kl) gv)) i).sum)
def GvOk (gv : Nat → Bool) : Prop := ∀ i, 36 ≤ i → gv i = false
theorem GvOk.set {gv : Nat → Bool} (h : GvOk gv) {i : Nat} (hi : i < 36) (b : Bool) : GvOk (setG gv i b) := fun j hj => by
 unfold setG
 rw [if_neg (by omega)]
 exact h j hj
theorem GvOk.setAll {b : Bool} : ∀ (is : List Nat) {gv : Nat → Bool}, GvOk gv → (∀ i, i ∈ is → i < 36) → GvOk (setAllG gv is b)
 | [], _, h, _ => h
 | i :: is, _, h, hi => GvOk.setAll is (h.set (hi i (by simp)) b) (fun j hj => hi j (by simp [hj]))
theorem found_short {kl : List Ax.KRule} {gv : Nat → Bool} {s : En.Sea En.Fct} (hI : En.Inv (En.sR (En.nRules kl)) (En.gF gv) s s.found.length) : s.found.length ≤ 36 := by
 have h1 := En.found_can (En.nRules_ok kl) hI
 have h2 : s.found ⊆ (List.range 36).map En.uF := by
  intro f hf
  obtain ⟨i, hi, e⟩ := En.can_uF (h1 f hf)
  exact List.mem_map.2 ⟨i, by simpa using hi, e.symm⟩
 have := List.Nodup.length_le_of_subset hI.nodup h2
 simpa using this
theorem cntOf_map {L : List (List ByteArray)} (ho : Tb.Ord L) (f : List ByteArray → Nat) (r : List ByteArray) : Tb.cntOf L (L.map f) r = if Tb.inB L r = true then f r else 0 := by
 unfold Tb.cntOf
 by_cases h : Tb.inB L r = true
 · rw [if_pos h, if_pos h]
   have := (Tb.pos_found ho r).2 (Tb.inB_iff.1 h)
   simp [List.getD, this]
 · rw [if_neg h, if_neg h]
theorem ask_eng {w : World} {B eg : Nat} {kl : List Ax.KRule} {gv : Nat → Bool} {n : Nat} (hE : Eng w B eg kl gv n) (hg : GvOk gv) (hU : UTabs w) {i : Nat} (hi : i < 36) {av : Value} (hav : w.ownsRow 0 9 1 av (dat i).2.length (strCells (dat i).2)) :
 Calls Tryz.prog 21 #[.pointer (some ⟨eg, 0, none⟩), .agg #[.string (dat i).1, av]] w fun e w' => e = .returned (.tuple #[.agg #[.bool (gv i), .bool (En.leastN (En.nRules kl) gv i), .int .i64 (cnN kl gv i : Nat)], .int .i64 0]) ∧ Below w.heap.size w w' := by
 obtain ⟨pl, rd, rc, l, gm, G, hm, T, s, hd, lv, ln, lx, eb, hin, he, hG, hR, hH, hI, hT, hd32, hlog, hln, hpl9⟩ := hE.at_
 obtain ⟨k0, k1, k2, k3, k4, k5⟩ := eg_cells eb hd32
 have hpr := dat_pr hi
 obtain ⟨t, ht, hnm, hpl⟩ := hR.has hpr
 obtain ⟨u, hu, hu2⟩ := List.mem_map.1 ((hT _).2 hpr)
 simp only [prHT, Prod.mk.injEq] at hu2
 have hps : (dat i).1.size ≤ 1000000 := Nat.le_trans (gPr_short _ hpr) (by decide)
 have hlL : t.L.length ≤ 36 := Nat.le_trans (gsum_mem ht) (hR.sum hG.names (fun t ht => TabAt.ord (hG.tabs t ht)))
 have hfs := found_short hI
 have hlU := hH.few u hu
 have h3 : (dat i).2.length ≤ 3 := by have := dat_len i; omega
 have hok := En.nRules_ok kl
 refine (ask_any w eg gm hm G T s t u (dat i).1 (dat i).2 av k2 k3 hG hH ht hu hnm hu2.1 hps (by omega) (by omega) hav hu2.2.symm h3 (fun a ha => (dat_names i a ha).1) (fun a ha => Nat.le_trans (dat_names i a ha).2 (by decide)) hU).mono ?_
 rintro e w' ⟨rfl, hb⟩
 have huf : (u.nm, Tb.row3 (dat i).2) = En.uF i := by rw [uF_dat, hu2.1]
 have htf : (t.nm, Tb.row3 (dat i).2) = En.uF i := by rw [uF_dat, hnm]
 have e1 : Tb.inB t.L (Tb.row3 (dat i).2) = gv i := by
  rw [Bool.eq_iff_iff, Tb.inB_iff, hR.rows t ht]
  constructor
  · rintro ⟨j, hj, hgj, e⟩
    rw [htf] at e
    rw [← En.uF_inj hj hi e]
    exact hgj
  · intro h
    exact ⟨i, hi, h, htf.symm⟩
 have e2 : Tb.inB u.L (Tb.row3 (dat i).2) = En.leastN (En.nRules kl) gv i := by
  rw [Bool.eq_iff_iff, Tb.inB_iff, hH.rows u hu, huf]
  exact En.found_iff hok hg hI hi
 have e3 : Tb.cntOf u.L u.C (Tb.row3 (dat i).2) = cnN kl gv i := by
  have hord : Tb.Ord u.L := (hH.tabs u hu).tab.ord
  have hc : s.count (En.uF i) = cnN kl gv i := En.found_count' hok hg hI hi
  rw [hH.cnts u hu, cntOf_map hord]
  by_cases h : Tb.inB u.L (Tb.row3 (dat i).2) = true
  · rw [if_pos h, huf]
    exact hc
  · rw [if_neg h, ← hc]
    rw [Tb.inB_iff, hH.rows u hu, huf] at h
    exact (hH.zero _ h).symm
 rw [e1, e2, e3]
 exact ⟨rfl, hb⟩
def shCells (eg : Nat) (rv : Value) (gv : Nat → Bool) : Array Value := ([Value.pointer (some ⟨eg, 0, none⟩), rv] ++ bCells gv).toArray
def ShopIs (w : World) (sb eg : Nat) (rv : Value) (gv : Nat → Bool) : Prop := w.heap[sb]? = some (.cells (shCells eg rv gv) 43 (0, 0))
theorem ShopIs.below {w w' : World} {sb eg : Nat} {rv : Value} {gv : Nat → Bool} (h : ShopIs w sb eg rv gv) (hb : Below w.heap.size w w') : ShopIs w' sb eg rv gv := by
 unfold ShopIs
 rw [hb.block _ (lt_of_heap h)]
 exact h
theorem ShopIs.ekb {w w' : World} {sb eg : Nat} {rv : Value} {gv : Nat → Bool} (h : ShopIs w sb eg rv gv) (hb : EKb w w') : ShopIs w' sb eg rv gv := hb.heap h (offE_cells (by decide) (by decide))
theorem ShopIs.cells {w : World} {sb eg : Nat} {rv : Value} {gv : Nat → Bool} (h : ShopIs w sb eg rv gv) : w.cell? ⟨sb, 0, none⟩ = some (.pointer (some ⟨eg, 0, none⟩)) ∧ w.cell? ⟨sb, 1, none⟩ = some rv ∧ ∀ i, i < 36 → w.cell? ⟨sb, 2 + i, none⟩ = some (.bool (gv i)) := by
 refine ⟨by rw [cell_of_row _ _ _ _ _ _ h]; rfl, by rw [cell_of_row _ _ _ _ _ _ h]; rfl, ?_⟩
 intro i hi
 rw [cell_of_row _ _ _ _ _ _ h]
 unfold shCells
 rw [List.getElem?_toArray, List.getElem?_append_right (by simp)]
 simpa using bCells_at gv hi
theorem Eng.below {w w' : World} {B eg : Nat} {kl : List Ax.KRule} {gv : Nat → Bool} {n : Nat} (h : Eng w B eg kl gv n) (hb : Below w.heap.size w w') : Eng w' B eg kl gv n := by
 obtain ⟨pl, rd, rc, l, gm, G, hm, T, s, hd, lv, ln, lx, eb, hin, he, hG, hR, hH, hI, hT, hd32, hlog, hln, hpl9⟩ := h.at_
 exact ⟨⟨pl, rd, rc, l, gm, G, hm, T, s, hd, lv, ln, lx, by rw [hb.block _ (lt_of_heap eb)]; exact eb, hin.below hb, he, hG.below hb, hR, hH.below hb, hI, hT, hd32, ownsRow_below hlog hb, hln, hpl9⟩, h.ge⟩
def trCells (kl : List Ax.KRule) (gv : Nat → Bool) (k : Nat) : List Value := (List.range k).flatMap fun i => [.bool (gv i), .bool (En.leastN (En.nRules kl) gv i), .int .i64 (cnN kl gv i : Nat)]
theorem trCells_succ (kl : List Ax.KRule) (gv : Nat → Bool) (k : Nat) : trCells kl gv (k + 1) = trCells kl gv k ++ [.bool (gv k), .bool (En.leastN (En.nRules kl) gv k), .int .i64 (cnN kl gv k : Nat)] := by
 unfold trCells
 rw [List.range_succ, List.flatMap_append]
 simp
end Go.Proofs.YtdmicblafmhflaaGreatDoor
/- axiomkeep: what text calls, as it calls it. -/
namespace Go.Proofs.YtdmicblafmhflaaGreatDoor
open Go.RowKit
structure RuleAt (w : World) (g o : Nat) (r : Ax.KRule) : Prop where
 head : AtomAt w g o r.head
 body : ∃ bd bn bc, w.cell? ⟨g, o + 3, none⟩ = some (.slice bd bn bc) ∧ BodyAt w bd bn bc r.body
structure RulesAt (w : World) (ad : Option Addr) (n c : Nat) (l : List Ax.KRule) : Prop where
 len : l.length = n
 cap : n ≤ c
 max : c ≤ maxLen
 at_ : ∀ k (h : k < l.length), ∃ g o, ad = some ⟨g, o, none⟩ ∧ RuleAt w g (o + k * 4) l[k]
theorem wloop_size : ∀ (ts : List Nat) (i : Nat) (p : ByteArray), (wloop ts i p).size ≤ p.size + 3 * ts.length
 | [], _, p => by simp [wloop]
 | x :: l, i, p => by
  rw [wloop]
  have h := wloop_size l (i + 1) (wstep i p x)
  have hx := gtx_size x
  have hc : (⟨#[44]⟩ : ByteArray).size = 1 := rfl
  have hs : (wstep i p x).size ≤ p.size + 3 := by
   unfold wstep
   split
   · rw [ByteArray.size_append, ByteArray.size_append]; omega
   · rw [ByteArray.size_append]; omega
  rw [List.length_cons]
  omega
theorem wAtom_size (p : Nat) (ts : List Nat) (h : ts.length ≤ 2) : (wAtom p ts).size ≤ 12 := by
 unfold wAtom
 have h1 := wloop_size ts 0 (Ax.gpred p ++ ⟨#[40]⟩)
 have h2 := gpred_size p
 have h3 : (⟨#[40]⟩ : ByteArray).size = 1 := rfl
 have h4 : (⟨#[41]⟩ : ByteArray).size = 1 := rfl
 rw [ByteArray.size_append] at h1 ⊢
 omega
theorem gterms_seven (a : Ax.KAtom) : ∀ x, x ∈ Ax.gterms a → x < 7 := by
 intro x hx
 have h1 := Ax.gpick_lt a.a 7 (by decide)
 have h2 := Ax.gpick_lt a.b 7 (by decide)
 unfold Ax.gterms at hx
 split at hx
 · simp at hx; omega
 · simp at hx; omega
theorem ghead_two (r : Ax.KRule) : 0 < (Ax.ghead r).length ∧ (Ax.ghead r).length ≤ 2 := by
 unfold Ax.ghead
 rw [List.length_map]
 exact gterms_two r.head
theorem ghead_seven (r : Ax.KRule) : ∀ x, x ∈ Ax.ghead r → x < 7 := by
 intro x hx
 unfold Ax.ghead at hx
 obtain ⟨y, hy, rfl⟩ := List.mem_map.1 hx
 have := gterms_seven r.head y hy
 split <;> omega
def Row7 (B : Nat) (w : World) (d : Option Addr) (c : Nat) (ts : List Nat) : Prop := w.ownsRow B 3 1 (.slice d ts.length c) ts.length (natCells ts)
theorem head_of {w : World} {ad : Option Addr} {n c : Nat} {r : Ax.KRule} (hB : BodyAt w ad n c r.body) (h0 : Fit64 r.head.pred) (h1 : Fit64 r.head.a) (h2 : Fit64 r.head.b) (T : List Nat) (hT : Ax.ghead r = T) : ∀ W, Below w.heap.size w W →
 Calls Tryz.prog 62 #[.agg #[.int .i64 r.head.pred, .int .i64 r.head.a, .int .i64 r.head.b, .slice ad n c]] W fun e w' => ∃ d c', e = .returned (.slice d T.length c') ∧ Row7 w.heap.size w' d c' T ∧ Below w.heap.size w w' := by
 intro W hb
 subst hT
 refine (head_any W r ad n c (hB.below hb) h0 h1 h2).mono ?_
 rintro e w' ⟨d, c', rfl, ho, hb'⟩
 exact ⟨d, c', rfl, ownsRow_base ho hb.size, hb.trans (hb'.mono hb.size)⟩
theorem terms_of {w : World} {a : Ax.KAtom} (h0 : Fit64 a.pred) (h1 : Fit64 a.a) (h2 : Fit64 a.b) (T : List Nat) (hT : Ax.gterms a = T) : ∀ W, Below w.heap.size w W →
 Calls Tryz.prog 64 #[.agg #[.int .i64 a.pred, .int .i64 a.a, .int .i64 a.b]] W fun e w' => ∃ d c', e = .returned (.slice d T.length c') ∧ Row7 w.heap.size w' d c' T ∧ Below w.heap.size w w' := by
 intro W hb
 subst hT
 refine (terms_any' W a h0 h1 h2).mono ?_
 rintro e w' ⟨d, c', rfl, ho, hb'⟩
 exact ⟨d, c', rfl, ownsRow_base ho hb.size, hb.trans (hb'.mono hb.size)⟩
theorem written_of {w : World} {p : Int} (hp : Fit64 p) (T : List Nat) (h2 : T.length ≤ 2) (h7 : ∀ x, x ∈ T → x < 7) (A : ByteArray) (hA : wAtom (Ax.gpick p 3) T = A) : ∀ W d c, Below w.heap.size w W → Row7 w.heap.size W d c T →
 Calls Tryz.prog 61 #[.int .i64 p, .slice d T.length c] W fun e w' => e = .returned (.string A) ∧ Below w.heap.size w w' := by
 intro W d c hb ho
 subst hA
 refine (written_any W p hp _ d c T ho (by omega) h7 _ rfl).mono ?_
 rintro e w' ⟨rfl, hb'⟩
 exact ⟨rfl, hb.trans (hb'.mono hb.size)⟩
theorem body_of {w : World} {ad : Option Addr} {n c : Nat} {l : List Ax.KAtom} (h : BodyAt w ad n c l) (p a b : Int) (m : Nat) (hm : min n 2 = m) : ∀ W, Below w.heap.size w W → Calls Tryz.prog 63 #[.agg #[.int .i64 p, .int .i64 a, .int .i64 b, .slice ad n c]] W fun e w' => e = .returned (.slice ad m c) ∧ Below w.heap.size w w' := by
 intro W hb
 subst hm
 refine (body_val h p a b W).mono ?_
 rintro e w' ⟨rfl, hb'⟩
 exact ⟨rfl, hb.trans (hb'.mono hb.size)⟩
end Go.Proofs.YtdmicblafmhflaaGreatDoor
/- axiomkeep: text, walked. -/
namespace Go.Proofs.YtdmicblafmhflaaGreatDoor
open Go.RowKit
set_option maxRecDepth 100000 in
set_option maxHeartbeats 8000000 in
theorem text_any (w : World) (ad : Option Addr) (n c : Nat) (l : List Ax.KRule) (h : RulesAt w ad n c l) (R : ByteArray) (HR : Hid (trules (l.take 6) tbase = R)) :
 Calls Tryz.prog 35 #[.slice ad n c] w fun e w' => e = .returned (.string R) ∧ Below w.heap.size w w' ∧ R.size ≤ 338 := by
 have hcm : c ≤ 9223372036854775807 := h.max
 have hnc := h.cap
 have hlen := h.len
 rw [tbase_eq] at HR
 go_enter Tryz.func35, Tryz.ntmps35
 go_wp2_with fail
 go_loopw [3, 4] (fun sv iv wr => ∃ (i : Nat) (q : ByteArray), i ≤ min n 6 ∧ sv = .string q ∧ iv = .int .i64 i ∧ Below w.heap.size w wr ∧ q.size ≤ 38 + 50 * i ∧ trules ((l.take 6).drop i) q = R) (fun _ iv _ => 6 - (intOf iv).toNat)
 case atStart => exact ⟨0, _, Nat.zero_le _, rfl, rfl, Below.refl _ _, by decide, HR.out⟩
 case round =>
  obtain ⟨i, q, hi, rfl, rfl, hbel, hqs, hr⟩ := hrel
  have HRi : Hid (trules ((l.take 6).drop i) q = R) := hr
  clear hr HR
  have hsz := hbel.size
  by_cases hlt : i < min n 6
  · have hn1 : decide ((i : Int) < (n : Int)) = true := by simp; omega
    have hn2 : decide ((i : Int) < 6) = true := by simp; omega
    have hn3 : (i : Int) < (n : Int) := by omega
    have hdrop : (l.take 6).drop i = l[i] :: (l.take 6).drop (i + 1) := by
     rw [List.drop_eq_getElem_cons (by rw [List.length_take]; omega), List.getElem_take]
    rw [hdrop] at HRi
    clear hdrop
    obtain ⟨g, o, had, hra⟩ := h.at_ i (by omega)
    subst had
    generalize l[i] = r at *
    have HN : Hid (trules ((l.take 6).drop (i + 1)) (trule r q) = R) := HRi
    clear HRi
    obtain ⟨⟨e0, e1, e2, f0, f1, f2⟩, bd, bn, bc, e3, hB⟩ := hra
    have HT : Hid (trule r q = tbody (Ax.gbody r) 0 (q ++ wAtom (Ax.gpick r.head.pred 3) (Ax.ghead r)) ++ ⟨#[46]⟩) := rfl
    have hhd := head_of hB f0 f1 f2 _ rfl
    have hwr := written_of (w := w) f0 _ (ghead_two r).2 (ghead_seven r) _ rfl
    have hAs := wAtom_size (Ax.gpick r.head.pred 3) (Ax.ghead r) (ghead_two r).2
    have hB2 := hB.two
    obtain ⟨m, hm⟩ : ∃ m, min bn 2 = m := ⟨_, rfl⟩
    have hm2 : m ≤ 2 := by omega
    have hbd := body_of hB r.head.pred r.head.a r.head.b m hm
    rw [hm] at hB2
    clear hm hB
    generalize trule r q = Q at *
    generalize wAtom (Ax.gpick r.head.pred 3) (Ax.ghead r) = A at *
    generalize Ax.ghead r = T at *
    generalize Ax.gbody r = gb at *
    rcases r with ⟨⟨p, a, b⟩, rb⟩
    simp only at *
    have E0 := cell_below hbel e0
    have E1 := cell_below hbel e1
    have E2 := cell_below hbel e2
    have E3 := cell_below hbel e3
    have hA1 : (q ++ A).size ≤ 50 + 50 * i := by rw [ByteArray.size_append]; omega
    go_upto_region 5 with fail
    go_cut [3] from 7 to 62 (fun sv wx => sv = .string (q ++ A) ∧ Below w.heap.size w wx)
    case first =>
     go_region_with (first | (go_at_call 62; refine (hhd _ (by first | exact hbel | exact hbel.drew)).mono ?_; rintro e w2 ⟨d2, c2, rfl, ho2, hb2⟩; have G0 := cell_below hb2 e0) | (go_at_call 61; refine (hwr _ _ _ hb2 ho2).mono ?_; rintro e w3 ⟨rfl, hb3⟩))
     all_goals (go_wp2_with fail)
     all_goals go_meet
     all_goals exact ⟨rfl, by first | exact hb3 | exact hb3.drew⟩
    case rest =>
     obtain ⟨rfl, hbc⟩ := hcut
     clear E0 E1 E2 E3 hbel hhd hwr hqs hsz
     have K0 := cell_below hbc e0
     have K1 := cell_below hbc e1
     have K2 := cell_below hbc e2
     have K3 := cell_below hbc e3
     go_wp2_with (go_at_call 63; refine (hbd _ hbc).mono ?_; rintro e w4 ⟨rfl, hb4⟩)
     generalize (q ++ A : ByteArray) = q1 at *
     clear K0 K1 K2 K3 hbc hbd
     obtain ⟨Z, hZ⟩ : ∃ Z, tbody gb 0 q1 = Z := ⟨_, rfl⟩
     have HZ : Hid (tbody gb 0 q1 = Z) := hZ
     rw [hZ] at HT
     clear hZ e0 e1 e2 e3
     have hgl := hB2.len
     have hbm : bc ≤ 9223372036854775807 := hB2.max
     have hmc := hB2.cap
     go_loopw [3, 6] (fun sv kv wx => ∃ (k : Nat) (q2 : ByteArray), k ≤ m ∧ sv = .string q2 ∧ kv = .int .i64 k ∧ Below w.heap.size w wx ∧ q2.size ≤ 50 + 50 * i + 15 * k ∧ tbody (gb.drop k) k q2 = Z) (fun _ kv _ => m - (intOf kv).toNat)
     case atStart => exact ⟨0, _, Nat.zero_le _, rfl, rfl, hb4, by omega, HZ.out⟩
     case round =>
      obtain ⟨k, q2, hk, rfl, rfl, hbk, hq2, hz⟩ := hrel
      have HZk : Hid (tbody (gb.drop k) k q2 = Z) := hz
      clear hz HZ hb4
      by_cases hkm : k < m
      · have hdrop : gb.drop k = gb[k] :: gb.drop (k + 1) := List.drop_eq_getElem_cons (by omega)
        rw [hdrop] at HZk
        clear hdrop
        obtain ⟨bg, bo, had, ha⟩ := hB2.at_ k (by omega)
        subst had
        generalize gb[k] = x at *
        obtain ⟨e0, e1, e2, f0, f1, f2⟩ := ha
        have hte := terms_of (w := w) f0 f1 f2 _ rfl
        have hwr := written_of (w := w) f0 _ (gterms_two x).2 (gterms_seven x) (wA x) rfl
        have hAs := wAtom_size (Ax.gpick x.pred 3) (Ax.gterms x) (gterms_two x).2
        have hAs : (wA x).size ≤ 12 := hAs
        have HZx : Hid (tbody (gb.drop (k + 1)) (k + 1) ((if k = 0 then q2 ++ ⟨#[58, 45]⟩ else q2 ++ ⟨#[44]⟩) ++ wA x) = Z) := HZk
        clear HZk
        generalize wA x = A at *
        generalize Ax.gterms x = T at *
        rcases x with ⟨p, a, b⟩
        simp only at *
        have E0 := cell_below hbk e0
        have E1 := cell_below hbk e1
        have E2 := cell_below hbk e2
        have hk3 : (k : Int) < (m : Int) := by omega
        by_cases hk0 : k = 0
        · have hb0 : (((k : Nat) : Int) == 0) = true := by simp; omega
          have HQ : Hid (tbody (gb.drop (k + 1)) (k + 1) (q2 ++ ⟨#[58, 45]⟩ ++ A) = Z) := by
           have := HZx.out
           rw [if_pos hk0] at this
           exact this
          have h1s : (⟨#[58, 45]⟩ : ByteArray).size = 2 := rfl
          have hs1 : (q2 ++ ⟨#[58, 45]⟩ : ByteArray).size ≤ 52 + 50 * i + 15 * k := by rw [ByteArray.size_append]; omega
          have hs2 : (q2 ++ ⟨#[58, 45]⟩ ++ A : ByteArray).size ≤ 50 + 50 * i + 15 * (k + 1) := by rw [ByteArray.size_append, ByteArray.size_append]; omega
          clear HZx hk0
          go_wp2_with fail
          go_region_with (first | (go_at_call 64; refine (hte _ (by first | exact hbk | exact hbk.drew)).mono ?_; rintro e w2 ⟨d2, c2, rfl, ho2, hb2⟩; have G0 := cell_below hb2 e0) | (go_at_call 61; refine (hwr _ _ _ hb2 ho2).mono ?_; rintro e w3 ⟨rfl, hb3⟩))
          all_goals (go_wp2_with fail)
          all_goals (go_roundw; (case rel => exact ⟨k + 1, _, by omega, rfl, by go_num, (by first | exact hb3 | exact hb3.drew), by omega, HQ.out⟩); (case measure => simp [intOf]; omega))
        · have hb0 : (((k : Nat) : Int) == 0) = false := by simp; omega
          have HQ : Hid (tbody (gb.drop (k + 1)) (k + 1) (q2 ++ ⟨#[44]⟩ ++ A) = Z) := by
           have := HZx.out
           rw [if_neg hk0] at this
           exact this
          have h1s : (⟨#[44]⟩ : ByteArray).size = 1 := rfl
          have hs1 : (q2 ++ ⟨#[44]⟩ : ByteArray).size ≤ 52 + 50 * i + 15 * k := by rw [ByteArray.size_append]; omega
          have hs2 : (q2 ++ ⟨#[44]⟩ ++ A : ByteArray).size ≤ 50 + 50 * i + 15 * (k + 1) := by rw [ByteArray.size_append, ByteArray.size_append]; omega
          clear HZx hk0
          go_wp2_with fail
          go_region_with (first | (go_at_call 64; refine (hte _ (by first | exact hbk | exact hbk.drew)).mono ?_; rintro e w2 ⟨d2, c2, rfl, ho2, hb2⟩; have G0 := cell_below hb2 e0) | (go_at_call 61; refine (hwr _ _ _ hb2 ho2).mono ?_; rintro e w3 ⟨rfl, hb3⟩))
          all_goals (go_wp2_with fail)
          all_goals (go_roundw; (case rel => exact ⟨k + 1, _, by omega, rfl, by go_num, (by first | exact hb3 | exact hb3.drew), by omega, HQ.out⟩); (case measure => simp [intOf]; omega))
      · have hqZ : q2 = Z := by
         have := HZk.out
         rw [List.drop_eq_nil_of_le (by omega)] at this
         exact this
        subst hqZ
        clear HZk
        have h1s : (⟨#[46]⟩ : ByteArray).size = 1 := rfl
        have hqs3 : (q2 ++ ⟨#[46]⟩ : ByteArray).size ≤ 88 + 50 * i := by rw [ByteArray.size_append]; omega
        go_wp2_with fail
        go_roundw
        case rel => exact ⟨i + 1, _, by omega, rfl, by go_num, hbk, by omega, by rw [← HT.out]; exact HN.out⟩
        case measure => simp [intOf]; omega
  · by_cases hin : i < n
    · have hn1 : decide ((i : Int) < (n : Int)) = true := by simp; omega
      have hn2 : decide ((i : Int) < 6) = false := by simp; omega
      have hqR : q = R := by
       have := HRi.out
       rw [List.drop_eq_nil_of_le (by simp; omega)] at this
       exact this
      subst hqR
      clear HRi
      go_wp2_with fail
      go_ret
      exact ⟨rfl, hbel, by omega⟩
    · have hn1 : decide ((i : Int) < (n : Int)) = false := by simp; omega
      have hqR : q = R := by
       have := HRi.out
       rw [List.drop_eq_nil_of_le (by simp; omega)] at this
       exact this
      subst hqR
      clear HRi
      go_wp2_with fail
      go_ret
      exact ⟨rfl, hbel, by omega⟩
end Go.Proofs.YtdmicblafmhflaaGreatDoor
/- axiomkeep.Shop.least: what its loops work out. -/
namespace Go.Proofs.YtdmicblafmhflaaGreatDoor
open Go.RowKit
theorem bCells_len (H : Nat → Bool) : (bCells H).length = 36 := by simp [bCells]
theorem bCells_set (H : Nat → Bool) (x : Nat) (b : Bool) : (bCells H).toArray.setIfInBounds x (.bool b) = (bCells (setG H x b)).toArray := by
 rw [List.setIfInBounds_toArray]
 congr 1
 apply List.ext_getElem?
 intro i
 rw [List.getElem?_set]
 by_cases hi : i < 36
 · by_cases e : x = i
   · subst e
     rw [if_pos rfl, if_pos (by rw [bCells_len]; exact hi), bCells_at _ hi]
     simp [setG]
   · rw [if_neg e, bCells_at _ hi, bCells_at _ hi]
     simp [setG, Ne.symm e]
 · have h1 : (bCells H)[i]? = none := List.getElem?_eq_none (by rw [bCells_len]; omega)
   have h2 : (bCells (setG H x b))[i]? = none := List.getElem?_eq_none (by rw [bCells_len]; omega)
   rw [h1, h2]
   by_cases e : x = i
   · subst e
     rw [if_pos rfl, if_neg (by rw [bCells_len]; omega)]
   · rw [if_neg e]
theorem RuleAt.below {w w' : World} {g o : Nat} {r : Ax.KRule} (h : RuleAt w g o r) (hb : Below w.heap.size w w') : RuleAt w' g o r := by
 obtain ⟨bd, bn, bc, h1, h2⟩ := h.body
 exact ⟨h.head.below hb, bd, bn, bc, cell_below hb h1, h2.below hb⟩
theorem RulesAt.below {w w' : World} {ad : Option Addr} {n c : Nat} {l : List Ax.KRule} (h : RulesAt w ad n c l) (hb : Below w.heap.size w w') : RulesAt w' ad n c l :=
 ⟨h.len, h.cap, h.max, fun k hk => let ⟨g, o, e, ha⟩ := h.at_ k hk; ⟨g, o, e, ha.below hb⟩⟩
end Go.Proofs.YtdmicblafmhflaaGreatDoor
/- axiomkeep.all. -/
namespace Go.Proofs.YtdmicblafmhflaaGreatDoor
open Go.RowKit
theorem Tryz.infoApiFact : (Tryz.prog.info? 48).map (fun i => (i.zero, i.size, i.bytes)) = some (some (.agg #[.string ByteArray.empty, .slice none 0 0]), 2, 40) := by kernel_rfl
theorem fit_small {n : Nat} (h : n < 1000) : Fit64 (n : Int) := by constructor <;> omega
def cntA (p a b : Nat) : Nat := if p = 0 then a + (if b = 0 then 0 else 1) else 4 + 16 * (p - 1) + 4 * a + b
set_option maxRecDepth 100000 in
set_option maxHeartbeats 4000000 in
theorem all_any (w : World) : Calls Tryz.prog 65 #[] w fun e w' => ∃ v l, e = .returned v ∧ AllW w w' v 36 l := by
 obtain ⟨i0, hi, hz0, hz1, hz2⟩ := info_parts Tryz.infoApiFact
 go_enter Tryz.func65, Tryz.ntmps65
 go_wp2_with fail
 go_loopw [1, 2] (fun a i wr => ∃ (p : Nat) (l : List FI), p ≤ 3 ∧ i = .int .i64 p ∧ AllW w wr a (cntA p 0 0) l) (fun _ i _ => 3 - (intOf i).toNat)
 case atStart => exact ⟨0, [], by omega, rfl, AllW.nil w⟩
 case round =>
  obtain ⟨p, l, hp, rfl, hA⟩ := hrel
  obtain ⟨ad, ac, rfl⟩ := ownsRow_shape hA.row
  by_cases hp3 : p < 3
  · have HA : Hid (AllW w wr (.slice ad l.length ac) (cntA p 0 0) l) := hA
    have hdp : decide ((p : Int) < 3) = true := decide_eq_true (by omega)
    clear hA
    go_wp2_with fail
    go_loopw [1, 3] (fun a i wr => ∃ (a' : Nat) (l : List FI), a' ≤ 4 ∧ i = .int .i64 a' ∧ AllW w wr a (cntA p a' 0) l) (fun _ i _ => 4 - (intOf i).toNat)
    case atStart => exact ⟨0, l, by omega, rfl, HA.out⟩
    case round =>
     obtain ⟨a, l2, ha, rfl, hA2⟩ := hrel
     obtain ⟨bd, bc, rfl⟩ := ownsRow_shape hA2.row
     have HA2 : Hid (AllW w wr (.slice bd l2.length bc) (cntA p a 0) l2) := hA2
     clear hA2
     by_cases ha4 : a < 4
     · have hda : decide ((a : Int) < 4) = true := decide_eq_true (by omega)
       go_wp2_with fail
       go_loopw [1, 4] (fun a0 i wr => ∃ (b' : Nat) (l : List FI), b' ≤ 4 ∧ i = .int .i64 b' ∧ AllW w wr a0 (cntA p a b') l) (fun _ i _ => 4 - (intOf i).toNat)
       case atStart => exact ⟨0, l2, by omega, rfl, HA2.out⟩
       case round =>
        obtain ⟨b, l3, hb, rfl, hA3⟩ := hrel
        obtain ⟨bd, bc, rfl⟩ := ownsRow_shape hA3.row
        have HA3 : Hid (AllW w wr (.slice bd l3.length bc) (cntA p a b) l3) := hA3
        have hll := hA3.len
        have hcl : cntA p a b ≤ 40 := by unfold cntA; split <;> (try split) <;> omega
        have hl3 : l3.length ≤ 40 := by omega
        clear hA3 hll hcl
        by_cases hb4 : b < 4
        · have hna := fun W => gen_name (a : Int) W (fit_small (by omega))
          have hnb := fun W => gen_name (b : Int) W (fit_small (by omega))
          have hpd := fun W => gen_pred (p : Int) W (fit_small (by omega))
          have hpl := fun W => places_any (p : Int) W (fit_small (by omega))
          rw [gpick_small ha4] at hna
          rw [gpick_small hb4] at hnb
          rw [gpick_small hp3] at hpd hpl
          by_cases hp0 : p = 0
          · rw [if_pos hp0] at hpl
            by_cases hb0 : b = 0
            · have hbn : ((b : Int) == 0) = true := beq_iff_eq.2 (by omega)
              have HD : Hid (dat (cntA p a b) = (Ax.gpred p, [Ax.gname a])) := by
               have e : dat (cntA p a b) = (Ax.gpred p, [Ax.gname a]) := by
                have e1 : cntA p a b = a := by simp [cntA, hp0, hb0]
                rw [e1, dat_0 ha4 0, hp0]
                rfl
               exact e
              have HC : Hid (cntA p a (b + 1) = cntA p a b + 1) := by
               have e : cntA p a (b + 1) = cntA p a b + 1 := by simp [cntA, hp0, hb0]
               exact e
              clear hp0 hb0
              go_wp2_with (first | (go_at_call 19; refine (hpl _).mono ?_; rintro e w' ⟨rfl, rfl⟩) | (go_at_call 18; refine (hpd _).mono ?_; rintro e w3 ⟨rfl, hb3⟩) | (go_at_call 122; refine (hna _).mono ?_; rintro e w4 ⟨rfl, hb4'⟩; have HA4 : Hid (AllW w w4 (.slice bd l3.length bc) (cntA p a b) l3) := (HA3.out.below hb3).below hb4') | (at_builtin; refine wpList_append_own _ rfl (.tmp 24) (.tmp 31) 37 rfl w.heap.size 48 i0 _ 2 40 Tryz.underlying37 hi hz0 hz1 hz2 rfl (by decide) _ _ _ rfl ((HA4.out.row.alloc _).alloc _) ⟨w4.heap.size + 1, 0, none⟩ 1 1 [.string (Ax.gpred p), .slice (some ⟨w4.heap.size, 0, none⟩) 1 1] rfl rfl (new_cells2 _ _ _ _) (by simp [Value.oneCell']) (by unfold maxLen; omega) (by omega) (by have := HA4.out.bel.size; simp; omega) ?_; intro v2 w2 hown2 hgrow _))
              have HX : Hid (AllW w w' v2 (cntA p a (b + 1)) (l3 ++ [⟨Ax.gpred p, [Ax.gname a], .slice (some ⟨w4.heap.size, 0, none⟩) 1 1⟩])) := by
               rw [HC.out]
               exact HA4.out.step (args := [Ax.gname a]) HD.out (by simp) (by simp) hown2 hgrow
              go_roundw
              case rel => exact ⟨b + 1, _, by omega, by go_num, HX.out⟩
              case measure => simp [intOf]; omega
            · have hbn : ((b : Int) == 0) = false := beq_eq_false_iff_ne.2 (by omega)
              have HA5 : Hid (AllW w wr (.slice bd l3.length bc) (cntA p a (b + 1)) l3) := by
               have e : cntA p a (b + 1) = cntA p a b := by simp [cntA, hp0, hb0]
               rw [e]
               exact HA3.out
              clear hp0 hb0
              go_wp2_with (go_at_call 19; refine (hpl _).mono ?_; rintro e w' ⟨rfl, rfl⟩)
              go_roundw
              case rel => exact ⟨b + 1, l3, by omega, by go_num, HA5.out⟩
              case measure => simp [intOf]; omega
          · rw [if_neg hp0] at hpl
            have HD : Hid (dat (cntA p a b) = (Ax.gpred p, [Ax.gname a, Ax.gname b])) := by
             have e : dat (cntA p a b) = (Ax.gpred p, [Ax.gname a, Ax.gname b]) := by
              have e1 : cntA p a b = 4 + 16 * (p - 1) + 4 * a + b := by simp [cntA, hp0]
              rw [e1, dat_1 (by omega) ha4 hb4]
              simp [fdat, hp0]
             exact e
            have HC : Hid (cntA p a (b + 1) = cntA p a b + 1) := by
             have e : cntA p a (b + 1) = cntA p a b + 1 := by simp [cntA, hp0]; omega
             exact e
            have HNM : Hid (∀ W (x : Nat), x < 4 → Calls Tryz.prog 122 #[.int .i64 (x : Nat)] W fun e w' => e = .returned (.string (Ax.gname x)) ∧ Below W.heap.size W w') := by
             intro W x hx
             have h9 := gen_name (x : Int) W (fit_small (by omega))
             rw [gpick_small hx] at h9
             exact h9
            clear hp0 hna hnb
            go_wp2_with (first | (go_at_call 19; refine (hpl _).mono ?_; rintro e w' ⟨rfl, rfl⟩) | (go_at_call 18; refine (hpd _).mono ?_; rintro e w3 ⟨rfl, hb3⟩; have HA4 : Hid (AllW w w3 (.slice bd l3.length bc) (cntA p a b) l3) := HA3.out.below hb3) | (go_at_call 122; refine (HNM.out _ _ (by assumption)).mono ?_; rintro e w4 ⟨rfl, hb4'⟩; replace HA4 : Hid (AllW w w4 (.slice bd l3.length bc) (cntA p a b) l3) := HA4.out.below hb4') | (at_builtin; refine wpList_append_own _ rfl (.tmp 36) (.tmp 45) 37 rfl w.heap.size 48 i0 _ 2 40 Tryz.underlying37 hi hz0 hz1 hz2 rfl (by decide) _ _ _ rfl ((HA4.out.row.alloc _).alloc _) ⟨w4.heap.size + 1, 0, none⟩ 1 1 [.string (Ax.gpred p), .slice (some ⟨w4.heap.size, 0, none⟩) 2 2] rfl rfl (new_cells2 _ _ _ _) (by simp [Value.oneCell']) (by unfold maxLen; omega) (by omega) (by have := HA4.out.bel.size; simp; omega) ?_; intro v2 w2 hown2 hgrow _))
            have HX : Hid (AllW w w2 v2 (cntA p a (b + 1)) (l3 ++ [⟨Ax.gpred p, [Ax.gname a, Ax.gname b], .slice (some ⟨w4.heap.size, 0, none⟩) 2 2⟩])) := by
             rw [HC.out]
             exact HA4.out.step (args := [Ax.gname a, Ax.gname b]) HD.out (by simp) (by simp) hown2 hgrow
            go_roundw
            case rel => exact ⟨b + 1, _, by omega, by go_num, HX.out⟩
            case measure => simp [intOf]; omega
        · have hbe : b = 4 := by omega
          subst hbe
          have HA5 : Hid (AllW w wr (.slice bd l3.length bc) (cntA p (a + 1) 0) l3) := by
           have e : cntA p (a + 1) 0 = cntA p a 4 := by unfold cntA; split <;> (try simp) <;> omega
           rw [e]
           exact HA3.out
          go_wp2_with fail
          go_roundw
          case rel => exact ⟨a + 1, l3, by omega, by go_num, HA5.out⟩
          case measure => simp [intOf]; omega
     · have hae : a = 4 := by omega
       subst hae
       have HA5 : Hid (AllW w wr (.slice bd l2.length bc) (cntA (p + 1) 0 0) l2) := by
        have e : cntA (p + 1) 0 0 = cntA p 4 0 := by unfold cntA; split <;> (try simp) <;> (try split) <;> omega
        rw [e]
        exact HA2.out
       go_wp2_with fail
       go_roundw
       case rel => exact ⟨p + 1, l2, by omega, by go_num, HA5.out⟩
       case measure => simp [intOf]; omega
  · have hpe : p = 3 := by omega
    subst hpe
    have HA : Hid (AllW w wr (.slice ad l.length ac) 36 l) := hA
    clear hA
    go_wp2_with fail
    go_ret
    exact ⟨_, l, rfl, HA.out⟩
end Go.Proofs.YtdmicblafmhflaaGreatDoor
/- axiomkeep.fact. -/
namespace Go.Proofs.YtdmicblafmhflaaGreatDoor
open Go.RowKit
set_option maxRecDepth 100000 in
set_option maxHeartbeats 2000000 in
theorem kfact_any (w : World) (c : Int) (hc : Fit64 c) : Calls Tryz.prog 72 #[.int .i64 c] w fun e w' => ∃ f : FI, e = .returned (.agg #[.string f.pred, f.av]) ∧ (f.pred, f.args) = dat (Ax.gpick c 36) ∧
 w'.ownsRow w.heap.size 9 1 f.av f.args.length (strCells f.args) ∧ Below w.heap.size w w' := by
 have hpk := fun w => pick_any c 36 w hc (by decide) (by decide)
 have hlt := Ax.gpick_lt c 36 (by decide)
 generalize Ax.gpick c 36 = k at hpk hlt ⊢
 obtain ⟨w0, hw0⟩ : ∃ w0, w0 = w.alloc (.cells #[.string ⟨#[]⟩, .slice none 0 0] 48) := ⟨_, rfl⟩
 have hb0 : Below w.heap.size w w0 := by rw [hw0]; exact (Below.refl _ _).alloc (Nat.le_refl _) _
 have hg0 : w0.heap[w.heap.size]? = some (.cells #[.string ⟨#[]⟩, .slice none 0 0] 48 (0, 0)) := by rw [hw0]; exact heap_alloc_new w _
 have HAL : Hid (Calls Tryz.prog 65 #[] w0 fun e w' => ∃ c g, ∃ f : FI, e = .returned (.slice (some ⟨g, 0, none⟩) 36 c) ∧ Hid ((f.pred, f.args) = dat k ∧ w'.ownsRow (w.heap.size + 1) 9 1 f.av f.args.length (strCells f.args) ∧ Below w.heap.size w w' ∧ w'.heap[w.heap.size]? = some (.cells #[.string ⟨#[]⟩, .slice none 0 0] 48 (0, 0))) ∧ g < w'.heap.size ∧ 36 ≤ c ∧ w'.cell? ⟨g, k * 2, none⟩ = some (.string f.pred) ∧ w'.cell? ⟨g, k * 2 + 1, none⟩ = some f.av ∧
  w'.cell? ⟨w.heap.size, 0, none⟩ = some (.string ⟨#[]⟩) ∧ w'.cell? ⟨w.heap.size, 1, none⟩ = some (.slice none 0 0) ∧ (∀ o, w'.frozen? ⟨w.heap.size, o, none⟩ = false)) := by
  refine (all_any w0).mono ?_
  rintro e w' ⟨v, l, rfl, hA⟩
  have hl := hA.len
  have hk : k < l.length := by omega
  obtain ⟨d, c, rfl⟩ := ownsRow_shape hA.row
  obtain ⟨g, rfl, hg, hc1, hcs⟩ := row_cells hA.row (by omega)
  have hb' : Below w0.heap.size w0 w' := hA.bel
  have h1 : w'.heap[w.heap.size]? = some (.cells #[.string ⟨#[]⟩, .slice none 0 0] 48 (0, 0)) := by rw [hb'.block _ (lt_of_heap hg0)]; exact hg0
  have hsz : w0.heap.size = w.heap.size + 1 := by rw [hw0]; simp
  refine ⟨c, g, l[k], by rw [hl], ⟨?_, by rw [← hsz]; exact hA.each _ (List.getElem_mem hk), hb0.trans (hb'.mono hb0.size), h1⟩, hg, by omega, hcs _ _ (fiCells_get l k hk).1, hcs _ _ (fiCells_get l k hk).2, by rw [cell_of_row _ _ _ _ _ _ h1]; rfl, by rw [cell_of_row _ _ _ _ _ _ h1]; rfl, fun o => by simp [World.frozen?, h1]⟩
  have h9 := congrArg (fun z => z[k]?) hA.data
  simp [hlt, hk] at h9
  exact h9
 clear hb0 hg0
 go_enter Tryz.func72, Tryz.ntmps72
 go_wp2_with fail
 rw [← hw0]
 clear hw0
 refine HAL.out.mono ?_
 rintro e w1 ⟨cc, g, f, rfl, HF, hg, h36, c0, c1, d0, d1, df⟩
 have df0 := df 0
 have df1 := df 1
 obtain ⟨fp, fa, fv⟩ := f
 simp only at c0 c1 HF
 obtain ⟨xd, xc, hfv⟩ := ownsRow_shape HF.out.2.1
 subst hfv
 go_wp2_with (go_at_call 27; refine (hpk _).mono ?_; rintro e w' ⟨rfl, hw⟩; subst hw)
 obtain ⟨e1, e2, e3, e4⟩ := HF.out
 have k1 := setCell_heap _ e4 0 (.string fp)
 have k2 := setCell_heap _ k1 1 (.slice xd fa.length xc)
 have k3 : Kb [w.heap.size] w' ((w'.setCell ⟨w.heap.size, 0, none⟩ (.string fp)).setCell ⟨w.heap.size, 1, none⟩ (.slice xd fa.length xc)) := (Kb.setCell w' ⟨w.heap.size, 0, none⟩ _).trans (Kb.setCell _ ⟨w.heap.size, 1, none⟩ _)
 refine bodyPost_ret (v := .agg #[.string fp, .slice xd fa.length xc]) ?_ rfl ⟨⟨fp, fa, .slice xd fa.length xc⟩, rfl, e1, ownsRow_base (k3.row e2 (fun b hb => by have := (e2.lt b hb).1; simp; omega)) (by omega), k3.to_below e3 e3.size (by simp)⟩
 exact results_cell_row rfl _ _ _ _ _ _ _ rfl k2 Tryz.underlying48 rfl (by kernel_rfl)
end Go.Proofs.YtdmicblafmhflaaGreatDoor
