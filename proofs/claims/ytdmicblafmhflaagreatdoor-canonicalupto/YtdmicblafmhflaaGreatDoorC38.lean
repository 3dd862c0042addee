/- Engine.Apply: what it keeps, how long its log grows. -/
import Derived.Test.YtdmicblafmhflaaGreatDoorC37
set_option linter.unusedSimpArgs false
set_option linter.unusedVariables false
namespace Go.Proofs.YtdmicblafmhflaaGreatDoor
open Go.RowKit Go.Maps
def OffE (o : Obj) : Prop := ∀ c t f, o = .cells c t f → t ≠ 109 ∧ t ≠ 5
structure EKb (w w' : World) : Prop where
 kb : ∃ S, Kb S w w' ∧ ∀ b, b ∈ S → b < w.heap.size → ∃ cur t fz, w.heap[b]? = some (.cells cur t fz) ∧ (t = 109 ∨ t = 5)
theorem EKb.of_below {w w' : World} (h : Below w.heap.size w w') : EKb w w' := ⟨[], Kb.of_below h [], by simp⟩
theorem EKb.of_kb {w w' : World} {x : Nat} (h : Kb [x] w w') {cur : Array Value} {fz : Nat × Nat} (hx : w.heap[x]? = some (.cells cur 109 fz)) : EKb w w' := ⟨[x], h, fun b hb _ => by
 simp only [List.mem_cons, List.not_mem_nil, or_false] at hb
 subst hb
 exact ⟨cur, _, fz, hx, .inl rfl⟩⟩
theorem EKb.of_others {w w' : World} {B : Nat} (h : Lib.OthersKept 5 none w w') (hb : Below B w w') : EKb w w' := by
 refine ⟨(List.range w.heap.size).filter fun k => match w.heap[k]? with | some (.cells _ t _) => decide (t = 5) | _ => false, ⟨hb.os, hb.tape, hb.output, hb.size, ?_⟩, ?_⟩
 · intro k hk hn
   rw [Array.getElem?_eq_getElem hk]
   refine h k _ (Array.getElem?_eq_getElem hk) (by simp) ?_
   intro c fz e
   refine hn (List.mem_filter.2 ⟨List.mem_range.2 hk, ?_⟩)
   rw [Array.getElem?_eq_getElem hk, e]
   simp
 · intro b hb' hl
   have h2 := (List.mem_filter.1 hb').2
   rw [Array.getElem?_eq_getElem hl] at h2 ⊢
   cases ho : w.heap[b] with
   | cells c t f =>
    rw [ho] at h2
    exact ⟨c, t, f, rfl, .inr (by simpa using h2)⟩
   | _ => rw [ho] at h2; simp at h2
theorem EKb.heap {w w' : World} (h : EKb w w') {k : Nat} {o : Obj} (hk : w.heap[k]? = some o) (ho : OffE o) : w'.heap[k]? = some o := by
 obtain ⟨S, h1, h2⟩ := h.kb
 refine h1.heap hk ?_
 intro hS
 obtain ⟨cur, t, fz, e, ht⟩ := h2 k hS (lt_of_heap hk)
 rw [hk] at e
 obtain ⟨a, b⟩ := ho cur t fz (Option.some.inj e)
 rcases ht with rfl | rfl
 · exact a rfl
 · exact b rfl
theorem EKb.trans {w w1 w2 : World} (h : EKb w w1) (k : EKb w1 w2) : EKb w w2 := by
 obtain ⟨S1, a1, a2⟩ := h.kb
 obtain ⟨S2, b1, b2⟩ := k.kb
 refine ⟨S1 ++ S2, (a1.mono (fun i hi _ => by simp [hi])).trans (b1.mono (fun i hi _ => by simp [hi])), ?_⟩
 intro b hb hl
 by_cases hb1 : b ∈ S1
 · exact a2 b hb1 hl
 · have hb2 : b ∈ S2 := by simpa [hb1] using hb
   obtain ⟨cur, t, fz, e, ht⟩ := b2 b hb2 (Nat.lt_of_lt_of_le hl a1.size)
   rw [a1.block b hl hb1] at e
   exact ⟨cur, t, fz, e, ht⟩
theorem EKb.notin {w w' : World} (h : EKb w w') : ∃ S, Kb S w w' ∧ ∀ b o, w.heap[b]? = some o → OffE o → ¬ b ∈ S := by
 obtain ⟨S, h1, h2⟩ := h.kb
 refine ⟨S, h1, fun b o hb ho hS => ?_⟩
 obtain ⟨cur, t, fz, e, ht⟩ := h2 b hS (lt_of_heap hb)
 rw [hb] at e
 obtain ⟨x, y⟩ := ho cur t fz (Option.some.inj e)
 rcases ht with rfl | rfl
 · exact x rfl
 · exact y rfl
theorem offE_cells {c : Array Value} {t : TypeId} {f : Nat × Nat} (h1 : t ≠ 109) (h2 : t ≠ 5) : OffE (.cells c t f) := fun c' t' f' e => by
 cases e
 exact ⟨h1, h2⟩
theorem GAt.ekb {w w' : World} {gm : Nat} {G : List GT} (h : GAt w gm G) (hk : EKb w w') : GAt w' gm G := by
 obtain ⟨S, h1, h2⟩ := hk.notin
 refine h.kept h1 ?_
 intro b hb
 unfold gfoot at hb
 rcases List.mem_cons.1 hb with rfl | hb
 · obtain ⟨es, ck, e⟩ := h.map.block
   exact h2 b _ e (fun _ _ _ e => by cases e)
 · obtain ⟨u, hu, hb⟩ := List.mem_flatMap.1 hb
   obtain ⟨cur, T, e, hT⟩ := (h.tabs u hu).types hb
   refine h2 b _ e (offE_cells ?_ ?_)
   · rcases hT with rfl | rfl <;> decide
   · rcases hT with rfl | rfl <;> decide
theorem HAt.ekb {w w' : World} {hm : Nat} {T : List HT} {s : En.Sea En.Fct} (h : HAt w hm T s) (hk : EKb w w') : HAt w' hm T s := by
 obtain ⟨S, h1, h2⟩ := hk.notin
 refine h.kept h1 ?_
 intro b hb
 unfold hallfoot at hb
 rcases List.mem_cons.1 hb with rfl | hb
 · obtain ⟨es, ck, e⟩ := h.map.block
   exact h2 b _ e (fun _ _ _ e => by cases e)
 · obtain ⟨u, hu, hb⟩ := List.mem_flatMap.1 hb
   obtain ⟨cur, T, e, hT⟩ := (h.tabs u hu).types hb
   refine h2 b _ e (offE_cells ?_ ?_)
   · rcases hT with rfl | rfl | rfl <;> decide
   · rcases hT with rfl | rfl | rfl <;> decide
theorem RulesIn.ekb {w w' : World} {rd : Option Addr} {rc : Nat} {l : List MR} (h : RulesIn w rd rc l) (hk : EKb w w') : RulesIn w' rd rc l := by
 obtain ⟨S, h1, h2⟩ := hk.kb
 refine h.kept h1 ?_
 intro b cur U hb e
 obtain ⟨cur', t, fz, e2, ht⟩ := h2 b hb (lt_of_heap e)
 rw [e] at e2
 simp at e2
 rw [e2.2.1]
 rcases ht with rfl | rfl <;> decide
theorem numB_1 {n : Nat} (h : n ≤ 127) : (Rc.numB n).length = 1 := by
 unfold Rc.numB
 rw [if_pos h]
 rfl
theorem textB_sz {t : ByteArray} (h : t.size ≤ 127) : (Rc.textB t).length = 1 + t.size := by
 unfold Rc.textB
 rw [List.length_append, numB_1 h]
 rfl
theorem dat_len (i : Nat) : (dat i).2.length ≤ 2 := by
 have key : ∀ p x y, (fdat p x y).2.length ≤ 2 := by
  intro p x y
  unfold fdat
  split <;> simp
 unfold dat
 split
 · exact key _ _ _
 · split <;> exact key _ _ _
theorem factB_sz {f : FI} {i : Nat} (hi : i < 36) (h1 : f.pred = (dat i).1) (h2 : f.args = (dat i).2) : (Rc.factB f).length ≤ 10 := by
 have a1 : f.pred.size ≤ 3 := by rw [h1]; exact gPr_short _ (dat_pr hi)
 have a2 := Rc.flat_len Rc.textB 3 f.args (fun a ha => by
  rw [h2] at ha
  have := (dat_names i a ha).2
  rw [textB_sz (by omega)]
  omega)
 have a3 : f.args.length ≤ 2 := by rw [h2]; exact dat_len i
 unfold Rc.factB
 rw [List.length_append, textB_sz (by omega)]
 omega
theorem FIdx.mem {l : List FI} {is : List Nat} (h : FIdx l is) {f : FI} (hf : f ∈ l) : ∃ i, i < 36 ∧ f.pred = (dat i).1 ∧ f.args = (dat i).2 := by
 have : (f.pred, f.args) ∈ is.map dat := by rw [← h.1]; exact List.mem_map.2 ⟨f, hf, rfl⟩
 obtain ⟨i, hi, e⟩ := List.mem_map.1 this
 exact ⟨i, h.2 i hi, by rw [e], by rw [e]⟩
theorem FIdx.small {l : List FI} {is : List Nat} (h : FIdx l is) (hl : l.length ≤ 30) : FSmall l where
 few := by omega
 preds := fun f hf => by
  obtain ⟨i, hi, e, _⟩ := h.mem hf
  rw [e]
  exact Nat.le_trans (gPr_short _ (dat_pr hi)) (by decide)
 args := fun f hf => by
  obtain ⟨i, hi, _, e⟩ := h.mem hf
  rw [e]
  have := dat_len i
  omega
 names := fun f hf a ha => by
  obtain ⟨i, hi, _, e⟩ := h.mem hf
  rw [e] at ha
  have := (dat_names i a ha).2
  omega
theorem factsB_sz {l : List FI} {is : List Nat} (h : FIdx l is) (hl : l.length ≤ 30) : (Rc.factsB l).length ≤ 301 := by
 have := Rc.flat_len Rc.factB 10 l (fun f hf => by
  obtain ⟨i, hi, e1, e2⟩ := h.mem hf
  exact factB_sz hi e1 e2)
 unfold Rc.factsB
 rw [List.length_append, numB_1 (by omega)]
 omega
theorem contentB_sz {c g : List FI} {ci gi : List Nat} (h1 : FIdx c ci) (h2 : FIdx g gi) (hc : c.length ≤ 30) (hg : g.length ≤ 30) : (Rc.contentB c g).length ≤ 602 := by
 have := factsB_sz h1 hc
 have := factsB_sz h2 hg
 unfold Rc.contentB
 rw [List.length_append]
 omega
theorem record_sz {ct : ByteArray} (h : ct.size ≤ 602) {hd : List UInt8} (hh : hd.length = 32) : (Rc.textB ct ++ hd).length ≤ 1000 := by
 have := Rc.numB_10 ct.size (by omega)
 unfold Rc.textB
 have e : ct.data.toList.length = ct.size := by simp
 rw [List.length_append, List.length_append, e]
 omega
end Go.Proofs.YtdmicblafmhflaaGreatDoor
/- Engine.Apply: its regions' blocks. -/
namespace Go.Proofs.YtdmicblafmhflaaGreatDoor
open Go.RowKit Go.Maps
structure AI (w1 : World) (b : Option Nat) (W : World) : Prop where
 bel : Below w1.heap.size w1 W
 blk : ∀ x, b = some x → w1.heap.size ≤ x ∧ ∃ Z, W.heap[x]? = some (.cells Z 107 (0, 0)) ∧ Z.size = 36
theorem AI.below {w1 W w' : World} {b : Option Nat} (h : AI w1 b W) (hb : Below W.heap.size W w') : AI w1 b w' := by
 refine ⟨h.bel.trans (hb.mono h.bel.size), ?_⟩
 intro x hx
 obtain ⟨h1, Z, h2, h3⟩ := h.blk x hx
 exact ⟨h1, Z, by rw [hb.block _ (lt_of_heap h2)]; exact h2, h3⟩
theorem AI.drew {w1 W : World} {b : Option Nat} (h : AI w1 b W) : AI w1 b W.drew := h.below (Below.refl _ _).drew
theorem AI.alloc {w1 W : World} {Z : Array Value} (h : AI w1 none W) (hz : Z.size = 36) : AI w1 (some W.heap.size) (W.alloc (.cells Z 107)) := by
 have h2 := h.below (w' := W.alloc (.cells Z 107)) ((Below.refl _ _).alloc (Nat.le_refl _) _)
 refine ⟨h2.bel, ?_⟩
 intro x hx
 simp only [Option.some.injEq] at hx
 subst hx
 exact ⟨h.bel.size, Z, heap_alloc_new _ _, hz⟩
theorem AI.stored {w1 W : World} {x : Nat} {cs : Array Value} (h : AI w1 (some x) W) (hc : cs.size = 36) : Below w1.heap.size w1 (W.setCells x 0 cs.toList) := by
 obtain ⟨h1, Z, h2, h3⟩ := h.blk x rfl
 obtain ⟨hh, hk⟩ := setCells_heap x cs.toList 0 Z W h2 (by simp; omega)
 exact hk.to_below h.bel h.bel.size (by simpa using h1)
theorem stEqA_of {w1 W : World} {b : Option Nat} {cs : Array Value} (h : AI w1 b W) (hc : cs.size = 36) (h1 : ∀ v, v ∈ cs.toList → v.oneCell' = true) : StEq cs b W := by
 cases b with
 | some x =>
  obtain ⟨_, Z, h2, h3⟩ := h.blk x rfl
  exact run_store_state h2 h3 hc h1
 | none =>
  intro Z hZ
  exact run_store_state (heap_alloc_new _ _) hZ hc h1
structure AE (w1 : World) (kl : List Ax.KRule) (gv : Nat → Bool) (hm : Nat) (b : Option Nat) (W : World) : Prop where
 ai : AI w1 b W
 out : ∃ T s, HAt W hm T s ∧ En.Inv (En.sR (En.nRules kl)) (En.gF gv) s s.found.length ∧ (∀ p, p ∈ T.map prHT ↔ p ∈ gPr) ∧ ∀ x, b = some x → ∀ y, y ∈ hallfoot hm T → y ≠ x
theorem AE.alloc {w1 W : World} {kl : List Ax.KRule} {gv : Nat → Bool} {hm : Nat} {Z : Array Value} (h : AE w1 kl gv hm none W) (hz : Z.size = 36) : AE w1 kl gv hm (some W.heap.size) (W.alloc (.cells Z 107)) := by
 obtain ⟨T, s, e1, e2, e3, e4⟩ := h.out
 refine ⟨h.ai.alloc hz, T, s, e1.below ((Below.refl _ _).alloc (Nat.le_refl _) _), e2, e3, ?_⟩
 intro x hx y hy e
 simp only [Option.some.injEq] at hx
 have := e1.lt hy
 omega
structure ACut (w1 : World) (kl : List Ax.KRule) (gv : Nat → Bool) (pl : ByteArray) (rv : Value) (gm : Nat) (hd : List UInt8) (v8 v10 : Value) (wx : World) : Prop where
 v8 : v8 = .bool true
 out : ∃ x hm T s, v10 = .pointer (some ⟨x, 0, none⟩) ∧ w1.heap.size ≤ x ∧ wx.heap[x]? = some (.cells (stCells pl rv gm hm hd) 107 (0, 0)) ∧ HAt wx hm T s ∧ En.Inv (En.sR (En.nRules kl)) (En.gF gv) s s.found.length ∧ (∀ p, p ∈ T.map prHT ↔ p ∈ gPr) ∧ Below w1.heap.size w1 wx
theorem AE.cut {w1 W : World} {kl : List Ax.KRule} {gv : Nat → Bool} {pl : ByteArray} {rv : Value} {gm hm x : Nat} {hd : List UInt8} (h : AE w1 kl gv hm (some x) W) (hh : hd.length = 32) : ACut w1 kl gv pl rv gm hd (.bool true) (.pointer (some ⟨x, 0, none⟩)) (W.setCells x 0 (stCells pl rv gm hm hd).toList) := by
 obtain ⟨hx1, Z, h2, h3⟩ := h.ai.blk x rfl
 obtain ⟨T, s, e1, e2, e3, e4⟩ := h.out
 obtain ⟨hh', hk⟩ := setCells_heap x (stCells pl rv gm hm hd).toList 0 Z W h2 (by simp [stCells_size _ _ _ _ hh, h3])
 exact ⟨rfl, x, hm, T, s, rfl, hx1, state_stored h2 h3 (stCells_size _ _ _ _ hh), e1.kept hk (fun b hb => by simpa using e4 x rfl b hb), e2, e3, h.ai.stored (stCells_size _ _ _ _ hh)⟩
theorem eg_cells {w : World} {eg : Nat} {pl : ByteArray} {rv : Value} {gm hm : Nat} {hd : List UInt8} {lv : Value} {fr : Nat × Nat} (h : w.heap[eg]? = some (.cells (egCells pl rv gm hm hd lv) 109 fr)) (hh : hd.length = 32) :
 w.cell? ⟨eg, 0, none⟩ = some (.string pl) ∧ w.cell? ⟨eg, 1, none⟩ = some rv ∧ w.cell? ⟨eg, 2, none⟩ = some (.map (some gm)) ∧ w.cell? ⟨eg, 3, none⟩ = some (.map (some hm)) ∧ w.rangeAt eg 4 (Rc.u8s hd) ∧ w.cell? ⟨eg, 36, none⟩ = some lv := by
 have hu : (Rc.u8s hd).length = 32 := by rw [Rc.u8s_len, hh]
 refine ⟨?_, ?_, ?_, ?_, ?_, ?_⟩
 · rw [cell_of_row _ _ _ _ _ _ h]; rfl
 · rw [cell_of_row _ _ _ _ _ _ h]; rfl
 · rw [cell_of_row _ _ _ _ _ _ h]; rfl
 · rw [cell_of_row _ _ _ _ _ _ h]; rfl
 · intro j v hv
   have hj : j < 32 := by rw [← hu]; exact (List.getElem?_eq_some_iff.1 hv).1
   rw [cell_of_row _ _ _ _ _ _ h]
   unfold egCells
   rw [List.getElem?_toArray, List.append_assoc, List.getElem?_append_right (by simp), List.getElem?_append_left (by simp [hu]; omega)]
   simpa using hv
 · rw [cell_of_row _ _ _ _ _ _ h]
   unfold egCells
   rw [List.getElem?_toArray, List.getElem?_append_right (by simp [hu])]
   simp [hu]
theorem egCells_size (pl : ByteArray) (rv : Value) (gm hm : Nat) {hd : List UInt8} (lv : Value) (h : hd.length = 32) : (egCells pl rv gm hm hd lv).size = 37 := by simp [egCells, Rc.u8s_len, h]
theorem eg_stored {w : World} {eg : Nat} {pl pl' : ByteArray} {rv rv' : Value} {gm hm gm' hm' : Nat} {hd hd' : List UInt8} {lv : Value} (h : w.heap[eg]? = some (.cells (egCells pl rv gm hm hd lv) 109 (0, 0))) (hh : hd.length = 32) (hh' : hd'.length = 32) :
 (w.setCells eg 0 (stCells pl' rv' gm' hm' hd').toList).heap[eg]? = some (.cells (egCells pl' rv' gm' hm' hd' lv) 109 (0, 0)) ∧ Kb [eg] w (w.setCells eg 0 (stCells pl' rv' gm' hm' hd').toList) := by
 obtain ⟨h1, h2⟩ := setCells_heap eg (stCells pl' rv' gm' hm' hd').toList 0 _ w h (by simp [stCells_size _ _ _ _ hh', egCells_size _ _ _ _ _ hh])
 refine ⟨?_, h2⟩
 rw [h1]
 have e : (egCells pl rv gm hm hd lv).toList.drop (0 + (stCells pl' rv' gm' hm' hd').toList.length) = [lv] := by
  rw [Array.length_toList, stCells_size _ _ _ _ hh']
  unfold egCells
  have hu : (Rc.u8s hd).length = 32 := by rw [Rc.u8s_len, hh]
  rw [List.toList_toArray, List.drop_append_of_le_length (by simp [hu])]
  rw [List.drop_eq_nil_of_le (by simp [hu])]
  rfl
 rw [e]
 congr 2
theorem eg_log {w : World} {eg : Nat} {pl : ByteArray} {rv : Value} {gm hm : Nat} {hd : List UInt8} {lv : Value} (h : w.heap[eg]? = some (.cells (egCells pl rv gm hm hd lv) 109 (0, 0))) (hh : hd.length = 32) (v : Value) :
 (w.setCell ⟨eg, 36, none⟩ v).heap[eg]? = some (.cells (egCells pl rv gm hm hd v) 109 (0, 0)) := by
 rw [setCell_heap w h 36 v]
 have hu : (Rc.u8s hd).length = 32 := by rw [Rc.u8s_len, hh]
 have e : (egCells pl rv gm hm hd lv).setIfInBounds 36 v = egCells pl rv gm hm hd v := by
  unfold egCells
  rw [List.setIfInBounds_toArray, List.set_append_right _ _ (by simp [hu])]
  simp [hu]
 rw [e]
theorem rangeAt_off {W : World} {x o eg : Nat} {cs : List Value} (h : W.rangeAt x o cs) (hne : x ≠ eg) (k : Nat) (v : Value) : (W.setCell ⟨eg, k, none⟩ v).rangeAt x o cs := World.rangeAt_setCells_apart h eg k [v] (.inl hne)
theorem headB_len (K : Nat → Int) (a : List UInt8) (c : ByteArray) : (headB K a c).length = 32 := Dg.shaB_len _ _
end Go.Proofs.YtdmicblafmhflaaGreatDoor
/- Engine.Apply, walked. -/
namespace Go.Proofs.YtdmicblafmhflaaGreatDoor
open Go.RowKit Go.Maps
set_option maxRecDepth 100000 in
set_option maxHeartbeats 4000000 in
theorem apply_any (K : Nat → Int) (w : World) (B eg : Nat) (kl : List Ax.KRule) (gv : Nat → Bool) (n : Nat) (hE : Eng w B eg kl gv n) (hn : n ≤ 2000000) (hK : Dg.Tab w K) (hU : UTabs w)
 (cd : Option Addr) (cc : Nat) (come : List FI) (gd : Option Addr) (gc : Nat) (gone : List FI) (hcf : FactsIn w cd cc come) (hgf : FactsIn w gd gc gone) (ci gi : List Nat) (hci : FIdx come ci) (hgi : FIdx gone gi) (hcl : come.length ≤ 30) (hgl : gone.length ≤ 30) :
 Calls Tryz.prog 38 #[.pointer (some ⟨eg, 0, none⟩), .slice cd come.length cc, .slice gd gone.length gc] w fun e w' => e = .returned (.int .i64 0) ∧ Eng w' B eg kl (setAllG (setAllG gv ci true) gi false) (n + 1) ∧ EKb w w' ∧ Below B w w' := by
 obtain ⟨pl, rd, rc, l, gm, G, hm, T, s, hd, lv, ln, lx, eb, hin, he, hG, hR, hH, hI, hT, hd32, hlog, hln, hpl9⟩ := hE.at_
 have HPN : Hid (pl = Ax.gtext kl) := hpl9
 clear hpl9
 have hBe := hE.ge
 obtain ⟨k0, k1, k2, k3, k4, k5⟩ := eg_cells eb hd32
 have hegl := lt_of_heap eb
 generalize hgv : setAllG (setAllG gv ci true) gi false = gv2
 have HCH : Hid (Calls Tryz.prog 68 #[.pointer (some ⟨eg, 0, none⟩), .slice cd come.length cc, .slice gd gone.length gc] w fun e w' => ∃ gm', e = .returned (.tuple #[.map (some gm'), .bool true]) ∧ Hid (ChW w w' gm' gv2)) := by
  refine (changed_any w eg gm hm G gv T s k2 k3 hG hR hH hT hU cd cc come gd gc gone hcf hgf ci gi hci hgi (by omega) (by omega)).mono ?_
  rintro e w' ⟨gm', rfl, h⟩
  rw [hgv] at h
  exact ⟨gm', rfl, h⟩
 obtain ⟨ct, hct⟩ : ∃ ct : ByteArray, ct = ⟨(Rc.contentB come gone).toArray⟩ := ⟨_, rfl⟩
 have hcts : ct.size ≤ 602 := by
  have := contentB_sz hci hgi hcl hgl
  rw [hct]
  exact this
 have HCT : Hid (∀ W, Below w.heap.size w W → Calls Tryz.prog 69 #[.slice cd come.length cc, .slice gd gone.length gc] W fun e w' => e = .returned (.string ct) ∧ Below W.heap.size W w') := by
  intro W hW
  rw [hct]
  exact content_any W cd cc come gd gc gone (hcf.below hW) (hgf.below hW) (hci.small hcl) (hgi.small hgl)
 obtain ⟨hd2, hhd2⟩ : ∃ hd2, hd2 = headB K hd ct := ⟨_, rfl⟩
 have hd232 : hd2.length = 32 := by rw [hhd2]; exact headB_len _ _ _
 have HHE : Hid (∀ w1 b W, Below w.heap.size w w1 → AI w1 b W → Calls Tryz.prog 70 #[.agg (Rc.u8s hd).toArray, .string ct] W fun e w' => e = .returned (.agg (Rc.u8s hd2).toArray) ∧ AI w1 b w') := by
  intro w1 b W hw1 hW
  rw [hhd2]
  refine (rcHead_any K W hd ct (hK.below (hw1.trans (hW.bel.mono hw1.size))) hd32 (by omega)).mono ?_
  rintro e w' ⟨rfl, hb⟩
  exact ⟨rfl, hW.below hb⟩
 have HMK : Hid (∀ w1 gm' b W, ChW w w1 gm' gv2 → AI w1 b W → Calls Tryz.prog 57 #[.agg #[.string pl, .slice rd l.length rc], .map (some gm'), .agg (Rc.u8s hd2).toArray] W fun e w' => ∃ hm', e = .returned (.tuple #[.agg (stCells pl (.slice rd l.length rc) gm' hm' hd2), .bool true]) ∧ StEq (stCells pl (.slice rd l.length rc) gm' hm' hd2) b w' ∧ AE w1 kl gv2 hm' b w') := by
  intro w1 gm' b W hC hW
  obtain ⟨N, g1, g2, g3⟩ := hC.at_
  have hbW : Below w.heap.size w W := hC.bel.trans (hW.bel.mono hC.bel.size)
  have g1' := g1.below hW.bel
  obtain ⟨hrs, _, hl8⟩ := rulesS_gen (hin.below hbW) he
  have hne : l ≠ [] := by
   rintro rfl
   simp [Ax.gR, Ax.gbase] at he
  have hok : ∀ Q, Pd.Srt Q → (∀ p, p ∈ Q ↔ p ∈ prsOf (l.map MR.rule)) → ∃ s, msearch (l.map MR.rule) (glOf Q N) = some s ∧ En.Inv (En.sR (En.nRules kl)) (En.gF gv2) s s.found.length := fun Q _ hQ => msearch_gen he g2 g1.names hQ
  refine (make_any W _ rd rc l hrs hl8 (prs_one he) hne (fun p hp => Nat.le_trans (gPr_short p ((prs_gen he p).1 hp)) (by decide)) gm' N g1' ?_ (Nat.le_trans (g2.sum g1.names (fun t ht => TabAt.ord (g1.tabs t ht))) (by decide)) hd2 hd232 ?_).mono ?_
  · intro p hp
    obtain ⟨t, ht, e, _⟩ := g2.has (p := p.1) (n := p.2) ((prs_gen he p).1 hp)
    rw [← e]
    exact List.mem_map_of_mem ht
  · intro Q h1 h2
    obtain ⟨s, e, _⟩ := hok Q h1 h2
    rw [e]
    rfl
  · rintro e w' ⟨hm', T', s', Q, rfl, m1, m2, m3, m4, m5, m6, m7⟩
    have h2 := hW.below m7
    obtain ⟨s2, e1, e2⟩ := hok Q m1 m2
    have hs : s2 = s' := by
     rw [m3] at e1
     exact (Option.some.inj e1).symm
    subst hs
    refine ⟨hm', rfl, stEqA_of h2 (stCells_size _ _ _ _ hd232) (stCells_one _ _ _ _ _ _ _), h2, T', s2, m4, e2, ?_, ?_⟩
    · intro p
      rw [m5, List.mem_reverse, m2]
      exact prs_gen he p
    · intro x hx y hy
      obtain ⟨_, Z, k2, _⟩ := hW.blk x hx
      have k3 := lt_of_heap k2
      have := m6 y hy
      omega
 have HEB : Hid (w.heap[eg]? = some (.cells (egCells pl (.slice rd l.length rc) gm hm hd lv) 109 (0, 0))) := eb
 have HIN : Hid (RulesIn w rd rc l) := hin
 have HE : Hid ((l.map MR.rule).map Ax.erR = Ax.gR kl) := he
 have HLG : Hid (w.ownsRow B 5 1 lv ln lx) := hlog
 have hlen : come.length + gone.length ≤ 60 := by omega
 have hcap1 := ownsRow_le hcf.row
 have hcap2 := ownsRow_le hgf.row
 clear hE eb hin he hG hR hH hI hT hlog hK hU hcf hgf hci hgi hgv hct hhd2 k4 k5 k2 k3
 go_enter Tryz.func38, Tryz.ntmps38
 go_upto_region 7 with (first | (go_at_call 68; refine HCH.out.mono ?_; rintro e w0 ⟨gm', rfl, HC0⟩) | (go_at_call 69; refine (HCT.out _ (by exact HC0.out.bel)).mono ?_; rintro e w1 ⟨rfl, hb1⟩))
 have HC1 : Hid (ChW w w1 gm' gv2) := HC0.out.below hb1
 have HB1 : Hid (Below w.heap.size w w1) := HC1.out.bel
 have hA1 : AI w1 none w1 := ⟨Below.refl _ _, fun x h => by cases h⟩
 have HCE : Hid (∀ W, Below w1.heap.size w1 W → W.cell? ⟨eg, 0, none⟩ = some (.string pl) ∧ W.cell? ⟨eg, 1, none⟩ = some (.slice rd l.length rc) ∧ W.rangeAt eg 4 (Rc.u8s hd)) := by
  intro W hW
  have hb := HB1.out.trans (hW.mono HB1.out.size)
  have h9 : W.heap[eg]? = some (.cells (egCells pl (.slice rd l.length rc) gm hm hd lv) 109 (0, 0)) := by rw [hb.block _ hegl]; exact HEB.out
  obtain ⟨q0, q1, q2, q3, q4, q5⟩ := eg_cells h9 hd32
  exact ⟨q0, q1, q4⟩
 have hu5 := Tryz.underlying105
 have hinf : (Tryz.prog.info? 105).map (·.size) = some (Rc.u8s hd).length := by
  rw [Rc.u8s_len, hd32]
  kernel_rfl
 clear HCH HCT hb1 HC0
 go_cut [8, 10] from 29 (fun v8 v10 wx => Hid (ACut w1 kl gv2 pl (.slice rd l.length rc) gm' hd2 v8 v10 wx))
 case first =>
  go_region_held3 (fun W => W.cell? ⟨eg, 0, none⟩ = some (.string pl) ∧ W.cell? ⟨eg, 1, none⟩ = some (.slice rd l.length rc) ∧ W.rangeAt eg 4 (Rc.u8s hd)) (first | (exact HCE.out _ (AI.bel (by assumption))) | (exact HCE.out _ (AI.bel (AI.drew (by assumption)))) | (exact HCE.out _ (AI.bel (AI.alloc (by assumption) rfl))) | (exact HCE.out _ (AI.bel (AI.alloc (AI.drew (by assumption)) rfl))) | (exact HCE.out _ (AI.bel (AE.ai (by assumption)))) | (exact HCE.out _ (AI.bel (AE.ai (AE.alloc (by assumption) rfl)))) | (exact HCE.out _ (AI.stored (AE.ai (by assumption)) (stCells_size _ _ _ _ hd232))) | (exact HCE.out _ (AI.stored (AE.ai (AE.alloc (by assumption) rfl)) (stCells_size _ _ _ _ hd232)))) (first | (go_at_call 70; refine (HHE.out _ _ _ HB1.out (by first | assumption | exact AI.drew (by assumption) | exact AI.alloc (by assumption) rfl | exact AI.alloc (AI.drew (by assumption)) rfl)).mono ?_; rintro e wn ⟨rfl, hN⟩) | (go_at_call 57; refine (HMK.out _ _ _ _ HC1.out (by first | assumption | exact AI.drew (by assumption) | exact AI.alloc (by assumption) rfl | exact AI.alloc (AI.drew (by assumption)) rfl)).mono ?_; rintro e wn ⟨hm', rfl, hst, hE⟩; unfold StEq at hst; dsimp only at hst; (try simp only [World.size_drew] at hst); have hsz := stCells_size pl (.slice rd l.length rc) gm' hm' hd232))
  all_goals
   (go_wp2_with fail
    go_meet
    first
    | exact AE.cut (by assumption) hd232
    | exact AE.cut (AE.alloc (by assumption) rfl) hd232)
 case rest =>
  obtain ⟨hv8, x, hm', T', s', hv10, hx1, hx, hH', hI', hT', hbx⟩ := hcut.out
  subst hv8
  subst hv10
  have hbw : Below w.heap.size w wc := HB1.out.trans (hbx.mono HB1.out.size)
  have hebc : wc.heap[eg]? = some (.cells (egCells pl (.slice rd l.length rc) gm hm hd lv) 109 (0, 0)) := by rw [hbw.block _ hegl]; exact HEB.out
  obtain ⟨hst, hkst⟩ := eg_stored (pl' := pl) (rv' := .slice rd l.length rc) (gm' := gm') (hm' := hm') hebc hd32 hd232
  have hsz := stCells_size pl (.slice rd l.length rc) gm' hm' hd232
  have HTH : Hid (wc.there eg 0 (stCells pl (.slice rd l.length rc) gm' hm' hd2).size) := by
   intro j hj
   rw [cell_of_row _ _ _ _ _ _ hebc]
   refine ⟨?_, by simp [World.frozen?, hebc]⟩
   rw [Nat.zero_add, Array.getElem?_eq_getElem (by rw [egCells_size _ _ _ _ _ hd32]; omega)]
   rfl
  have HON : Hid ((stCells pl (.slice rd l.length rc) gm' hm' hd2).all (·.oneCell') = true) := Array.all_eq_true_iff_forall_mem.2 (fun v hv => stCells_one _ _ _ _ _ _ _ v (by simpa using hv))
  have HISZ : Hid ((Tryz.prog.info? 107).map (·.size) = some (stCells pl (.slice rd l.length rc) gm' hm' hd2).size) := by
   rw [hsz]
   exact (by kernel_rfl : (Tryz.prog.info? 107).map (·.size) = some 36)
  obtain ⟨w3, hw3⟩ : ∃ w3, w3 = wc.setCells eg 0 (stCells pl (.slice rd l.length rc) gm' hm' hd2).toList := ⟨_, rfl⟩
  rw [← hw3] at hst hkst
  have hxe : x ≠ eg := by have := HB1.out.size; omega
  have hx3 : w3.heap[x]? = some (.cells (stCells pl (.slice rd l.length rc) gm' hm' hd2) 107 (0, 0)) := hkst.heap hx (by simpa using hxe)
  obtain ⟨_, _, _, _, _, q36⟩ := eg_cells hst hd232
  have hr3 : w3.rangeAt x 4 (Rc.u8s hd2) := by
   intro j v hv
   have hu : (Rc.u8s hd2).length = 32 := by rw [Rc.u8s_len, hd232]
   have hj : j < 32 := by rw [← hu]; exact (List.getElem?_eq_some_iff.1 hv).1
   rw [cell_of_row _ _ _ _ _ _ hx3]
   unfold stCells
   rw [List.getElem?_toArray, List.getElem?_append_right (by simp)]
   simpa using hv
  have hekb3 : EKb w w3 := (EKb.of_below hbw).trans (EKb.of_kb hkst hebc)
  have hB3 : Below B w w3 := hkst.to_below (hbw.mono (by omega)) (by have := hbw.size; omega) (by simpa using hBe)
  have HLG3 : Hid (w3.ownsRow B 5 1 lv ln lx) := hkst.row_type (ownsRow_below HLG.out hbw) (fun b cur fz hb e => by
   simp at hb
   subst hb
   rw [hebc] at e
   simp at e)
  have HAP : Hid (∀ W, Below w3.heap.size w3 W → Calls Tryz.prog 71 #[lv, .string ct, .agg (Rc.u8s hd2).toArray] W fun e w4 => ∃ vd vn vc, e = .returned (.slice vd vn vc) ∧ w4.cell? ⟨eg, 36, none⟩ = some lv ∧ w4.frozen? ⟨eg, 36, none⟩ = false ∧ w4.rangeAt x 4 (Rc.u8s hd2) ∧ Hid (Eng (w4.setCell ⟨eg, 36, none⟩ (.slice vd vn vc)) B eg kl gv2 (n + 1) ∧ EKb w (w4.setCell ⟨eg, 36, none⟩ (.slice vd vn vc)) ∧ Below B w (w4.setCell ⟨eg, 36, none⟩ (.slice vd vn vc)))) := by
   intro W hW
   have hBs : B ≤ W.heap.size := by have := hW.size; have := hB3.size; omega
   refine (rcAppend_any B W lv ln lx ct hd2 (ownsRow_below HLG3.out hW) hBs (by omega) (by omega) hd232).mono ?_
   rintro e w4 ⟨v', n', rfl, hon⟩
   obtain ⟨vd, vc, rfl⟩ := ownsRow_shape hon.own
   have h34 : EKb w3 w4 := (EKb.of_below hW).trans (EKb.of_others hon.oth hon.bel)
   have hst4 : w4.heap[eg]? = some (.cells (egCells pl (.slice rd l.length rc) gm' hm' hd2 lv) 109 (0, 0)) := hon.oth eg _ (by rw [hW.block _ (lt_of_heap hst)]; exact hst) (by simp) (fun c fz e => by simp at e)
   have hx4 : w4.heap[x]? = some (.cells (stCells pl (.slice rd l.length rc) gm' hm' hd2) 107 (0, 0)) := h34.heap hx3 (offE_cells (by decide) (by decide))
   have hlog5 := eg_log hst4 hd232 (.slice vd n' vc)
   have hk45 : Kb [eg] w4 (w4.setCell ⟨eg, 36, none⟩ (.slice vd n' vc)) := Kb.setCell w4 ⟨eg, 36, none⟩ _
   have h35 : EKb w3 (w4.setCell ⟨eg, 36, none⟩ (.slice vd n' vc)) := h34.trans (EKb.of_kb hk45 hst4)
   have hc5 : EKb wc (w4.setCell ⟨eg, 36, none⟩ (.slice vd n' vc)) := (EKb.of_kb hkst hebc).trans h35
   have hB4 : Below B w w4 := (hB3.trans (hW.mono (by have := hB3.size; omega))).trans hon.bel
   obtain ⟨N, g1, g2, g3⟩ := HC1.out.at_
   refine ⟨vd, n', vc, rfl, (eg_cells hst4 hd232).2.2.2.2.2, by simp [World.frozen?, hst4], ?_, ⟨⟨⟨pl, rd, rc, l, gm', N, hm', T', s', hd2, .slice vd n' vc, n', _, hlog5, (HIN.out.below hbw).ekb hc5, HE.out, (g1.below hbx).ekb hc5, g2, hH'.ekb hc5, hI', hT', hd232, hk45.row_type hon.own ?_, ?_, HPN.out⟩, hBe⟩, hekb3.trans h35, hk45.to_below hB4 (by have := hB4.size; omega) (by simpa using hBe)⟩⟩
   · intro j v hv
     have hu : (Rc.u8s hd2).length = 32 := by rw [Rc.u8s_len, hd232]
     rw [cell_of_row _ _ _ _ _ _ hx4]
     unfold stCells
     rw [List.getElem?_toArray, List.getElem?_append_right (by simp)]
     simpa using hv
   · intro b cur fz hb e
     simp at hb
     subst hb
     rw [hst4] at e
     simp at e
   · have h7 := hon.len
     have h8 := HLG3.out.1
     have h9 := record_sz hcts hd232
     rw [List.length_append, Rc.u8s_len] at h7
     omega
  have HX1 : Hid (w1.heap.size ≤ x) := hx1
  have hinf2 : (Tryz.prog.info? 105).map (·.size) = some (Rc.u8s hd2).length := by
   rw [Rc.u8s_len, hd232]
   kernel_rfl
  have hx3l := lt_of_heap hx3
  have hel3 : eg < w3.heap.size := lt_of_heap hst
  clear hcut hH' hI' hT' hbx hbw hst hkst hebc hekb3 hB3 hx3 HHE HMK HCE hx1
  go_wp2_with (first | (refine wpList_load_row rfl _ _ rfl x rfl _ _ _ _ hx Tryz.underlying107 rfl (by rw [hsz]; kernel_rfl) ?_) | (refine wpList_store_mid rfl 107 (.tmp 51) (.tmp 49) rfl eg 0 (stCells pl (.slice rd l.length rc) gm' hm' hd2) rfl rfl HTH.out HISZ.out HON.out ?_))
  rw [← hw3]
  clear hw3 hx
  refine wp_region_noPanic ?_
  refine wp_region_held_drew (S := fun W => W.rangeAt x 4 (Rc.u8s hd2)) (by kernel_rfl) hr3 (fun hHeld => ?_)
  refine wpAnyH_take (i := 0) (v := ?_) rfl (by kernel_rfl) (by kernel_rfl) (by kernel_rfl) (fun _ _ _ h => h) (Or.inl ⟨by rfl, ?_⟩) (by assumption) ?_
  rotate_left
  · intro wS hSw
    go_simp
    with_reducible rfl
  simp only [Act.put, List.setIfInBounds_toArray, List.set_cons_zero, List.set_cons_succ]
  refine wpAnyH_take (i := 1) (v := ?_) rfl (by kernel_rfl) (by kernel_rfl) (by kernel_rfl) (fun _ _ _ h => h) (Or.inl ⟨by rfl, ?_⟩) (by assumption) ?_
  rotate_left
  · intro wS hSw
    go_simp
    with_reducible rfl
  simp only [Act.put, List.setIfInBounds_toArray, List.set_cons_zero, List.set_cons_succ]
  refine wpAnyH_take (i := 2) (v := ?_) rfl (by kernel_rfl) (by kernel_rfl) (by kernel_rfl) (fun _ _ _ h => h) (Or.inl ⟨by rfl, ?_⟩) (by assumption) ?_
  rotate_left
  · intro wS hSw
    go_simp
    with_reducible rfl
  simp only [Act.put, List.setIfInBounds_toArray, List.set_cons_zero, List.set_cons_succ]
  refine wpAnyH_take (i := 3) (v := ?_) rfl (by kernel_rfl) (by kernel_rfl) (by kernel_rfl) (fun _ _ _ h => h) (Or.inl ⟨by rfl, ?_⟩) (by assumption) ?_
  rotate_left
  · intro wS hSw
    go_simp
    with_reducible rfl
  simp only [Act.put, List.setIfInBounds_toArray, List.set_cons_zero, List.set_cons_succ]
  refine wpAnyH_take (i := 5) (v := ?_) rfl (by kernel_rfl) (by kernel_rfl) (by kernel_rfl) (fun _ _ _ h => h) (Or.inl ⟨by rfl, ?_⟩) (by assumption) ?_
  rotate_left
  · intro wS hSw
    go_simp
    with_reducible rfl
  simp only [Act.put, List.setIfInBounds_toArray, List.set_cons_zero, List.set_cons_succ]
  refine wpAnyH_take (i := 6) (v := ?_) rfl (by kernel_rfl) (by kernel_rfl) (by kernel_rfl) (fun _ _ _ h => h) (Or.inl ⟨by rfl, ?_⟩) (by assumption) ?_
  rotate_left
  · intro wS hSw
    go_simp
    with_reducible rfl
  simp only [Act.put, List.setIfInBounds_toArray, List.set_cons_zero, List.set_cons_succ]
  refine wpAnyH_take (i := 7) rfl (by kernel_rfl) (by kernel_rfl) (by kernel_rfl) (fun _ _ _ h => h) (yieldsIf_load_mid (by rfl) _ _ rfl x 4 rfl (Rc.u8s hd2) _ (fun _ h => h) hu5 rfl hinf2) (by assumption) ?_
  simp only [Act.put, List.setIfInBounds_toArray, List.set_cons_zero, List.set_cons_succ]
  refine wpAnyH_ready (rs := [4]) (by kernel_rfl) (by simp) ?_
  refine AllReadyH.cons rfl (fun Kq hKq => ?_) AllReadyH.nil
  go_simp
  refine hKq.out _ _ hr3 (fun hHeld2 => ?_)
  clear hKq Kq
  refine wpAnyH_ready (rs := [8]) (by kernel_rfl) (by simp) ?_
  refine AllReadyH.cons rfl (fun Kq hKq => ?_) AllReadyH.nil
  go_simp
  refine (HAP.out _ (by exact (Below.refl _ _).drew)).mono ?_
  rintro e w4 ⟨vd, vn, vc, rfl, c36, f36, hr4, HF⟩
  refine hKq.out _ _ hr4 (fun hHeld3 => ?_)
  clear hKq Kq hHeld hHeld2
  refine wpAnyH_take (i := 9) (v := ?_) rfl (by kernel_rfl) (by kernel_rfl) (by kernel_rfl) (fun _ _ _ h => h) (Or.inl ⟨by rfl, ?_⟩) (by assumption) ?_
  rotate_left
  · intro wS hSw
    go_simp
    with_reducible rfl
  simp only [Act.put, List.setIfInBounds_toArray, List.set_cons_zero, List.set_cons_succ]
  refine wpAnyH_take (i := 10) (v := ?_) rfl (by kernel_rfl) (by kernel_rfl) (by kernel_rfl) (fun _ _ _ h => h) (Or.inl ⟨by rfl, ?_⟩) (by assumption) ?_
  rotate_left
  · intro wS hSw
    go_simp
    with_reducible rfl
  simp only [Act.put, List.setIfInBounds_toArray, List.set_cons_zero, List.set_cons_succ]
  refine wpAnyH_ready (rs := [11]) (by kernel_rfl) (by simp) ?_
  refine AllReadyH.cons rfl (fun Kq hKq => ?_) AllReadyH.nil
  go_simp
  refine hKq.out _ _ (rangeAt_off hr4 hxe _ _) (fun hHeld4 => ?_)
  clear hKq Kq
  refine wpAnyH_done (by kernel_rfl) ?_ _
  refine NoPanic.normal ?_
  go_wp2_with fail
  go_ret
  exact ⟨rfl, HF.out⟩
end Go.Proofs.YtdmicblafmhflaaGreatDoor
