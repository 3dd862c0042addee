/- The rules that the program reads out of axiomkeep's text are axiomkeep's rules. No program here. -/
import Derived.Test.YtdmicblafmhflaaGreatDoorC12

namespace Go.Proofs.YtdmicblafmhflaaGreatDoor.En
set_option linter.unusedSimpArgs false
set_option linter.unusedVariables false
open Ax (gname gpred gvar gterm KFit KRule gpick gterms gbody ghead gtext gR gER gEA erR erA)
/-- a rule of the law, in numbers -/
def nOf (r : KRule) : NRule := ⟨(gpick r.head.pred 3, ghead r), (gbody r).map fun b => (gpick b.pred 3, gterms b)⟩
def nRules (l : List KRule) : List NRule := (l.take 6).map nOf
theorem gterms_lt (a : Ax.KAtom) : ∀ n, n ∈ gterms a → n < 7 := by
  intro n hn
  unfold gterms at hn
  split at hn
  · simp at hn; subst hn; exact Ax.gpick_lt _ 7 (by decide)
  · simp at hn; rcases hn with rfl | rfl <;> exact Ax.gpick_lt _ 7 (by decide)
theorem nOf_ok (r : KRule) : NOk (nOf r) where
  head := ⟨Ax.kfit_head r, by
    intro n hn
    obtain ⟨m, hm, rfl⟩ := List.mem_map.1 hn
    have := gterms_lt _ m hm
    split <;> omega⟩
  body := by
    intro b hb
    obtain ⟨a, ha, rfl⟩ := List.mem_map.1 hb
    exact ⟨Ax.kfit_terms a, gterms_lt a⟩
  two := by simp [nOf, gbody]; omega
  safe := by
    intro n hn h3
    obtain ⟨m, hm, rfl⟩ := List.mem_map.1 hn
    by_cases h : m < 3 ∧ ¬ m ∈ Ax.gvars r
    · simp only [h, not_false_eq_true, and_self, if_true] at h3; omega
    · simp only [h, if_false] at h3 ⊢
      have hm3 : m ∈ Ax.gvars r := by
        by_cases hc : m ∈ Ax.gvars r
        · exact hc
        · exact absurd ⟨h3, hc⟩ h
      obtain ⟨a, ha, hma⟩ := List.mem_flatMap.1 hm3
      exact ⟨_, List.mem_map.2 ⟨a, ha, rfl⟩, hma⟩
theorem nRules_ok (l : List KRule) : ∀ r, r ∈ nRules l → NOk r := by
  intro r hr
  obtain ⟨k, _, rfl⟩ := List.mem_map.1 hr
  exact nOf_ok k
theorem erR_toRule (r : KRule) : erR (toRule (nOf r)) = gER r := by
  simp [erR, erA, toRule, toAtom, nOf, gER, gEA]
theorem erR_all (l : List KRule) : (eR (nRules l)).map (fun r => erR (toRule r)) = gR l := by
  have h : ∀ l : List KRule, (l.map nOf).map (fun r => erR (toRule r)) = l.map gER := by
    intro l
    rw [List.map_map]
    exact List.map_congr_left fun r _ => erR_toRule r
  show erR (toRule b0) :: erR (toRule b1) :: ((l.take 6).map nOf).map (fun r => erR (toRule r)) = _
  rw [h]
  rfl
theorem amatch_er {a b : Ax.Atom} (h : erA a = erA b) (f : Fct) (e : Bind) : amatch a f e = amatch b f e := by
  simp only [erA, Prod.mk.injEq] at h
  unfold amatch
  rw [h.1, h.2]
theorem afact_er {a b : Ax.Atom} (h : erA a = erA b) (s : ByteArray → ByteArray) : afact s a = afact s b := by
  simp only [erA, Prod.mk.injEq] at h
  unfold afact
  rw [h.1, h.2]
theorem bodym_er : ∀ (az bs : List Ax.Atom), az.map erA = bs.map erA → ∀ (fs : List Fct) (e : Bind), bodym az fs e = bodym bs fs e
  | [], [], _, _, _ => rfl
  | [], b :: bs, h, _, _ => by simp at h
  | a :: az, [], h, _, _ => by simp at h
  | a :: az, b :: bs, h, fs, e => by
    simp only [List.map_cons, List.cons.injEq] at h
    cases fs with
    | nil => rfl
    | cons f fs =>
      unfold bodym
      rw [amatch_er h.1]
      cases amatch b f e with
      | none => rfl
      | some e' => exact bodym_er az bs h.2 fs e'
theorem srule_er {r q : Ax.Rule} (h : erR r = erR q) : srule r = srule q := by
  simp only [erR, Prod.mk.injEq] at h
  unfold srule
  have hl := congrArg List.length h.2
  simp only [List.length_map] at hl
  have hi : rinst r = rinst q := by
    funext fs
    unfold rinst
    rw [bodym_er _ _ h.2]
    cases bodym q.body fs [] with
    | none => rfl
    | some b => simp only [Option.map_some]; rw [afact_er h.1]
  rw [hl, hi]
theorem srules_er : ∀ (rs qs : List Ax.Rule), rs.map erR = qs.map erR → rs.map srule = qs.map srule
  | [], [], _ => rfl
  | [], q :: qs, h => by simp at h
  | r :: rs, [], h => by simp at h
  | r :: rs, q :: qs, h => by
    simp only [List.map_cons, List.cons.injEq] at h
    rw [List.map_cons, List.map_cons, srule_er h.1, srules_er rs qs h.2]
theorem srules_gen {l : List KRule} {rs : List Ax.Rule} (h : rs.map erR = gR l) : rs.map srule = sR (nRules l) := by
  have := srules_er rs ((eR (nRules l)).map toRule) (by rw [h, ← erR_all, List.map_map]; rfl)
  rw [this, List.map_map]
  rfl
end Go.Proofs.YtdmicblafmhflaaGreatDoor.En
namespace Go.Proofs.YtdmicblafmhflaaGreatDoor.Ax
set_option linter.unusedSimpArgs false
set_option linter.unusedVariables false
theorem lay_split {P : List ByteArray} {ar : ByteArray → Nat} {R : List ER} (hG : Good P ar R) (htok : ∀ x, x ∈ rulesI R → (itOf x).tok) (hkinds : ∀ x, x ∈ rulesI R → 0 ≤ x.1 ∧ x.1 ≤ 8) {t : ByteArray} (hL : Lay t 0 ((rulesI R).map itOf)) :
    (split t).map er = rulesI R ++ [((1, ⟨#[]⟩) : EI)] := by
  obtain ⟨m, h1, h2⟩ := lay_rtoks t _ hL (by intro y hy; obtain ⟨x, hx, rfl⟩ := List.mem_map.1 hy; exact htok x hx) (rulesI_apart hG)
  have hs : (split t).map (fun t => It.of (conv t)) = (rulesI R ++ [((1, ⟨#[]⟩) : EI)]).map itOf := by
    have e : (split t).map (fun t => It.of (conv t)) = ((split t).map conv).map It.of := by rw [List.map_map]; rfl
    rw [e, ← rtoks_split, h1, List.map_append, h2, List.map_append]
    rfl
  have hall : ∀ (l : List Tok) (E : List EI), Kinds l → (∀ x, x ∈ E → 0 ≤ x.1 ∧ x.1 ≤ 8) → l.map (fun t => It.of (conv t)) = E.map itOf → l.map er = E := by
    intro l
    induction l with
    | nil => intro E _ _ h; cases E with | nil => rfl | cons _ _ => simp at h
    | cons a l ih =>
      intro E h1 h2 h
      cases E with
      | nil => simp at h
      | cons x E =>
        simp only [List.map_cons, List.cons.injEq] at h
        rw [List.map_cons, itOf_er (h2 x (by simp)) (h1 a (by simp)) h.1, ih E (fun t ht => h1 t (by simp [ht])) (fun y hy => h2 y (by simp [hy])) h.2]
  exact hall (split t) _ (split_kinds t) (by
    intro x hx
    rcases List.mem_append.1 hx with hx | hx
    · exact hkinds x hx
    · simp at hx; subst hx; exact ⟨by decide, by decide⟩) hs
def bI (l : List EI) : Nat := (l.flatMap fun x => x.2.data.toList).length
theorem bI_app (a b : List EI) : bI (a ++ b) = bI a + bI b := by simp [bI]
theorem bI_cons (x : EI) (b : List EI) : bI (x :: b) = x.2.size + bI b := by
  simp only [bI, List.flatMap_cons, List.length_append, Array.length_toList]
  rfl
theorem bI_nil : bI [] = 0 := rfl
theorem gname_sz (n : Nat) : (gname n).size ≤ 2 := by unfold gname; split <;> decide
theorem gvar_sz (n : Nat) : (gvar n).size ≤ 2 := by unfold gvar; split <;> decide
theorem gpred_sz (n : Nat) : (gpred n).size ≤ 3 := by unfold gpred; split <;> decide
theorem gterm_sz (n : Nat) : (tI (gterm n)).2.size ≤ 2 := by
  show (gterm n).text.size ≤ 2
  unfold gterm
  split
  · exact gvar_sz n
  · exact gname_sz _
theorem one_sz (b : UInt8) : (⟨#[b]⟩ : ByteArray).size = 1 := rfl
theorem atomI_sz {p : Nat} {ts : List Nat} (h : KFit p ts) : bI (atomI (gEA p ts)) ≤ 12 := by
  have hp := gpred_sz p
  have hts : (∃ a, ts = [a]) ∨ ∃ a b, ts = [a, b] := by
    obtain ⟨_, h⟩ := h
    match ts with
    | [] => split at h <;> simp at h
    | [a] => exact .inl ⟨a, rfl⟩
    | [a, b] => exact .inr ⟨a, b, rfl⟩
    | _ :: _ :: _ :: _ => split at h <;> simp at h
  rcases hts with ⟨a, rfl⟩ | ⟨a, b, rfl⟩
  · have := gterm_sz a
    simp only [atomI, gEA, List.map_cons, List.map_nil, termsI, List.cons_append, List.nil_append, bI_cons, bI_nil, comma, one_sz]
    omega
  · have := gterm_sz a
    have := gterm_sz b
    simp only [atomI, gEA, List.map_cons, List.map_nil, termsI, List.cons_append, List.nil_append, bI_cons, bI_nil, comma, one_sz]
    omega
theorem ruleI_sz {r : ER} (h1 : ∃ p ts, r.1 = gEA p ts ∧ KFit p ts) (h2 : ∀ a, a ∈ r.2 → ∃ p ts, a = gEA p ts ∧ KFit p ts) (h3 : r.2.length ≤ 2) : bI (ruleI r) ≤ 60 := by
  obtain ⟨h, b⟩ := r
  obtain ⟨p, ts, e, hk⟩ := h1
  have hh := atomI_sz hk
  simp only at e h2 h3
  rw [← e] at hh
  have two : (⟨#[58, 45]⟩ : ByteArray).size = 2 := rfl
  match b, h2, h3 with
  | [], _, _ =>
    simp only [ruleI, if_true, bI_app, bI_cons, bI_nil, one_sz]
    omega
  | [a], h2, _ =>
    obtain ⟨q, us, e2, hk2⟩ := h2 a (by simp)
    have h4 := atomI_sz hk2
    rw [← e2] at h4
    have en : ([a] : List EA) ≠ [] := by simp
    simp only [ruleI, if_neg en, atomsI, bI_app, bI_cons, bI_nil, one_sz, two]
    omega
  | [a, c], h2, _ =>
    obtain ⟨q, us, e2, hk2⟩ := h2 a (by simp)
    have h4 := atomI_sz hk2
    rw [← e2] at h4
    obtain ⟨q, us, e3, hk3⟩ := h2 c (by simp)
    have h5 := atomI_sz hk3
    rw [← e3] at h5
    have en : ([a, c] : List EA) ≠ [] := by simp
    simp only [ruleI, if_neg en, atomsI, bI_app, bI_cons, bI_nil, one_sz, two, comma]
    omega
theorem rulesI_sz : ∀ R : List ER, (∀ r, r ∈ R → (∃ p ts, r.1 = gEA p ts ∧ KFit p ts) ∧ (∀ a, a ∈ r.2 → ∃ p ts, a = gEA p ts ∧ KFit p ts) ∧ r.2.length ≤ 2) → bI (rulesI R) ≤ 60 * R.length
  | [], _ => by simp [rulesI, bI]
  | r :: R, h => by
    have h1 := rulesI_sz R (fun q hq => h q (by simp [hq]))
    obtain ⟨a, b, c⟩ := h r (by simp)
    have h2 := ruleI_sz a b c
    have e : rulesI (r :: R) = ruleI r ++ rulesI R := by simp [rulesI]
    rw [e, bI_app, List.length_cons]
    omega
theorem gtext_sz (l : List KRule) : (gtext l).size ≤ 600 := by
  have h1 := rulesI_sz (gR l) (gR_atoms l)
  have h2 := (gR_good l).few
  have : (gtext l).size = bI (rulesI (gR l)) := by
    show Array.size _ = _
    simp [bI]
  omega
/-- what the program reads out of the text of the law's rules -/
theorem gen_rules (l : List KRule) : ∃ rs j, pRules (split (gtext l)) (split (gtext l)).length 0 [] = (some rs, j) ∧ rs.map erR = gR l ∧ tooMany 0 [] rs = none ∧ twoAr [] (rs.flatMap Rule.atoms) = none ∧ openHead rs = none ∧ read (gtext l) = (gtext l, 0, 0) := by
  have hsz := gtext_sz l
  have hL : Lay (gtext l) 0 ((rulesI (gR l)).map itOf) := by
    refine lay_cat (gtext l) _ 0 (Nat.zero_le _) ?_
    rw [List.drop_zero]
    show _ = ((rulesI (gR l)).map itOf).flatMap fun x => x.text.data.toList
    rw [List.flatMap_map]
    rfl
  have hrd := gen_read l hsz hL
  have hE := lay_split (gR_good l) (fun x hx => gItems_tok x (gR_items l x hx)) (fun x hx => gItems_kinds x (gR_items l x hx)) hL
  have hlen : ∀ l : List ER, l.length ≤ (rulesI l).length := by
    intro l
    induction l with
    | nil => simp
    | cons r l ih => simp [rulesI, ruleI] at ih ⊢; omega
  have hT : (gR l).length < (split (gtext l)).length := by
    have := congrArg List.length hE
    simp only [List.length_map, List.length_append, List.length_singleton] at this
    have := hlen (gR l)
    omega
  obtain ⟨rs, h1, h2⟩ := rules_laid (T := split (gtext l)) (gR l) (split (gtext l)).length 0 [] ⟨#[]⟩ (fun r hr => ((gR_good l).fit r hr).1) (by rw [List.drop_zero]; exact hE) hT
  rw [List.nil_append] at h1
  have hgt : ¬ 600 < (gtext l).size := by omega
  have h3 : tooMany 0 [] rs = none := by
    cases h : tooMany 0 [] rs with
    | none => rfl
    | some p => rw [read_3 hgt h1 h] at hrd; simp at hrd
  have h4 : twoAr [] (rs.flatMap Rule.atoms) = none := by
    cases h : twoAr [] (rs.flatMap Rule.atoms) with
    | none => rfl
    | some p => rw [read_4 hgt h1 h3 h] at hrd; simp at hrd
  have h5 : openHead rs = none := by
    cases h : openHead rs with
    | none => rfl
    | some p => rw [read_5 hgt h1 h3 h4 h] at hrd; simp at hrd
  exact ⟨rs, _, h1, h2, h3, h4, h5, hrd⟩
end Go.Proofs.YtdmicblafmhflaaGreatDoor.Ax

/- axiomkeep.instances: what its loops work out. -/
namespace Go.Proofs.YtdmicblafmhflaaGreatDoor
set_option linter.unusedSimpArgs false
set_option linter.unusedVariables false
open Go.RowKit
/-- does an instance's body hold? -/
def okn (r : Ax.KRule) (H : Nat → Bool) (m : Nat) : Bool := En.okv (En.nOf r) m && (En.nOf r).body.all fun b => H (En.atN (En.vOf m) b)
def instU (r : Ax.KRule) (H : Nat → Bool) (n : Nat) : List Nat := ((List.range n).filter (okn r H)).map fun m => En.atN (En.vOf m) (En.nOf r).head
theorem instU_len (r : Ax.KRule) (H : Nat → Bool) (n : Nat) : (instU r H n).length ≤ n := by
  unfold instU
  rw [List.length_map]
  exact Nat.le_trans (List.length_filter_le _ _) (by simp)
theorem instU_yes {r : Ax.KRule} {H : Nat → Bool} {n : Nat} (h : okn r H n = true) : instU r H (n + 1) = instU r H n ++ [En.atN (En.vOf n) (En.nOf r).head] := by
  unfold instU
  rw [List.range_succ, List.filter_append, List.map_append]
  simp [h]
theorem instU_no {r : Ax.KRule} {H : Nat → Bool} {n : Nat} (h : okn r H n = false) : instU r H (n + 1) = instU r H n := by
  unfold instU
  rw [List.range_succ, List.filter_append, List.map_append]
  simp [h]
theorem instU_64 (r : Ax.KRule) (H : Nat → Bool) : instU r H 64 = En.instN (En.nOf r) H := by
  unfold instU En.instN En.okH En.vs
  rw [List.filter_filter]
  congr 2
  funext m
  unfold okn
  rw [Bool.and_comm]
theorem usesB_eq (r : Ax.KRule) (v : Nat) : usesB r v = En.uses (En.nOf r) v := by
  unfold usesB En.uses En.nOf
  rw [List.any_map]
  rfl
/-- the variables that are looked at first -/
def ok2 (r : Ax.KRule) (n : Nat) : Nat → Bool
  | 0 => true
  | i + 1 => ok2 r n i && (usesB r i || decide (En.vOf n i = 0))
theorem ok2_3 (r : Ax.KRule) (n : Nat) : ok2 r n 3 = En.okv (En.nOf r) n := by
  simp only [ok2, En.okv, usesB_eq, Bool.true_and]
/-- and the body's atoms -/
def ok3 (r : Ax.KRule) (H : Nat → Bool) (n k : Nat) : Bool := ok2 r n 3 && ((Ax.gbody r).take k).all fun b => H (En.atN (En.vOf n) (Ax.gpick b.pred 3, Ax.gterms b))
theorem ok3_0 (r : Ax.KRule) (H : Nat → Bool) (n : Nat) : ok3 r H n 0 = ok2 r n 3 := by simp [ok3]
theorem ok3_succ {r : Ax.KRule} {H : Nat → Bool} {n k : Nat} (hk : k < (Ax.gbody r).length) (h : ok3 r H n k = true) : ok3 r H n (k + 1) = H (En.atN (En.vOf n) (Ax.gpick ((Ax.gbody r)[k]).pred 3, Ax.gterms (Ax.gbody r)[k])) := by
  unfold ok3 at h ⊢
  rw [Bool.and_eq_true] at h
  have e0 : (Ax.gbody r).take (k + 1) = (Ax.gbody r).take k ++ [(Ax.gbody r)[k]] := by rw [List.take_add_one, List.getElem?_eq_getElem hk]; rfl
  rw [e0, List.all_append, h.1, h.2]
  simp
theorem ok3_end {r : Ax.KRule} {H : Nat → Bool} {n : Nat} : ok3 r H n (Ax.gbody r).length = okn r H n := by
  unfold ok3 okn
  rw [ok2_3, List.take_length]
  congr 1
  unfold En.nOf
  rw [List.all_map]
  rfl
theorem ok3_false {r : Ax.KRule} {H : Nat → Bool} {n k : Nat} (h : ok3 r H n k = false) : okn r H n = false := by
  rw [← ok3_end]
  unfold ok3 at h ⊢
  cases h2 : ok2 r n 3 with
  | false => simp
  | true =>
    rw [h2, Bool.true_and] at h
    rw [Bool.true_and]
    rw [List.all_eq_false] at h ⊢
    obtain ⟨x, hx, hn⟩ := h
    exact ⟨x, by rw [List.take_length]; exact List.mem_of_mem_take hx, hn⟩
/-- what is told to hold, as it lies -/
def bCells (H : Nat → Bool) : List Value := (List.range 36).map fun i => .bool (H i)
theorem bCells_at (H : Nat → Bool) {i : Nat} (h : i < 36) : (bCells H)[i]? = some (.bool (H i)) := by simp [bCells, h]
def HoldIs (w : World) (hb : Nat) (H : Nat → Bool) : Prop := w.heap[hb]? = some (.cells (bCells H).toArray 4 (0, 0))
theorem HoldIs.below {w w' : World} {hb : Nat} {H : Nat → Bool} (h : HoldIs w hb H) (hbw : Below w.heap.size w w') : HoldIs w' hb H := by
  unfold HoldIs
  rw [hbw.block _ (lt_of_heap h)]
  exact h
theorem HoldIs.cell {w : World} {hb : Nat} {H : Nat → Bool} (h : HoldIs w hb H) {i : Nat} (hi : i < 36) : w.cell? ⟨hb, i, none⟩ = some (.bool (H i)) := by
  rw [cell_of_row _ _ _ _ _ _ h]
  simpa using bCells_at H hi
/-- instances, while it goes on: the rule's block, the list -/
structure InsW (w wr : World) (rc : Array Value) (out : Value) (xs : List Nat) : Prop where
  box : wr.heap[w.heap.size]? = some (.cells rc 94 (0, 0))
  row : wr.ownsRow (w.heap.size + 1) 3 1 out xs.length (natCells xs)
  bel : Below w.heap.size w wr
theorem InsW.below {w wr w' : World} {rc : Array Value} {out : Value} {xs : List Nat} (h : InsW w wr rc out xs) (hb : Below wr.heap.size wr w') : InsW w w' rc out xs :=
  ⟨by rw [hb.block _ (lt_of_heap h.box)]; exact h.box, ownsRow_below h.row hb, h.bel.trans (hb.mono h.bel.size)⟩
theorem InsW.grown {w wr w' : World} {rc : Array Value} {out v2 : Value} {xs : List Nat} {x : Nat} (h : InsW w wr rc out xs) (hg : wr.grownBy w' out.ownBlock) (ho : w'.ownsRow (w.heap.size + 1) 3 1 v2 (xs.length + 1) (natCells xs ++ [.int .i64 (x : Nat)])) : InsW w w' rc v2 (xs ++ [x]) := by
  obtain ⟨b1, b2⟩ := box_grown h.box h.bel hg (fun k hk => (h.row.lt k hk).1)
  refine ⟨b1, ?_, b2⟩
  rw [natCells_snoc, List.length_append]
  exact ho
/-- and the variables' values -/
structure InsV (w wr : World) (rc : Array Value) (out : Value) (xs : List Nat) (n vb : Nat) : Prop where
  iw : InsW w wr rc out xs
  row : wr.ownsRow 0 3 1 (.slice (some ⟨vb, 0, none⟩) 3 3) 3 (natCells [En.vOf n 0, En.vOf n 1, En.vOf n 2])
theorem InsV.below {w wr w' : World} {rc : Array Value} {out : Value} {xs : List Nat} {n vb : Nat} (h : InsV w wr rc out xs n vb) (hb : Below wr.heap.size wr w') : InsV w w' rc out xs n vb := ⟨h.iw.below hb, ownsRow_below h.row hb⟩
theorem InsV.cell {w wr : World} {rc : Array Value} {out : Value} {xs : List Nat} {n vb : Nat} (h : InsV w wr rc out xs n vb) {i : Nat} (hi : i < 3) : wr.cell? ⟨vb, i, none⟩ = some (.int .i64 (En.vOf n i : Nat)) ∧ vb < wr.heap.size := by
  obtain ⟨g, e, hg, _, hcs⟩ := row_cells h.row (by omega)
  have e2 : g = vb := by simp at e; exact e.symm
  subst e2
  refine ⟨?_, hg⟩
  match i, hi with
  | 0, _ => exact hcs 0 _ rfl
  | 1, _ => exact hcs 1 _ rfl
  | 2, _ => exact hcs 2 _ rfl
theorem InsV.box4 {w wr : World} {a b c d : Value} {out : Value} {xs : List Nat} {n vb : Nat} (h : InsV w wr #[a, b, c, d] out xs n vb) : wr.cell? ⟨w.heap.size, 0, none⟩ = some a ∧ wr.cell? ⟨w.heap.size, 1, none⟩ = some b ∧ wr.cell? ⟨w.heap.size, 2, none⟩ = some c ∧ wr.cell? ⟨w.heap.size, 3, none⟩ = some d ∧ w.heap.size < wr.heap.size :=
  ⟨by rw [cell_of_row _ _ _ _ _ _ h.iw.box]; rfl, by rw [cell_of_row _ _ _ _ _ _ h.iw.box]; rfl, by rw [cell_of_row _ _ _ _ _ _ h.iw.box]; rfl, by rw [cell_of_row _ _ _ _ _ _ h.iw.box]; rfl, lt_of_heap h.iw.box⟩
end Go.Proofs.YtdmicblafmhflaaGreatDoor
