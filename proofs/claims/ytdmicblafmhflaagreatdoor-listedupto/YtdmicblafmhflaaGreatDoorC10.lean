/- Bindings: by which names a rule's body becomes facts. No program here. -/
import Derived.Test.YtdmicblafmhflaaGreatDoorC00
import Derived.Test.YtdmicblafmhflaaGreatDoorC09
import Derived.Test.YtdmicblafmhflaaGreatDoorC04

namespace Go.Proofs.YtdmicblafmhflaaGreatDoor.En
set_option linter.unusedSimpArgs false
set_option linter.unusedVariables false
def ee : ByteArray := ⟨#[]⟩
abbrev Bind := List (ByteArray × ByteArray)
def val (b : Bind) (x : ByteArray) : ByteArray := match b with
  | [] => ee
  | p :: r => if p.1 = x then p.2 else val r x
def tval (s : ByteArray → ByteArray) (t : Ax.Term) : ByteArray := if t.kind = 0 then t.text else s t.text
/-- match: the terms against the names of a row -/
def bmatch : List Ax.Term → List ByteArray → Bind → Option Bind
  | [], _, b => some b
  | _ :: _, [], _ => none
  | t :: ts, n :: ns, b => if tval (val b) t = n then bmatch ts ns b else if tval (val b) t = ee then bmatch ts ns (b ++ [(t.text, n)]) else none
def Full (b : Bind) : Prop := ∀ p, p ∈ b → p.2 ≠ ee
theorem val_snoc (b : Bind) (hb : Full b) (x n y : ByteArray) : val (b ++ [(x, n)]) y = if val b y = ee then (if x = y then n else ee) else val b y := by
  induction b with
  | nil => simp [val]
  | cons p r ih =>
    have hp := hb p (by simp)
    rw [List.cons_append, val, val]
    by_cases h : p.1 = y
    · rw [if_pos h, if_pos h, if_neg hp]
    · rw [if_neg h, if_neg h]
      exact ih (fun q hq => hb q (by simp [hq]))
theorem full_snoc {b : Bind} (hb : Full b) (x : ByteArray) {n : ByteArray} (hn : n ≠ ee) : Full (b ++ [(x, n)]) := by
  intro p hp
  rcases List.mem_append.1 hp with hp | hp
  · exact hb p hp
  · simp at hp; subst hp; exact hn
/-- what can be told of the terms: names are no empty texts -/
def NameOk (ts : List Ax.Term) : Prop := ∀ t, t ∈ ts → t.kind = 0 → t.text ≠ ee
theorem bmatch_sound : ∀ (ts : List Ax.Term) (ns : List ByteArray) (b b' : Bind), NameOk ts → Full b → (∀ n, n ∈ ns.take ts.length → n ≠ ee) → bmatch ts ns b = some b' →
    Full b' ∧ (∀ y, val b y ≠ ee → val b' y = val b y) ∧ (∀ (j : Nat) t, ts[j]? = some t → ns[j]? = some (tval (val b') t)) ∧ (∀ y, val b' y ≠ ee → val b y ≠ ee ∨ ∃ t, t ∈ ts ∧ t.kind ≠ 0 ∧ t.text = y)
  | [], ns, b, b', _, hb, _, h => by
    simp only [bmatch, Option.some.injEq] at h
    subst h
    exact ⟨hb, fun _ _ => rfl, fun j t ht => by simp at ht, fun y hy => .inl hy⟩
  | t :: ts, [], b, b', _, _, _, h => by simp [bmatch] at h
  | t :: ts, n :: ns, b, b', hN, hb, hn, h => by
    have hN' : NameOk ts := fun u hu => hN u (by simp [hu])
    have hn0 : n ≠ ee := hn n (by simp)
    have hn' : ∀ m, m ∈ ns.take ts.length → m ≠ ee := fun m hm => hn m (by simp [hm])
    rw [bmatch] at h
    by_cases h1 : tval (val b) t = n
    · rw [if_pos h1] at h
      obtain ⟨a1, a2, a3, a4⟩ := bmatch_sound ts ns b b' hN' hb hn' h
      refine ⟨a1, a2, ?_, ?_⟩
      · intro j u hu
        cases j with
        | zero =>
          simp at hu
          subst hu
          simp only [List.getElem?_cons_zero, Option.some.injEq]
          rw [← h1]
          unfold tval at h1 ⊢
          by_cases hk : t.kind = 0
          · rw [if_pos hk, if_pos hk]
          · rw [if_neg hk] at h1
            rw [if_neg hk, if_neg hk, a2 _ (by rw [h1]; exact hn0)]
        | succ j => simpa using a3 j u (by simpa using hu)
      · intro y hy
        rcases a4 y hy with h2 | ⟨u, hu, h2⟩
        · exact .inl h2
        · exact .inr ⟨u, by simp [hu], h2⟩
    · rw [if_neg h1] at h
      by_cases h2 : tval (val b) t = ee
      · rw [if_pos h2] at h
        have hk : t.kind ≠ 0 := by
          intro hk
          unfold tval at h2
          rw [if_pos hk] at h2
          exact hN t (by simp) hk h2
        have hv : val b t.text = ee := by
          unfold tval at h2
          rwa [if_neg hk] at h2
        obtain ⟨a1, a2, a3, a4⟩ := bmatch_sound ts ns _ b' hN' (full_snoc hb t.text hn0) hn' h
        have hnew : val b' t.text = n := by
          have e : val (b ++ [(t.text, n)]) t.text = n := by rw [val_snoc b hb, if_pos hv, if_pos rfl]
          rw [a2 _ (by rw [e]; exact hn0), e]
        refine ⟨a1, ?_, ?_, ?_⟩
        · intro y hy
          have e : val (b ++ [(t.text, n)]) y = val b y := by rw [val_snoc b hb, if_neg hy]
          rw [a2 _ (by rw [e]; exact hy), e]
        · intro j u hu
          cases j with
          | zero =>
            simp at hu
            subst hu
            simp only [List.getElem?_cons_zero, Option.some.injEq]
            unfold tval
            rw [if_neg hk, hnew]
          | succ j => simpa using a3 j u (by simpa using hu)
        · intro y hy
          rcases a4 y hy with h3 | ⟨u, hu, h3⟩
          · rw [val_snoc b hb] at h3
            by_cases hvy : val b y = ee
            · rw [if_pos hvy] at h3
              by_cases hxy : t.text = y
              · exact .inr ⟨t, by simp, hk, hxy⟩
              · rw [if_neg hxy] at h3; exact absurd rfl h3
            · exact .inl hvy
          · exact .inr ⟨u, by simp [hu], h3⟩
      · rw [if_neg h2] at h
        cases h
theorem bmatch_complete (s : ByteArray → ByteArray) (hs : ∀ y, s y ≠ ee) : ∀ (ts : List Ax.Term) (ns : List ByteArray) (b : Bind), Full b → (∀ y, val b y ≠ ee → s y = val b y) → (∀ (j : Nat) t, ts[j]? = some t → ns[j]? = some (tval s t)) →
    ∃ b', bmatch ts ns b = some b' ∧ (∀ y, val b' y ≠ ee → s y = val b' y)
  | [], ns, b, _, hv, _ => ⟨b, rfl, hv⟩
  | t :: ts, [], b, _, _, h => by simpa using h 0 t rfl
  | t :: ts, n :: ns, b, hb, hv, h => by
    have h0 : n = tval s t := by simpa using h 0 t rfl
    have h' : ∀ (j : Nat) u, ts[j]? = some u → ns[j]? = some (tval s u) := fun j u hu => by simpa using h (j + 1) u (by simpa using hu)
    rw [bmatch]
    by_cases h1 : tval (val b) t = n
    · rw [if_pos h1]
      exact bmatch_complete s hs ts ns b hb hv h'
    · rw [if_neg h1]
      have hk : t.kind ≠ 0 := by
        intro hk
        apply h1
        rw [h0]
        unfold tval
        rw [if_pos hk, if_pos hk]
      have hn : n = s t.text := by
        rw [h0]
        unfold tval
        rw [if_neg hk]
      have h2 : tval (val b) t = ee := by
        unfold tval at h1 ⊢
        rw [if_neg hk] at h1 ⊢
        apply Classical.byContradiction
        intro hc
        exact h1 (by rw [hn, hv _ hc])
      rw [if_pos h2]
      have hvt : val b t.text = ee := by
        unfold tval at h2
        rwa [if_neg hk] at h2
      refine bmatch_complete s hs ts ns _ (full_snoc hb _ (by rw [hn]; exact hs _)) ?_ h'
      intro y hy
      rw [val_snoc b hb] at hy ⊢
      by_cases hvy : val b y = ee
      · rw [if_pos hvy] at hy ⊢
        by_cases hxy : t.text = y
        · rw [if_pos hxy, hn, hxy]
        · rw [if_neg hxy] at hy; exact absurd rfl hy
      · rw [if_neg hvy]
        exact hv y hvy
/-- a fact: its predicate, and three names (behind the last place they are empty) -/
abbrev Fct := ByteArray × List ByteArray
def amatch (a : Ax.Atom) (f : Fct) (b : Bind) : Option Bind := if a.pred = f.1 then bmatch a.terms f.2 b else none
def pad (l : List ByteArray) : List ByteArray := l ++ List.replicate (3 - l.length) ee
def afact (s : ByteArray → ByteArray) (a : Ax.Atom) : Fct := (a.pred, pad (a.terms.map (tval s)))
/-- a body against facts -/
def bodym : List Ax.Atom → List Fct → Bind → Option Bind
  | [], [], b => some b
  | a :: az, f :: fs, b => match amatch a f b with | some b' => bodym az fs b' | none => none
  | _, _, _ => none
def rinst (r : Ax.Rule) (fs : List Fct) : Option Fct := (bodym r.body fs []).map fun b => afact (val b) r.head
def srule (r : Ax.Rule) : SRule Fct := ⟨r.body.length, rinst r⟩
/-- a fact of an atom's kind: as many names as it has terms, none empty, and nothing behind -/
def FitsA (a : Ax.Atom) (f : Fct) : Prop := a.pred = f.1 → ∃ l : List ByteArray, l.length = a.terms.length ∧ (∀ n, n ∈ l → n ≠ ee) ∧ f.2 = pad l
theorem pad_get {l : List ByteArray} {j : Nat} (h : j < l.length) : (pad l)[j]? = l[j]? := by
  unfold pad
  rw [List.getElem?_append_left h]
theorem pad_take (l : List ByteArray) : (pad l).take l.length = l := by simp [pad]
theorem amatch_sound {a : Ax.Atom} {f : Fct} {b b' : Bind} (hN : NameOk a.terms) (hf : FitsA a f) (hb : Full b) (h : amatch a f b = some b') :
    Full b' ∧ (∀ y, val b y ≠ ee → val b' y = val b y) ∧ afact (val b') a = f ∧ (∀ t, t ∈ a.terms → t.kind ≠ 0 → val b' t.text ≠ ee) := by
  unfold amatch at h
  by_cases hp : a.pred = f.1
  · rw [if_pos hp] at h
    obtain ⟨l, hl, hne, hpad⟩ := hf hp
    rw [hpad] at h
    obtain ⟨a1, a2, a3, a4⟩ := bmatch_sound a.terms (pad l) b b' hN hb (by rw [← hl, pad_take]; exact hne) h
    have hbound : ∀ t, t ∈ a.terms → t.kind ≠ 0 → val b' t.text ≠ ee := by
      intro t ht hk
      obtain ⟨j, hj, e⟩ := List.getElem_of_mem ht
      have h3 := a3 j t (by rw [List.getElem?_eq_getElem hj, e])
      rw [pad_get (by omega)] at h3
      have hm := hne _ (List.mem_of_getElem? h3)
      unfold tval at hm
      rwa [if_neg hk] at hm
    refine ⟨a1, a2, ?_, hbound⟩
    have e : a.terms.map (tval (val b')) = l := by
      apply List.ext_getElem?
      intro j
      rw [List.getElem?_map]
      cases hj : a.terms[j]? with
      | none =>
        rw [List.getElem?_eq_none_iff] at hj
        rw [Option.map_none, List.getElem?_eq_none (by omega)]
      | some t =>
        have hjl := (List.getElem?_eq_some_iff.1 hj).1
        have := a3 j t hj
        rw [pad_get (by omega)] at this
        rw [this]
        rfl
    unfold afact
    rw [e, hp, ← hpad]
  · rw [if_neg hp] at h; cases h
theorem amatch_complete (s : ByteArray → ByteArray) (hs : ∀ y, s y ≠ ee) {a : Ax.Atom} {b : Bind} (hb : Full b) (hv : ∀ y, val b y ≠ ee → s y = val b y) : ∃ b', amatch a (afact s a) b = some b' ∧ (∀ y, val b' y ≠ ee → s y = val b' y) := by
  unfold amatch
  have hp : a.pred = (afact s a).1 := rfl
  rw [if_pos hp]
  refine bmatch_complete s hs a.terms _ b hb hv ?_
  intro j t ht
  have hj := (List.getElem?_eq_some_iff.1 ht).1
  show (pad (a.terms.map (tval s)))[j]? = _
  rw [pad_get (by simpa using hj), List.getElem?_map, ht]
  rfl
end Go.Proofs.YtdmicblafmhflaaGreatDoor.En

/- What a rule makes of facts: just its instances. No program here. -/
namespace Go.Proofs.YtdmicblafmhflaaGreatDoor.En
set_option linter.unusedSimpArgs false
set_option linter.unusedVariables false
def Bound (b : Bind) (a : Ax.Atom) : Prop := ∀ t, t ∈ a.terms → t.kind ≠ 0 → val b t.text ≠ ee
theorem afact_congr {s u : ByteArray → ByteArray} {a : Ax.Atom} (h : ∀ t, t ∈ a.terms → t.kind ≠ 0 → s t.text = u t.text) : afact s a = afact u a := by
  unfold afact
  have e : a.terms.map (tval s) = a.terms.map (tval u) := by
    apply List.map_congr_left
    intro t ht
    unfold tval
    by_cases hk : t.kind = 0
    · rw [if_pos hk, if_pos hk]
    · rw [if_neg hk, if_neg hk, h t ht hk]
  rw [e]
theorem bodym_sound : ∀ (az : List Ax.Atom) (fs : List Fct) (b b' : Bind), (∀ a, a ∈ az → NameOk a.terms) → (∀ x, x ∈ az.zip fs → FitsA x.1 x.2) → Full b → bodym az fs b = some b' →
    Full b' ∧ (∀ y, val b y ≠ ee → val b' y = val b y) ∧ fs = az.map (afact (val b')) ∧ (∀ a, a ∈ az → Bound b' a)
  | [], [], b, b', _, _, hb, h => by
    simp only [bodym, Option.some.injEq] at h
    subst h
    exact ⟨hb, fun _ _ => rfl, rfl, fun a ha => by cases ha⟩
  | [], f :: fs, b, b', _, _, _, h => by simp [bodym] at h
  | a :: az, [], b, b', _, _, _, h => by simp [bodym] at h
  | a :: az, f :: fs, b, b', hN, hF, hb, h => by
    rw [bodym] at h
    cases hm : amatch a f b with
    | none => rw [hm] at h; cases h
    | some b1 =>
      rw [hm] at h
      simp only at h
      obtain ⟨c1, c2, c3, c4⟩ := amatch_sound (hN a (by simp)) (hF (a, f) (by simp)) hb hm
      obtain ⟨d1, d2, d3, d4⟩ := bodym_sound az fs b1 b' (fun x hx => hN x (by simp [hx])) (fun x hx => hF x (by simp [hx])) c1 h
      refine ⟨d1, ?_, ?_, ?_⟩
      · intro y hy
        have e := c2 y hy
        rw [d2 y (by rw [e]; exact hy), e]
      · have c3' : f = afact (val b1) a := c3.symm
        rw [List.map_cons, ← d3, c3']
        congr 1
        exact afact_congr (fun t ht hk => (d2 _ (c4 t ht hk)).symm)
      · intro x hx
        rcases List.mem_cons.1 hx with rfl | hx
        · intro t ht hk
          have e := d2 _ (c4 t ht hk)
          rw [e]
          exact c4 t ht hk
        · exact d4 x hx
theorem bodym_complete (s : ByteArray → ByteArray) (hs : ∀ y, s y ≠ ee) : ∀ (az : List Ax.Atom) (b : Bind), (∀ a, a ∈ az → NameOk a.terms) → (∀ x, x ∈ az.zip (az.map (afact s)) → FitsA x.1 x.2) → Full b → (∀ y, val b y ≠ ee → s y = val b y) →
    ∃ b', bodym az (az.map (afact s)) b = some b' ∧ (∀ y, val b' y ≠ ee → s y = val b' y)
  | [], b, _, _, _, hv => ⟨b, rfl, hv⟩
  | a :: az, b, hN, hF, hb, hv => by
    obtain ⟨b1, h1, h2⟩ := amatch_complete s hs (a := a) hb hv
    obtain ⟨c1, _⟩ := amatch_sound (hN a (by simp)) (hF (a, afact s a) (by simp)) hb h1
    obtain ⟨b', h3, h4⟩ := bodym_complete s hs az b1 (fun x hx => hN x (by simp [hx])) (fun x hx => hF x (by simp [hx])) c1 h2
    refine ⟨b', ?_, h4⟩
    rw [List.map_cons, bodym, h1]
    exact h3
/-- a rule whose head has no variable that its body does not have -/
def Safe (r : Ax.Rule) : Prop := ∀ t, t ∈ r.head.terms → t.kind ≠ 0 → ∃ a, a ∈ r.body ∧ ∃ u, u ∈ a.terms ∧ u.kind ≠ 0 ∧ u.text = t.text
def AllNames (r : Ax.Rule) : Prop := ∀ a, a ∈ r.body → NameOk a.terms
theorem rinst_iff {r : Ax.Rule} (hS : Safe r) (hN : AllNames r) {fs : List Fct} (hF : ∀ x, x ∈ r.body.zip fs → FitsA x.1 x.2) (h : Fct) :
    rinst r fs = some h ↔ ∃ s : ByteArray → ByteArray, (∀ y, s y ≠ ee) ∧ fs = r.body.map (afact s) ∧ h = afact s r.head := by
  have hE : Full [] := fun p hp => by cases hp
  constructor
  · intro hr
    unfold rinst at hr
    cases hm : bodym r.body fs [] with
    | none => rw [hm] at hr; cases hr
    | some b =>
      rw [hm] at hr
      simp only [Option.map_some, Option.some.injEq] at hr
      obtain ⟨_, _, c3, c4⟩ := bodym_sound r.body fs [] b hN hF hE hm
      refine ⟨fun y => if val b y = ee then ⟨#[97]⟩ else val b y, ?_, ?_, ?_⟩
      · intro y
        by_cases hy : val b y = ee
        · simp only [hy, if_true]
          decide
        · simp only [hy, if_false]
          exact hy
      · rw [c3]
        apply List.map_congr_left
        intro a ha
        apply afact_congr
        intro t ht hk
        rw [if_neg (c4 a ha t ht hk)]
      · rw [← hr]
        apply afact_congr
        intro t ht hk
        obtain ⟨a, ha, u, hu, hk', e⟩ := hS t ht hk
        have hbd := c4 a ha u hu hk'
        rw [e] at hbd
        rw [if_neg hbd]
  · rintro ⟨s, hs, rfl, rfl⟩
    obtain ⟨b, h1, h2⟩ := bodym_complete s hs r.body [] hN hF hE (fun y hy => absurd rfl hy)
    obtain ⟨_, _, c3, c4⟩ := bodym_sound r.body _ [] b hN hF hE h1
    unfold rinst
    rw [h1]
    simp only [Option.map_some, Option.some.injEq]
    apply afact_congr
    intro t ht hk
    obtain ⟨a, ha, u, hu, hk', e⟩ := hS t ht hk
    have hbd := c4 a ha u hu hk'
    rw [e] at hbd
    exact (h2 _ hbd).symm
end Go.Proofs.YtdmicblafmhflaaGreatDoor.En

/- Rules and facts in numbers, as axiomkeep's laws have them. No program here. -/
namespace Go.Proofs.YtdmicblafmhflaaGreatDoor.En
set_option linter.unusedSimpArgs false
set_option linter.unusedVariables false
open Ax (gname gpred gvar gterm KFit)
/-- an atom in numbers: its predicate, its terms -/
abbrev NA := Nat × List Nat
structure NRule where
  head : NA
  body : List NA
def NFit (a : NA) : Prop := KFit a.1 a.2 ∧ ∀ n, n ∈ a.2 → n < 7
structure NOk (r : NRule) : Prop where
  head : NFit r.head
  body : ∀ b, b ∈ r.body → NFit b
  two : r.body.length ≤ 2
  safe : ∀ n, n ∈ r.head.2 → n < 3 → ∃ b, b ∈ r.body ∧ n ∈ b.2
def toAtom (a : NA) : Ax.Atom := ⟨0, gpred a.1, a.2.map gterm⟩
def toRule (r : NRule) : Ax.Rule := ⟨toAtom r.head, r.body.map toAtom⟩
/-- a fact in numbers -/
def nfact (p : Nat) (xs : List Nat) : Fct := (gpred p, pad (xs.map gname))
def tvN (v : Nat → Nat) (n : Nat) : Nat := if n < 3 then v n else n - 3
def subst (v : Nat → Nat) (a : NA) : Fct := nfact a.1 (a.2.map (tvN v))
def sig (v : Nat → Nat) : ByteArray → ByteArray := fun y => if y = gvar 0 then gname (v 0) else if y = gvar 1 then gname (v 1) else if y = gvar 2 then gname (v 2) else ⟨#[97]⟩
theorem gname_ne (n : Nat) : gname n ≠ ee := by
  unfold gname ee
  split <;> decide
theorem sig_ne (v : Nat → Nat) (y : ByteArray) : sig v y ≠ ee := by
  unfold sig
  split
  · exact gname_ne _
  · split
    · exact gname_ne _
    · split
      · exact gname_ne _
      · decide
theorem sig_var (v : Nat → Nat) {n : Nat} (h : n < 3) : sig v (gvar n) = gname (v n) := by
  have : n = 0 ∨ n = 1 ∨ n = 2 := by omega
  have h01 : ¬ gvar 1 = gvar 0 := by decide
  have h02 : ¬ gvar 2 = gvar 0 := by decide
  have h12 : ¬ gvar 2 = gvar 1 := by decide
  rcases this with rfl | rfl | rfl <;> simp [sig, h01, h02, h12]
theorem gvar_inj {n m : Nat} (hn : n < 3) (hm : m < 3) (h : gvar n = gvar m) : n = m := by
  have a : n = 0 ∨ n = 1 ∨ n = 2 := by omega
  have b : m = 0 ∨ m = 1 ∨ m = 2 := by omega
  rcases a with rfl | rfl | rfl <;> rcases b with rfl | rfl | rfl <;> first | rfl | (exfalso; revert h; decide)
theorem gname_inj {n m : Nat} (hn : n < 4) (hm : m < 4) (h : gname n = gname m) : n = m := by
  have a : n = 0 ∨ n = 1 ∨ n = 2 ∨ n = 3 := by omega
  have b : m = 0 ∨ m = 1 ∨ m = 2 ∨ m = 3 := by omega
  rcases a with rfl | rfl | rfl | rfl <;> rcases b with rfl | rfl | rfl | rfl <;> first | rfl | (exfalso; revert h; decide)
theorem gpred_inj {n m : Nat} (hn : n < 3) (hm : m < 3) (h : gpred n = gpred m) : n = m := by
  have a : n = 0 ∨ n = 1 ∨ n = 2 := by omega
  have b : m = 0 ∨ m = 1 ∨ m = 2 := by omega
  rcases a with rfl | rfl | rfl <;> rcases b with rfl | rfl | rfl <;> first | rfl | (exfalso; revert h; decide)
theorem tval_sig (v : Nat → Nat) (n : Nat) : tval (sig v) (gterm n) = gname (tvN v n) := by
  unfold gterm tvN
  by_cases h : n < 3
  · rw [if_pos h, if_pos h]
    show (if (1 : Int) = 0 then gvar n else sig v (gvar n)) = _
    rw [if_neg (by decide), sig_var v h]
  · rw [if_neg h, if_neg h]
    rfl
theorem afact_sig (v : Nat → Nat) (a : NA) : afact (sig v) (toAtom a) = subst v a := by
  unfold afact subst nfact toAtom
  simp only [List.map_map]
  have e : List.map (tval (sig v) ∘ gterm) a.2 = List.map (gname ∘ tvN v) a.2 := List.map_congr_left fun n _ => tval_sig v n
  rw [e]
theorem pad_inj {a b : List ByteArray} (hl : a.length = b.length) (h : pad a = pad b) : a = b := by
  have := congrArg (fun l => l.take a.length) h
  simp only [pad_take] at this
  rw [hl, pad_take] at this
  exact this
theorem map_gname_inj : ∀ {a b : List Nat}, (∀ n, n ∈ a → n < 4) → (∀ n, n ∈ b → n < 4) → a.map gname = b.map gname → a = b
  | [], [], _, _, _ => rfl
  | [], y :: b, _, _, h => by simp at h
  | x :: a, [], _, _, h => by simp at h
  | x :: a, y :: b, ha, hb, h => by
    simp only [List.map_cons, List.cons.injEq] at h
    rw [gname_inj (ha x (by simp)) (hb y (by simp)) h.1, map_gname_inj (fun n hn => ha n (by simp [hn])) (fun n hn => hb n (by simp [hn])) h.2]
/-- a fact that there can be -/
def Can (f : Fct) : Prop := ∃ p xs, KFit p xs ∧ (∀ x, x ∈ xs → x < 4) ∧ f = nfact p xs
theorem can_fits {f : Fct} (hf : Can f) {a : NA} (ha : NFit a) : FitsA (toAtom a) f := by
  obtain ⟨p, xs, hk, hx, rfl⟩ := hf
  intro hp
  have hpp : a.1 = p := gpred_inj ha.1.1 hk.1 hp
  refine ⟨xs.map gname, ?_, ?_, rfl⟩
  · have h1 := ha.1.2
    have h2 := hk.2
    rw [hpp] at h1
    simp [toAtom, h1, h2]
  · intro n hn
    obtain ⟨x, _, rfl⟩ := List.mem_map.1 hn
    exact gname_ne x
theorem nameOk_terms (ts : List Nat) : NameOk (ts.map gterm) := by
  intro t ht hk
  obtain ⟨n, _, rfl⟩ := List.mem_map.1 ht
  unfold gterm at hk ⊢
  split
  · rename_i h; rw [if_pos h] at hk; cases hk
  · exact gname_ne _
theorem can_subst {v : Nat → Nat} (hv : ∀ i, i < 3 → v i < 4) {a : NA} (ha : NFit a) : Can (subst v a) := by
  refine ⟨a.1, a.2.map (tvN v), ⟨ha.1.1, by rw [List.length_map]; exact ha.1.2⟩, ?_, rfl⟩
  intro x hx
  obtain ⟨n, hn, rfl⟩ := List.mem_map.1 hx
  unfold tvN
  have := ha.2 n hn
  split
  · rename_i h; exact hv n h
  · omega
theorem safe_toRule {r : NRule} (h : NOk r) : Safe (toRule r) := by
  intro t ht hk
  obtain ⟨n, hn, rfl⟩ := List.mem_map.1 ht
  have h3 : n < 3 := by
    unfold gterm at hk
    split at hk
    · assumption
    · exact absurd rfl hk
  obtain ⟨b, hb, hm⟩ := h.safe n hn h3
  exact ⟨toAtom b, List.mem_map.2 ⟨b, hb, rfl⟩, gterm n, List.mem_map.2 ⟨n, hm, rfl⟩, hk, rfl⟩
theorem names_toRule (r : NRule) : AllNames (toRule r) := by
  intro a ha
  obtain ⟨b, _, rfl⟩ := List.mem_map.1 ha
  exact nameOk_terms b.2
end Go.Proofs.YtdmicblafmhflaaGreatDoor.En

/- As many tuples of facts as values of the variables. No program here. -/
namespace Go.Proofs.YtdmicblafmhflaaGreatDoor.En
set_option linter.unusedSimpArgs false
set_option linter.unusedVariables false
open Ax (gname gpred gvar gterm KFit)
def vOf (n : Nat) : Nat → Nat := fun i => match i with | 0 => n % 4 | 1 => n / 4 % 4 | _ => n / 16
theorem vOf_lt {n : Nat} (h : n < 64) (i : Nat) : vOf n i < 4 := by
  match i with
  | 0 => show n % 4 < 4; omega
  | 1 => show n / 4 % 4 < 4; omega
  | (k + 2) => show n / 16 < 4; omega
theorem vOf_inj {n m : Nat} (h : ∀ i, i < 3 → vOf n i = vOf m i) : n = m := by
  have h0 : n % 4 = m % 4 := h 0 (by decide)
  have h1 : n / 4 % 4 = m / 4 % 4 := h 1 (by decide)
  have h2 : n / 16 = m / 16 := h 2 (by decide)
  omega
theorem vOf_surj (v : Nat → Nat) (h : ∀ i, v i < 4) : ∃ n, n < 64 ∧ ∀ i, i < 3 → vOf n i = v i := by
  have h0 := h 0
  have h1 := h 1
  have h2 := h 2
  refine ⟨v 0 + 4 * v 1 + 16 * v 2, by omega, ?_⟩
  intro i hi
  have : i = 0 ∨ i = 1 ∨ i = 2 := by omega
  rcases this with rfl | rfl | rfl
  · show (v 0 + 4 * v 1 + 16 * v 2) % 4 = v 0; omega
  · show (v 0 + 4 * v 1 + 16 * v 2) / 4 % 4 = v 1; omega
  · show (v 0 + 4 * v 1 + 16 * v 2) / 16 = v 2; omega
def uses (r : NRule) (i : Nat) : Bool := r.body.any fun b => decide (i ∈ b.2)
theorem uses_iff {r : NRule} {i : Nat} : uses r i = true ↔ ∃ b, b ∈ r.body ∧ i ∈ b.2 := by simp [uses]
/-- the values that are looked at: a variable that the rule does not have has the value 0 alone -/
def okv (r : NRule) (n : Nat) : Bool := (uses r 0 || decide (vOf n 0 = 0)) && (uses r 1 || decide (vOf n 1 = 0)) && (uses r 2 || decide (vOf n 2 = 0))
theorem okv_iff {r : NRule} {n : Nat} : okv r n = true ↔ ∀ i, i < 3 → uses r i = true ∨ vOf n i = 0 := by
  unfold okv
  simp only [Bool.and_eq_true, Bool.or_eq_true, decide_eq_true_eq]
  constructor
  · rintro ⟨⟨h0, h1⟩, h2⟩ i hi
    have : i = 0 ∨ i = 1 ∨ i = 2 := by omega
    rcases this with rfl | rfl | rfl
    · exact h0
    · exact h1
    · exact h2
  · intro h
    exact ⟨⟨h 0 (by decide), h 1 (by decide)⟩, h 2 (by decide)⟩
def vs (r : NRule) : List Nat := (List.range 64).filter (okv r)
def tup (r : NRule) (n : Nat) : List Fct := r.body.map (subst (vOf n))
theorem mem_vs {r : NRule} {n : Nat} : n ∈ vs r ↔ n < 64 ∧ okv r n = true := by simp [vs]
theorem subst_eq {v u : Nat → Nat} {b : NA} (hb : NFit b) (hv : ∀ i, i < 3 → v i < 4) (hu : ∀ i, i < 3 → u i < 4) (h : subst v b = subst u b) : ∀ i, i ∈ b.2 → tvN v i = tvN u i := by
  have hlt : ∀ (w : Nat → Nat), (∀ i, i < 3 → w i < 4) → ∀ n, n ∈ b.2.map (tvN w) → n < 4 := by
    intro w hw n hn
    obtain ⟨x, hx, rfl⟩ := List.mem_map.1 hn
    have := hb.2 x hx
    unfold tvN
    split
    · rename_i h; exact hw x h
    · omega
  unfold subst nfact at h
  have h2 := pad_inj (by simp) (Prod.mk.inj h).2
  have h3 := map_gname_inj (hlt v hv) (hlt u hu) h2
  exact List.map_inj_left.1 h3
theorem tup_inj {r : NRule} (hr : NOk r) {n m : Nat} (hn : n ∈ vs r) (hm : m ∈ vs r) (h : tup r n = tup r m) : n = m := by
  obtain ⟨n1, n2⟩ := mem_vs.1 hn
  obtain ⟨m1, m2⟩ := mem_vs.1 hm
  apply vOf_inj
  intro i hi
  rcases okv_iff.1 n2 i hi with hu | h0
  · obtain ⟨b, hb, hib⟩ := uses_iff.1 hu
    have := subst_eq (hr.body b hb) (fun i _ => vOf_lt n1 i) (fun i _ => vOf_lt m1 i) (List.map_inj_left.1 h b hb) i hib
    unfold tvN at this
    rwa [if_pos hi, if_pos hi] at this
  · rcases okv_iff.1 m2 i hi with hu | h1
    · obtain ⟨b, hb, hib⟩ := uses_iff.1 hu
      have := subst_eq (hr.body b hb) (fun i _ => vOf_lt n1 i) (fun i _ => vOf_lt m1 i) (List.map_inj_left.1 h b hb) i hib
      unfold tvN at this
      rwa [if_pos hi, if_pos hi] at this
    · rw [h0, h1]
theorem fits_zip {r : NRule} (hr : NOk r) {fs : List Fct} (hf : ∀ f, f ∈ fs → Can f) : ∀ x, x ∈ (toRule r).body.zip fs → FitsA x.1 x.2 := by
  intro x hx
  obtain ⟨h1, h2⟩ := List.of_mem_zip hx
  obtain ⟨b, hb, e⟩ := List.mem_map.1 h1
  rw [← e]
  exact can_fits (hf _ h2) (hr.body b hb)
theorem inst_tup {r : NRule} (hr : NOk r) {n : Nat} (hn : n < 64) : rinst (toRule r) (tup r n) = some (subst (vOf n) r.head) := by
  have hc : ∀ f, f ∈ tup r n → Can f := by
    intro f hf
    obtain ⟨b, hb, rfl⟩ := List.mem_map.1 hf
    exact can_subst (fun i _ => vOf_lt hn i) (hr.body b hb)
  rw [rinst_iff (safe_toRule hr) (names_toRule r) (fits_zip hr hc)]
  refine ⟨sig (vOf n), sig_ne _, ?_, (afact_sig _ _).symm⟩
  unfold tup toRule
  simp only [List.map_map]
  exact List.map_congr_left fun b _ => (afact_sig _ _).symm
/-- facts that a rule's body becomes, it becomes by values of the variables -/
theorem tup_of {r : NRule} (hr : NOk r) {fs : List Fct} (hf : ∀ f, f ∈ fs → Can f) {h : Fct} (hi : rinst (toRule r) fs = some h) : ∃ n, n ∈ vs r ∧ tup r n = fs := by
  rw [rinst_iff (safe_toRule hr) (names_toRule r) (fits_zip hr hf)] at hi
  obtain ⟨s, hs, e, _⟩ := hi
  have hval : ∀ b, b ∈ r.body → ∃ xs : List Nat, xs.length = b.2.length ∧ (∀ x, x ∈ xs → x < 4) ∧ b.2.map (fun n => tval s (gterm n)) = xs.map gname := by
    intro b hb
    have hm : afact s (toAtom b) ∈ fs := by
      rw [e]
      exact List.mem_map.2 ⟨toAtom b, List.mem_map.2 ⟨b, hb, rfl⟩, rfl⟩
    obtain ⟨p, xs, hk, hx, hxe⟩ := hf _ hm
    unfold afact nfact toAtom at hxe
    simp only [List.map_map, Prod.mk.injEq] at hxe
    have hp := gpred_inj (hr.body b hb).1.1 hk.1 hxe.1
    have hl : xs.length = b.2.length := by
      have h1 := (hr.body b hb).1.2
      have h2 := hk.2
      rw [hp] at h1
      omega
    refine ⟨xs, hl, hx, ?_⟩
    exact pad_inj (by simp [hl]) hxe.2
  have hex : ∀ i, ∃ x, x < 4 ∧ (uses r i = true → i < 3 → s (gvar i) = gname x) ∧ (uses r i = false → x = 0) := by
    intro i
    by_cases hu : uses r i = true
    · by_cases hi3 : i < 3
      · obtain ⟨b, hb, hib⟩ := uses_iff.1 hu
        obtain ⟨xs, hl, hx, hm⟩ := hval b hb
        obtain ⟨j, hj, ej⟩ := List.getElem_of_mem hib
        have := congrArg (fun l => l[j]?) hm
        simp only [List.getElem?_map, List.getElem?_eq_getElem hj, List.getElem?_eq_getElem (show j < xs.length by omega), Option.map_some, Option.some.injEq] at this
        refine ⟨xs[j]'(by omega), hx _ (List.getElem_mem _), fun _ _ => ?_, fun hf => by rw [hu] at hf; cases hf⟩
        rw [← this, ej]
        unfold gterm tval
        rw [if_pos hi3]
        show _ = if (1 : Int) = 0 then _ else _
        rw [if_neg (by decide)]
      · exact ⟨0, by decide, fun _ h => absurd h hi3, fun _ => rfl⟩
    · exact ⟨0, by decide, fun h => absurd h hu, fun _ => rfl⟩
  obtain ⟨v, hv⟩ : ∃ v : Nat → Nat, ∀ i, v i < 4 ∧ (uses r i = true → i < 3 → s (gvar i) = gname (v i)) ∧ (uses r i = false → v i = 0) := ⟨fun i => Classical.choose (hex i), fun i => Classical.choose_spec (hex i)⟩
  obtain ⟨n, hn, hnv⟩ := vOf_surj v (fun i => (hv i).1)
  refine ⟨n, mem_vs.2 ⟨hn, okv_iff.2 fun i hi => ?_⟩, ?_⟩
  · by_cases hu : uses r i = true
    · exact .inl hu
    · right
      rw [hnv i hi]
      exact (hv i).2.2 (by simpa using hu)
  · rw [e]
    unfold tup toRule
    simp only [List.map_map]
    apply List.map_congr_left
    intro b hb
    unfold subst nfact
    show _ = afact s (toAtom b)
    unfold afact toAtom
    simp only [List.map_map]
    congr 2
    apply List.map_congr_left
    intro x hx
    show gname (tvN (vOf n) x) = tval s (gterm x)
    unfold tvN gterm tval
    by_cases h3 : x < 3
    · rw [if_pos h3, if_pos h3]
      show _ = if (1 : Int) = 0 then _ else _
      rw [if_neg (by decide), hnv x h3]
      exact ((hv x).2.1 (uses_iff.2 ⟨b, hb, hx⟩) h3).symm
    · rw [if_neg h3, if_neg h3]
      rfl
theorem allT_nodup {F : Type} {k : Nat} (hk : k ≤ 2) {L : List F} (h : L.Nodup) : (allT k L).Nodup := by
  have : k = 0 ∨ k = 1 ∨ k = 2 := by omega
  rcases this with e | e | e <;> subst e
  · simp [allT]
  · show (L.map fun x => [x]).Pairwise (· ≠ ·)
    rw [List.pairwise_map]
    exact List.Pairwise.imp (fun hab e => hab (by simpa using e)) h
  · show (L.flatMap fun x => L.map fun y => [x, y]).Nodup
    show List.Pairwise (· ≠ ·) _
    rw [List.pairwise_flatMap]
    refine ⟨fun x _ => ?_, List.Pairwise.imp ?_ h⟩
    · rw [List.pairwise_map]
      exact List.Pairwise.imp (fun hab e => hab (by simpa using e)) h
    · intro a b hab x hx y hy e
      subst e
      obtain ⟨c, _, rfl⟩ := List.mem_map.1 hx
      obtain ⟨d, _, e⟩ := List.mem_map.1 hy
      simp at e
      exact hab e.1.symm
theorem fm_some {α β : Type} {f : α → Option β} {g : α → β} : ∀ (l : List α), (∀ x, x ∈ l → f x = some (g x)) → l.filterMap f = l.map g
  | [], _ => rfl
  | x :: l, h => by
    rw [List.filterMap_cons_some (h x (by simp)), fm_some l (fun y hy => h y (by simp [hy])), List.map_cons]
/-- the values by which a body is among some facts -/
def okL (r : NRule) (L : List Fct) : List Nat := (vs r).filter fun n => (tup r n).all fun f => hasB L f
theorem cnt_vs {r : NRule} (hr : NOk r) {L : List Fct} (hL : L.Nodup) (hC : ∀ f, f ∈ L → Can f) (h : Fct) :
    cnt (srule (toRule r)) (allT r.body.length L) h = lcount ((okL r L).map fun n => subst (vOf n) r.head) h := by
  have hperm : List.Perm ((allT r.body.length L).filter fun fs => (rinst (toRule r) fs).isSome) ((okL r L).map (tup r)) := by
    rw [List.perm_ext_iff_of_nodup]
    · intro fs
      rw [List.mem_filter, List.mem_map, mem_allT hr.two]
      constructor
      · rintro ⟨⟨h1, h2⟩, h3⟩
        obtain ⟨x, hx⟩ := Option.isSome_iff_exists.1 h3
        obtain ⟨n, hn, e⟩ := tup_of hr (fun f hf => hC f (h2 f hf)) hx
        refine ⟨n, ?_, e⟩
        unfold okL
        rw [List.mem_filter]
        refine ⟨hn, ?_⟩
        rw [e, List.all_eq_true]
        intro f hf
        exact hasB_iff.2 (h2 f hf)
      · rintro ⟨n, hn, rfl⟩
        unfold okL at hn
        rw [List.mem_filter, List.all_eq_true] at hn
        refine ⟨⟨by simp [tup], fun f hf => hasB_iff.1 (hn.2 f hf)⟩, ?_⟩
        rw [inst_tup hr (mem_vs.1 hn.1).1]
        rfl
    · exact (allT_nodup hr.two hL).filter _
    · unfold okL
      rw [List.nodup_iff_pairwise_ne, List.pairwise_map]
      have hnd : ((vs r).filter fun n => (tup r n).all fun f => hasB L f).Nodup := by
        unfold vs
        exact (List.nodup_range.filter _).filter _
      refine List.Pairwise.imp_of_mem ?_ hnd
      intro a b ha hb hab e
      exact hab (tup_inj hr (List.mem_filter.1 ha).1 (List.mem_filter.1 hb).1 e)
  have e1 : (allT r.body.length L).filterMap (rinst (toRule r)) = ((allT r.body.length L).filter fun fs => (rinst (toRule r) fs).isSome).filterMap (rinst (toRule r)) := by
    rw [List.filterMap_filter]
    congr 1
    funext fs
    cases rinst (toRule r) fs <;> simp
  have e2 : ((okL r L).map (tup r)).filterMap (rinst (toRule r)) = (okL r L).map fun n => subst (vOf n) r.head := by
    rw [List.filterMap_map]
    apply fm_some
    intro n hn
    unfold okL at hn
    exact inst_tup hr (mem_vs.1 (List.mem_filter.1 hn).1).1
  rw [cnt_eq]
  show lcount ((allT r.body.length L).filterMap (rinst (toRule r))) h = _
  rw [e1, ← e2]
  exact lcount_perm (hperm.filterMap _) h
end Go.Proofs.YtdmicblafmhflaaGreatDoor.En
