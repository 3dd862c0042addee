/- The plain form of what can be read is read, and is its own plain form. No program here. -/
import Derived.Test.YtdmicblafmhflaaGreatDoorC02
set_option linter.unusedSimpArgs false
set_option linter.unusedVariables false
namespace Go.Proofs.YtdmicblafmhflaaGreatDoor.Ax
def cat (l : List It) : List UInt8 := l.flatMap fun x => x.text.data.toList
theorem byte_data (s : ByteArray) (k : Nat) (h : k < s.size) : byte s k = ((s.data.toList[k]?).map UInt8.toNat).getD 0 := by
 rw [← byte_get s k h]
 have : s.data.toList[k]? = some s.data[k] := by
  rw [Array.getElem?_toList]
  exact Array.getElem?_eq_getElem h
 rw [this]
 rfl
theorem lay_cat (p : ByteArray) : ∀ (l : List It) (b : Nat), b ≤ p.size → p.data.toList.drop b = cat l → Lay p b l
 | [], b, hb, h => by
  have : (p.data.toList.drop b).length = 0 := by rw [h]; rfl
  rw [List.length_drop, Array.length_toList] at this
  show b = p.data.size
  have : p.data.size = p.size := rfl
  omega
 | x :: l, b, hb, h => by
  have hc : cat (x :: l) = x.text.data.toList ++ cat l := by simp [cat]
  rw [hc] at h
  have hlen := congrArg List.length h
  rw [List.length_drop, List.length_append, Array.length_toList, Array.length_toList] at hlen
  have e1 : p.data.size = p.size := rfl
  have e2 : x.text.data.size = x.text.size := rfl
  refine ⟨b, Nat.le_refl _, fun k h1 h2 => by omega, by omega, fun k hk => ?_, ?_⟩
  · rw [byte_data p _ (by omega), byte_data x.text k hk]
    have := congrArg (fun q => q[k]?) h
    simp only [List.getElem?_drop] at this
    rw [this, List.getElem?_append_left (by rw [Array.length_toList]; omega)]
  · refine lay_cat p l _ (by omega) ?_
    rw [← List.drop_drop, h, List.drop_left' (by rw [Array.length_toList]; omega)]
theorem conv_er {a b : Tok} (ha : 0 ≤ a.kind ∧ a.kind ≤ 8) (hb : 0 ≤ b.kind ∧ b.kind ≤ 8) (h : It.of (conv a) = It.of (conv b)) : er a = er b := by
 simp only [It.of, conv, It.mk.injEq] at h
 have := kc_eq a.kind ha.1 ha.2 b.kind hb.1 hb.2
 rw [h.1] at this
 simp only [beq_self_eq_true] at this
 have hk : a.kind = b.kind := by simpa using this.symm
 simp [er, hk, h.2]
theorem kc_word {k : Int} (h : Word (kc k)) : k = 2 ∨ k = 3 := by
 unfold Word kc at h
 split at h
 · omega
 split at h
 · omega
 split at h
 · omega
 split at h
 · omega
 repeat' split at h
 all_goals omega
theorem apart_of : ∀ (m : List Tok), (∀ k, ¬ (W m k ∧ W m (k + 1))) → Apart (m.map (fun t => It.of (conv t)))
 | [], _ => trivial
 | [a], _ => trivial
 | a :: b :: m, h => by
  refine ⟨?_, apart_of (b :: m) (fun k hk => h (k + 1) ?_)⟩
  · intro hw
    exact h 0 ⟨by simpa [W, kindAt] using kc_word hw.1, by simpa [W, kindAt] using kc_word hw.2⟩
  · simpa [W, kindAt] using hk
end Go.Proofs.YtdmicblafmhflaaGreatDoor.Ax
/- Rules that are laid out as tokens are read again. No program here. -/
namespace Go.Proofs.YtdmicblafmhflaaGreatDoor.Ax
abbrev EA := ByteArray × List Term
abbrev ER := EA × List EA
abbrev EI := Int × ByteArray
def tI (t : Term) : EI := (t.kind + 2, t.text)
def comma : EI := (6, ⟨#[44]⟩)
def termsI : List Term → List EI
 | [] => []
 | [t] => [tI t]
 | t :: u :: r => tI t :: comma :: termsI (u :: r)
def atomI (a : EA) : List EI := (2, a.1) :: (4, ⟨#[40]⟩) :: (termsI a.2 ++ [(5, ⟨#[41]⟩)])
def atomsI : List EA → List EI
 | [] => []
 | [a] => atomI a
 | a :: b :: r => atomI a ++ comma :: atomsI (b :: r)
def ruleI (r : ER) : List EI := atomI r.1 ++ (if r.2 = [] then [] else (8, ⟨#[58, 45]⟩) :: atomsI r.2) ++ [(7, ⟨#[46]⟩)]
def rulesI (l : List ER) : List EI := l.flatMap ruleI
def EA.fit (a : EA) : Prop := a.2 ≠ [] ∧ ∀ t, t ∈ a.2 → t.kind = 0 ∨ t.kind = 1
theorem dropI {E : List EI} {i : Nat} {x : EI} {l : List EI} (h : E.drop i = x :: l) : E[i]? = some x ∧ E.drop (i + 1) = l := by
 constructor
 · have := congrArg (fun q => q[0]?) h
   simpa using this
 · rw [← List.drop_drop, h]; rfl
theorem kind_of {T : List Tok} {i : Nat} {x : EI} (h : (T.map er)[i]? = some x) : kindAt T i = x.1 := by
 rw [List.getElem?_map] at h
 unfold kindAt
 cases h1 : T[i]? <;> rw [h1] at h <;> simp [er] at h ⊢
 rw [← h]
theorem tok_of_er {T : List Tok} {i : Nat} {x : EI} (h : (T.map er)[i]? = some x) : ∃ t, T[i]? = some t ∧ t.kind = x.1 ∧ t.text = x.2 := by
 rw [List.getElem?_map] at h
 cases h1 : T[i]? <;> rw [h1] at h <;> simp [er] at h
 rename_i t
 exact ⟨t, rfl, by rw [← h], by rw [← h]⟩
theorem term_laid {T : List Tok} {i : Nat} {t : Term} (h : (T.map er)[i]? = some (tI t)) (hk : t.kind = 0 ∨ t.kind = 1) : pTerm T i = (some t, i + 1) := by
 obtain ⟨u, h1, h2, h3⟩ := tok_of_er h
 simp only [tI] at h2 h3
 rw [pTerm_some h1 (by omega), h2, h3]
 simp
def NoComma (l : List EI) : Prop := ∃ x r, l = x :: r ∧ x.1 ≠ 6
theorem terms_laid {T : List Tok} : ∀ (ts : List Term) (f i : Nat) (acc : List Term) (post : List EI), ts ≠ [] → (∀ t, t ∈ ts → t.kind = 0 ∨ t.kind = 1) → (T.map er).drop i = termsI ts ++ post → NoComma post → ts.length ≤ f →
 pTerms T f i acc = (some (acc ++ ts), i + (termsI ts).length) ∧ (T.map er).drop (i + (termsI ts).length) = post
 | [], _, _, _, _, h, _, _, _, _ => absurd rfl h
 | [t], 0, _, _, _, _, _, _, _, hf => by simp at hf
 | _ :: _ :: _, 0, _, _, _, _, _, _, _, hf => by simp at hf
 | [t], f + 1, i, acc, post, _, hk, hE, hp, _ => by
  obtain ⟨h1, h2⟩ := dropI (show (T.map er).drop i = tI t :: post from hE)
  obtain ⟨x, r, rfl, hx⟩ := hp
  obtain ⟨h3, _⟩ := dropI h2
  rw [pTerms_last (term_laid h1 (hk t (by simp))) (by rw [kind_of h3]; exact hx)]
  exact ⟨rfl, h2⟩
 | t :: u :: r, f + 1, i, acc, post, _, hk, hE, hp, hf => by
  obtain ⟨h1, h2⟩ := dropI (show (T.map er).drop i = tI t :: (comma :: termsI (u :: r) ++ post) from hE)
  obtain ⟨h3, h4⟩ := dropI (show (T.map er).drop (i + 1) = comma :: (termsI (u :: r) ++ post) from h2)
  rw [pTerms_on (term_laid h1 (hk t (by simp))) (by rw [kind_of h3]; rfl)]
  obtain ⟨h5, h6⟩ := terms_laid (u :: r) f (i + 1 + 1) (acc ++ [t]) post (by simp) (fun x hx => hk x (by simp [hx])) h4 hp (by simp at hf ⊢; omega)
  have e : i + (termsI (t :: u :: r)).length = i + 1 + 1 + (termsI (u :: r)).length := by simp [termsI]; omega
  rw [h5, e]
  exact ⟨by simp, h6⟩
theorem termsI_len : ∀ ts : List Term, ts.length ≤ (termsI ts).length
 | [] => by simp
 | [t] => by simp [termsI]
 | t :: u :: r => by have := termsI_len (u :: r); simp [termsI] at this ⊢; omega
theorem atom_laid {T : List Tok} {i : Nat} {a : EA} {post : List EI} (ha : a.fit) (hE : (T.map er).drop i = atomI a ++ post) :
 ∃ a', pAtom T i = (some a', i + (atomI a).length) ∧ erA a' = a ∧ (T.map er).drop (i + (atomI a).length) = post := by
 obtain ⟨h1, h2⟩ := dropI (show (T.map er).drop i = (2, a.1) :: ((4, ⟨#[40]⟩) :: (termsI a.2 ++ [(5, ⟨#[41]⟩)]) ++ post) from hE)
 obtain ⟨h3, h4⟩ := dropI (show (T.map er).drop (i + 1) = (4, ⟨#[40]⟩) :: (termsI a.2 ++ [(5, ⟨#[41]⟩)] ++ post) from h2)
 rw [List.append_assoc] at h4
 have hlen : a.2.length ≤ T.length := by
  have := congrArg List.length h4
  simp only [List.length_drop, List.length_map, List.length_append] at this
  have := termsI_len a.2
  omega
 obtain ⟨h5, h6⟩ := terms_laid a.2 T.length (i + 1 + 1) [] _ ha.1 ha.2 h4 ⟨_, _, rfl, by simp⟩ hlen
 obtain ⟨h7, h8⟩ := dropI h6
 obtain ⟨t, ht, hk, htx⟩ := tok_of_er h1
 refine ⟨⟨t.at_, t.text, a.2⟩, ?_, ?_, ?_⟩
 · rw [pAtom_4 ht (by simpa using hk) (kind_of h3) (by simpa using h5) (kind_of h7)]
   simp [atomI]
   omega
 · simp only at htx; simp [erA, htx]
 · have e : i + (atomI a).length = i + 1 + 1 + (termsI a.2).length + 1 := by simp [atomI]; omega
   rw [e]; exact h8
theorem atoms_laid {T : List Tok} : ∀ (l : List EA) (f i : Nat) (acc : List Atom) (post : List EI), l ≠ [] → (∀ a, a ∈ l → a.fit) → (T.map er).drop i = atomsI l ++ post → NoComma post → l.length ≤ f →
 ∃ r, pAtoms T f i acc = (some (acc ++ r), i + (atomsI l).length) ∧ r.map erA = l ∧ (T.map er).drop (i + (atomsI l).length) = post
 | [], _, _, _, _, h, _, _, _, _ => absurd rfl h
 | [a], 0, _, _, _, _, _, _, _, hf => by simp at hf
 | _ :: _ :: _, 0, _, _, _, _, _, _, _, hf => by simp at hf
 | [a], f + 1, i, acc, post, _, hk, hE, hp, _ => by
  obtain ⟨a', h1, h2, h3⟩ := atom_laid (hk a (by simp)) (show (T.map er).drop i = atomI a ++ post from hE)
  obtain ⟨x, r, rfl, hx⟩ := hp
  obtain ⟨h4, _⟩ := dropI h3
  refine ⟨[a'], ?_, by simp [h2], h3⟩
  rw [pAtoms_last h1 (by rw [kind_of h4]; exact hx)]
  rfl
 | a :: b :: l, f + 1, i, acc, post, _, hk, hE, hp, hf => by
  have hE' : (T.map er).drop i = atomI a ++ (comma :: (atomsI (b :: l) ++ post)) := by rw [hE]; simp [atomsI]
  obtain ⟨a', h1, h2, h3⟩ := atom_laid (hk a (by simp)) hE'
  obtain ⟨h4, h5⟩ := dropI h3
  obtain ⟨r, h6, h7, h8⟩ := atoms_laid (b :: l) f (i + (atomI a).length + 1) (acc ++ [a']) post (by simp) (fun x hx => hk x (by simp [hx])) h5 hp (by simp at hf ⊢; omega)
  have e : i + (atomsI (a :: b :: l)).length = i + (atomI a).length + 1 + (atomsI (b :: l)).length := by simp [atomsI]; omega
  refine ⟨a' :: r, ?_, by simp [h2, h7], by rw [e]; exact h8⟩
  rw [pAtoms_on h1 (by rw [kind_of h4]; rfl), h6, e]
  simp
theorem atomsI_len : ∀ l : List EA, l.length ≤ (atomsI l).length
 | [] => by simp
 | [a] => by simp [atomsI, atomI]
 | a :: b :: r => by have := atomsI_len (b :: r); simp [atomsI, atomI] at this ⊢; omega
def ER.fit (r : ER) : Prop := r.1.fit ∧ ∀ a, a ∈ r.2 → a.fit
theorem rule_laid {T : List Tok} {i : Nat} {r : ER} {post : List EI} (hr : ER.fit r) (hE : (T.map er).drop i = ruleI r ++ post) :
 ∃ r', pRule T i = (some r', i + (ruleI r).length) ∧ erR r' = r ∧ (T.map er).drop (i + (ruleI r).length) = post := by
 rcases r with ⟨h, b⟩
 by_cases hb : b = []
 · subst hb
   have hE' : (T.map er).drop i = atomI h ++ ((7, ⟨#[46]⟩) :: post) := by rw [hE]; simp [ruleI]
   obtain ⟨a', h1, h2, h3⟩ := atom_laid hr.1 hE'
   obtain ⟨h4, h5⟩ := dropI h3
   have e : i + (ruleI (h, [])).length = i + (atomI h).length + 1 := by simp [ruleI]; omega
   refine ⟨⟨a', []⟩, ?_, by simp [erR, h2], by rw [e]; exact h5⟩
   rw [pRule_5 h1 (by rw [kind_of h4]; simp) (kind_of h4), e]
 · have hE' : (T.map er).drop i = atomI h ++ ((8, ⟨#[58, 45]⟩) :: (atomsI b ++ ((7, ⟨#[46]⟩) :: post))) := by rw [hE]; simp [ruleI, hb]
   obtain ⟨a', h1, h2, h3⟩ := atom_laid hr.1 hE'
   obtain ⟨h4, h5⟩ := dropI h3
   have hlen : b.length ≤ T.length := by
    have := congrArg List.length h5
    simp only [List.length_drop, List.length_map, List.length_append] at this
    have := atomsI_len b
    omega
   obtain ⟨l, h6, h7, h8⟩ := atoms_laid b T.length (i + (atomI h).length + 1) [] _ hb hr.2 h5 ⟨_, _, rfl, by simp⟩ hlen
   obtain ⟨h9, h10⟩ := dropI h8
   have e : i + (ruleI (h, b)).length = i + (atomI h).length + 1 + (atomsI b).length + 1 := by simp [ruleI, hb]; omega
   refine ⟨⟨a', l⟩, ?_, by simp [erR, h2, h7], by rw [e]; exact h10⟩
   rw [pRule_3 h1 (kind_of h4) (by simpa using h6) (kind_of h9), e]
theorem rules_laid {T : List Tok} : ∀ (l : List ER) (f i : Nat) (acc : List Rule) (x : ByteArray), (∀ r, r ∈ l → ER.fit r) → (T.map er).drop i = rulesI l ++ [(1, x)] → l.length < f →
 ∃ rs, pRules T f i acc = (some (acc ++ rs), i + (rulesI l).length) ∧ rs.map erR = l
 | _, 0, _, _, _, _, _, hf => by omega
 | [], f + 1, i, acc, x, _, hE, _ => by
  obtain ⟨h1, _⟩ := dropI (show (T.map er).drop i = (1, x) :: [] from hE)
  exact ⟨[], by rw [pRules_end (kind_of h1)]; simp [rulesI], rfl⟩
 | r :: l, f + 1, i, acc, x, hk, hE, hf => by
  have hE' : (T.map er).drop i = ruleI r ++ (rulesI l ++ [(1, x)]) := by rw [hE]; simp [rulesI]
  have hk1 : ¬ kindAt T i = 1 := by
   have : (T.map er).drop i = (2, r.1.1) :: ((4, ⟨#[40]⟩) :: (termsI r.1.2 ++ [(5, ⟨#[41]⟩)]) ++ (if r.2 = [] then [] else (8, ⟨#[58, 45]⟩) :: atomsI r.2) ++ [(7, ⟨#[46]⟩)] ++ (rulesI l ++ [(1, x)])) := by rw [hE']; simp [ruleI, atomI]
   rw [kind_of (dropI this).1]
   simp
  obtain ⟨r', h1, h2, h3⟩ := rule_laid (hk r (by simp)) hE'
  obtain ⟨rs, h4, h5⟩ := rules_laid l f (i + (ruleI r).length) (acc ++ [r']) x (fun y hy => hk y (by simp [hy])) h3 (by simp at hf ⊢; omega)
  refine ⟨r' :: rs, ?_, by simp [h2, h5]⟩
  rw [pRules_on hk1 h1, h4]
  have e : i + (rulesI (r :: l)).length = i + (ruleI r).length + (rulesI l).length := by simp [rulesI]; omega
  rw [e]
  simp
end Go.Proofs.YtdmicblafmhflaaGreatDoor.Ax
/- Rules over few predicates of fixed places are a program. No program here. -/
namespace Go.Proofs.YtdmicblafmhflaaGreatDoor.Ax
theorem short_of {α : Type} [DecidableEq α] : ∀ (P l : List α), l.Nodup → (∀ x, x ∈ l → x ∈ P) → l.length ≤ P.length
 | [], l, _, h => by
  cases l with
  | nil => simp
  | cons a l => exact absurd (h a (by simp)) (by simp)
 | p :: P, l, hn, h => by
  have h1 : (l.erase p).Nodup := hn.erase p
  have h2 : ∀ x, x ∈ l.erase p → x ∈ P := by
   intro x hx
   have hxl := List.mem_of_mem_erase hx
   rcases List.mem_cons.1 (h x hxl) with rfl | hp
   · exact absurd hx (hn.not_mem_erase)
   · exact hp
  have := short_of P (l.erase p) h1 h2
  have hl : l.length ≤ (l.erase p).length + 1 := by
   rw [List.length_erase]
   split <;> omega
  simp only [List.length_cons]
  omega
theorem addPreds_keep (P : List ByteArray) : ∀ (l : List Atom) (ps : List ByteArray), ps.Nodup → (∀ x, x ∈ ps → x ∈ P) → (∀ a, a ∈ l → a.pred ∈ P) → (addPreds ps l).Nodup ∧ ∀ x, x ∈ addPreds ps l → x ∈ P
 | [], ps, h1, h2, _ => ⟨h1, h2⟩
 | a :: l, ps, h1, h2, h3 => by
  unfold addPreds
  by_cases hh : has ps a.pred = true
  · rw [if_pos hh]
    exact addPreds_keep P l ps h1 h2 (fun x hx => h3 x (by simp [hx]))
  · rw [if_neg hh]
    refine addPreds_keep P l _ ?_ ?_ (fun x hx => h3 x (by simp [hx]))
    · rw [List.nodup_append]
      refine ⟨h1, by simp, ?_⟩
      intro x hx y hy
      simp at hy
      subst hy
      intro e
      subst e
      exact hh ((has_iff _ _).2 hx)
    · intro x hx
      rcases List.mem_append.1 hx with hx | hx
      · exact h2 x hx
      · simp at hx; subst hx; exact h3 a (by simp)
theorem tooMany_none (P : List ByteArray) (hP : P.length ≤ 6) : ∀ (l : List Rule) (i : Nat) (ps : List ByteArray), ps.Nodup → (∀ x, x ∈ ps → x ∈ P) → i + l.length ≤ 8 → (∀ r, r ∈ l → r.body.length ≤ 2 ∧ ∀ a, a ∈ r.atoms → a.pred ∈ P ∧ a.terms.length ≤ 3) → tooMany i ps l = none
 | [], _, _, _, _, _, _ => rfl
 | r :: l, i, ps, h1, h2, h3, h4 => by
  obtain ⟨hb, ha⟩ := h4 r (by simp)
  obtain ⟨k1, k2⟩ := addPreds_keep P r.atoms ps h1 h2 (fun a hx => (ha a hx).1)
  have hs := short_of P _ k1 k2
  simp only [List.length_cons] at h3
  have hw : anyWide r.atoms = false := by
   rw [Bool.eq_false_iff]
   intro hh
   simp only [anyWide, List.any_eq_true, wide, decide_eq_true_eq] at hh
   obtain ⟨a, hx, hy⟩ := hh
   have := (ha a hx).2
   omega
  have hm : manyAt i (addPreds ps r.atoms) r = false := by
   unfold manyAt
   rw [hw]
   simp
   omega
  unfold tooMany
  rw [hm]
  simp only [Bool.false_eq_true, if_false]
  exact tooMany_none P hP l (i + 1) _ k1 k2 (by omega) (fun x hx => h4 x (by simp [hx]))
theorem twoAr_none (ar : ByteArray → Nat) : ∀ (l : List Atom) (m : List (ByteArray × Nat)), (∀ x, x ∈ m → x.2 = ar x.1) → (∀ a, a ∈ l → a.terms.length = ar a.pred) → twoAr m l = none
 | [], _, _, _ => rfl
 | a :: l, m, h1, h2 => by
  have ha := h2 a (by simp)
  unfold twoAr
  split
  · rename_i n hn
    have : n = a.terms.length := by
     unfold look at hn
     rw [Option.map_eq_some_iff] at hn
     obtain ⟨x, hx, rfl⟩ := hn
     have hm := List.mem_of_find?_eq_some hx
     have hp := List.find?_some hx
     simp only [decide_eq_true_eq] at hp
     rw [h1 x hm, hp, ha]
    rw [if_pos this]
    exact twoAr_none ar l m h1 (fun x hx => h2 x (by simp [hx]))
  · refine twoAr_none ar l _ ?_ (fun x hx => h2 x (by simp [hx]))
    intro x hx
    rcases List.mem_cons.1 hx with rfl | hx
    · exact ha
    · exact h1 x hx
theorem openHead_none : ∀ (l : List Rule), (∀ r, r ∈ l → openAt r = false) → openHead l = none
 | [], _ => rfl
 | r :: l, h => by
  unfold openHead
  rw [h r (by simp)]
  simp only [Bool.false_eq_true, if_false]
  exact openHead_none l (fun x hx => h x (by simp [hx]))
structure Good (P : List ByteArray) (ar : ByteArray → Nat) (R : List ER) : Prop where
 few : R.length ≤ 8
 preds : P.length ≤ 6
 fit : ∀ r, r ∈ R → ER.fit r ∧ r.2.length ≤ 2
 atoms : ∀ r, r ∈ R → ∀ a, a = r.1 ∨ a ∈ r.2 → a.1 ∈ P ∧ a.2.length = ar a.1 ∧ a.2.length ≤ 3
 safe : ∀ r, r ∈ R → ∀ t, t ∈ r.1.2 → t.kind = 1 → ∃ a, a ∈ r.2 ∧ t ∈ a.2
theorem read_laid {P : List ByteArray} {ar : ByteArray → Nat} {R : List ER} (hG : Good P ar R) {t x : ByteArray} (ht : t.size ≤ 600) (hE : (split t).map er = rulesI R ++ [(1, x)]) : read t = (plain t, 0, 0) := by
 have hlen : ∀ l : List ER, l.length ≤ (rulesI l).length := by
  intro l
  induction l with
  | nil => simp
  | cons r l ih => simp [rulesI, ruleI] at ih ⊢; omega
 have hT : R.length < (split t).length := by
  have := congrArg List.length hE
  simp only [List.length_map, List.length_append, List.length_singleton] at this
  have := hlen R
  omega
 obtain ⟨rs, h1, h2⟩ := rules_laid (T := split t) R (split t).length 0 [] x (fun r hr => (hG.fit r hr).1) (by rw [List.drop_zero]; exact hE) hT
 rw [List.nil_append] at h1
 have hmem : ∀ r, r ∈ rs → erR r ∈ R := fun r hr => by rw [← h2]; exact List.mem_map.2 ⟨r, hr, rfl⟩
 have hat : ∀ r, r ∈ rs → ∀ a, a ∈ r.atoms → a.pred ∈ P ∧ a.terms.length = ar a.pred ∧ a.terms.length ≤ 3 := by
  intro r hr a ha
  refine hG.atoms (erR r) (hmem r hr) (erA a) ?_
  rcases List.mem_cons.1 ha with rfl | ha
  · exact .inl rfl
  · exact .inr (List.mem_map.2 ⟨a, ha, rfl⟩)
 refine read_0 (by omega) h1 ?_ ?_ ?_
 · refine tooMany_none P hG.preds rs 0 [] (by simp) (fun _ h => by cases h) ?_ ?_
   · have := congrArg List.length h2
     simp at this
     have := hG.few
     omega
   · intro r hr
     have hb := (hG.fit _ (hmem r hr)).2
     refine ⟨by simpa [erR] using hb, fun a ha => ⟨(hat r hr a ha).1, (hat r hr a ha).2.2⟩⟩
 · refine twoAr_none ar _ [] (fun _ h => by cases h) ?_
   intro a ha
   obtain ⟨r, hr, ha⟩ := List.mem_flatMap.1 ha
   exact (hat r hr a ha).2.1
 · refine openHead_none rs ?_
   intro r hr
   rw [Bool.eq_false_iff]
   intro ho
   simp only [openAt, List.any_eq_true, openTerm, Bool.and_eq_true, decide_eq_true_eq, Bool.not_eq_true'] at ho
   obtain ⟨t, ht, hk, hb⟩ := ho
   obtain ⟨a, ha, hta⟩ := hG.safe (erR r) (hmem r hr) t ht hk
   obtain ⟨a', ha', rfl⟩ := List.mem_map.1 ha
   have : bodyHas r.body t = true := by
    simp only [bodyHas, List.any_eq_true]
    exact ⟨a', ha', (hasTerm_iff _ _).2 hta⟩
   rw [this] at hb
   cases hb
end Go.Proofs.YtdmicblafmhflaaGreatDoor.Ax
/- The programs that Plain's rules make. No program here. -/
namespace Go.Proofs.YtdmicblafmhflaaGreatDoor.Ax
def itOf (x : EI) : It := ⟨kc x.1, x.2⟩
def tokOf (x : EI) : Tok := ⟨x.1, 0, x.2⟩
theorem rulesI_apart {P : List ByteArray} {ar : ByteArray → Nat} {R : List ER} (hG : Good P ar R) : Apart ((rulesI R).map itOf) := by
 obtain ⟨T, hTd⟩ : ∃ T : List Tok, T = (rulesI R).map tokOf ++ [⟨1, 0, ⟨#[]⟩⟩] := ⟨_, rfl⟩
 have hT : T.map er = rulesI R ++ [(1, ⟨#[]⟩)] := by
  rw [hTd, List.map_append, List.map_map]
  have : (er ∘ tokOf) = id := by funext x; rfl
  rw [this, List.map_id]
  rfl
 have hlen : ∀ l : List ER, l.length ≤ (rulesI l).length := by
  intro l
  induction l with
  | nil => simp
  | cons r l ih => simp [rulesI, ruleI] at ih ⊢; omega
 have hl : T.length = (rulesI R).length + 1 := by
  have := congrArg List.length hT
  simpa using this
 obtain ⟨rs, h1, h2⟩ := rules_laid (T := T) R T.length 0 [] ⟨#[]⟩ (fun r hr => (hG.fit r hr).1) (by rw [List.drop_zero]; exact hT) (by have := hlen R; omega)
 obtain ⟨hadj, _, _⟩ := pRules_apart _ _ _ h1
 have e : (rulesI R).map itOf = ((rulesI R).map tokOf).map (fun t => It.of (conv t)) := by rw [List.map_map]; rfl
 rw [e]
 apply apart_of
 intro k hw
 by_cases hk : k + 1 < (rulesI R).length
 · have hkind : ∀ i, i < (rulesI R).length → kindAt T i = kindAt ((rulesI R).map tokOf) i := by
    intro i hi
    unfold kindAt
    rw [hTd, List.getElem?_append_left (by simpa using hi)]
   refine hadj k (Nat.zero_le _) (by omega) ⟨?_, ?_⟩
   · unfold W; rw [hkind k (by omega)]; exact hw.1
   · unfold W; rw [hkind (k + 1) hk]; exact hw.2
 · have : kindAt ((rulesI R).map tokOf) (k + 1) = 0 := by
    unfold kindAt
    rw [List.getElem?_eq_none (by simp; omega)]
   have := hw.2
   unfold W at this
   omega
theorem itOf_er {k : EI} {t : Tok} (hk : 0 ≤ k.1 ∧ k.1 ≤ 8) (ht : 0 ≤ t.kind ∧ t.kind ≤ 8) (h : It.of (conv t) = itOf k) : er t = k := by
 have := conv_er (a := t) (b := ⟨k.1, 0, k.2⟩) ht hk h
 exact this
theorem lay_read {P : List ByteArray} {ar : ByteArray → Nat} {R : List ER} (hG : Good P ar R) (htok : ∀ x, x ∈ rulesI R → (itOf x).tok) (hkinds : ∀ x, x ∈ rulesI R → 0 ≤ x.1 ∧ x.1 ≤ 8) {t : ByteArray} (ht : t.size ≤ 600) (hL : Lay t 0 ((rulesI R).map itOf)) :
 read t = (⟨((rulesI R).flatMap fun x => x.2.data.toList).toArray⟩, 0, 0) := by
 obtain ⟨m, h1, h2⟩ := lay_rtoks t _ hL (by intro y hy; obtain ⟨x, hx, rfl⟩ := List.mem_map.1 hy; exact htok x hx) (rulesI_apart hG)
 have hs : (split t).map (fun t => It.of (conv t)) = (rulesI R ++ [((1, ⟨#[]⟩) : EI)]).map itOf := by
  have e : (split t).map (fun t => It.of (conv t)) = ((split t).map conv).map It.of := by rw [List.map_map]; rfl
  rw [e, ← rtoks_split, h1, List.map_append, h2, List.map_append]
  rfl
 have hall : ∀ (l : List Tok) (E : List EI), Kinds l → (∀ x, x ∈ E → 0 ≤ x.1 ∧ x.1 ≤ 8) → l.map (fun t => It.of (conv t)) = E.map itOf → l.map er = E := by
  intro l
  induction l with
  | nil => intro E _ _ h; cases E with | nil => rfl | cons _ _ => simp at h
  | cons a l ih =>
   intro E h1 h2 h
   cases E with
   | nil => simp at h
   | cons x E =>
    simp only [List.map_cons, List.cons.injEq] at h
    rw [List.map_cons, itOf_er (h2 x (by simp)) (h1 a (by simp)) h.1, ih E (fun t ht => h1 t (by simp [ht])) (fun y hy => h2 y (by simp [hy])) h.2]
 have hE := hall (split t) _ (split_kinds t) (by
  intro x hx
  rcases List.mem_append.1 hx with hx | hx
  · exact hkinds x hx
  · simp at hx; subst hx; exact ⟨by decide, by decide⟩) hs
 rw [read_laid hG ht hE]
 congr 1
 unfold plain
 have e : ∀ (l : List Tok), (l.flatMap fun t => t.text.data.toList) = (l.map er).flatMap fun x => x.2.data.toList := fun l => by rw [List.flatMap_map]; rfl
 rw [e, hE, List.flatMap_append]
 simp
end Go.Proofs.YtdmicblafmhflaaGreatDoor.Ax
/- Plain's rules as plain data, and that they are a program. No program here. -/
namespace Go.Proofs.YtdmicblafmhflaaGreatDoor.Ax
def gpick (c : Int) (n : Nat) : Nat := ((if c < 0 then -(c + 1) else c) % (n : Int)).toNat
theorem gpick_lt (c : Int) (n : Nat) (h : 0 < n) : gpick c n < n := by
 unfold gpick
 have h1 := Int.emod_lt_of_pos (if c < 0 then -(c + 1) else c) (show (0 : Int) < n by omega)
 have h2 := Int.emod_nonneg (if c < 0 then -(c + 1) else c) (show (n : Int) ≠ 0 by omega)
 omega
structure KAtom where
 pred : Int
 a : Int
 b : Int
structure KRule where
 head : KAtom
 body : List KAtom
def gname (n : Nat) : ByteArray := match n with | 0 => ⟨#[97]⟩ | 1 => ⟨#[98]⟩ | 2 => ⟨#[99, 49]⟩ | _ => ⟨#[195, 169]⟩
def gpred (n : Nat) : ByteArray := match n with | 0 => ⟨#[110]⟩ | 1 => ⟨#[101]⟩ | _ => ⟨#[112, 195, 188]⟩
def gvar (n : Nat) : ByteArray := match n with | 0 => ⟨#[88]⟩ | 1 => ⟨#[89]⟩ | _ => ⟨#[90]⟩
def gterm (n : Nat) : Term := if n < 3 then ⟨1, gvar n⟩ else ⟨0, gname (n - 3)⟩
def gterms (a : KAtom) : List Nat := if gpick a.pred 3 = 0 then [gpick a.a 7] else [gpick a.a 7, gpick a.b 7]
def gbody (r : KRule) : List KAtom := r.body.take 2
def gvars (r : KRule) : List Nat := (gbody r).flatMap gterms
def ghead (r : KRule) : List Nat := (gterms r.head).map fun h => if h < 3 ∧ ¬ h ∈ gvars r then h + 3 else h
def gEA (p : Nat) (ts : List Nat) : EA := (gpred p, ts.map gterm)
def gER (r : KRule) : ER := (gEA (gpick r.head.pred 3) (ghead r), (gbody r).map fun b => gEA (gpick b.pred 3) (gterms b))
def gbase : List ER := [(gEA 0 [0], [gEA 0 [0], gEA 1 [0, 0]]), (gEA 0 [0], [gEA 0 [0], gEA 2 [0, 0]])]
def gR (l : List KRule) : List ER := gbase ++ (l.take 6).map gER
def gP : List ByteArray := [gpred 0, gpred 1, gpred 2]
def gar (p : ByteArray) : Nat := if p = gpred 0 then 1 else 2
theorem gpred_mem (n : Nat) : gpred n ∈ gP := by
 unfold gpred gP
 split <;> simp [gpred]
theorem gar_pred (n : Nat) (h : n < 3) : gar (gpred n) = if n = 0 then 1 else 2 := by
 have : n = 0 ∨ n = 1 ∨ n = 2 := by omega
 rcases this with rfl | rfl | rfl <;> decide
def KFit (p : Nat) (ts : List Nat) : Prop := p < 3 ∧ ts.length = (if p = 0 then 1 else 2)
theorem gEA_ok {p : Nat} {ts : List Nat} (h : KFit p ts) : EA.fit (gEA p ts) ∧ (gEA p ts).1 ∈ gP ∧ (gEA p ts).2.length = gar (gEA p ts).1 ∧ (gEA p ts).2.length ≤ 3 := by
 obtain ⟨h1, h2⟩ := h
 have hl : (gEA p ts).2.length = if p = 0 then 1 else 2 := by simpa [gEA] using h2
 refine ⟨⟨?_, ?_⟩, gpred_mem p, ?_, ?_⟩
 · intro e
   rw [e] at hl
   simp at hl
   split at hl <;> simp at hl
 · intro t ht
   simp only [gEA, List.mem_map] at ht
   obtain ⟨n, _, rfl⟩ := ht
   unfold gterm
   split
   · exact .inr rfl
   · exact .inl rfl
 · rw [hl]
   exact (gar_pred p h1).symm
 · rw [hl]
   split <;> omega
theorem kfit_terms (a : KAtom) : KFit (gpick a.pred 3) (gterms a) := by
 refine ⟨gpick_lt _ _ (by decide), ?_⟩
 unfold gterms
 split <;> simp
theorem kfit_head (r : KRule) : KFit (gpick r.head.pred 3) (ghead r) := by
 have := kfit_terms r.head
 exact ⟨this.1, by unfold ghead; rw [List.length_map]; exact this.2⟩
theorem gR_atoms (l : List KRule) : ∀ r, r ∈ gR l → (∃ p ts, r.1 = gEA p ts ∧ KFit p ts) ∧ (∀ a, a ∈ r.2 → ∃ p ts, a = gEA p ts ∧ KFit p ts) ∧ r.2.length ≤ 2 := by
 intro r hr
 rcases List.mem_append.1 hr with hr | hr
 · have k0 : KFit 0 [0] := ⟨by decide, rfl⟩
   have k1 : KFit 1 [0, 0] := ⟨by decide, rfl⟩
   have k2 : KFit 2 [0, 0] := ⟨by decide, rfl⟩
   simp only [gbase, List.mem_cons, List.not_mem_nil, or_false] at hr
   rcases hr with rfl | rfl
   · refine ⟨⟨0, [0], rfl, k0⟩, ?_, by simp⟩
     intro a ha
     simp only [List.mem_cons, List.not_mem_nil, or_false] at ha
     rcases ha with rfl | rfl
     · exact ⟨0, [0], rfl, k0⟩
     · exact ⟨1, [0, 0], rfl, k1⟩
   · refine ⟨⟨0, [0], rfl, k0⟩, ?_, by simp⟩
     intro a ha
     simp only [List.mem_cons, List.not_mem_nil, or_false] at ha
     rcases ha with rfl | rfl
     · exact ⟨0, [0], rfl, k0⟩
     · exact ⟨2, [0, 0], rfl, k2⟩
 · obtain ⟨x, _, rfl⟩ := List.mem_map.1 hr
   refine ⟨⟨_, _, rfl, kfit_head x⟩, ?_, ?_⟩
   · intro a ha
     obtain ⟨b, _, rfl⟩ := List.mem_map.1 ha
     exact ⟨_, _, rfl, kfit_terms b⟩
   · simp only [gER, List.length_map, gbody, List.length_take]
     omega
theorem gR_good (l : List KRule) : Good gP gar (gR l) where
 few := by simp [gR, gbase]; omega
 preds := by simp [gP]
 fit := by
  intro r hr
  obtain ⟨⟨p, ts, e, hk⟩, h2, h3⟩ := gR_atoms l r hr
  refine ⟨⟨by rw [e]; exact (gEA_ok hk).1, ?_⟩, h3⟩
  intro a ha
  obtain ⟨p, ts, rfl, hk⟩ := h2 a ha
  exact (gEA_ok hk).1
 atoms := by
  intro r hr a ha
  obtain ⟨⟨p, ts, e, hk⟩, h2, _⟩ := gR_atoms l r hr
  rcases ha with rfl | ha
  · rw [e]; exact (gEA_ok hk).2
  · obtain ⟨p, ts, rfl, hk⟩ := h2 a ha
    exact (gEA_ok hk).2
 safe := by
  intro r hr t ht hk
  rcases List.mem_append.1 hr with hr | hr
  · simp only [gbase, List.mem_cons, List.not_mem_nil, or_false] at hr
    rcases hr with rfl | rfl
    · exact ⟨gEA 0 [0], by simp, ht⟩
    · exact ⟨gEA 0 [0], by simp, ht⟩
  · obtain ⟨x, _, rfl⟩ := List.mem_map.1 hr
    simp only [gER, gEA, List.mem_map] at ht
    obtain ⟨n, hn, rfl⟩ := ht
    have hn3 : n < 3 := by
     unfold gterm at hk
     split at hk
     · assumption
     · simp at hk
    unfold ghead at hn
    obtain ⟨h, _, e⟩ := List.mem_map.1 hn
    split at e
    · omega
    · rename_i hh
      subst e
      have hv : h ∈ gvars x := Classical.byContradiction fun hc => hh ⟨hn3, hc⟩
      obtain ⟨b, hb, hm⟩ := List.mem_flatMap.1 hv
      exact ⟨gEA (gpick b.pred 3) (gterms b), List.mem_map.2 ⟨b, hb, rfl⟩, List.mem_map.2 ⟨h, hm, rfl⟩⟩
def gItems : List EI := [(2, gpred 0), (2, gpred 1), (2, gpred 2), (2, gname 0), (2, gname 1), (2, gname 2), (2, gname 3), (3, gvar 0), (3, gvar 1), (3, gvar 2), (4, ⟨#[40]⟩), (5, ⟨#[41]⟩), (6, ⟨#[44]⟩), (7, ⟨#[46]⟩), (8, ⟨#[58, 45]⟩)]
theorem gItems_kinds : ∀ x, x ∈ gItems → 0 ≤ x.1 ∧ x.1 ≤ 8 := by
 intro x hx
 simp only [gItems, List.mem_cons, List.not_mem_nil, or_false] at hx
 rcases hx with rfl | rfl | rfl | rfl | rfl | rfl | rfl | rfl | rfl | rfl | rfl | rfl | rfl | rfl | rfl <;> exact ⟨by decide, by decide⟩
theorem tI_mem (n : Nat) : tI (gterm n) ∈ gItems := by
 unfold gterm
 split
 · rename_i h
   have : n = 0 ∨ n = 1 ∨ n = 2 := by omega
   rcases this with rfl | rfl | rfl <;> simp [tI, gItems, gvar]
 · unfold tI gname
   simp only
   split <;> simp [gItems, gname]
theorem termsI_mem : ∀ (ts : List Nat) (x : EI), x ∈ termsI (ts.map gterm) → x ∈ gItems
 | [], x, h => by simp [termsI] at h
 | [n], x, h => by
  simp [termsI] at h
  subst h
  exact tI_mem n
 | n :: k :: ts, x, h => by
  have : x = tI (gterm n) ∨ x = comma ∨ x ∈ termsI ((k :: ts).map gterm) := by simpa [termsI] using h
  rcases this with rfl | rfl | h
  · exact tI_mem n
  · simp [gItems, comma]
  · exact termsI_mem (k :: ts) x h
theorem atomI_mem (p : Nat) (ts : List Nat) (x : EI) (h : x ∈ atomI (gEA p ts)) : x ∈ gItems := by
 simp only [atomI, gEA, List.mem_cons, List.mem_append, List.not_mem_nil, or_false] at h
 rcases h with rfl | rfl | h | rfl
 · unfold gpred
   split <;> simp [gItems, gpred]
 · simp [gItems]
 · exact termsI_mem ts x h
 · simp [gItems]
theorem atomsI_mem : ∀ (l : List EA), (∀ a, a ∈ l → ∃ p ts, a = gEA p ts ∧ KFit p ts) → ∀ x, x ∈ atomsI l → x ∈ gItems
 | [], _, x, h => by simp [atomsI] at h
 | [a], hl, x, h => by
  obtain ⟨p, ts, rfl, _⟩ := hl a (by simp)
  exact atomI_mem p ts x h
 | a :: b :: l, hl, x, h => by
  obtain ⟨p, ts, rfl, _⟩ := hl a (by simp)
  have : x ∈ atomI (gEA p ts) ∨ x = comma ∨ x ∈ atomsI (b :: l) := by simpa [atomsI] using h
  rcases this with h | rfl | h
  · exact atomI_mem p ts x h
  · simp [gItems, comma]
  · exact atomsI_mem (b :: l) (fun y hy => hl y (by simp [hy])) x h
theorem gR_items (l : List KRule) (x : EI) (h : x ∈ rulesI (gR l)) : x ∈ gItems := by
 obtain ⟨r, hr, hx⟩ := List.mem_flatMap.1 h
 obtain ⟨⟨p, ts, e, _⟩, h2, _⟩ := gR_atoms l r hr
 unfold ruleI at hx
 rcases List.mem_append.1 hx with hx | hx
 · rcases List.mem_append.1 hx with hx | hx
   · rw [e] at hx
     exact atomI_mem p ts x hx
   · split at hx
     · cases hx
     · rcases List.mem_cons.1 hx with rfl | hx
       · simp [gItems]
       · exact atomsI_mem r.2 h2 x hx
 · simp at hx
   subst hx
   simp [gItems]
theorem gItems_tok : ∀ x, x ∈ gItems → (itOf x).tok := by
 intro x hx
 simp only [gItems, List.mem_cons, List.not_mem_nil, or_false] at hx
 rcases hx with rfl | rfl | rfl | rfl | rfl | rfl | rfl | rfl | rfl | rfl | rfl | rfl | rfl | rfl | rfl <;> exact ⟨by rfl, ⟨by decide, by decide⟩, by decide⟩
def gtext (l : List KRule) : ByteArray := ⟨((rulesI (gR l)).flatMap fun x => x.2.data.toList).toArray⟩
theorem gen_read (l : List KRule) {t : ByteArray} (ht : t.size ≤ 600) (hL : Lay t 0 ((rulesI (gR l)).map itOf)) : read t = (gtext l, 0, 0) :=
 lay_read (gR_good l) (fun x hx => gItems_tok x (gR_items l x hx)) (fun x hx => gItems_kinds x (gR_items l x hx)) ht hL
end Go.Proofs.YtdmicblafmhflaaGreatDoor.Ax
