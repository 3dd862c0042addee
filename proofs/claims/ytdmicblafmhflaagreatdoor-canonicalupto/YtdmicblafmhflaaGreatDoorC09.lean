/- What follows, worked out fact by fact: the search as a plain function, over facts and rules of any kind. No program here. -/
import Derived.Below
import Derived.Test.YtdmicblafmhflaaGreatDoorC00
import Derived.Test.YtdmicblafmhflaaGreatDoorC03
set_option linter.unusedSimpArgs false
set_option linter.unusedVariables false
namespace Go.Proofs.YtdmicblafmhflaaGreatDoor.En
structure SRule (F : Type) where
 k : Nat
 inst : List F → Option F
section
variable {F : Type} [DecidableEq F]
def allT (k : Nat) (L : List F) : List (List F) := match k with
 | 0 => [[]]
 | 1 => L.map fun x => [x]
 | _ => L.flatMap fun x => L.map fun y => [x, y]
def newT (k : Nat) (P : List F) (z : F) : List (List F) := match k with
 | 0 => []
 | 1 => [[z]]
 | _ => ((P ++ [z]).map fun x => [z, x]) ++ P.map fun y => [y, z]
def cnt (r : SRule F) (ts : List (List F)) (h : F) : Nat := (ts.filterMap r.inst).count h
def lcount (l : List F) (h : F) : Nat := l.count h
def hasB (L : List F) (f : F) : Bool := decide (f ∈ L)
theorem hasB_iff {L : List F} {f : F} : hasB L f = true ↔ f ∈ L := by simp [hasB]
theorem lcount_perm {a b : List F} (h : List.Perm a b) (f : F) : lcount a f = lcount b f := h.count_eq f
theorem lcount_cons (x : F) (l : List F) (f : F) : lcount (x :: l) f = lcount l f + if x = f then 1 else 0 := by
 unfold lcount
 rw [List.count_cons]
 by_cases h : x = f <;> simp [h]
theorem cnt_eq (r : SRule F) (ts : List (List F)) (h : F) : cnt r ts h = lcount (ts.filterMap r.inst) h := rfl
theorem cnt_append (r : SRule F) (a b : List (List F)) (h : F) : cnt r (a ++ b) h = cnt r a h + cnt r b h := by simp [cnt]
theorem cnt_nil (r : SRule F) (h : F) : cnt r [] h = 0 := rfl
theorem cnt_flat_snoc (r : SRule F) (h : F) (z : F) (P : List F) : ∀ Q : List F, cnt r (Q.flatMap fun x => (P ++ [z]).map fun y => [x, y]) h = cnt r (Q.flatMap fun x => P.map fun y => [x, y]) h + cnt r (Q.map fun y => [y, z]) h
 | [] => rfl
 | q :: Q => by
  have ih := cnt_flat_snoc r h z P Q
  simp only [List.flatMap_cons, List.map_cons, List.map_append, List.map_nil, cnt_append] at ih ⊢
  have e : cnt r ([q, z] :: Q.map fun y => [y, z]) h = cnt r [[q, z]] h + cnt r (Q.map fun y => [y, z]) h := by
   rw [← cnt_append]; rfl
  rw [e]
  omega
theorem cnt_step (r : SRule F) (hk : r.k ≤ 2) (P : List F) (z : F) (h : F) : cnt r (allT r.k (P ++ [z])) h = cnt r (allT r.k P) h + cnt r (newT r.k P z) h := by
 have : r.k = 0 ∨ r.k = 1 ∨ r.k = 2 := by omega
 rcases this with e | e | e <;> rw [e]
 · simp [allT, newT, cnt_nil]
 · simp only [allT, newT, List.map_append, List.map_cons, List.map_nil, cnt_append]
 · simp only [allT, newT, List.flatMap_append, List.flatMap_cons, List.flatMap_nil, List.append_nil, cnt_append]
   rw [cnt_flat_snoc]
   omega
structure Sea (F : Type) where
 found : List F
 count : F → Nat
def hold (s : Sea F) (f : F) (n : Nat) : Sea F := ⟨if f ∈ s.found then s.found else s.found ++ [f], fun g => if g = f then s.count g + n else s.count g⟩
def holds (s : Sea F) (l : List F) : Sea F := l.foldl (fun s f => hold s f 1) s
def concl (R : List (SRule F)) (P : List F) (z : F) : List F := R.flatMap fun r => (newT r.k P z).filterMap r.inst
def meet (R : List (SRule F)) (s : Sea F) (n : Nat) : Sea F := match s.found[n]? with
 | none => s
 | some z => holds s (concl R (s.found.take n) z)
def search (R : List (SRule F)) (M : Nat) : Nat → Nat → Sea F → Option (Sea F)
 | 0, _, _ => none
 | fuel + 1, n, s => if n < s.found.length then (if M < s.found.length then none else search R M fuel (n + 1) (meet R s n)) else some s
theorem holds_nil (s : Sea F) : holds s [] = s := rfl
theorem holds_cons (s : Sea F) (f : F) (l : List F) : holds s (f :: l) = holds (hold s f 1) l := rfl
theorem holds_append (s : Sea F) (a b : List F) : holds s (a ++ b) = holds (holds s a) b := by simp [holds]
theorem hold_found (s : Sea F) (f : F) (n : Nat) : ∃ t, (hold s f n).found = s.found ++ t ∧ (∀ g, g ∈ t → g = f) ∧ f ∈ s.found ++ t := by
 unfold hold
 by_cases h : f ∈ s.found
 · exact ⟨[], by simp [h], by simp, by simpa using h⟩
 · exact ⟨[f], by simp [h], by simp, by simp⟩
theorem hold_nodup {s : Sea F} (h : s.found.Nodup) (f : F) (n : Nat) : (hold s f n).found.Nodup := by
 unfold hold
 by_cases hf : f ∈ s.found
 · simpa [hf] using h
 · simp only [hf, if_false]
   rw [List.nodup_append]
   exact ⟨h, by simp, by simp; intro a ha e; exact hf (e ▸ ha)⟩
theorem hold_count (s : Sea F) (f : F) (n : Nat) (g : F) : (hold s f n).count g = s.count g + if g = f then n else 0 := by
 unfold hold
 by_cases h : g = f <;> simp [h]
theorem holds_spec : ∀ (l : List F) (s : Sea F), ∃ t, (holds s l).found = s.found ++ t ∧ (∀ g, g ∈ t → g ∈ l) ∧ (∀ g, g ∈ l → g ∈ s.found ++ t) ∧ (s.found.Nodup → (holds s l).found.Nodup) ∧ ∀ g, (holds s l).count g = s.count g + l.count g
 | [], s => ⟨[], by simp [holds_nil], by simp, by simp, fun h => h, fun g => by simp [holds_nil]⟩
 | f :: l, s => by
  obtain ⟨t0, e0, a0, b0⟩ := hold_found s f 1
  obtain ⟨t, e, a, b, c, d⟩ := holds_spec l (hold s f 1)
  refine ⟨t0 ++ t, ?_, ?_, ?_, ?_, ?_⟩
  · rw [holds_cons, e, e0, List.append_assoc]
  · intro g hg
    rcases List.mem_append.1 hg with hg | hg
    · rw [a0 g hg]; simp
    · exact List.mem_cons_of_mem _ (a g hg)
  · intro g hg
    rw [← List.append_assoc]
    rcases List.mem_cons.1 hg with rfl | hg
    · exact List.mem_append_left _ b0
    · have := b g hg
      rwa [e0] at this
  · intro h
    rw [holds_cons]
    exact c (hold_nodup h f 1)
  · intro g
    rw [holds_cons, d, hold_count, List.count_cons]
    by_cases h : f = g
    · subst h; simp; omega
    · have h' : ¬ g = f := fun e => h e.symm
      simp [h, h']
def Closed (R : List (SRule F)) (X : F → Prop) : Prop := ∀ r, r ∈ R → ∀ fs, fs.length = r.k → (∀ f, f ∈ fs → X f) → ∀ h, r.inst fs = some h → X h
theorem mem_allT {F : Type} {k : Nat} (hk : k ≤ 2) {L : List F} {fs : List F} : fs ∈ allT k L ↔ fs.length = k ∧ ∀ f, f ∈ fs → f ∈ L := by
 have : k = 0 ∨ k = 1 ∨ k = 2 := by omega
 rcases this with e | e | e <;> subst e
 · constructor
   · intro h; simp [allT] at h; subst h; simp
   · rintro ⟨h, _⟩; simp [allT]; exact List.eq_nil_of_length_eq_zero h
 · constructor
   · intro h; simp [allT] at h; obtain ⟨x, hx, rfl⟩ := h; simpa using hx
   · rintro ⟨h, h2⟩
     match fs, h with
     | [x], _ => simp [allT]; exact h2 x (by simp)
 · constructor
   · intro h; simp [allT] at h; obtain ⟨x, hx, y, hy, rfl⟩ := h; simp [hx, hy]
   · rintro ⟨h, h2⟩
     match fs, h with
     | [x, y], _ => simp [allT]; exact ⟨h2 x (by simp), h2 y (by simp)⟩
theorem mem_newT {F : Type} {k : Nat} (hk : k ≤ 2) {P : List F} {z : F} {fs : List F} (h : fs ∈ newT k P z) : fs.length = k ∧ ∀ f, f ∈ fs → f ∈ P ++ [z] := by
 have : k = 0 ∨ k = 1 ∨ k = 2 := by omega
 rcases this with e | e | e <;> subst e
 · simp [newT] at h
 · simp [newT] at h; subst h; simp
 · simp only [newT, List.mem_append, List.mem_map] at h
   rcases h with ⟨x, hx, rfl⟩ | ⟨y, hy, rfl⟩
   · refine ⟨rfl, ?_⟩
     intro f hf
     simp at hf
     rcases hf with rfl | rfl
     · simp
     · simpa using hx
   · refine ⟨rfl, ?_⟩
     intro f hf
     simp at hf
     rcases hf with rfl | rfl
     · simp [hy]
     · simp
def total (R : List (SRule F)) (L : List F) (h : F) : Nat := (R.map fun r => cnt r (allT r.k L) h).sum
structure Inv (R : List (SRule F)) (G : F → Prop) (s : Sea F) (n : Nat) : Prop where
 nodup : s.found.Nodup
 given : ∀ f, G f → f ∈ s.found
 counts : ∀ h, s.count h = total R (s.found.take n) h
 done : ∀ r, r ∈ R → ∀ fs, fs ∈ allT r.k (s.found.take n) → ∀ h, r.inst fs = some h → h ∈ s.found
 least : ∀ X, Closed R X → (∀ f, G f → X f) → ∀ f, f ∈ s.found → X f
theorem concl_count (P : List F) (z h : F) : ∀ R : List (SRule F), (∀ r, r ∈ R → r.k ≤ 2) → total R (P ++ [z]) h = total R P h + (concl R P z).count h
 | [], _ => rfl
 | r :: R, hR => by
  have ih := concl_count P z h R (fun x hx => hR x (by simp [hx]))
  unfold total concl at *
  simp only [List.map_cons, List.sum_cons, List.flatMap_cons, List.count_append]
  rw [cnt_step r (hR r (by simp)), ih]
  have e : (List.filterMap r.inst (newT r.k P z)).count h = cnt r (newT r.k P z) h := rfl
  rw [e]
  omega
theorem meet_inv {R : List (SRule F)} (hR : ∀ r, r ∈ R → r.k ≤ 2) {G : F → Prop} {s : Sea F} {n : Nat} (h : Inv R G s n) (hn : n < s.found.length) : Inv R G (meet R s n) (n + 1) := by
 have hz : s.found[n]? = some s.found[n] := List.getElem?_eq_getElem hn
 unfold meet
 rw [hz]
 simp only
 obtain ⟨t, e, a, b, c, d⟩ := holds_spec (concl R (s.found.take n) s.found[n]) s
 have htk : (holds s (concl R (s.found.take n) s.found[n])).found.take (n + 1) = s.found.take n ++ [s.found[n]] := by
  rw [e, List.take_append_of_le_length (by omega), List.take_succ_eq_append_getElem hn]
 have hsub : ∀ f, f ∈ s.found.take n ++ [s.found[n]] → f ∈ s.found := by
  intro f hf
  rcases List.mem_append.1 hf with hf | hf
  · exact List.mem_of_mem_take hf
  · simp at hf; subst hf; exact List.getElem_mem hn
 refine ⟨c h.nodup, ?_, ?_, ?_, ?_⟩
 · intro f hf
   rw [e]
   exact List.mem_append_left _ (h.given f hf)
 · intro g
   rw [htk, d, h.counts, concl_count _ _ _ R hR]
 · intro r hr fs hfs g hg
   rw [htk] at hfs
   have hk := hR r hr
   rw [e]
   have hcount := cnt_step r hk (s.found.take n) s.found[n] g
   have hpos : 0 < cnt r (allT r.k (s.found.take n ++ [s.found[n]])) g := by
    unfold cnt
    rw [List.count_pos_iff, List.mem_filterMap]
    exact ⟨fs, hfs, hg⟩
   by_cases hz : 0 < cnt r (allT r.k (s.found.take n)) g
   · unfold cnt at hz
     rw [List.count_pos_iff, List.mem_filterMap] at hz
     obtain ⟨fs', h1, h2⟩ := hz
     exact List.mem_append_left _ (h.done r hr fs' h1 g h2)
   · have hz2 : 0 < cnt r (newT r.k (s.found.take n) s.found[n]) g := by omega
     unfold cnt at hz2
     rw [List.count_pos_iff, List.mem_filterMap] at hz2
     obtain ⟨fs', h1, h2⟩ := hz2
     exact b g (List.mem_flatMap.2 ⟨r, hr, List.mem_filterMap.2 ⟨fs', h1, h2⟩⟩)
 · intro X hX hG f hf
   rw [e] at hf
   rcases List.mem_append.1 hf with hf | hf
   · exact h.least X hX hG f hf
   · obtain ⟨r, hr, hm⟩ := List.mem_flatMap.1 (a f hf)
     obtain ⟨fs, h1, h2⟩ := List.mem_filterMap.1 hm
     obtain ⟨h3, h4⟩ := mem_newT (hR r hr) h1
     exact hX r hr fs h3 (fun g hg => h.least X hX hG g (hsub g (h4 g hg))) f h2
theorem search_inv {R : List (SRule F)} (hR : ∀ r, r ∈ R → r.k ≤ 2) {M : Nat} {G : F → Prop} : ∀ (fuel n : Nat) (s s' : Sea F), Inv R G s n → n ≤ s.found.length → search R M fuel n s = some s' → Inv R G s' s'.found.length
 | 0, _, _, _, _, _, h => by simp [search] at h
 | fuel + 1, n, s, s', hi, hn, h => by
  unfold search at h
  by_cases h1 : n < s.found.length
  · rw [if_pos h1] at h
    by_cases h2 : M < s.found.length
    · rw [if_pos h2] at h; cases h
    · rw [if_neg h2] at h
      refine search_inv hR fuel (n + 1) _ s' (meet_inv hR hi h1) ?_ h
      have hz : s.found[n]? = some s.found[n] := List.getElem?_eq_getElem h1
      unfold meet
      rw [hz]
      simp only
      obtain ⟨t, e, _⟩ := holds_spec (concl R (s.found.take n) s.found[n]) s
      rw [e, List.length_append]
      omega
  · rw [if_neg h1] at h
    simp only [Option.some.injEq] at h
    subst h
    have : n = s.found.length := by omega
    rw [← this]
    exact hi
theorem search_ends {R : List (SRule F)} (hR : ∀ r, r ∈ R → r.k ≤ 2) {M : Nat} {G : F → Prop} (U : List F) (hU : U.length ≤ M) (hc : Closed R (· ∈ U)) (hG : ∀ f, G f → f ∈ U) : ∀ (fuel n : Nat) (s : Sea F), Inv R G s n → n ≤ s.found.length → M < fuel + n → ∃ s', search R M fuel n s = some s'
 | 0, n, s, hi, hn, hf => by
  have hl : s.found.length ≤ U.length := List.Nodup.length_le_of_subset hi.nodup (fun f hf => hi.least (· ∈ U) hc hG f hf)
  omega
 | fuel + 1, n, s, hi, hn, hf => by
  have hl : s.found.length ≤ U.length := List.Nodup.length_le_of_subset hi.nodup (fun f hf => hi.least (· ∈ U) hc hG f hf)
  unfold search
  by_cases h1 : n < s.found.length
  · rw [if_pos h1, if_neg (by omega)]
    refine search_ends hR U hU hc hG fuel (n + 1) _ (meet_inv hR hi h1) ?_ (by omega)
    have hz : s.found[n]? = some s.found[n] := List.getElem?_eq_getElem h1
    unfold meet
    rw [hz]
    simp only
    obtain ⟨t, e, _⟩ := holds_spec (concl R (s.found.take n) s.found[n]) s
    rw [e, List.length_append]
    omega
  · rw [if_neg h1]
    exact ⟨s, rfl⟩
end
end Go.Proofs.YtdmicblafmhflaaGreatDoor.En
/- Bindings: by which names a rule's body becomes facts. No program here. -/
namespace Go.Proofs.YtdmicblafmhflaaGreatDoor.En
def ee : ByteArray := ⟨#[]⟩
abbrev Bind := List (ByteArray × ByteArray)
def val (b : Bind) (x : ByteArray) : ByteArray := match b with
 | [] => ee
 | p :: r => if p.1 = x then p.2 else val r x
def tval (s : ByteArray → ByteArray) (t : Ax.Term) : ByteArray := if t.kind = 0 then t.text else s t.text
def bmatch : List Ax.Term → List ByteArray → Bind → Option Bind
 | [], _, b => some b
 | _ :: _, [], _ => none
 | t :: ts, n :: ns, b => if tval (val b) t = n then bmatch ts ns b else if tval (val b) t = ee then bmatch ts ns (b ++ [(t.text, n)]) else none
def Full (b : Bind) : Prop := ∀ p, p ∈ b → p.2 ≠ ee
theorem val_snoc (b : Bind) (hb : Full b) (x n y : ByteArray) : val (b ++ [(x, n)]) y = if val b y = ee then (if x = y then n else ee) else val b y := by
 induction b with
 | nil => simp [val]
 | cons p r ih =>
  have hp := hb p (by simp)
  rw [List.cons_append, val, val]
  by_cases h : p.1 = y
  · rw [if_pos h, if_pos h, if_neg hp]
  · rw [if_neg h, if_neg h]
    exact ih (fun q hq => hb q (by simp [hq]))
theorem full_snoc {b : Bind} (hb : Full b) (x : ByteArray) {n : ByteArray} (hn : n ≠ ee) : Full (b ++ [(x, n)]) := by
 intro p hp
 rcases List.mem_append.1 hp with hp | hp
 · exact hb p hp
 · simp at hp; subst hp; exact hn
def NameOk (ts : List Ax.Term) : Prop := ∀ t, t ∈ ts → t.kind = 0 → t.text ≠ ee
theorem bmatch_sound : ∀ (ts : List Ax.Term) (ns : List ByteArray) (b b' : Bind), NameOk ts → Full b → (∀ n, n ∈ ns.take ts.length → n ≠ ee) → bmatch ts ns b = some b' →
 Full b' ∧ (∀ y, val b y ≠ ee → val b' y = val b y) ∧ (∀ (j : Nat) t, ts[j]? = some t → ns[j]? = some (tval (val b') t)) ∧ (∀ y, val b' y ≠ ee → val b y ≠ ee ∨ ∃ t, t ∈ ts ∧ t.kind ≠ 0 ∧ t.text = y)
 | [], ns, b, b', _, hb, _, h => by
  simp only [bmatch, Option.some.injEq] at h
  subst h
  exact ⟨hb, fun _ _ => rfl, fun j t ht => by simp at ht, fun y hy => .inl hy⟩
 | t :: ts, [], b, b', _, _, _, h => by simp [bmatch] at h
 | t :: ts, n :: ns, b, b', hN, hb, hn, h => by
  have hN' : NameOk ts := fun u hu => hN u (by simp [hu])
  have hn0 : n ≠ ee := hn n (by simp)
  have hn' : ∀ m, m ∈ ns.take ts.length → m ≠ ee := fun m hm => hn m (by simp [hm])
  rw [bmatch] at h
  by_cases h1 : tval (val b) t = n
  · rw [if_pos h1] at h
    obtain ⟨a1, a2, a3, a4⟩ := bmatch_sound ts ns b b' hN' hb hn' h
    refine ⟨a1, a2, ?_, ?_⟩
    · intro j u hu
      cases j with
      | zero =>
       simp at hu
       subst hu
       simp only [List.getElem?_cons_zero, Option.some.injEq]
       rw [← h1]
       unfold tval at h1 ⊢
       by_cases hk : t.kind = 0
       · rw [if_pos hk, if_pos hk]
       · rw [if_neg hk] at h1
         rw [if_neg hk, if_neg hk, a2 _ (by rw [h1]; exact hn0)]
      | succ j => simpa using a3 j u (by simpa using hu)
    · intro y hy
      rcases a4 y hy with h2 | ⟨u, hu, h2⟩
      · exact .inl h2
      · exact .inr ⟨u, by simp [hu], h2⟩
  · rw [if_neg h1] at h
    by_cases h2 : tval (val b) t = ee
    · rw [if_pos h2] at h
      have hk : t.kind ≠ 0 := by
       intro hk
       unfold tval at h2
       rw [if_pos hk] at h2
       exact hN t (by simp) hk h2
      have hv : val b t.text = ee := by
       unfold tval at h2
       rwa [if_neg hk] at h2
      obtain ⟨a1, a2, a3, a4⟩ := bmatch_sound ts ns _ b' hN' (full_snoc hb t.text hn0) hn' h
      have hnew : val b' t.text = n := by
       have e : val (b ++ [(t.text, n)]) t.text = n := by rw [val_snoc b hb, if_pos hv, if_pos rfl]
       rw [a2 _ (by rw [e]; exact hn0), e]
      refine ⟨a1, ?_, ?_, ?_⟩
      · intro y hy
        have e : val (b ++ [(t.text, n)]) y = val b y := by rw [val_snoc b hb, if_neg hy]
        rw [a2 _ (by rw [e]; exact hy), e]
      · intro j u hu
        cases j with
        | zero =>
         simp at hu
         subst hu
         simp only [List.getElem?_cons_zero, Option.some.injEq]
         unfold tval
         rw [if_neg hk, hnew]
        | succ j => simpa using a3 j u (by simpa using hu)
      · intro y hy
        rcases a4 y hy with h3 | ⟨u, hu, h3⟩
        · rw [val_snoc b hb] at h3
          by_cases hvy : val b y = ee
          · rw [if_pos hvy] at h3
            by_cases hxy : t.text = y
            · exact .inr ⟨t, by simp, hk, hxy⟩
            · rw [if_neg hxy] at h3; exact absurd rfl h3
          · exact .inl hvy
        · exact .inr ⟨u, by simp [hu], h3⟩
    · rw [if_neg h2] at h
      cases h
theorem bmatch_complete (s : ByteArray → ByteArray) (hs : ∀ y, s y ≠ ee) : ∀ (ts : List Ax.Term) (ns : List ByteArray) (b : Bind), Full b → (∀ y, val b y ≠ ee → s y = val b y) → (∀ (j : Nat) t, ts[j]? = some t → ns[j]? = some (tval s t)) →
 ∃ b', bmatch ts ns b = some b' ∧ (∀ y, val b' y ≠ ee → s y = val b' y)
 | [], ns, b, _, hv, _ => ⟨b, rfl, hv⟩
 | t :: ts, [], b, _, _, h => by simpa using h 0 t rfl
 | t :: ts, n :: ns, b, hb, hv, h => by
  have h0 : n = tval s t := by simpa using h 0 t rfl
  have h' : ∀ (j : Nat) u, ts[j]? = some u → ns[j]? = some (tval s u) := fun j u hu => by simpa using h (j + 1) u (by simpa using hu)
  rw [bmatch]
  by_cases h1 : tval (val b) t = n
  · rw [if_pos h1]
    exact bmatch_complete s hs ts ns b hb hv h'
  · rw [if_neg h1]
    have hk : t.kind ≠ 0 := by
     intro hk
     apply h1
     rw [h0]
     unfold tval
     rw [if_pos hk, if_pos hk]
    have hn : n = s t.text := by
     rw [h0]
     unfold tval
     rw [if_neg hk]
    have h2 : tval (val b) t = ee := by
     unfold tval at h1 ⊢
     rw [if_neg hk] at h1 ⊢
     apply Classical.byContradiction
     intro hc
     exact h1 (by rw [hn, hv _ hc])
    rw [if_pos h2]
    have hvt : val b t.text = ee := by
     unfold tval at h2
     rwa [if_neg hk] at h2
    refine bmatch_complete s hs ts ns _ (full_snoc hb _ (by rw [hn]; exact hs _)) ?_ h'
    intro y hy
    rw [val_snoc b hb] at hy ⊢
    by_cases hvy : val b y = ee
    · rw [if_pos hvy] at hy ⊢
      by_cases hxy : t.text = y
      · rw [if_pos hxy, hn, hxy]
      · rw [if_neg hxy] at hy; exact absurd rfl hy
    · rw [if_neg hvy]
      exact hv y hvy
abbrev Fct := ByteArray × List ByteArray
def amatch (a : Ax.Atom) (f : Fct) (b : Bind) : Option Bind := if a.pred = f.1 then bmatch a.terms f.2 b else none
def pad (l : List ByteArray) : List ByteArray := l ++ List.replicate (3 - l.length) ee
def afact (s : ByteArray → ByteArray) (a : Ax.Atom) : Fct := (a.pred, pad (a.terms.map (tval s)))
def bodym : List Ax.Atom → List Fct → Bind → Option Bind
 | [], [], b => some b
 | a :: az, f :: fs, b => match amatch a f b with | some b' => bodym az fs b' | none => none
 | _, _, _ => none
def rinst (r : Ax.Rule) (fs : List Fct) : Option Fct := (bodym r.body fs []).map fun b => afact (val b) r.head
def srule (r : Ax.Rule) : SRule Fct := ⟨r.body.length, rinst r⟩
def FitsA (a : Ax.Atom) (f : Fct) : Prop := a.pred = f.1 → ∃ l : List ByteArray, l.length = a.terms.length ∧ (∀ n, n ∈ l → n ≠ ee) ∧ f.2 = pad l
theorem pad_get {l : List ByteArray} {j : Nat} (h : j < l.length) : (pad l)[j]? = l[j]? := by
 unfold pad
 rw [List.getElem?_append_left h]
theorem pad_take (l : List ByteArray) : (pad l).take l.length = l := by simp [pad]
theorem amatch_sound {a : Ax.Atom} {f : Fct} {b b' : Bind} (hN : NameOk a.terms) (hf : FitsA a f) (hb : Full b) (h : amatch a f b = some b') :
 Full b' ∧ (∀ y, val b y ≠ ee → val b' y = val b y) ∧ afact (val b') a = f ∧ (∀ t, t ∈ a.terms → t.kind ≠ 0 → val b' t.text ≠ ee) := by
 unfold amatch at h
 by_cases hp : a.pred = f.1
 · rw [if_pos hp] at h
   obtain ⟨l, hl, hne, hpad⟩ := hf hp
   rw [hpad] at h
   obtain ⟨a1, a2, a3, a4⟩ := bmatch_sound a.terms (pad l) b b' hN hb (by rw [← hl, pad_take]; exact hne) h
   have hbound : ∀ t, t ∈ a.terms → t.kind ≠ 0 → val b' t.text ≠ ee := by
    intro t ht hk
    obtain ⟨j, hj, e⟩ := List.getElem_of_mem ht
    have h3 := a3 j t (by rw [List.getElem?_eq_getElem hj, e])
    rw [pad_get (by omega)] at h3
    have hm := hne _ (List.mem_of_getElem? h3)
    unfold tval at hm
    rwa [if_neg hk] at hm
   refine ⟨a1, a2, ?_, hbound⟩
   have e : a.terms.map (tval (val b')) = l := by
    apply List.ext_getElem?
    intro j
    rw [List.getElem?_map]
    cases hj : a.terms[j]? with
    | none =>
     rw [List.getElem?_eq_none_iff] at hj
     rw [Option.map_none, List.getElem?_eq_none (by omega)]
    | some t =>
     have hjl := (List.getElem?_eq_some_iff.1 hj).1
     have := a3 j t hj
     rw [pad_get (by omega)] at this
     rw [this]
     rfl
   unfold afact
   rw [e, hp, ← hpad]
 · rw [if_neg hp] at h; cases h
theorem amatch_complete (s : ByteArray → ByteArray) (hs : ∀ y, s y ≠ ee) {a : Ax.Atom} {b : Bind} (hb : Full b) (hv : ∀ y, val b y ≠ ee → s y = val b y) : ∃ b', amatch a (afact s a) b = some b' ∧ (∀ y, val b' y ≠ ee → s y = val b' y) := by
 unfold amatch
 have hp : a.pred = (afact s a).1 := rfl
 rw [if_pos hp]
 refine bmatch_complete s hs a.terms _ b hb hv ?_
 intro j t ht
 have hj := (List.getElem?_eq_some_iff.1 ht).1
 show (pad (a.terms.map (tval s)))[j]? = _
 rw [pad_get (by simpa using hj), List.getElem?_map, ht]
 rfl
end Go.Proofs.YtdmicblafmhflaaGreatDoor.En
/- What a rule makes of facts: just its instances. No program here. -/
namespace Go.Proofs.YtdmicblafmhflaaGreatDoor.En
def Bound (b : Bind) (a : Ax.Atom) : Prop := ∀ t, t ∈ a.terms → t.kind ≠ 0 → val b t.text ≠ ee
theorem afact_congr {s u : ByteArray → ByteArray} {a : Ax.Atom} (h : ∀ t, t ∈ a.terms → t.kind ≠ 0 → s t.text = u t.text) : afact s a = afact u a := by
 unfold afact
 have e : a.terms.map (tval s) = a.terms.map (tval u) := by
  apply List.map_congr_left
  intro t ht
  unfold tval
  by_cases hk : t.kind = 0
  · rw [if_pos hk, if_pos hk]
  · rw [if_neg hk, if_neg hk, h t ht hk]
 rw [e]
theorem bodym_sound : ∀ (az : List Ax.Atom) (fs : List Fct) (b b' : Bind), (∀ a, a ∈ az → NameOk a.terms) → (∀ x, x ∈ az.zip fs → FitsA x.1 x.2) → Full b → bodym az fs b = some b' →
 Full b' ∧ (∀ y, val b y ≠ ee → val b' y = val b y) ∧ fs = az.map (afact (val b')) ∧ (∀ a, a ∈ az → Bound b' a)
 | [], [], b, b', _, _, hb, h => by
  simp only [bodym, Option.some.injEq] at h
  subst h
  exact ⟨hb, fun _ _ => rfl, rfl, fun a ha => by cases ha⟩
 | [], f :: fs, b, b', _, _, _, h => by simp [bodym] at h
 | a :: az, [], b, b', _, _, _, h => by simp [bodym] at h
 | a :: az, f :: fs, b, b', hN, hF, hb, h => by
  rw [bodym] at h
  cases hm : amatch a f b with
  | none => rw [hm] at h; cases h
  | some b1 =>
   rw [hm] at h
   simp only at h
   obtain ⟨c1, c2, c3, c4⟩ := amatch_sound (hN a (by simp)) (hF (a, f) (by simp)) hb hm
   obtain ⟨d1, d2, d3, d4⟩ := bodym_sound az fs b1 b' (fun x hx => hN x (by simp [hx])) (fun x hx => hF x (by simp [hx])) c1 h
   refine ⟨d1, ?_, ?_, ?_⟩
   · intro y hy
     have e := c2 y hy
     rw [d2 y (by rw [e]; exact hy), e]
   · have c3' : f = afact (val b1) a := c3.symm
     rw [List.map_cons, ← d3, c3']
     congr 1
     exact afact_congr (fun t ht hk => (d2 _ (c4 t ht hk)).symm)
   · intro x hx
     rcases List.mem_cons.1 hx with rfl | hx
     · intro t ht hk
       have e := d2 _ (c4 t ht hk)
       rw [e]
       exact c4 t ht hk
     · exact d4 x hx
theorem bodym_complete (s : ByteArray → ByteArray) (hs : ∀ y, s y ≠ ee) : ∀ (az : List Ax.Atom) (b : Bind), (∀ a, a ∈ az → NameOk a.terms) → (∀ x, x ∈ az.zip (az.map (afact s)) → FitsA x.1 x.2) → Full b → (∀ y, val b y ≠ ee → s y = val b y) →
 ∃ b', bodym az (az.map (afact s)) b = some b' ∧ (∀ y, val b' y ≠ ee → s y = val b' y)
 | [], b, _, _, _, hv => ⟨b, rfl, hv⟩
 | a :: az, b, hN, hF, hb, hv => by
  obtain ⟨b1, h1, h2⟩ := amatch_complete s hs (a := a) hb hv
  obtain ⟨c1, _⟩ := amatch_sound (hN a (by simp)) (hF (a, afact s a) (by simp)) hb h1
  obtain ⟨b', h3, h4⟩ := bodym_complete s hs az b1 (fun x hx => hN x (by simp [hx])) (fun x hx => hF x (by simp [hx])) c1 h2
  refine ⟨b', ?_, h4⟩
  rw [List.map_cons, bodym, h1]
  exact h3
def Safe (r : Ax.Rule) : Prop := ∀ t, t ∈ r.head.terms → t.kind ≠ 0 → ∃ a, a ∈ r.body ∧ ∃ u, u ∈ a.terms ∧ u.kind ≠ 0 ∧ u.text = t.text
def AllNames (r : Ax.Rule) : Prop := ∀ a, a ∈ r.body → NameOk a.terms
theorem rinst_iff {r : Ax.Rule} (hS : Safe r) (hN : AllNames r) {fs : List Fct} (hF : ∀ x, x ∈ r.body.zip fs → FitsA x.1 x.2) (h : Fct) :
 rinst r fs = some h ↔ ∃ s : ByteArray → ByteArray, (∀ y, s y ≠ ee) ∧ fs = r.body.map (afact s) ∧ h = afact s r.head := by
 have hE : Full [] := fun p hp => by cases hp
 constructor
 · intro hr
   unfold rinst at hr
   cases hm : bodym r.body fs [] with
   | none => rw [hm] at hr; cases hr
   | some b =>
    rw [hm] at hr
    simp only [Option.map_some, Option.some.injEq] at hr
    obtain ⟨_, _, c3, c4⟩ := bodym_sound r.body fs [] b hN hF hE hm
    refine ⟨fun y => if val b y = ee then ⟨#[97]⟩ else val b y, ?_, ?_, ?_⟩
    · intro y
      by_cases hy : val b y = ee
      · simp only [hy, if_true]
        decide
      · simp only [hy, if_false]
        exact hy
    · rw [c3]
      apply List.map_congr_left
      intro a ha
      apply afact_congr
      intro t ht hk
      rw [if_neg (c4 a ha t ht hk)]
    · rw [← hr]
      apply afact_congr
      intro t ht hk
      obtain ⟨a, ha, u, hu, hk', e⟩ := hS t ht hk
      have hbd := c4 a ha u hu hk'
      rw [e] at hbd
      rw [if_neg hbd]
 · rintro ⟨s, hs, rfl, rfl⟩
   obtain ⟨b, h1, h2⟩ := bodym_complete s hs r.body [] hN hF hE (fun y hy => absurd rfl hy)
   obtain ⟨_, _, c3, c4⟩ := bodym_sound r.body _ [] b hN hF hE h1
   unfold rinst
   rw [h1]
   simp only [Option.map_some, Option.some.injEq]
   apply afact_congr
   intro t ht hk
   obtain ⟨a, ha, u, hu, hk', e⟩ := hS t ht hk
   have hbd := c4 a ha u hu hk'
   rw [e] at hbd
   exact (h2 _ hbd).symm
end Go.Proofs.YtdmicblafmhflaaGreatDoor.En
/- Rules and facts in numbers, as axiomkeep's laws have them. No program here. -/
namespace Go.Proofs.YtdmicblafmhflaaGreatDoor.En
open Ax (gname gpred gvar gterm KFit)
abbrev NA := Nat × List Nat
structure NRule where
 head : NA
 body : List NA
def NFit (a : NA) : Prop := KFit a.1 a.2 ∧ ∀ n, n ∈ a.2 → n < 7
structure NOk (r : NRule) : Prop where
 head : NFit r.head
 body : ∀ b, b ∈ r.body → NFit b
 two : r.body.length ≤ 2
 safe : ∀ n, n ∈ r.head.2 → n < 3 → ∃ b, b ∈ r.body ∧ n ∈ b.2
def toAtom (a : NA) : Ax.Atom := ⟨0, gpred a.1, a.2.map gterm⟩
def toRule (r : NRule) : Ax.Rule := ⟨toAtom r.head, r.body.map toAtom⟩
def nfact (p : Nat) (xs : List Nat) : Fct := (gpred p, pad (xs.map gname))
def tvN (v : Nat → Nat) (n : Nat) : Nat := if n < 3 then v n else n - 3
def subst (v : Nat → Nat) (a : NA) : Fct := nfact a.1 (a.2.map (tvN v))
def sig (v : Nat → Nat) : ByteArray → ByteArray := fun y => if y = gvar 0 then gname (v 0) else if y = gvar 1 then gname (v 1) else if y = gvar 2 then gname (v 2) else ⟨#[97]⟩
theorem gname_ne (n : Nat) : gname n ≠ ee := by
 unfold gname ee
 split <;> decide
theorem sig_ne (v : Nat → Nat) (y : ByteArray) : sig v y ≠ ee := by
 unfold sig
 split
 · exact gname_ne _
 · split
   · exact gname_ne _
   · split
     · exact gname_ne _
     · decide
theorem sig_var (v : Nat → Nat) {n : Nat} (h : n < 3) : sig v (gvar n) = gname (v n) := by
 have : n = 0 ∨ n = 1 ∨ n = 2 := by omega
 have h01 : ¬ gvar 1 = gvar 0 := by decide
 have h02 : ¬ gvar 2 = gvar 0 := by decide
 have h12 : ¬ gvar 2 = gvar 1 := by decide
 rcases this with rfl | rfl | rfl <;> simp [sig, h01, h02, h12]
theorem gvar_inj {n m : Nat} (hn : n < 3) (hm : m < 3) (h : gvar n = gvar m) : n = m := by
 have a : n = 0 ∨ n = 1 ∨ n = 2 := by omega
 have b : m = 0 ∨ m = 1 ∨ m = 2 := by omega
 rcases a with rfl | rfl | rfl <;> rcases b with rfl | rfl | rfl <;> first | rfl | (exfalso; revert h; decide)
theorem gname_inj {n m : Nat} (hn : n < 4) (hm : m < 4) (h : gname n = gname m) : n = m := by
 have a : n = 0 ∨ n = 1 ∨ n = 2 ∨ n = 3 := by omega
 have b : m = 0 ∨ m = 1 ∨ m = 2 ∨ m = 3 := by omega
 rcases a with rfl | rfl | rfl | rfl <;> rcases b with rfl | rfl | rfl | rfl <;> first | rfl | (exfalso; revert h; decide)
theorem gpred_inj {n m : Nat} (hn : n < 3) (hm : m < 3) (h : gpred n = gpred m) : n = m := by
 have a : n = 0 ∨ n = 1 ∨ n = 2 := by omega
 have b : m = 0 ∨ m = 1 ∨ m = 2 := by omega
 rcases a with rfl | rfl | rfl <;> rcases b with rfl | rfl | rfl <;> first | rfl | (exfalso; revert h; decide)
theorem tval_sig (v : Nat → Nat) (n : Nat) : tval (sig v) (gterm n) = gname (tvN v n) := by
 unfold gterm tvN
 by_cases h : n < 3
 · rw [if_pos h, if_pos h]
   show (if (1 : Int) = 0 then gvar n else sig v (gvar n)) = _
   rw [if_neg (by decide), sig_var v h]
 · rw [if_neg h, if_neg h]
   rfl
theorem afact_sig (v : Nat → Nat) (a : NA) : afact (sig v) (toAtom a) = subst v a := by
 unfold afact subst nfact toAtom
 simp only [List.map_map]
 have e : List.map (tval (sig v) ∘ gterm) a.2 = List.map (gname ∘ tvN v) a.2 := List.map_congr_left fun n _ => tval_sig v n
 rw [e]
theorem pad_inj {a b : List ByteArray} (hl : a.length = b.length) (h : pad a = pad b) : a = b := by
 have := congrArg (fun l => l.take a.length) h
 simp only [pad_take] at this
 rw [hl, pad_take] at this
 exact this
theorem map_gname_inj : ∀ {a b : List Nat}, (∀ n, n ∈ a → n < 4) → (∀ n, n ∈ b → n < 4) → a.map gname = b.map gname → a = b
 | [], [], _, _, _ => rfl
 | [], y :: b, _, _, h => by simp at h
 | x :: a, [], _, _, h => by simp at h
 | x :: a, y :: b, ha, hb, h => by
  simp only [List.map_cons, List.cons.injEq] at h
  rw [gname_inj (ha x (by simp)) (hb y (by simp)) h.1, map_gname_inj (fun n hn => ha n (by simp [hn])) (fun n hn => hb n (by simp [hn])) h.2]
def Can (f : Fct) : Prop := ∃ p xs, KFit p xs ∧ (∀ x, x ∈ xs → x < 4) ∧ f = nfact p xs
theorem can_fits {f : Fct} (hf : Can f) {a : NA} (ha : NFit a) : FitsA (toAtom a) f := by
 obtain ⟨p, xs, hk, hx, rfl⟩ := hf
 intro hp
 have hpp : a.1 = p := gpred_inj ha.1.1 hk.1 hp
 refine ⟨xs.map gname, ?_, ?_, rfl⟩
 · have h1 := ha.1.2
   have h2 := hk.2
   rw [hpp] at h1
   simp [toAtom, h1, h2]
 · intro n hn
   obtain ⟨x, _, rfl⟩ := List.mem_map.1 hn
   exact gname_ne x
theorem nameOk_terms (ts : List Nat) : NameOk (ts.map gterm) := by
 intro t ht hk
 obtain ⟨n, _, rfl⟩ := List.mem_map.1 ht
 unfold gterm at hk ⊢
 split
 · rename_i h; rw [if_pos h] at hk; cases hk
 · exact gname_ne _
theorem can_subst {v : Nat → Nat} (hv : ∀ i, i < 3 → v i < 4) {a : NA} (ha : NFit a) : Can (subst v a) := by
 refine ⟨a.1, a.2.map (tvN v), ⟨ha.1.1, by rw [List.length_map]; exact ha.1.2⟩, ?_, rfl⟩
 intro x hx
 obtain ⟨n, hn, rfl⟩ := List.mem_map.1 hx
 unfold tvN
 have := ha.2 n hn
 split
 · rename_i h; exact hv n h
 · omega
theorem safe_toRule {r : NRule} (h : NOk r) : Safe (toRule r) := by
 intro t ht hk
 obtain ⟨n, hn, rfl⟩ := List.mem_map.1 ht
 have h3 : n < 3 := by
  unfold gterm at hk
  split at hk
  · assumption
  · exact absurd rfl hk
 obtain ⟨b, hb, hm⟩ := h.safe n hn h3
 exact ⟨toAtom b, List.mem_map.2 ⟨b, hb, rfl⟩, gterm n, List.mem_map.2 ⟨n, hm, rfl⟩, hk, rfl⟩
theorem names_toRule (r : NRule) : AllNames (toRule r) := by
 intro a ha
 obtain ⟨b, _, rfl⟩ := List.mem_map.1 ha
 exact nameOk_terms b.2
end Go.Proofs.YtdmicblafmhflaaGreatDoor.En
