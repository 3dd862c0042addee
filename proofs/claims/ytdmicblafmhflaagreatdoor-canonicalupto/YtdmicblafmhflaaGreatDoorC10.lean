/- As many tuples of facts as values of the variables. No program here. -/
import Derived.Test.YtdmicblafmhflaaGreatDoorC09
import Derived.Test.YtdmicblafmhflaaGreatDoorC08
set_option linter.unusedSimpArgs false
set_option linter.unusedVariables false
namespace Go.Proofs.YtdmicblafmhflaaGreatDoor.En
open Ax (gname gpred gvar gterm KFit)
def vOf (n : Nat) : Nat → Nat := fun i => match i with | 0 => n % 4 | 1 => n / 4 % 4 | _ => n / 16
theorem vOf_lt {n : Nat} (h : n < 64) (i : Nat) : vOf n i < 4 := by
 match i with
 | 0 => show n % 4 < 4; omega
 | 1 => show n / 4 % 4 < 4; omega
 | (k + 2) => show n / 16 < 4; omega
theorem vOf_inj {n m : Nat} (h : ∀ i, i < 3 → vOf n i = vOf m i) : n = m := by
 have h0 : n % 4 = m % 4 := h 0 (by decide)
 have h1 : n / 4 % 4 = m / 4 % 4 := h 1 (by decide)
 have h2 : n / 16 = m / 16 := h 2 (by decide)
 omega
theorem vOf_surj (v : Nat → Nat) (h : ∀ i, v i < 4) : ∃ n, n < 64 ∧ ∀ i, i < 3 → vOf n i = v i := by
 have h0 := h 0
 have h1 := h 1
 have h2 := h 2
 refine ⟨v 0 + 4 * v 1 + 16 * v 2, by omega, ?_⟩
 intro i hi
 have : i = 0 ∨ i = 1 ∨ i = 2 := by omega
 rcases this with rfl | rfl | rfl
 · show (v 0 + 4 * v 1 + 16 * v 2) % 4 = v 0; omega
 · show (v 0 + 4 * v 1 + 16 * v 2) / 4 % 4 = v 1; omega
 · show (v 0 + 4 * v 1 + 16 * v 2) / 16 = v 2; omega
def uses (r : NRule) (i : Nat) : Bool := r.body.any fun b => decide (i ∈ b.2)
theorem uses_iff {r : NRule} {i : Nat} : uses r i = true ↔ ∃ b, b ∈ r.body ∧ i ∈ b.2 := by simp [uses]
def okv (r : NRule) (n : Nat) : Bool := (uses r 0 || decide (vOf n 0 = 0)) && (uses r 1 || decide (vOf n 1 = 0)) && (uses r 2 || decide (vOf n 2 = 0))
theorem okv_iff {r : NRule} {n : Nat} : okv r n = true ↔ ∀ i, i < 3 → uses r i = true ∨ vOf n i = 0 := by
 unfold okv
 simp only [Bool.and_eq_true, Bool.or_eq_true, decide_eq_true_eq]
 constructor
 · rintro ⟨⟨h0, h1⟩, h2⟩ i hi
   have : i = 0 ∨ i = 1 ∨ i = 2 := by omega
   rcases this with rfl | rfl | rfl
   · exact h0
   · exact h1
   · exact h2
 · intro h
   exact ⟨⟨h 0 (by decide), h 1 (by decide)⟩, h 2 (by decide)⟩
def vs (r : NRule) : List Nat := (List.range 64).filter (okv r)
def tup (r : NRule) (n : Nat) : List Fct := r.body.map (subst (vOf n))
theorem mem_vs {r : NRule} {n : Nat} : n ∈ vs r ↔ n < 64 ∧ okv r n = true := by simp [vs]
theorem subst_eq {v u : Nat → Nat} {b : NA} (hb : NFit b) (hv : ∀ i, i < 3 → v i < 4) (hu : ∀ i, i < 3 → u i < 4) (h : subst v b = subst u b) : ∀ i, i ∈ b.2 → tvN v i = tvN u i := by
 have hlt : ∀ (w : Nat → Nat), (∀ i, i < 3 → w i < 4) → ∀ n, n ∈ b.2.map (tvN w) → n < 4 := by
  intro w hw n hn
  obtain ⟨x, hx, rfl⟩ := List.mem_map.1 hn
  have := hb.2 x hx
  unfold tvN
  split
  · rename_i h; exact hw x h
  · omega
 unfold subst nfact at h
 have h2 := pad_inj (by simp) (Prod.mk.inj h).2
 have h3 := map_gname_inj (hlt v hv) (hlt u hu) h2
 exact List.map_inj_left.1 h3
theorem tup_inj {r : NRule} (hr : NOk r) {n m : Nat} (hn : n ∈ vs r) (hm : m ∈ vs r) (h : tup r n = tup r m) : n = m := by
 obtain ⟨n1, n2⟩ := mem_vs.1 hn
 obtain ⟨m1, m2⟩ := mem_vs.1 hm
 apply vOf_inj
 intro i hi
 rcases okv_iff.1 n2 i hi with hu | h0
 · obtain ⟨b, hb, hib⟩ := uses_iff.1 hu
   have := subst_eq (hr.body b hb) (fun i _ => vOf_lt n1 i) (fun i _ => vOf_lt m1 i) (List.map_inj_left.1 h b hb) i hib
   unfold tvN at this
   rwa [if_pos hi, if_pos hi] at this
 · rcases okv_iff.1 m2 i hi with hu | h1
   · obtain ⟨b, hb, hib⟩ := uses_iff.1 hu
     have := subst_eq (hr.body b hb) (fun i _ => vOf_lt n1 i) (fun i _ => vOf_lt m1 i) (List.map_inj_left.1 h b hb) i hib
     unfold tvN at this
     rwa [if_pos hi, if_pos hi] at this
   · rw [h0, h1]
theorem fits_zip {r : NRule} (hr : NOk r) {fs : List Fct} (hf : ∀ f, f ∈ fs → Can f) : ∀ x, x ∈ (toRule r).body.zip fs → FitsA x.1 x.2 := by
 intro x hx
 obtain ⟨h1, h2⟩ := List.of_mem_zip hx
 obtain ⟨b, hb, e⟩ := List.mem_map.1 h1
 rw [← e]
 exact can_fits (hf _ h2) (hr.body b hb)
theorem inst_tup {r : NRule} (hr : NOk r) {n : Nat} (hn : n < 64) : rinst (toRule r) (tup r n) = some (subst (vOf n) r.head) := by
 have hc : ∀ f, f ∈ tup r n → Can f := by
  intro f hf
  obtain ⟨b, hb, rfl⟩ := List.mem_map.1 hf
  exact can_subst (fun i _ => vOf_lt hn i) (hr.body b hb)
 rw [rinst_iff (safe_toRule hr) (names_toRule r) (fits_zip hr hc)]
 refine ⟨sig (vOf n), sig_ne _, ?_, (afact_sig _ _).symm⟩
 unfold tup toRule
 simp only [List.map_map]
 exact List.map_congr_left fun b _ => (afact_sig _ _).symm
theorem tup_of {r : NRule} (hr : NOk r) {fs : List Fct} (hf : ∀ f, f ∈ fs → Can f) {h : Fct} (hi : rinst (toRule r) fs = some h) : ∃ n, n ∈ vs r ∧ tup r n = fs := by
 rw [rinst_iff (safe_toRule hr) (names_toRule r) (fits_zip hr hf)] at hi
 obtain ⟨s, hs, e, _⟩ := hi
 have hval : ∀ b, b ∈ r.body → ∃ xs : List Nat, xs.length = b.2.length ∧ (∀ x, x ∈ xs → x < 4) ∧ b.2.map (fun n => tval s (gterm n)) = xs.map gname := by
  intro b hb
  have hm : afact s (toAtom b) ∈ fs := by
   rw [e]
   exact List.mem_map.2 ⟨toAtom b, List.mem_map.2 ⟨b, hb, rfl⟩, rfl⟩
  obtain ⟨p, xs, hk, hx, hxe⟩ := hf _ hm
  unfold afact nfact toAtom at hxe
  simp only [List.map_map, Prod.mk.injEq] at hxe
  have hp := gpred_inj (hr.body b hb).1.1 hk.1 hxe.1
  have hl : xs.length = b.2.length := by
   have h1 := (hr.body b hb).1.2
   have h2 := hk.2
   rw [hp] at h1
   omega
  refine ⟨xs, hl, hx, ?_⟩
  exact pad_inj (by simp [hl]) hxe.2
 have hex : ∀ i, ∃ x, x < 4 ∧ (uses r i = true → i < 3 → s (gvar i) = gname x) ∧ (uses r i = false → x = 0) := by
  intro i
  by_cases hu : uses r i = true
  · by_cases hi3 : i < 3
    · obtain ⟨b, hb, hib⟩ := uses_iff.1 hu
      obtain ⟨xs, hl, hx, hm⟩ := hval b hb
      obtain ⟨j, hj, ej⟩ := List.getElem_of_mem hib
      have := congrArg (fun l => l[j]?) hm
      simp only [List.getElem?_map, List.getElem?_eq_getElem hj, List.getElem?_eq_getElem (show j < xs.length by omega), Option.map_some, Option.some.injEq] at this
      refine ⟨xs[j]'(by omega), hx _ (List.getElem_mem _), fun _ _ => ?_, fun hf => by rw [hu] at hf; cases hf⟩
      rw [← this, ej]
      unfold gterm tval
      rw [if_pos hi3]
      show _ = if (1 : Int) = 0 then _ else _
      rw [if_neg (by decide)]
    · exact ⟨0, by decide, fun _ h => absurd h hi3, fun _ => rfl⟩
  · exact ⟨0, by decide, fun h => absurd h hu, fun _ => rfl⟩
 obtain ⟨v, hv⟩ : ∃ v : Nat → Nat, ∀ i, v i < 4 ∧ (uses r i = true → i < 3 → s (gvar i) = gname (v i)) ∧ (uses r i = false → v i = 0) := ⟨fun i => Classical.choose (hex i), fun i => Classical.choose_spec (hex i)⟩
 obtain ⟨n, hn, hnv⟩ := vOf_surj v (fun i => (hv i).1)
 refine ⟨n, mem_vs.2 ⟨hn, okv_iff.2 fun i hi => ?_⟩, ?_⟩
 · by_cases hu : uses r i = true
   · exact .inl hu
   · right
     rw [hnv i hi]
     exact (hv i).2.2 (by simpa using hu)
 · rw [e]
   unfold tup toRule
   simp only [List.map_map]
   apply List.map_congr_left
   intro b hb
   unfold subst nfact
   show _ = afact s (toAtom b)
   unfold afact toAtom
   simp only [List.map_map]
   congr 2
   apply List.map_congr_left
   intro x hx
   show gname (tvN (vOf n) x) = tval s (gterm x)
   unfold tvN gterm tval
   by_cases h3 : x < 3
   · rw [if_pos h3, if_pos h3]
     show _ = if (1 : Int) = 0 then _ else _
     rw [if_neg (by decide), hnv x h3]
     exact ((hv x).2.1 (uses_iff.2 ⟨b, hb, hx⟩) h3).symm
   · rw [if_neg h3, if_neg h3]
     rfl
theorem allT_nodup {F : Type} {k : Nat} (hk : k ≤ 2) {L : List F} (h : L.Nodup) : (allT k L).Nodup := by
 have : k = 0 ∨ k = 1 ∨ k = 2 := by omega
 rcases this with e | e | e <;> subst e
 · simp [allT]
 · show (L.map fun x => [x]).Pairwise (· ≠ ·)
   rw [List.pairwise_map]
   exact List.Pairwise.imp (fun hab e => hab (by simpa using e)) h
 · show (L.flatMap fun x => L.map fun y => [x, y]).Nodup
   show List.Pairwise (· ≠ ·) _
   rw [List.pairwise_flatMap]
   refine ⟨fun x _ => ?_, List.Pairwise.imp ?_ h⟩
   · rw [List.pairwise_map]
     exact List.Pairwise.imp (fun hab e => hab (by simpa using e)) h
   · intro a b hab x hx y hy e
     subst e
     obtain ⟨c, _, rfl⟩ := List.mem_map.1 hx
     obtain ⟨d, _, e⟩ := List.mem_map.1 hy
     simp at e
     exact hab e.1.symm
theorem fm_some {α β : Type} {f : α → Option β} {g : α → β} : ∀ (l : List α), (∀ x, x ∈ l → f x = some (g x)) → l.filterMap f = l.map g
 | [], _ => rfl
 | x :: l, h => by
  rw [List.filterMap_cons_some (h x (by simp)), fm_some l (fun y hy => h y (by simp [hy])), List.map_cons]
def okL (r : NRule) (L : List Fct) : List Nat := (vs r).filter fun n => (tup r n).all fun f => hasB L f
theorem cnt_vs {r : NRule} (hr : NOk r) {L : List Fct} (hL : L.Nodup) (hC : ∀ f, f ∈ L → Can f) (h : Fct) :
 cnt (srule (toRule r)) (allT r.body.length L) h = lcount ((okL r L).map fun n => subst (vOf n) r.head) h := by
 have hperm : List.Perm ((allT r.body.length L).filter fun fs => (rinst (toRule r) fs).isSome) ((okL r L).map (tup r)) := by
  rw [List.perm_ext_iff_of_nodup]
  · intro fs
    rw [List.mem_filter, List.mem_map, mem_allT hr.two]
    constructor
    · rintro ⟨⟨h1, h2⟩, h3⟩
      obtain ⟨x, hx⟩ := Option.isSome_iff_exists.1 h3
      obtain ⟨n, hn, e⟩ := tup_of hr (fun f hf => hC f (h2 f hf)) hx
      refine ⟨n, ?_, e⟩
      unfold okL
      rw [List.mem_filter]
      refine ⟨hn, ?_⟩
      rw [e, List.all_eq_true]
      intro f hf
      exact hasB_iff.2 (h2 f hf)
    · rintro ⟨n, hn, rfl⟩
      unfold okL at hn
      rw [List.mem_filter, List.all_eq_true] at hn
      refine ⟨⟨by simp [tup], fun f hf => hasB_iff.1 (hn.2 f hf)⟩, ?_⟩
      rw [inst_tup hr (mem_vs.1 hn.1).1]
      rfl
  · exact (allT_nodup hr.two hL).filter _
  · unfold okL
    rw [List.nodup_iff_pairwise_ne, List.pairwise_map]
    have hnd : ((vs r).filter fun n => (tup r n).all fun f => hasB L f).Nodup := by
     unfold vs
     exact (List.nodup_range.filter _).filter _
    refine List.Pairwise.imp_of_mem ?_ hnd
    intro a b ha hb hab e
    exact hab (tup_inj hr (List.mem_filter.1 ha).1 (List.mem_filter.1 hb).1 e)
 have e1 : (allT r.body.length L).filterMap (rinst (toRule r)) = ((allT r.body.length L).filter fun fs => (rinst (toRule r) fs).isSome).filterMap (rinst (toRule r)) := by
  rw [List.filterMap_filter]
  congr 1
  funext fs
  cases rinst (toRule r) fs <;> simp
 have e2 : ((okL r L).map (tup r)).filterMap (rinst (toRule r)) = (okL r L).map fun n => subst (vOf n) r.head := by
  rw [List.filterMap_map]
  apply fm_some
  intro n hn
  unfold okL at hn
  exact inst_tup hr (mem_vs.1 (List.mem_filter.1 hn).1).1
 rw [cnt_eq]
 show lcount ((allT r.body.length L).filterMap (rinst (toRule r))) h = _
 rw [e1, ← e2]
 exact lcount_perm (hperm.filterMap _) h
end Go.Proofs.YtdmicblafmhflaaGreatDoor.En
/- What axiomkeep's least works out: the least set that holds what is given and what follows. No program here. -/
namespace Go.Proofs.YtdmicblafmhflaaGreatDoor.En
open Ax (gname gpred gvar gterm KFit)
def idxN (p : Nat) (xs : List Nat) : Nat := if p = 0 then xs.getD 0 0 else 4 + 16 * (p - 1) + 4 * xs.getD 0 0 + xs.getD 1 0
def uF (i : Nat) : Fct := if i < 4 then nfact 0 [i] else if i < 20 then nfact 1 [(i - 4) / 4, (i - 4) % 4] else nfact 2 [(i - 20) / 4, (i - 20) % 4]
theorem kfit_len1 {xs : List Nat} (h : xs.length = 1) : ∃ a, xs = [a] := by
 match xs, h with
 | [a], _ => exact ⟨a, rfl⟩
theorem kfit_len2 {xs : List Nat} (h : xs.length = 2) : ∃ a b, xs = [a, b] := by
 match xs, h with
 | [a, b], _ => exact ⟨a, b, rfl⟩
theorem kfit_cases {p : Nat} {xs : List Nat} (h : KFit p xs) : (p = 0 ∧ ∃ a, xs = [a]) ∨ (p = 1 ∧ ∃ a b, xs = [a, b]) ∨ (p = 2 ∧ ∃ a b, xs = [a, b]) := by
 obtain ⟨h1, h2⟩ := h
 have : p = 0 ∨ p = 1 ∨ p = 2 := by omega
 rcases this with rfl | rfl | rfl
 · exact .inl ⟨rfl, kfit_len1 (by simpa using h2)⟩
 · exact .inr (.inl ⟨rfl, kfit_len2 (by simpa using h2)⟩)
 · exact .inr (.inr ⟨rfl, kfit_len2 (by simpa using h2)⟩)
theorem idxN_lt {p : Nat} {xs : List Nat} (h : KFit p xs) (hx : ∀ x, x ∈ xs → x < 4) : idxN p xs < 36 := by
 rcases kfit_cases h with ⟨rfl, a, rfl⟩ | ⟨rfl, a, b, rfl⟩ | ⟨rfl, a, b, rfl⟩
 · have := hx a (by simp)
   simp [idxN]; omega
 · have := hx a (by simp)
   have := hx b (by simp)
   simp [idxN]; omega
 · have := hx a (by simp)
   have := hx b (by simp)
   simp [idxN]; omega
theorem uF_idx {p : Nat} {xs : List Nat} (h : KFit p xs) (hx : ∀ x, x ∈ xs → x < 4) : uF (idxN p xs) = nfact p xs := by
 rcases kfit_cases h with ⟨rfl, a, rfl⟩ | ⟨rfl, a, b, rfl⟩ | ⟨rfl, a, b, rfl⟩
 · have := hx a (by simp)
   have e : idxN 0 [a] = a := by simp [idxN]
   rw [e]
   unfold uF
   rw [if_pos (by omega)]
 · have := hx a (by simp)
   have := hx b (by simp)
   have e : idxN 1 [a, b] = 4 + 4 * a + b := by simp [idxN]
   rw [e]
   unfold uF
   rw [if_neg (by omega), if_pos (by omega), show (4 + 4 * a + b - 4) / 4 = a by omega, show (4 + 4 * a + b - 4) % 4 = b by omega]
 · have := hx a (by simp)
   have := hx b (by simp)
   have e : idxN 2 [a, b] = 20 + 4 * a + b := by simp [idxN]
   rw [e]
   unfold uF
   rw [if_neg (by omega), if_neg (by omega), show (20 + 4 * a + b - 20) / 4 = a by omega, show (20 + 4 * a + b - 20) % 4 = b by omega]
theorem uF_can {i : Nat} (h : i < 36) : Can (uF i) := by
 unfold uF
 split
 · exact ⟨0, [i], ⟨by decide, rfl⟩, by simp; omega, rfl⟩
 · split
   · exact ⟨1, [(i - 4) / 4, (i - 4) % 4], ⟨by decide, rfl⟩, by simp; omega, rfl⟩
   · exact ⟨2, [(i - 20) / 4, (i - 20) % 4], ⟨by decide, rfl⟩, by simp; omega, rfl⟩
theorem can_uF {f : Fct} (h : Can f) : ∃ i, i < 36 ∧ f = uF i := by
 obtain ⟨p, xs, hk, hx, rfl⟩ := h
 exact ⟨idxN p xs, idxN_lt hk hx, (uF_idx hk hx).symm⟩
theorem nfact_inj {p q : Nat} {xs ys : List Nat} (h1 : KFit p xs) (h2 : KFit q ys) (hx : ∀ x, x ∈ xs → x < 4) (hy : ∀ x, x ∈ ys → x < 4) (h : nfact p xs = nfact q ys) : p = q ∧ xs = ys := by
 unfold nfact at h
 simp only [Prod.mk.injEq] at h
 have hp := gpred_inj h1.1 h2.1 h.1
 subst hp
 have hl : xs.length = ys.length := by rw [h1.2, h2.2]
 exact ⟨rfl, map_gname_inj hx hy (pad_inj (by simp [hl]) h.2)⟩
theorem uF_inj {i j : Nat} (hi : i < 36) (hj : j < 36) (h : uF i = uF j) : i = j := by
 have key : ∀ k, k < 36 → ∃ p xs, KFit p xs ∧ (∀ x, x ∈ xs → x < 4) ∧ uF k = nfact p xs ∧ idxN p xs = k := by
  intro k hk
  unfold uF
  split
  · exact ⟨0, [k], ⟨by decide, rfl⟩, by simp; omega, rfl, by simp [idxN]⟩
  · split
    · exact ⟨1, _, ⟨by decide, rfl⟩, by simp; omega, rfl, by simp [idxN]; omega⟩
    · exact ⟨2, _, ⟨by decide, rfl⟩, by simp; omega, rfl, by simp [idxN]; omega⟩
 obtain ⟨p, xs, k1, x1, e1, d1⟩ := key i hi
 obtain ⟨q, ys, k2, x2, e2, d2⟩ := key j hj
 rw [e1, e2] at h
 obtain ⟨rfl, rfl⟩ := nfact_inj k1 k2 x1 x2 h
 rw [← d1, d2]
def atN (v : Nat → Nat) (a : NA) : Nat := idxN a.1 (a.2.map (tvN v))
theorem subst_fit {v : Nat → Nat} (hv : ∀ i, i < 3 → v i < 4) {a : NA} (ha : NFit a) : KFit a.1 (a.2.map (tvN v)) ∧ ∀ x, x ∈ a.2.map (tvN v) → x < 4 := by
 refine ⟨⟨ha.1.1, by rw [List.length_map]; exact ha.1.2⟩, ?_⟩
 intro x hx
 obtain ⟨n, hn, rfl⟩ := List.mem_map.1 hx
 have := ha.2 n hn
 unfold tvN
 split
 · rename_i h; exact hv n h
 · omega
theorem atN_lt {v : Nat → Nat} (hv : ∀ i, i < 3 → v i < 4) {a : NA} (ha : NFit a) : atN v a < 36 := idxN_lt (subst_fit hv ha).1 (subst_fit hv ha).2
theorem uF_atN {v : Nat → Nat} (hv : ∀ i, i < 3 → v i < 4) {a : NA} (ha : NFit a) : uF (atN v a) = subst v a := uF_idx (subst_fit hv ha).1 (subst_fit hv ha).2
def okH (r : NRule) (H : Nat → Bool) : List Nat := (vs r).filter fun n => r.body.all fun b => H (atN (vOf n) b)
def instN (r : NRule) (H : Nat → Bool) : List Nat := (okH r H).map fun n => atN (vOf n) r.head
def setAll (H : Nat → Bool) (l : List Nat) : Nat → Bool := fun i => H i || decide (i ∈ l)
def oneRound (R : List NRule) (H : Nat → Bool) : Nat → Bool := R.foldl (fun H r => setAll H (instN r H)) H
def rounds (R : List NRule) : Nat → (Nat → Bool) → Nat → Bool
 | 0, H => H
 | n + 1, H => rounds R n (oneRound R H)
theorem oneRound_ge : ∀ (R : List NRule) (H : Nat → Bool) (i : Nat), H i = true → oneRound R H i = true
 | [], _, _, h => h
 | r :: R, H, i, h => by
  show oneRound R (setAll H (instN r H)) i = true
  exact oneRound_ge R _ i (by simp [setAll, h])
theorem okH_mono {r : NRule} {H K : Nat → Bool} (h : ∀ i, H i = true → K i = true) {n : Nat} (hn : n ∈ okH r H) : n ∈ okH r K := by
 unfold okH at hn ⊢
 rw [List.mem_filter, List.all_eq_true] at hn ⊢
 exact ⟨hn.1, fun b hb => h _ (hn.2 b hb)⟩
theorem instN_mono {r : NRule} {H K : Nat → Bool} (h : ∀ i, H i = true → K i = true) {i : Nat} (hi : i ∈ instN r H) : i ∈ instN r K := by
 obtain ⟨n, hn, rfl⟩ := List.mem_map.1 hi
 exact List.mem_map.2 ⟨n, okH_mono h hn, rfl⟩
theorem oneRound_has : ∀ (R : List NRule) (H : Nat → Bool) (r : NRule), r ∈ R → ∀ i, i ∈ instN r H → oneRound R H i = true
 | [], _, _, h, _, _ => by cases h
 | q :: R, H, r, hr, i, hi => by
  show oneRound R (setAll H (instN q H)) i = true
  rcases List.mem_cons.1 hr with rfl | hr
  · exact oneRound_ge R _ i (by simp [setAll, hi])
  · exact oneRound_has R _ r hr i (instN_mono (fun j hj => by simp [setAll, hj]) hi)
def ClosedN (R : List NRule) (X : Nat → Prop) : Prop := ∀ r, r ∈ R → ∀ n, n ∈ vs r → (∀ b, b ∈ r.body → X (atN (vOf n) b)) → X (atN (vOf n) r.head)
theorem oneRound_least {X : Nat → Prop} : ∀ (R : List NRule) (H : Nat → Bool), ClosedN R X → (∀ i, H i = true → X i) → ∀ i, oneRound R H i = true → X i
 | [], _, _, h, i, hi => h i hi
 | q :: R, H, hX, h, i, hi => by
  refine oneRound_least R (setAll H (instN q H)) (fun r hr => hX r (by simp [hr])) ?_ i hi
  intro j hj
  simp only [setAll, Bool.or_eq_true, decide_eq_true_eq] at hj
  rcases hj with hj | hj
  · exact h j hj
  · obtain ⟨n, hn, rfl⟩ := List.mem_map.1 hj
    unfold okH at hn
    rw [List.mem_filter, List.all_eq_true] at hn
    exact hX q (by simp) n hn.1 (fun b hb => h _ (hn.2 b hb))
theorem rounds_least {R : List NRule} {X : Nat → Prop} (hX : ClosedN R X) : ∀ (n : Nat) (H : Nat → Bool), (∀ i, H i = true → X i) → ∀ i, rounds R n H i = true → X i
 | 0, _, h, i, hi => h i hi
 | n + 1, H, h, i, hi => rounds_least hX n _ (oneRound_least R H hX h) i hi
theorem rounds_ge {R : List NRule} : ∀ (n : Nat) (H : Nat → Bool) (i : Nat), H i = true → rounds R n H i = true
 | 0, _, _, h => h
 | n + 1, H, i, h => rounds_ge n _ i (oneRound_ge R H i h)
def tally (H : Nat → Bool) : Nat := ((List.range 36).filter fun i => H i).length
theorem tally_le (H : Nat → Bool) : tally H ≤ 36 := by
 unfold tally
 have := List.length_filter_le (fun i => H i) (List.range 36)
 simpa using this
theorem filter_lt {α : Type} {p q : α → Bool} : ∀ (l : List α), (∀ x, p x = true → q x = true) → (∃ x, x ∈ l ∧ q x = true ∧ p x = false) → (l.filter p).length < (l.filter q).length
 | [], _, h => by obtain ⟨x, hx, _⟩ := h; cases hx
 | y :: l, hpq, h => by
  have hle : ∀ m : List α, (m.filter p).length ≤ (m.filter q).length := by
   intro m
   induction m with
   | nil => simp
   | cons z m ih =>
    rw [List.filter_cons, List.filter_cons]
    by_cases hp : p z = true
    · rw [if_pos hp, if_pos (hpq z hp)]; simp; exact ih
    · rw [if_neg hp]
      split
      · simp; omega
      · exact ih
  rw [List.filter_cons, List.filter_cons]
  obtain ⟨x, hx, h1, h2⟩ := h
  rcases List.mem_cons.1 hx with rfl | hx
  · rw [if_neg (by rw [h2]; decide), if_pos h1]
    have := hle l
    simp
    omega
  · have ih := filter_lt l hpq ⟨x, hx, h1, h2⟩
    by_cases hp : p y = true
    · rw [if_pos hp, if_pos (hpq y hp)]; simp; exact ih
    · rw [if_neg hp]
      split
      · simp; omega
      · exact ih
theorem rounds_stop {R : List NRule} (hR : ∀ H i, 36 ≤ i → H i = false → oneRound R H i = false) : ∀ (n : Nat) (H : Nat → Bool), (∀ i, 36 ≤ i → H i = false) → 36 < n + tally H → oneRound R (rounds R n H) = rounds R n H
 | 0, H, hH, h => by have := tally_le H; omega
 | n + 1, H, hH, h => by
  by_cases hs : oneRound R H = H
  · have : ∀ m, rounds R m H = H := by
     intro m
     induction m with
     | zero => rfl
     | succ m ih => show rounds R m (oneRound R H) = H; rw [hs, ih]
    rw [this, hs]
  · show oneRound R (rounds R n (oneRound R H)) = rounds R n (oneRound R H)
    refine rounds_stop hR n _ (fun i hi => hR H i hi (hH i hi)) ?_
    have : tally H < tally (oneRound R H) := by
     unfold tally
     apply filter_lt _ (fun i hi => oneRound_ge R H i hi)
     apply Classical.byContradiction
     intro hc
     apply hs
     funext i
     by_cases hi : i < 36
     · cases h1 : H i with
       | true => exact oneRound_ge R H i h1
       | false =>
        cases h2 : oneRound R H i with
        | false => rfl
        | true => exact absurd ⟨i, by simpa using hi, h2, h1⟩ hc
     · rw [hH i (by omega), hR H i (by omega) (hH i (by omega))]
    omega
end Go.Proofs.YtdmicblafmhflaaGreatDoor.En
/- axiomkeep: written. -/
namespace Go.Proofs.YtdmicblafmhflaaGreatDoor
open Go.RowKit
def gtx (x : Nat) : ByteArray := (Ax.gterm x).text
def wstep (i : Nat) (p : ByteArray) (x : Nat) : ByteArray := (if 0 < i then p ++ ⟨#[44]⟩ else p) ++ gtx x
def wloop : List Nat → Nat → ByteArray → ByteArray
 | [], _, p => p
 | x :: l, i, p => wloop l (i + 1) (wstep i p x)
theorem gtx_var {x : Nat} (h : x < 3) : (⟨#[88, 89, 90]⟩ : ByteArray).extract x (x + 1) = gtx x := by
 have : x = 0 ∨ x = 1 ∨ x = 2 := by omega
 rcases this with rfl | rfl | rfl <;> rfl
theorem gtx_name {x : Nat} (h : ¬ x < 3) : gtx x = Ax.gname (x - 3) := by simp [gtx, Ax.gterm, h]
theorem gtx_size (x : Nat) : (gtx x).size ≤ 2 := by
 unfold gtx Ax.gterm
 split
 · unfold Ax.gvar; simp only; split <;> decide
 · unfold Ax.gname; simp only; split <;> decide
theorem gpred_size (x : Nat) : (Ax.gpred x).size ≤ 3 := by unfold Ax.gpred; split <;> decide
theorem gpick_small {x n : Nat} (h : x < n) : Ax.gpick (x : Int) n = x := by
 unfold Ax.gpick
 rw [if_neg (by omega), Int.emod_eq_of_lt (by omega) (by omega)]
 omega
theorem name_val (x : Nat) (h3 : ¬ x < 3) (h7 : x < 7) (N : Int) (hN : N = (x : Int) - 3) : ∀ w, Calls Tryz.prog 122 #[.int .i64 N] w fun e w' => e = .returned (.string (gtx x)) ∧ Below w.heap.size w w' := by
 intro w
 have e : N = ((x - 3 : Nat) : Int) := by omega
 rw [e, gtx_name h3]
 have := gen_name ((x - 3 : Nat) : Int) w ⟨by omega, by omega⟩
 rw [gpick_small (by omega)] at this
 exact this
set_option maxRecDepth 100000 in
set_option maxHeartbeats 4000000 in
theorem written_any (w : World) (p : Int) (hp : Fit64 p) (b : Nat) (ld : Option Addr) (lc : Nat) (ts : List Nat) (h : w.ownsRow b 3 1 (.slice ld ts.length lc) ts.length (natCells ts)) (hl : ts.length ≤ 1000) (h7 : Hid (∀ x, x ∈ ts → x < 7)) (R : ByteArray) (HR : Hid (wloop ts 0 (Ax.gpred (Ax.gpick p 3) ++ ⟨#[40]⟩) = R)) :
 Calls Tryz.prog 61 #[.int .i64 p, .slice ld ts.length lc] w fun e w' => e = .returned (.string (R ++ ⟨#[41]⟩)) ∧ Below w.heap.size w w' := by
 have hpr := fun w => gen_pred p w hp
 have hps := gpred_size (Ax.gpick p 3)
 generalize Ax.gpred (Ax.gpick p 3) = P at *
 have HPR : Hid (∀ w, Calls Tryz.prog 18 #[.int .i64 p] w fun e w' => e = .returned (.string P) ∧ Below w.heap.size w w') := hpr
 clear hpr
 have hP1 : (P ++ ⟨#[40]⟩ : ByteArray).size ≤ 10 := by rw [ByteArray.size_append]; have : (⟨#[40]⟩ : ByteArray).size = 1 := rfl; omega
 go_enter Tryz.func61, Tryz.ntmps61
 go_wp2_with (go_at_call 18; refine (HPR.out _).mono ?_; rintro e w1 ⟨rfl, hb1⟩)
 go_loopw [5, 6] (fun sv iv wr => ∃ (i : Nat) (q : ByteArray), i ≤ ts.length ∧ sv = .string q ∧ iv = .int .i64 i ∧ Below w.heap.size w wr ∧ q.size ≤ 10 + 10 * i ∧ wloop (ts.drop i) i q = R) (fun _ iv _ => ts.length - (intOf iv).toNat)
 case atStart => exact ⟨0, _, Nat.zero_le _, rfl, rfl, hb1, by omega, HR.out⟩
 case round =>
  obtain ⟨i, q, hi, rfl, rfl, hbel, hqs, hr⟩ := hrel
  have HRi : Hid (wloop (ts.drop i) i q = R) := hr
  clear hr HR
  have hsz := hbel.size
  by_cases hlt : i < ts.length
  · obtain ⟨g, rfl, hg, hc, hcs⟩ := row_cells (ownsRow_below h hbel) (by omega)
    have c0 := hcs _ _ (natCells_get ts i hlt)
    clear hcs
    have hx7 := h7.out _ (List.getElem_mem hlt)
    have hdrop : ts.drop i = ts[i] :: ts.drop (i + 1) := List.drop_eq_getElem_cons hlt
    rw [hdrop] at HRi
    clear hdrop
    generalize ts[i] = x at *
    have HN : Hid (wloop (ts.drop (i + 1)) (i + 1) (wstep i q x) = R) := HRi
    clear HRi
    have hxs := gtx_size x
    have hcm : (⟨#[44]⟩ : ByteArray).size = 1 := rfl
    have HSZ : Hid ((wstep i q x).size ≤ 10 + 10 * (i + 1)) := by
     show (wstep i q x).size ≤ _
     unfold wstep
     split
     · rw [ByteArray.size_append, ByteArray.size_append]; omega
     · rw [ByteArray.size_append]; omega
    have hq1 : (q ++ ⟨#[44]⟩ : ByteArray).size ≤ 11 + 10 * i := by rw [ByteArray.size_append]; omega
    by_cases hx : x < 3
    · have hxb : decide ((x : Int) < 3) = true := by simp; omega
      have hex := gtx_var hx
      by_cases h0 : 0 < i
      · have h0b : decide ((0 : Int) < (i : Int)) = true := by simp; omega
        have HW : Hid (wstep i q x = q ++ ⟨#[44]⟩ ++ gtx x) := by simp [Hid, wstep, h0]
        go_wp2_with fail
        go_region
        all_goals (go_wp2_with fail)
        all_goals (go_roundw; (case rel => exact ⟨i + 1, wstep i q x, by omega, by rw [HW.out, ← hex], by go_num, hbel.drew, HSZ.out, HN.out⟩); (case measure => simp [intOf]; omega))
      · have h0b : decide ((0 : Int) < (i : Int)) = false := by simp; omega
        have HW : Hid (wstep i q x = q ++ gtx x) := by simp [Hid, wstep, h0]
        go_wp2_with fail
        go_region
        all_goals (go_wp2_with fail)
        all_goals (go_roundw; (case rel => exact ⟨i + 1, wstep i q x, by omega, by rw [HW.out, ← hex], by go_num, hbel.drew, HSZ.out, HN.out⟩); (case measure => simp [intOf]; omega))
    · have hxb : decide ((x : Int) < 3) = false := by simp; omega
      have hnm := name_val x hx hx7 ((x : Int) - 3) rfl
      have HNM : Hid (∀ w, Calls Tryz.prog 122 #[.int .i64 ((x : Int) - 3)] w fun e w' => e = .returned (.string (gtx x)) ∧ Below w.heap.size w w') := hnm
      clear hnm
      by_cases h0 : 0 < i
      · have h0b : decide ((0 : Int) < (i : Int)) = true := by simp; omega
        have HW : Hid (wstep i q x = q ++ ⟨#[44]⟩ ++ gtx x) := by simp [Hid, wstep, h0]
        go_wp2_with (go_at_call 122; refine (HNM.out _).mono ?_; rintro e w2 ⟨rfl, hb2⟩)
        go_roundw
        case rel => exact ⟨i + 1, wstep i q x, by omega, by rw [HW.out], by go_num, hbel.trans (hb2.mono hsz), HSZ.out, HN.out⟩
        case measure => simp [intOf]; omega
      · have h0b : decide ((0 : Int) < (i : Int)) = false := by simp; omega
        have HW : Hid (wstep i q x = q ++ gtx x) := by simp [Hid, wstep, h0]
        go_wp2_with (go_at_call 122; refine (HNM.out _).mono ?_; rintro e w2 ⟨rfl, hb2⟩)
        go_roundw
        case rel => exact ⟨i + 1, wstep i q x, by omega, by rw [HW.out], by go_num, hbel.trans (hb2.mono hsz), HSZ.out, HN.out⟩
        case measure => simp [intOf]; omega
  · have hqR : q = R := by
     have := HRi.out
     rw [List.drop_eq_nil_of_le (by omega)] at this
     exact this
    subst hqR
    clear HRi
    go_wp2_with fail
    go_ret
    exact ⟨rfl, hbel⟩
end Go.Proofs.YtdmicblafmhflaaGreatDoor
/- axiomkeep: what written writes, as tokens. No program here. -/
namespace Go.Proofs.YtdmicblafmhflaaGreatDoor
def bytesI (l : List Ax.EI) : List UInt8 := l.flatMap fun x => x.2.data.toList
theorem bytesI_append (l l' : List Ax.EI) : bytesI (l ++ l') = bytesI l ++ bytesI l' := by simp [bytesI]
theorem bytesI_cons (x : Ax.EI) (l : List Ax.EI) : bytesI (x :: l) = x.2.data.toList ++ bytesI l := by simp [bytesI]
theorem wloop_on : ∀ (l : List Nat) (i : Nat) (p : ByteArray), 0 < i → (wloop l i p).data.toList = p.data.toList ++ l.flatMap fun x => 44 :: (gtx x).data.toList
 | [], i, p, _ => by simp [wloop]
 | x :: l, i, p, h => by
  rw [wloop, wloop_on l (i + 1) _ (by omega)]
  simp [wstep, h, ByteArray.data_append]
theorem termsI_bytes : ∀ (l : List Nat) (x : Nat), bytesI (Ax.termsI ((x :: l).map Ax.gterm)) = (gtx x).data.toList ++ l.flatMap fun x => 44 :: (gtx x).data.toList
 | [], x => by simp [Ax.termsI, bytesI, Ax.tI, gtx]
 | y :: l, x => by
  have ih := termsI_bytes l y
  rw [List.map_cons] at ih
  rw [List.map_cons, List.map_cons, Ax.termsI, bytesI_cons, bytesI_cons, ih]
  simp [Ax.tI, Ax.comma, gtx]
theorem written_bytes (p : Nat) (ts : List Nat) (h : ts ≠ []) : (wloop ts 0 (Ax.gpred p ++ ⟨#[40]⟩) ++ ⟨#[41]⟩ : ByteArray).data.toList = bytesI (Ax.atomI (Ax.gEA p ts)) := by
 cases ts with
 | nil => exact absurd rfl h
 | cons x l =>
  rw [ByteArray.data_append, Array.toList_append, wloop, wloop_on l 1 _ (by omega)]
  unfold Ax.atomI Ax.gEA
  simp only
  rw [bytesI_cons, bytesI_cons, bytesI_append, termsI_bytes]
  simp [wstep, ByteArray.data_append, bytesI]
end Go.Proofs.YtdmicblafmhflaaGreatDoor
/- axiomkeep: body. -/
namespace Go.Proofs.YtdmicblafmhflaaGreatDoor
open Go.RowKit
set_option maxRecDepth 100000 in
theorem body_any (w : World) (p a b : Int) (ad : Addr) (n c : Nat) (hn : n ≤ c) (hc : c ≤ maxLen) : Calls Tryz.prog 63 #[.agg #[.int .i64 p, .int .i64 a, .int .i64 b, .slice (some ad) n c]] w fun e w' => e = .returned (.slice (some ad) (min n 2) c) ∧ Below w.heap.size w w' := by
 have hm : maxLen = 9223372036854775807 := rfl
 by_cases h2 : 2 < n
 · have hb : decide ((2 : Int) < (n : Int)) = true := by simp; omega
   rw [Nat.min_eq_right (by omega)]
   go_enter Tryz.func63, Tryz.ntmps63
   go_wp2_with fail
   go_ret
   exact ⟨rfl, (Below.refl _ _).alloc (Nat.le_refl _) _⟩
 · have hb : decide ((2 : Int) < (n : Int)) = false := by simp; omega
   rw [Nat.min_eq_left (by omega)]
   go_enter Tryz.func63, Tryz.ntmps63
   go_wp2_with fail
   go_ret
   exact ⟨rfl, (Below.refl _ _).alloc (Nat.le_refl _) _⟩
theorem body_none (w : World) (p a b : Int) (c : Nat) : Calls Tryz.prog 63 #[.agg #[.int .i64 p, .int .i64 a, .int .i64 b, .slice none 0 c]] w fun e w' => e = .returned (.slice none 0 c) ∧ Below w.heap.size w w' := by
 go_enter Tryz.func63, Tryz.ntmps63
 go_wp2_with fail
 go_ret
 exact ⟨rfl, (Below.refl _ _).alloc (Nat.le_refl _) _⟩
end Go.Proofs.YtdmicblafmhflaaGreatDoor
/- axiomkeep: what text writes, as tokens. No program here. -/
namespace Go.Proofs.YtdmicblafmhflaaGreatDoor
def wAtom (p : Nat) (ts : List Nat) : ByteArray := wloop ts 0 (Ax.gpred p ++ ⟨#[40]⟩) ++ ⟨#[41]⟩
def wA (b : Ax.KAtom) : ByteArray := wAtom (Ax.gpick b.pred 3) (Ax.gterms b)
def tbody : List Ax.KAtom → Nat → ByteArray → ByteArray
 | [], _, s => s
 | b :: l, k, s => tbody l (k + 1) ((if k = 0 then s ++ ⟨#[58, 45]⟩ else s ++ ⟨#[44]⟩) ++ wA b)
def trule (r : Ax.KRule) (s : ByteArray) : ByteArray := tbody (Ax.gbody r) 0 (s ++ wAtom (Ax.gpick r.head.pred 3) (Ax.ghead r)) ++ ⟨#[46]⟩
def trules : List Ax.KRule → ByteArray → ByteArray
 | [], s => s
 | r :: l, s => trules l (trule r s)
theorem gterms_ne (a : Ax.KAtom) : Ax.gterms a ≠ [] := by unfold Ax.gterms; split <;> simp
theorem ghead_ne (r : Ax.KRule) : Ax.ghead r ≠ [] := by
 unfold Ax.ghead
 intro h
 exact gterms_ne r.head (List.map_eq_nil_iff.1 h)
theorem wA_bytes (b : Ax.KAtom) : (wA b).data.toList = bytesI (Ax.atomI (Ax.gEA (Ax.gpick b.pred 3) (Ax.gterms b))) := written_bytes _ _ (gterms_ne b)
def kEA (b : Ax.KAtom) : Ax.EA := Ax.gEA (Ax.gpick b.pred 3) (Ax.gterms b)
theorem tbody_on : ∀ (l : List Ax.KAtom) (k : Nat) (s : ByteArray), 0 < k → (tbody l k s).data.toList = s.data.toList ++ l.flatMap fun b => 44 :: bytesI (Ax.atomI (kEA b))
 | [], _, s, _ => by simp [tbody]
 | b :: l, k, s, h => by
  rw [tbody, tbody_on l (k + 1) _ (by omega), if_neg (by omega)]
  simp only [ByteArray.data_append, Array.toList_append, wA_bytes]
  simp [kEA]
theorem atomsI_bytes : ∀ (l : List Ax.KAtom) (b : Ax.KAtom), bytesI (Ax.atomsI ((b :: l).map kEA)) = bytesI (Ax.atomI (kEA b)) ++ l.flatMap fun b => 44 :: bytesI (Ax.atomI (kEA b))
 | [], b => by simp [Ax.atomsI]
 | c :: l, b => by
  have ih := atomsI_bytes l c
  rw [List.map_cons] at ih
  rw [List.map_cons, List.map_cons, Ax.atomsI, bytesI_append, bytesI_cons, ih]
  simp [Ax.comma]
theorem trule_bytes (r : Ax.KRule) (s : ByteArray) : (trule r s).data.toList = s.data.toList ++ bytesI (Ax.ruleI (Ax.gER r)) := by
 have hb : (Ax.gER r).2 = (Ax.gbody r).map kEA := rfl
 have hh : (Ax.gER r).1 = Ax.gEA (Ax.gpick r.head.pred 3) (Ax.ghead r) := rfl
 have hw : (wAtom (Ax.gpick r.head.pred 3) (Ax.ghead r)).data.toList = bytesI (Ax.atomI (Ax.gER r).1) := by rw [hh]; exact written_bytes _ _ (ghead_ne r)
 unfold trule Ax.ruleI
 rw [hb]
 cases Ax.gbody r with
 | nil => simp [tbody, ByteArray.data_append, hw, bytesI_append, bytesI]
 | cons b l =>
  rw [tbody, if_pos rfl, ByteArray.data_append, Array.toList_append, tbody_on l 1 _ (by omega)]
  simp only [ByteArray.data_append, Array.toList_append, hw, wA_bytes]
  rw [if_neg (by simp), bytesI_append, bytesI_append, bytesI_cons, atomsI_bytes]
  simp [bytesI, kEA]
theorem trules_bytes : ∀ (l : List Ax.KRule) (s : ByteArray), (trules l s).data.toList = s.data.toList ++ bytesI (Ax.rulesI (l.map Ax.gER))
 | [], s => by simp [trules, Ax.rulesI, bytesI]
 | r :: l, s => by
  rw [trules, trules_bytes l, trule_bytes, List.map_cons]
  simp [Ax.rulesI, bytesI]
def tbase : ByteArray := ⟨(bytesI (Ax.rulesI Ax.gbase)).toArray⟩
theorem tbase_eq : tbase = ⟨#[110, 40, 88, 41, 58, 45, 110, 40, 88, 41, 44, 101, 40, 88, 44, 88, 41, 46, 110, 40, 88, 41, 58, 45, 110, 40, 88, 41, 44, 112, 195, 188, 40, 88, 44, 88, 41, 46]⟩ := by rfl
theorem text_bytes (l : List Ax.KRule) : trules (l.take 6) tbase = Ax.gtext l := by
 have h := trules_bytes (l.take 6) tbase
 have e : (trules (l.take 6) tbase).data.toList = (Ax.gtext l).data.toList := by
  rw [h]
  simp [tbase, Ax.gtext, Ax.gR, Ax.rulesI, bytesI]
 cases h1 : trules (l.take 6) tbase with | mk x =>
 cases h2 : Ax.gtext l with | mk y =>
 rw [h1, h2] at e
 simp at e
 rw [e]
end Go.Proofs.YtdmicblafmhflaaGreatDoor
