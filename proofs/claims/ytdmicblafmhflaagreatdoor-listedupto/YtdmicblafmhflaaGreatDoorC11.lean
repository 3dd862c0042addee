/- What axiomkeep's least works out: the least set that holds what is given and what follows. No program here. -/
import Derived.Test.YtdmicblafmhflaaGreatDoorC10
import Derived.Test.YtdmicblafmhflaaGreatDoorC09
import Derived.Deep.AppendLies

namespace Go.Proofs.YtdmicblafmhflaaGreatDoor.En
set_option linter.unusedSimpArgs false
set_option linter.unusedVariables false
open Ax (gname gpred gvar gterm KFit)
/-- the place of a fact among the 36 -/
def idxN (p : Nat) (xs : List Nat) : Nat := if p = 0 then xs.getD 0 0 else 4 + 16 * (p - 1) + 4 * xs.getD 0 0 + xs.getD 1 0
def uF (i : Nat) : Fct := if i < 4 then nfact 0 [i] else if i < 20 then nfact 1 [(i - 4) / 4, (i - 4) % 4] else nfact 2 [(i - 20) / 4, (i - 20) % 4]
theorem kfit_len1 {xs : List Nat} (h : xs.length = 1) : ∃ a, xs = [a] := by
  match xs, h with
  | [a], _ => exact ⟨a, rfl⟩
theorem kfit_len2 {xs : List Nat} (h : xs.length = 2) : ∃ a b, xs = [a, b] := by
  match xs, h with
  | [a, b], _ => exact ⟨a, b, rfl⟩
theorem kfit_cases {p : Nat} {xs : List Nat} (h : KFit p xs) : (p = 0 ∧ ∃ a, xs = [a]) ∨ (p = 1 ∧ ∃ a b, xs = [a, b]) ∨ (p = 2 ∧ ∃ a b, xs = [a, b]) := by
  obtain ⟨h1, h2⟩ := h
  have : p = 0 ∨ p = 1 ∨ p = 2 := by omega
  rcases this with rfl | rfl | rfl
  · exact .inl ⟨rfl, kfit_len1 (by simpa using h2)⟩
  · exact .inr (.inl ⟨rfl, kfit_len2 (by simpa using h2)⟩)
  · exact .inr (.inr ⟨rfl, kfit_len2 (by simpa using h2)⟩)
theorem idxN_lt {p : Nat} {xs : List Nat} (h : KFit p xs) (hx : ∀ x, x ∈ xs → x < 4) : idxN p xs < 36 := by
  rcases kfit_cases h with ⟨rfl, a, rfl⟩ | ⟨rfl, a, b, rfl⟩ | ⟨rfl, a, b, rfl⟩
  · have := hx a (by simp)
    simp [idxN]; omega
  · have := hx a (by simp)
    have := hx b (by simp)
    simp [idxN]; omega
  · have := hx a (by simp)
    have := hx b (by simp)
    simp [idxN]; omega
theorem uF_idx {p : Nat} {xs : List Nat} (h : KFit p xs) (hx : ∀ x, x ∈ xs → x < 4) : uF (idxN p xs) = nfact p xs := by
  rcases kfit_cases h with ⟨rfl, a, rfl⟩ | ⟨rfl, a, b, rfl⟩ | ⟨rfl, a, b, rfl⟩
  · have := hx a (by simp)
    have e : idxN 0 [a] = a := by simp [idxN]
    rw [e]
    unfold uF
    rw [if_pos (by omega)]
  · have := hx a (by simp)
    have := hx b (by simp)
    have e : idxN 1 [a, b] = 4 + 4 * a + b := by simp [idxN]
    rw [e]
    unfold uF
    rw [if_neg (by omega), if_pos (by omega), show (4 + 4 * a + b - 4) / 4 = a by omega, show (4 + 4 * a + b - 4) % 4 = b by omega]
  · have := hx a (by simp)
    have := hx b (by simp)
    have e : idxN 2 [a, b] = 20 + 4 * a + b := by simp [idxN]
    rw [e]
    unfold uF
    rw [if_neg (by omega), if_neg (by omega), show (20 + 4 * a + b - 20) / 4 = a by omega, show (20 + 4 * a + b - 20) % 4 = b by omega]
theorem uF_can {i : Nat} (h : i < 36) : Can (uF i) := by
  unfold uF
  split
  · exact ⟨0, [i], ⟨by decide, rfl⟩, by simp; omega, rfl⟩
  · split
    · exact ⟨1, [(i - 4) / 4, (i - 4) % 4], ⟨by decide, rfl⟩, by simp; omega, rfl⟩
    · exact ⟨2, [(i - 20) / 4, (i - 20) % 4], ⟨by decide, rfl⟩, by simp; omega, rfl⟩
theorem can_uF {f : Fct} (h : Can f) : ∃ i, i < 36 ∧ f = uF i := by
  obtain ⟨p, xs, hk, hx, rfl⟩ := h
  exact ⟨idxN p xs, idxN_lt hk hx, (uF_idx hk hx).symm⟩
theorem nfact_inj {p q : Nat} {xs ys : List Nat} (h1 : KFit p xs) (h2 : KFit q ys) (hx : ∀ x, x ∈ xs → x < 4) (hy : ∀ x, x ∈ ys → x < 4) (h : nfact p xs = nfact q ys) : p = q ∧ xs = ys := by
  unfold nfact at h
  simp only [Prod.mk.injEq] at h
  have hp := gpred_inj h1.1 h2.1 h.1
  subst hp
  have hl : xs.length = ys.length := by rw [h1.2, h2.2]
  exact ⟨rfl, map_gname_inj hx hy (pad_inj (by simp [hl]) h.2)⟩
theorem uF_inj {i j : Nat} (hi : i < 36) (hj : j < 36) (h : uF i = uF j) : i = j := by
  have key : ∀ k, k < 36 → ∃ p xs, KFit p xs ∧ (∀ x, x ∈ xs → x < 4) ∧ uF k = nfact p xs ∧ idxN p xs = k := by
    intro k hk
    unfold uF
    split
    · exact ⟨0, [k], ⟨by decide, rfl⟩, by simp; omega, rfl, by simp [idxN]⟩
    · split
      · exact ⟨1, _, ⟨by decide, rfl⟩, by simp; omega, rfl, by simp [idxN]; omega⟩
      · exact ⟨2, _, ⟨by decide, rfl⟩, by simp; omega, rfl, by simp [idxN]; omega⟩
  obtain ⟨p, xs, k1, x1, e1, d1⟩ := key i hi
  obtain ⟨q, ys, k2, x2, e2, d2⟩ := key j hj
  rw [e1, e2] at h
  obtain ⟨rfl, rfl⟩ := nfact_inj k1 k2 x1 x2 h
  rw [← d1, d2]
/-- where an atom stands, with values of the variables -/
def atN (v : Nat → Nat) (a : NA) : Nat := idxN a.1 (a.2.map (tvN v))
theorem subst_fit {v : Nat → Nat} (hv : ∀ i, i < 3 → v i < 4) {a : NA} (ha : NFit a) : KFit a.1 (a.2.map (tvN v)) ∧ ∀ x, x ∈ a.2.map (tvN v) → x < 4 := by
  refine ⟨⟨ha.1.1, by rw [List.length_map]; exact ha.1.2⟩, ?_⟩
  intro x hx
  obtain ⟨n, hn, rfl⟩ := List.mem_map.1 hx
  have := ha.2 n hn
  unfold tvN
  split
  · rename_i h; exact hv n h
  · omega
theorem atN_lt {v : Nat → Nat} (hv : ∀ i, i < 3 → v i < 4) {a : NA} (ha : NFit a) : atN v a < 36 := idxN_lt (subst_fit hv ha).1 (subst_fit hv ha).2
theorem uF_atN {v : Nat → Nat} (hv : ∀ i, i < 3 → v i < 4) {a : NA} (ha : NFit a) : uF (atN v a) = subst v a := uF_idx (subst_fit hv ha).1 (subst_fit hv ha).2
/-- instances: the places of the heads -/
def okH (r : NRule) (H : Nat → Bool) : List Nat := (vs r).filter fun n => r.body.all fun b => H (atN (vOf n) b)
def instN (r : NRule) (H : Nat → Bool) : List Nat := (okH r H).map fun n => atN (vOf n) r.head
def setAll (H : Nat → Bool) (l : List Nat) : Nat → Bool := fun i => H i || decide (i ∈ l)
def oneRound (R : List NRule) (H : Nat → Bool) : Nat → Bool := R.foldl (fun H r => setAll H (instN r H)) H
def rounds (R : List NRule) : Nat → (Nat → Bool) → Nat → Bool
  | 0, H => H
  | n + 1, H => rounds R n (oneRound R H)
theorem oneRound_ge : ∀ (R : List NRule) (H : Nat → Bool) (i : Nat), H i = true → oneRound R H i = true
  | [], _, _, h => h
  | r :: R, H, i, h => by
    show oneRound R (setAll H (instN r H)) i = true
    exact oneRound_ge R _ i (by simp [setAll, h])
theorem okH_mono {r : NRule} {H K : Nat → Bool} (h : ∀ i, H i = true → K i = true) {n : Nat} (hn : n ∈ okH r H) : n ∈ okH r K := by
  unfold okH at hn ⊢
  rw [List.mem_filter, List.all_eq_true] at hn ⊢
  exact ⟨hn.1, fun b hb => h _ (hn.2 b hb)⟩
theorem instN_mono {r : NRule} {H K : Nat → Bool} (h : ∀ i, H i = true → K i = true) {i : Nat} (hi : i ∈ instN r H) : i ∈ instN r K := by
  obtain ⟨n, hn, rfl⟩ := List.mem_map.1 hi
  exact List.mem_map.2 ⟨n, okH_mono h hn, rfl⟩
theorem oneRound_has : ∀ (R : List NRule) (H : Nat → Bool) (r : NRule), r ∈ R → ∀ i, i ∈ instN r H → oneRound R H i = true
  | [], _, _, h, _, _ => by cases h
  | q :: R, H, r, hr, i, hi => by
    show oneRound R (setAll H (instN q H)) i = true
    rcases List.mem_cons.1 hr with rfl | hr
    · exact oneRound_ge R _ i (by simp [setAll, hi])
    · exact oneRound_has R _ r hr i (instN_mono (fun j hj => by simp [setAll, hj]) hi)
/-- a set of places that what follows does not leave -/
def ClosedN (R : List NRule) (X : Nat → Prop) : Prop := ∀ r, r ∈ R → ∀ n, n ∈ vs r → (∀ b, b ∈ r.body → X (atN (vOf n) b)) → X (atN (vOf n) r.head)
theorem oneRound_least {X : Nat → Prop} : ∀ (R : List NRule) (H : Nat → Bool), ClosedN R X → (∀ i, H i = true → X i) → ∀ i, oneRound R H i = true → X i
  | [], _, _, h, i, hi => h i hi
  | q :: R, H, hX, h, i, hi => by
    refine oneRound_least R (setAll H (instN q H)) (fun r hr => hX r (by simp [hr])) ?_ i hi
    intro j hj
    simp only [setAll, Bool.or_eq_true, decide_eq_true_eq] at hj
    rcases hj with hj | hj
    · exact h j hj
    · obtain ⟨n, hn, rfl⟩ := List.mem_map.1 hj
      unfold okH at hn
      rw [List.mem_filter, List.all_eq_true] at hn
      exact hX q (by simp) n hn.1 (fun b hb => h _ (hn.2 b hb))
theorem rounds_least {R : List NRule} {X : Nat → Prop} (hX : ClosedN R X) : ∀ (n : Nat) (H : Nat → Bool), (∀ i, H i = true → X i) → ∀ i, rounds R n H i = true → X i
  | 0, _, h, i, hi => h i hi
  | n + 1, H, h, i, hi => rounds_least hX n _ (oneRound_least R H hX h) i hi
theorem rounds_ge {R : List NRule} : ∀ (n : Nat) (H : Nat → Bool) (i : Nat), H i = true → rounds R n H i = true
  | 0, _, _, h => h
  | n + 1, H, i, h => rounds_ge n _ i (oneRound_ge R H i h)
def tally (H : Nat → Bool) : Nat := ((List.range 36).filter fun i => H i).length
theorem tally_le (H : Nat → Bool) : tally H ≤ 36 := by
  unfold tally
  have := List.length_filter_le (fun i => H i) (List.range 36)
  simpa using this
theorem filter_lt {α : Type} {p q : α → Bool} : ∀ (l : List α), (∀ x, p x = true → q x = true) → (∃ x, x ∈ l ∧ q x = true ∧ p x = false) → (l.filter p).length < (l.filter q).length
  | [], _, h => by obtain ⟨x, hx, _⟩ := h; cases hx
  | y :: l, hpq, h => by
    have hle : ∀ m : List α, (m.filter p).length ≤ (m.filter q).length := by
      intro m
      induction m with
      | nil => simp
      | cons z m ih =>
        rw [List.filter_cons, List.filter_cons]
        by_cases hp : p z = true
        · rw [if_pos hp, if_pos (hpq z hp)]; simp; exact ih
        · rw [if_neg hp]
          split
          · simp; omega
          · exact ih
    rw [List.filter_cons, List.filter_cons]
    obtain ⟨x, hx, h1, h2⟩ := h
    rcases List.mem_cons.1 hx with rfl | hx
    · rw [if_neg (by rw [h2]; decide), if_pos h1]
      have := hle l
      simp
      omega
    · have ih := filter_lt l hpq ⟨x, hx, h1, h2⟩
      by_cases hp : p y = true
      · rw [if_pos hp, if_pos (hpq y hp)]; simp; exact ih
      · rw [if_neg hp]
        split
        · simp; omega
        · exact ih
/-- a round that adds none of the 36 leaves all as it is: then what follows is there -/
theorem rounds_stop {R : List NRule} (hR : ∀ H i, 36 ≤ i → H i = false → oneRound R H i = false) : ∀ (n : Nat) (H : Nat → Bool), (∀ i, 36 ≤ i → H i = false) → 36 < n + tally H → oneRound R (rounds R n H) = rounds R n H
  | 0, H, hH, h => by have := tally_le H; omega
  | n + 1, H, hH, h => by
    by_cases hs : oneRound R H = H
    · have : ∀ m, rounds R m H = H := by
        intro m
        induction m with
        | zero => rfl
        | succ m ih => show rounds R m (oneRound R H) = H; rw [hs, ih]
      rw [this, hs]
    · show oneRound R (rounds R n (oneRound R H)) = rounds R n (oneRound R H)
      refine rounds_stop hR n _ (fun i hi => hR H i hi (hH i hi)) ?_
      have : tally H < tally (oneRound R H) := by
        unfold tally
        apply filter_lt _ (fun i hi => oneRound_ge R H i hi)
        apply Classical.byContradiction
        intro hc
        apply hs
        funext i
        by_cases hi : i < 36
        · cases h1 : H i with
          | true => exact oneRound_ge R H i h1
          | false =>
            cases h2 : oneRound R H i with
            | false => rfl
            | true => exact absurd ⟨i, by simpa using hi, h2, h1⟩ hc
        · rw [hH i (by omega), hR H i (by omega) (hH i (by omega))]
      omega
end Go.Proofs.YtdmicblafmhflaaGreatDoor.En

/- axiomkeep.index. -/
namespace Go.Proofs.YtdmicblafmhflaaGreatDoor
set_option linter.unusedSimpArgs false
set_option linter.unusedVariables false
open Go.RowKit
set_option maxRecDepth 100000 in
set_option maxHeartbeats 2000000 in
theorem index_any (w : World) (B p : Nat) (xs : List Nat) (v : Value) (hown : w.ownsRow B 3 1 v xs.length (natCells xs)) (hp : p < 3) (hl : xs.length = if p = 0 then 1 else 2) (hx : ∀ x, x ∈ xs → x < 4) :
    Calls Tryz.prog 125 #[.int .i64 p, v] w fun e w' => e = .returned (.int .i64 (En.idxN p xs : Nat)) ∧ Below w.heap.size w w' := by
  obtain ⟨ad, ac, hv⟩ := ownsRow_shape hown
  subst hv
  obtain ⟨g, rfl, hg, hc, hcs⟩ := row_cells hown (by split at hl <;> omega)
  by_cases h0 : p = 0
  · subst h0
    rw [if_pos rfl] at hl
    obtain ⟨x, rfl⟩ := List.length_eq_one_iff.1 hl
    have c0 := hcs 0 _ (show (natCells [x])[0]? = some (.int .i64 (x : Nat)) from rfl)
    have hx0 := hx x (by simp)
    clear hcs hown
    go_enter Tryz.func125, Tryz.ntmps125
    go_wp2_with fail
    go_ret
    exact ⟨rfl, Below.refl _ _⟩
  · rw [if_neg h0] at hl
    obtain ⟨x, y, rfl⟩ : ∃ x y, xs = [x, y] := by
      match xs, hl with
      | [x, y], _ => exact ⟨x, y, rfl⟩
    have c0 := hcs 0 _ (show (natCells [x, y])[0]? = some (.int .i64 (x : Nat)) from rfl)
    have c1 := hcs 1 _ (show (natCells [x, y])[1]? = some (.int .i64 (y : Nat)) from rfl)
    have hx0 := hx x (by simp)
    have hy0 := hx y (by simp)
    have hne : ((p : Int) == 0) = false := beq_eq_false_iff_ne.2 (by omega)
    have hE : Hid (En.idxN p [x, y] = 4 + 16 * (p - 1) + 4 * x + y) := by
      show (if p = 0 then _ else _) = _
      rw [if_neg h0]
      rfl
    rw [hE.out]
    clear hcs hown hl hx hE
    rcases (show p = 1 ∨ p = 2 by omega) with rfl | rfl
    · go_enter Tryz.func125, Tryz.ntmps125
      go_wp2_with fail
      go_region
      go_wp2_with fail
      go_ret
      refine ⟨?_, (Below.refl _ _).drew⟩
      go_num
    · go_enter Tryz.func125, Tryz.ntmps125
      go_wp2_with fail
      go_region
      go_wp2_with fail
      go_ret
      refine ⟨?_, (Below.refl _ _).drew⟩
      go_num
end Go.Proofs.YtdmicblafmhflaaGreatDoor

/- axiomkeep: written. -/
namespace Go.Proofs.YtdmicblafmhflaaGreatDoor
set_option linter.unusedSimpArgs false
set_option linter.unusedVariables false
open Go.RowKit
/-- a term's text -/
def gtx (x : Nat) : ByteArray := (Ax.gterm x).text
def wstep (i : Nat) (p : ByteArray) (x : Nat) : ByteArray := (if 0 < i then p ++ ⟨#[44]⟩ else p) ++ gtx x
def wloop : List Nat → Nat → ByteArray → ByteArray
  | [], _, p => p
  | x :: l, i, p => wloop l (i + 1) (wstep i p x)
theorem gtx_var {x : Nat} (h : x < 3) : (⟨#[88, 89, 90]⟩ : ByteArray).extract x (x + 1) = gtx x := by
  have : x = 0 ∨ x = 1 ∨ x = 2 := by omega
  rcases this with rfl | rfl | rfl <;> rfl
theorem gtx_name {x : Nat} (h : ¬ x < 3) : gtx x = Ax.gname (x - 3) := by simp [gtx, Ax.gterm, h]
theorem gtx_size (x : Nat) : (gtx x).size ≤ 2 := by
  unfold gtx Ax.gterm
  split
  · unfold Ax.gvar; simp only; split <;> decide
  · unfold Ax.gname; simp only; split <;> decide
theorem gpred_size (x : Nat) : (Ax.gpred x).size ≤ 3 := by unfold Ax.gpred; split <;> decide
theorem gpick_small {x n : Nat} (h : x < n) : Ax.gpick (x : Int) n = x := by
  unfold Ax.gpick
  rw [if_neg (by omega), Int.emod_eq_of_lt (by omega) (by omega)]
  omega
theorem name_val (x : Nat) (h3 : ¬ x < 3) (h7 : x < 7) (N : Int) (hN : N = (x : Int) - 3) : ∀ w, Calls Tryz.prog 122 #[.int .i64 N] w fun e w' => e = .returned (.string (gtx x)) ∧ Below w.heap.size w w' := by
  intro w
  have e : N = ((x - 3 : Nat) : Int) := by omega
  rw [e, gtx_name h3]
  have := gen_name ((x - 3 : Nat) : Int) w ⟨by omega, by omega⟩
  rw [gpick_small (by omega)] at this
  exact this
set_option maxRecDepth 100000 in
set_option maxHeartbeats 4000000 in
theorem written_any (w : World) (p : Int) (hp : Fit64 p) (b : Nat) (ld : Option Addr) (lc : Nat) (ts : List Nat) (h : w.ownsRow b 3 1 (.slice ld ts.length lc) ts.length (natCells ts)) (hl : ts.length ≤ 1000) (h7 : Hid (∀ x, x ∈ ts → x < 7)) (R : ByteArray) (HR : Hid (wloop ts 0 (Ax.gpred (Ax.gpick p 3) ++ ⟨#[40]⟩) = R)) :
    Calls Tryz.prog 61 #[.int .i64 p, .slice ld ts.length lc] w fun e w' => e = .returned (.string (R ++ ⟨#[41]⟩)) ∧ Below w.heap.size w w' := by
  have hpr := fun w => gen_pred p w hp
  have hps := gpred_size (Ax.gpick p 3)
  generalize Ax.gpred (Ax.gpick p 3) = P at *
  have HPR : Hid (∀ w, Calls Tryz.prog 18 #[.int .i64 p] w fun e w' => e = .returned (.string P) ∧ Below w.heap.size w w') := hpr
  clear hpr
  have hP1 : (P ++ ⟨#[40]⟩ : ByteArray).size ≤ 10 := by rw [ByteArray.size_append]; have : (⟨#[40]⟩ : ByteArray).size = 1 := rfl; omega
  go_enter Tryz.func61, Tryz.ntmps61
  go_wp2_with (go_at_call 18; refine (HPR.out _).mono ?_; rintro e w1 ⟨rfl, hb1⟩)
  go_loopw [5, 6] (fun sv iv wr => ∃ (i : Nat) (q : ByteArray), i ≤ ts.length ∧ sv = .string q ∧ iv = .int .i64 i ∧ Below w.heap.size w wr ∧ q.size ≤ 10 + 10 * i ∧ wloop (ts.drop i) i q = R) (fun _ iv _ => ts.length - (intOf iv).toNat)
  case atStart => exact ⟨0, _, Nat.zero_le _, rfl, rfl, hb1, by omega, HR.out⟩
  case round =>
    obtain ⟨i, q, hi, rfl, rfl, hbel, hqs, hr⟩ := hrel
    have HRi : Hid (wloop (ts.drop i) i q = R) := hr
    clear hr HR
    have hsz := hbel.size
    by_cases hlt : i < ts.length
    · obtain ⟨g, rfl, hg, hc, hcs⟩ := row_cells (ownsRow_below h hbel) (by omega)
      have c0 := hcs _ _ (natCells_get ts i hlt)
      clear hcs
      have hx7 := h7.out _ (List.getElem_mem hlt)
      have hdrop : ts.drop i = ts[i] :: ts.drop (i + 1) := List.drop_eq_getElem_cons hlt
      rw [hdrop] at HRi
      clear hdrop
      generalize ts[i] = x at *
      have HN : Hid (wloop (ts.drop (i + 1)) (i + 1) (wstep i q x) = R) := HRi
      clear HRi
      have hxs := gtx_size x
      have hcm : (⟨#[44]⟩ : ByteArray).size = 1 := rfl
      have HSZ : Hid ((wstep i q x).size ≤ 10 + 10 * (i + 1)) := by
        show (wstep i q x).size ≤ _
        unfold wstep
        split
        · rw [ByteArray.size_append, ByteArray.size_append]; omega
        · rw [ByteArray.size_append]; omega
      have hq1 : (q ++ ⟨#[44]⟩ : ByteArray).size ≤ 11 + 10 * i := by rw [ByteArray.size_append]; omega
      by_cases hx : x < 3
      · have hxb : decide ((x : Int) < 3) = true := by simp; omega
        have hex := gtx_var hx
        by_cases h0 : 0 < i
        · have h0b : decide ((0 : Int) < (i : Int)) = true := by simp; omega
          have HW : Hid (wstep i q x = q ++ ⟨#[44]⟩ ++ gtx x) := by simp [Hid, wstep, h0]
          go_wp2_with fail
          go_region
          all_goals (go_wp2_with fail)
          all_goals (go_roundw; (case rel => exact ⟨i + 1, wstep i q x, by omega, by rw [HW.out, ← hex], by go_num, hbel.drew, HSZ.out, HN.out⟩); (case measure => simp [intOf]; omega))
        · have h0b : decide ((0 : Int) < (i : Int)) = false := by simp; omega
          have HW : Hid (wstep i q x = q ++ gtx x) := by simp [Hid, wstep, h0]
          go_wp2_with fail
          go_region
          all_goals (go_wp2_with fail)
          all_goals (go_roundw; (case rel => exact ⟨i + 1, wstep i q x, by omega, by rw [HW.out, ← hex], by go_num, hbel.drew, HSZ.out, HN.out⟩); (case measure => simp [intOf]; omega))
      · have hxb : decide ((x : Int) < 3) = false := by simp; omega
        have hnm := name_val x hx hx7 ((x : Int) - 3) rfl
        have HNM : Hid (∀ w, Calls Tryz.prog 122 #[.int .i64 ((x : Int) - 3)] w fun e w' => e = .returned (.string (gtx x)) ∧ Below w.heap.size w w') := hnm
        clear hnm
        by_cases h0 : 0 < i
        · have h0b : decide ((0 : Int) < (i : Int)) = true := by simp; omega
          have HW : Hid (wstep i q x = q ++ ⟨#[44]⟩ ++ gtx x) := by simp [Hid, wstep, h0]
          go_wp2_with (go_at_call 122; refine (HNM.out _).mono ?_; rintro e w2 ⟨rfl, hb2⟩)
          go_roundw
          case rel => exact ⟨i + 1, wstep i q x, by omega, by rw [HW.out], by go_num, hbel.trans (hb2.mono hsz), HSZ.out, HN.out⟩
          case measure => simp [intOf]; omega
        · have h0b : decide ((0 : Int) < (i : Int)) = false := by simp; omega
          have HW : Hid (wstep i q x = q ++ gtx x) := by simp [Hid, wstep, h0]
          go_wp2_with (go_at_call 122; refine (HNM.out _).mono ?_; rintro e w2 ⟨rfl, hb2⟩)
          go_roundw
          case rel => exact ⟨i + 1, wstep i q x, by omega, by rw [HW.out], by go_num, hbel.trans (hb2.mono hsz), HSZ.out, HN.out⟩
          case measure => simp [intOf]; omega
    · have hqR : q = R := by
        have := HRi.out
        rw [List.drop_eq_nil_of_le (by omega)] at this
        exact this
      subst hqR
      clear HRi
      go_wp2_with fail
      go_ret
      exact ⟨rfl, hbel⟩
end Go.Proofs.YtdmicblafmhflaaGreatDoor

/- axiomkeep: what written writes, as tokens. No program here. -/
namespace Go.Proofs.YtdmicblafmhflaaGreatDoor
set_option linter.unusedSimpArgs false
set_option linter.unusedVariables false
def bytesI (l : List Ax.EI) : List UInt8 := l.flatMap fun x => x.2.data.toList
theorem bytesI_append (l l' : List Ax.EI) : bytesI (l ++ l') = bytesI l ++ bytesI l' := by simp [bytesI]
theorem bytesI_cons (x : Ax.EI) (l : List Ax.EI) : bytesI (x :: l) = x.2.data.toList ++ bytesI l := by simp [bytesI]
theorem wloop_on : ∀ (l : List Nat) (i : Nat) (p : ByteArray), 0 < i → (wloop l i p).data.toList = p.data.toList ++ l.flatMap fun x => 44 :: (gtx x).data.toList
  | [], i, p, _ => by simp [wloop]
  | x :: l, i, p, h => by
    rw [wloop, wloop_on l (i + 1) _ (by omega)]
    simp [wstep, h, ByteArray.data_append]
theorem termsI_bytes : ∀ (l : List Nat) (x : Nat), bytesI (Ax.termsI ((x :: l).map Ax.gterm)) = (gtx x).data.toList ++ l.flatMap fun x => 44 :: (gtx x).data.toList
  | [], x => by simp [Ax.termsI, bytesI, Ax.tI, gtx]
  | y :: l, x => by
    have ih := termsI_bytes l y
    rw [List.map_cons] at ih
    rw [List.map_cons, List.map_cons, Ax.termsI, bytesI_cons, bytesI_cons, ih]
    simp [Ax.tI, Ax.comma, gtx]
/-- written's text is an atom's tokens -/
theorem written_bytes (p : Nat) (ts : List Nat) (h : ts ≠ []) : (wloop ts 0 (Ax.gpred p ++ ⟨#[40]⟩) ++ ⟨#[41]⟩ : ByteArray).data.toList = bytesI (Ax.atomI (Ax.gEA p ts)) := by
  cases ts with
  | nil => exact absurd rfl h
  | cons x l =>
    rw [ByteArray.data_append, Array.toList_append, wloop, wloop_on l 1 _ (by omega)]
    unfold Ax.atomI Ax.gEA
    simp only
    rw [bytesI_cons, bytesI_cons, bytesI_append, termsI_bytes]
    simp [wstep, ByteArray.data_append, bytesI]
end Go.Proofs.YtdmicblafmhflaaGreatDoor

/- axiomkeep: body. -/
namespace Go.Proofs.YtdmicblafmhflaaGreatDoor
set_option linter.unusedSimpArgs false
set_option linter.unusedVariables false
open Go.RowKit
set_option maxRecDepth 100000 in
theorem body_any (w : World) (p a b : Int) (ad : Addr) (n c : Nat) (hn : n ≤ c) (hc : c ≤ maxLen) : Calls Tryz.prog 63 #[.agg #[.int .i64 p, .int .i64 a, .int .i64 b, .slice (some ad) n c]] w fun e w' => e = .returned (.slice (some ad) (min n 2) c) ∧ Below w.heap.size w w' := by
  have hm : maxLen = 9223372036854775807 := rfl
  by_cases h2 : 2 < n
  · have hb : decide ((2 : Int) < (n : Int)) = true := by simp; omega
    rw [Nat.min_eq_right (by omega)]
    go_enter Tryz.func63, Tryz.ntmps63
    go_wp2_with fail
    go_ret
    exact ⟨rfl, (Below.refl _ _).alloc (Nat.le_refl _) _⟩
  · have hb : decide ((2 : Int) < (n : Int)) = false := by simp; omega
    rw [Nat.min_eq_left (by omega)]
    go_enter Tryz.func63, Tryz.ntmps63
    go_wp2_with fail
    go_ret
    exact ⟨rfl, (Below.refl _ _).alloc (Nat.le_refl _) _⟩
theorem body_none (w : World) (p a b : Int) (c : Nat) : Calls Tryz.prog 63 #[.agg #[.int .i64 p, .int .i64 a, .int .i64 b, .slice none 0 c]] w fun e w' => e = .returned (.slice none 0 c) ∧ Below w.heap.size w w' := by
  go_enter Tryz.func63, Tryz.ntmps63
  go_wp2_with fail
  go_ret
  exact ⟨rfl, (Below.refl _ _).alloc (Nat.le_refl _) _⟩
end Go.Proofs.YtdmicblafmhflaaGreatDoor

/- axiomkeep: what text writes, as tokens. No program here. -/
namespace Go.Proofs.YtdmicblafmhflaaGreatDoor
set_option linter.unusedSimpArgs false
set_option linter.unusedVariables false
/-- an atom, written -/
def wAtom (p : Nat) (ts : List Nat) : ByteArray := wloop ts 0 (Ax.gpred p ++ ⟨#[40]⟩) ++ ⟨#[41]⟩
def wA (b : Ax.KAtom) : ByteArray := wAtom (Ax.gpick b.pred 3) (Ax.gterms b)
def tbody : List Ax.KAtom → Nat → ByteArray → ByteArray
  | [], _, s => s
  | b :: l, k, s => tbody l (k + 1) ((if k = 0 then s ++ ⟨#[58, 45]⟩ else s ++ ⟨#[44]⟩) ++ wA b)
def trule (r : Ax.KRule) (s : ByteArray) : ByteArray := tbody (Ax.gbody r) 0 (s ++ wAtom (Ax.gpick r.head.pred 3) (Ax.ghead r)) ++ ⟨#[46]⟩
def trules : List Ax.KRule → ByteArray → ByteArray
  | [], s => s
  | r :: l, s => trules l (trule r s)
theorem gterms_ne (a : Ax.KAtom) : Ax.gterms a ≠ [] := by unfold Ax.gterms; split <;> simp
theorem ghead_ne (r : Ax.KRule) : Ax.ghead r ≠ [] := by
  unfold Ax.ghead
  intro h
  exact gterms_ne r.head (List.map_eq_nil_iff.1 h)
theorem wA_bytes (b : Ax.KAtom) : (wA b).data.toList = bytesI (Ax.atomI (Ax.gEA (Ax.gpick b.pred 3) (Ax.gterms b))) := written_bytes _ _ (gterms_ne b)
def kEA (b : Ax.KAtom) : Ax.EA := Ax.gEA (Ax.gpick b.pred 3) (Ax.gterms b)
theorem tbody_on : ∀ (l : List Ax.KAtom) (k : Nat) (s : ByteArray), 0 < k → (tbody l k s).data.toList = s.data.toList ++ l.flatMap fun b => 44 :: bytesI (Ax.atomI (kEA b))
  | [], _, s, _ => by simp [tbody]
  | b :: l, k, s, h => by
    rw [tbody, tbody_on l (k + 1) _ (by omega), if_neg (by omega)]
    simp only [ByteArray.data_append, Array.toList_append, wA_bytes]
    simp [kEA]
theorem atomsI_bytes : ∀ (l : List Ax.KAtom) (b : Ax.KAtom), bytesI (Ax.atomsI ((b :: l).map kEA)) = bytesI (Ax.atomI (kEA b)) ++ l.flatMap fun b => 44 :: bytesI (Ax.atomI (kEA b))
  | [], b => by simp [Ax.atomsI]
  | c :: l, b => by
    have ih := atomsI_bytes l c
    rw [List.map_cons] at ih
    rw [List.map_cons, List.map_cons, Ax.atomsI, bytesI_append, bytesI_cons, ih]
    simp [Ax.comma]
theorem trule_bytes (r : Ax.KRule) (s : ByteArray) : (trule r s).data.toList = s.data.toList ++ bytesI (Ax.ruleI (Ax.gER r)) := by
  have hb : (Ax.gER r).2 = (Ax.gbody r).map kEA := rfl
  have hh : (Ax.gER r).1 = Ax.gEA (Ax.gpick r.head.pred 3) (Ax.ghead r) := rfl
  have hw : (wAtom (Ax.gpick r.head.pred 3) (Ax.ghead r)).data.toList = bytesI (Ax.atomI (Ax.gER r).1) := by rw [hh]; exact written_bytes _ _ (ghead_ne r)
  unfold trule Ax.ruleI
  rw [hb]
  cases Ax.gbody r with
  | nil => simp [tbody, ByteArray.data_append, hw, bytesI_append, bytesI]
  | cons b l =>
    rw [tbody, if_pos rfl, ByteArray.data_append, Array.toList_append, tbody_on l 1 _ (by omega)]
    simp only [ByteArray.data_append, Array.toList_append, hw, wA_bytes]
    rw [if_neg (by simp), bytesI_append, bytesI_append, bytesI_cons, atomsI_bytes]
    simp [bytesI, kEA]
theorem trules_bytes : ∀ (l : List Ax.KRule) (s : ByteArray), (trules l s).data.toList = s.data.toList ++ bytesI (Ax.rulesI (l.map Ax.gER))
  | [], s => by simp [trules, Ax.rulesI, bytesI]
  | r :: l, s => by
    rw [trules, trules_bytes l, trule_bytes, List.map_cons]
    simp [Ax.rulesI, bytesI]
/-- the two rules that every text begins with -/
def tbase : ByteArray := ⟨(bytesI (Ax.rulesI Ax.gbase)).toArray⟩
theorem tbase_eq : tbase = ⟨#[110, 40, 88, 41, 58, 45, 110, 40, 88, 41, 44, 101, 40, 88, 44, 88, 41, 46, 110, 40, 88, 41, 58, 45, 110, 40, 88, 41, 44, 112, 195, 188, 40, 88, 44, 88, 41, 46]⟩ := by rfl
theorem text_bytes (l : List Ax.KRule) : trules (l.take 6) tbase = Ax.gtext l := by
  have h := trules_bytes (l.take 6) tbase
  have e : (trules (l.take 6) tbase).data.toList = (Ax.gtext l).data.toList := by
    rw [h]
    simp [tbase, Ax.gtext, Ax.gR, Ax.rulesI, bytesI]
  cases h1 : trules (l.take 6) tbase with | mk x =>
  cases h2 : Ax.gtext l with | mk y =>
  rw [h1, h2] at e
  simp at e
  rw [e]
end Go.Proofs.YtdmicblafmhflaaGreatDoor

/- axiomkeep: head. -/
namespace Go.Proofs.YtdmicblafmhflaaGreatDoor
set_option linter.unusedSimpArgs false
set_option linter.unusedVariables false
open Go.RowKit
theorem Tryz.infoIntV : (Tryz.prog.info? 3).map (fun i => (i.zero, i.size, i.bytes)) = some (some (.int .i64 0), 1, 8) := by kernel_rfl
/-- an atom's cells -/
structure AtomAt (w : World) (g o : Nat) (a : Ax.KAtom) : Prop where
  c0 : w.cell? ⟨g, o, none⟩ = some (.int .i64 a.pred)
  c1 : w.cell? ⟨g, o + 1, none⟩ = some (.int .i64 a.a)
  c2 : w.cell? ⟨g, o + 2, none⟩ = some (.int .i64 a.b)
  f0 : Fit64 a.pred
  f1 : Fit64 a.a
  f2 : Fit64 a.b
/-- a list of atoms, somewhere -/
structure BodyAt (w : World) (ad : Option Addr) (n c : Nat) (l : List Ax.KAtom) : Prop where
  len : l.length = n
  cap : n ≤ c
  max : c ≤ maxLen
  none_ : ad = none → n = 0
  at_ : ∀ k (h : k < l.length), ∃ g o, ad = some ⟨g, o, none⟩ ∧ AtomAt w g (o + k * 3) l[k]
theorem cell_below {w w' : World} (hb : Below w.heap.size w w') {p : Addr} {v : Value} (h : w.cell? p = some v) : w'.cell? p = some v := by
  rw [hb.cell (World.block_lt_of_cell? _ _ h), h]
theorem AtomAt.below {w w' : World} {g o : Nat} {a : Ax.KAtom} (h : AtomAt w g o a) (hb : Below w.heap.size w w') : AtomAt w' g o a :=
  ⟨cell_below hb h.c0, cell_below hb h.c1, cell_below hb h.c2, h.f0, h.f1, h.f2⟩
theorem BodyAt.below {w w' : World} {ad : Option Addr} {n c : Nat} {l : List Ax.KAtom} (h : BodyAt w ad n c l) (hb : Below w.heap.size w w') : BodyAt w' ad n c l :=
  ⟨h.len, h.cap, h.max, h.none_, fun k hk => let ⟨g, o, e, ha⟩ := h.at_ k hk; ⟨g, o, e, ha.below hb⟩⟩
theorem BodyAt.two {w : World} {ad : Option Addr} {n c : Nat} {r : Ax.KRule} (h : BodyAt w ad n c r.body) : BodyAt w ad (min n 2) c (Ax.gbody r) := by
  refine ⟨?_, ?_, h.max, ?_, ?_⟩
  · unfold Ax.gbody; rw [List.length_take, h.len]; omega
  · have := h.cap; omega
  · intro e; have := h.none_ e; omega
  · intro k hk
    unfold Ax.gbody at hk ⊢
    rw [List.length_take] at hk
    obtain ⟨g, o, e, ha⟩ := h.at_ k (by omega)
    exact ⟨g, o, e, by rw [List.getElem_take]; exact ha⟩
theorem body_val {w : World} {ad : Option Addr} {n c : Nat} {l : List Ax.KAtom} (h : BodyAt w ad n c l) (p a b : Int) : ∀ w1, Calls Tryz.prog 63 #[.agg #[.int .i64 p, .int .i64 a, .int .i64 b, .slice ad n c]] w1 fun e w' => e = .returned (.slice ad (min n 2) c) ∧ Below w1.heap.size w1 w' := by
  intro w1
  cases ad with
  | none =>
    have hn := h.none_ rfl
    subst hn
    exact body_none w1 p a b c
  | some ad => exact body_any w1 p a b ad n c h.cap h.max
/-- a head's term, changed -/
def fv (L : List Nat) (h : Nat) : Nat := if h < 3 ∧ ¬ h ∈ L then h + 3 else h
/-- the head's terms, the first i changed -/
def hx (T L : List Nat) (i : Nat) : List Nat := (T.take i).map (fv L) ++ T.drop i
theorem hx_length (T L : List Nat) (i : Nat) : (hx T L i).length = T.length := by simp [hx]; omega
theorem hx_zero (T L : List Nat) : hx T L 0 = T := by simp [hx]
theorem hx_all (T L : List Nat) : hx T L T.length = T.map (fv L) := by simp [hx]
theorem hx_get {T : List Nat} (L : List Nat) {i : Nat} (h : i < T.length) : (natCells (hx T L i))[i]? = some (.int .i64 T[i]) := by
  have e : (hx T L i)[i]? = some T[i] := by
    unfold hx
    rw [List.getElem?_append_right (by simp; omega)]
    simp [Nat.min_eq_left (Nat.le_of_lt h)]
  simp [natCells, e]
theorem hx_next {T : List Nat} (L : List Nat) {i : Nat} (h : i < T.length) : (hx T L i).set i (fv L T[i]) = hx T L (i + 1) := by
  unfold hx
  rw [List.drop_eq_getElem_cons h, List.take_succ_eq_append_getElem h]
  have hl : ((T.take i).map (fv L)).length = i := by simp; omega
  rw [List.set_append_right _ _ (by omega), hl, Nat.sub_self, List.set_cons_zero, List.map_append, List.map_cons, List.map_nil, List.append_assoc]
  rfl
theorem hx_keep {T : List Nat} (L : List Nat) {i : Nat} (h : i < T.length) (e : fv L T[i] = T[i]) : hx T L (i + 1) = hx T L i := by
  rw [← hx_next L h, e]
  have e1 : (hx T L i)[i]? = some T[i] := by
    unfold hx
    rw [List.getElem?_append_right (by simp; omega)]
    simp [Nat.min_eq_left (Nat.le_of_lt h)]
  apply List.ext_getElem?
  intro k
  by_cases hk : i = k
  · subst hk
    rw [List.getElem?_set_self (by rw [hx_length]; exact h), e1]
  · rw [List.getElem?_set_ne hk]
theorem natCells_set (l : List Nat) (i x : Nat) : (natCells l).set i (.int .i64 (x : Int)) = natCells (l.set i x) := by
  simp [natCells, List.map_set]
theorem ownsRow_set1 {w : World} {b : Nat} {e : TypeId} {size g n cap : Nat} {xs : List Value} (h : w.ownsRow b e size (.slice (some ⟨g, 0, none⟩) n cap) n xs) (j : Nat) (v : Value) :
    (w.setCell ⟨g, j, none⟩ v).ownsRow b e size (.slice (some ⟨g, 0, none⟩) n cap) n (xs.set j v) := by
  refine ⟨by rw [List.length_set]; exact h.1, ?_⟩
  rcases h.2 with ⟨e1, _⟩ | ⟨g', cap', cur, hv, hg, hh, h1, h2, h3, h4⟩
  · simp at e1
  · simp only [Value.slice.injEq, Option.some.injEq, Addr.mk.injEq] at hv
    obtain ⟨⟨rfl, _⟩, _, rfl⟩ := hv
    refine .inr ⟨g, cap, cur.setIfInBounds j v, rfl, hg, heap_setCell_same hh v, h1, h2, by simpa using h3, ?_⟩
    rw [Array.toList_setIfInBounds, List.take_set, h4]
theorem hx_own {w : World} {b g n cap : Nat} {T L : List Nat} {i : Nat} (hi : i < T.length) {x : Nat} (hx0 : fv L T[i] = x) (h : w.ownsRow b 3 1 (.slice (some ⟨g, 0, none⟩) n cap) n (natCells (hx T L i))) :
    (w.setCell ⟨g, i, none⟩ (.int .i64 (x : Int))).ownsRow b 3 1 (.slice (some ⟨g, 0, none⟩) n cap) n (natCells (hx T L (i + 1))) := by
  have := ownsRow_set1 h i (.int .i64 (x : Int))
  rw [natCells_set, ← hx0, hx_next L hi] at this
  rw [← hx0]
  exact this
theorem natCells_append (l m : List Nat) : natCells l ++ natCells m = natCells (l ++ m) := by simp [natCells]
theorem natCells_length (l : List Nat) : (natCells l).length = l.length := by simp [natCells]
theorem natCells_oneV (l : List Nat) : ∀ u, u ∈ natCells l → u.oneCell' = true := by
  intro u hu
  obtain ⟨n, _, rfl⟩ := List.mem_map.1 hu
  rfl
theorem vars_next (gb : List Ax.KAtom) {i : Nat} (h : i < gb.length) : (gb.take (i + 1)).flatMap Ax.gterms = (gb.take i).flatMap Ax.gterms ++ Ax.gterms gb[i] := by
  rw [List.take_succ_eq_append_getElem h, List.flatMap_append, List.flatMap_cons, List.flatMap_nil, List.append_nil]
theorem gterms_two (a : Ax.KAtom) : 0 < (Ax.gterms a).length ∧ (Ax.gterms a).length ≤ 2 := by
  unfold Ax.gterms
  split <;> simp
end Go.Proofs.YtdmicblafmhflaaGreatDoor
