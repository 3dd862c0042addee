/- The parser: atoms. -/
import Derived.Test.YtdmicblafmhflaaM4
import Derived.Test.YtdmicblafmhflaaPP
namespace Go.Proofs.Ytdmicblafmhflaa
set_option linter.unusedSimpArgs false
set_option linter.unusedVariables false
open Go.RowKit

/-- an atom, and the slice that holds its terms -/
abbrev MA := Ax.Atom × Value
def MA.ok (w : World) (x : MA) : Prop := w.ownsRow 0 102 2 x.2 x.1.terms.length (termCells x.1.terms)
def atomCells (l : List MA) : List Value := l.flatMap fun x => [.int .i64 x.1.at_, .string x.1.pred, x.2]
theorem atomCells_snoc (l : List MA) (x : MA) : atomCells (l ++ [x]) = atomCells l ++ [.int .i64 x.1.at_, .string x.1.pred, x.2] := by simp [atomCells]
def oks (w : World) (l : List MA) : Prop := ∀ x, x ∈ l → x.ok w
theorem Try.infoAtom : (Try.prog.info? 89).map (fun i => (i.zero, i.size, i.bytes)) = some (some (.agg #[.int .i64 0, .string ByteArray.empty, .slice none 0 0]), 3, 48) := by kernel_rfl

theorem oks_nil (w : World) : oks w [] := fun _ h => by cases h
theorem oks_below {w w' : World} {l : List MA} (h : oks w l) (hb : Below w.heap.size w w') : oks w' l := fun x hx => ownsRow_below (h x hx) hb
theorem oks_type {w w' : World} {l : List MA} {row : Option Nat} {e' : TypeId} (h : oks w l) (hg : w.grownBy w' row) (hr : ∀ k, row = some k → ∃ cur fz, w.heap[k]? = some (.cells cur e' fz)) (hne : 102 ≠ e') : oks w' l :=
  fun x hx => ownsRow_type (h x hx) hg hr hne
theorem oks_step {w w' : World} {l : List MA} {pb : Nat} {tv : Value} {toks : List Ax.Tok} {nx : Nat} (h : oks w l) (hp : PAt w pb tv toks nx) (hg : w.grownBy w' (some pb)) : oks w' l :=
  fun x hx => ownsRow_step (h x hx) hp hg (by decide)
theorem oks_snoc {w : World} {l : List MA} {x : MA} (h : oks w l) (hx : x.ok w) : oks w (l ++ [x]) := by
  intro y hy
  rcases List.mem_append.1 hy with hy | hy
  · exact h y hy
  · simp at hy; subst hy; exact hx

theorem atom_some (w : World) (pb : Nat) (tv : Value) (toks : List Ax.Tok) (nx j : Nat) (a : Ax.Atom) (h : PAt w pb tv toks nx) (hR : Hid (Ax.pAtom toks nx = (some a, j))) :
    Calls Try.prog 53 #[.pointer (some ⟨pb, 0, none⟩)] w fun e w' => ∃ ad c, e = .returned (.tuple #[.agg #[.int .i64 a.at_, .string a.pred, .slice ad a.terms.length c], .bool true]) ∧ PAt w' pb tv toks j ∧ w.grownBy w' (some pb) ∧ MA.ok w' (a, .slice ad a.terms.length c) := by
  refine (atom_any w pb tv toks nx h).mono ?_
  rintro e w' ⟨hp, hg, hc⟩
  rw [hR.out] at hp hc
  rcases hc with ⟨ad, c, a', rfl, hn, hown⟩ | ⟨_, _, _, _, _, _, hn⟩
  · simp at hn; subst hn
    exact ⟨ad, c, rfl, hp, hg, ownsRow_base hown (Nat.zero_le _)⟩
  · simp at hn
theorem atom_none (w : World) (pb : Nat) (tv : Value) (toks : List Ax.Tok) (nx j : Nat) (h : PAt w pb tv toks nx) (hR : Hid (Ax.pAtom toks nx = (none, j))) :
    Calls Try.prog 53 #[.pointer (some ⟨pb, 0, none⟩)] w fun e w' => ∃ x y ad n c, e = .returned (.tuple #[.agg #[.int .i64 x, .string y, .slice ad n c], .bool false]) ∧ PAt w' pb tv toks j ∧ w.grownBy w' (some pb) := by
  refine (atom_any w pb tv toks nx h).mono ?_
  rintro e w' ⟨hp, hg, hc⟩
  rw [hR.out] at hp hc
  rcases hc with ⟨ad, c, a', _, hn, _⟩ | ⟨x, y, ad, n, c, rfl, hn⟩
  · simp at hn
  · exact ⟨x, y, ad, n, c, rfl, hp, hg⟩

theorem atoms_world {w w1 w2 : World} {pb : Nat} {tv v : Value} {toks : List Ax.Tok} {nx n : Nat} {xs : List Value} {o1 o2 : Obj} {l : List MA} {x : MA} (hown1 : w1.ownsRow w.heap.size 89 3 v n xs) (hp1 : PAt w1 pb tv toks nx) (hg : w.grownBy w1 (some pb)) (hok : oks w1 l) (hx : x.ok w1)
    (hgrow : ((w1.alloc o1).alloc o2).grownBy w2 v.ownBlock) : PAt w2 pb tv toks nx ∧ w.grownBy w2 (some pb) ∧ oks w2 (l ++ [x]) :=
  ⟨((hp1.alloc o1).alloc o2).row hgrow (ownsRow_kind ((hown1.alloc o1).alloc o2)) (by decide) (by decide),
   grownBy_new (grownBy_alloc (grownBy_alloc hg _) _) hgrow (fun k hk => (hown1.lt k hk).1),
   oks_type (w := (w1.alloc o1).alloc o2) (fun y hy => World.ownsRow.alloc (World.ownsRow.alloc (oks_snoc hok hx y hy) _) _) hgrow (ownsRow_kind ((hown1.alloc o1).alloc o2)) (by decide)⟩

def AtomsRel (w wr : World) (pb : Nat) (tv : Value) (toks : List Ax.Tok) (v : Value) (nx k : Nat) (acc : List MA) (R : Option (List Ax.Atom) × Nat) : Prop :=
  PAt wr pb tv toks nx ∧ wr.ownsRow w.heap.size 89 3 v acc.length (atomCells acc) ∧ oks wr acc ∧ w.grownBy wr (some pb) ∧ acc.length ≤ nx ∧ toks.length ≤ nx + k ∧ Ax.pAtoms toks k nx (acc.map Prod.fst) = R

set_option maxHeartbeats 2000000 in
theorem atoms_any (w : World) (pb : Nat) (tv : Value) (toks : List Ax.Tok) (nx : Nat) (h : PAt w pb tv toks nx) :
    Calls Try.prog 55 #[.pointer (some ⟨pb, 0, none⟩)] w fun e w' => PAt w' pb tv toks (Ax.pAtoms toks toks.length nx []).2 ∧ w.grownBy w' (some pb) ∧
      ((∃ v l, e = .returned (.tuple #[v, .bool true]) ∧ (Ax.pAtoms toks toks.length nx []).1 = some (l.map Prod.fst) ∧ w'.ownsRow w.heap.size 89 3 v l.length (atomCells l) ∧ oks w' l) ∨
       (e = .returned (.tuple #[.slice none 0 0, .bool false]) ∧ (Ax.pAtoms toks toks.length nx []).1 = none)) := by
  obtain ⟨i0, hi, hz0, hz1, hz2⟩ := info_parts Try.infoAtom
  generalize hR : Ax.pAtoms toks toks.length nx [] = R
  have hpb := lt_of_heap h.1
  go_enter Try.func55, Try.ntmps55
  go_wp2_with fail
  go_loopg [4] toks.length (fun k v wr => ∃ (i : Nat) (acc : List MA), AtomsRel w wr pb tv toks v i k acc R)
  case atStart => exact ⟨nx, [], h, World.ownsRow_nil _ _ _ _, oks_nil _, grownBy_refl _ _, Nat.zero_le _, by omega, hR⟩
  case round =>
    obtain ⟨i, acc, hp, hown, hok, hg, hal, hlen, hr⟩ := hrel
    have hlt := hp.2.2.1
    have hle := hp.2.2.2.1
    have hends := hp.2.2.2.2
    have hsz := hg.size
    cases gk with
    | zero => omega
    | succ k =>
    have hr' : Hid (Ax.pAtoms toks (k + 1) i (acc.map Prod.fst) = R) := hr
    clear hr hR
    rcases hA0 : Ax.pAtom toks i with ⟨_ | a, j⟩
    · have hA : Hid (Ax.pAtom toks i = (none, j)) := hA0
      clear hA0
      go_wp2_with (go_at_call 53; refine (atom_none _ _ _ _ _ _ hp hA).mono ?_; rintro e w1 ⟨x, y, ad, n, c, rfl, hp1, hg1⟩)
      go_ret2
      have e := hr'.out.symm.trans (Ax.pAtoms_none hA.out)
      exact ⟨by rw [e]; exact hp1.alloc _, grownBy_alloc (grownBy_trans hg hg1) _, .inr ⟨rfl, by rw [e]⟩⟩
    · have hA : Hid (Ax.pAtom toks i = (some a, j)) := hA0
      have hij := Ax.pAtom_gt hA0
      have hj := Ax.pAtom_lt hends hlt hA0
      clear hA0
      obtain ⟨t', ht0⟩ : ∃ t, toks[j]? = some t := ⟨_, List.getElem?_eq_getElem hj⟩
      have ht' : Hid (toks[j]? = some t') := ht0
      clear ht0
      cases h6 : (t'.kind == 6)
      case true =>
        have hon : Hid (Ax.pAtoms toks (k + 1) i (acc.map Prod.fst) = Ax.pAtoms toks k (j + 1) (acc.map Prod.fst ++ [a])) := Ax.pAtoms_on hA.out (by rw [Ax.kindAt_of ht'.out]; simpa using h6)
        go_wp2_with (first | (go_at_call 53; refine (atom_some _ _ _ _ _ _ _ hp hA).mono ?_; rintro e w1 ⟨ad, c, rfl, hp1, hg1, hat1⟩; have hown1 := ownsRow_step hown hp hg1 (by decide); have hs1 := hg1.size; have hok1 := oks_step hok hp hg1) | (at_builtin; refine wpList_append_own _ rfl (.tmp 14) (.tmp 16) 90 rfl w.heap.size 89 i0 _ 3 48 Try.underlying90 hi hz0 hz1 hz2 rfl (by decide) _ _ _ rfl ((hown1.alloc _).alloc _) ⟨w1.heap.size + 1, 0, none⟩ 1 1 [.int .i64 a.at_, .string a.pred, .slice ad a.terms.length c] rfl rfl (new_cells2 _ _ _ _) (by simp [Value.oneCell']) (by unfold maxLen; omega) (by omega) (by simp; omega) ?_; intro v2 w2 hown2 hgrow _; obtain ⟨hp2, hg2, hok2⟩ := atoms_world hown1 hp1 (grownBy_trans hg hg1) hok1 hat1 hgrow; clear hgrow hown1 hp1 hok1 hat1) | (go_at_call 54; refine (take_yes _ _ _ _ _ hp2 _ ht' _ (by decide) h6).mono ?_; rintro e w3 ⟨rfl, hp3, hg3⟩; have hown3 := ownsRow_step hown2 hp2 hg3 (by decide); have hok3 := oks_step hok2 hp2 hg3))
        go_roundg k
        case measure => omega
        case rel =>
          refine ⟨j + 1, acc ++ [(a, .slice ad a.terms.length c)], hp3, ?_, hok3, grownBy_trans hg2 hg3, by simp; omega, by omega, ?_⟩
          · rw [atomCells_snoc]; simpa using hown3
          · rw [List.map_append]; exact hon.out.symm.trans hr'.out
      case false =>
        have hon : Hid (Ax.pAtoms toks (k + 1) i (acc.map Prod.fst) = (some (acc.map Prod.fst ++ [a]), j)) := Ax.pAtoms_last hA.out (by rw [Ax.kindAt_of ht'.out]; simpa using h6)
        go_wp2_with (first | (go_at_call 53; refine (atom_some _ _ _ _ _ _ _ hp hA).mono ?_; rintro e w1 ⟨ad, c, rfl, hp1, hg1, hat1⟩; have hown1 := ownsRow_step hown hp hg1 (by decide); have hs1 := hg1.size; have hok1 := oks_step hok hp hg1) | (at_builtin; refine wpList_append_own _ rfl (.tmp 14) (.tmp 16) 90 rfl w.heap.size 89 i0 _ 3 48 Try.underlying90 hi hz0 hz1 hz2 rfl (by decide) _ _ _ rfl ((hown1.alloc _).alloc _) ⟨w1.heap.size + 1, 0, none⟩ 1 1 [.int .i64 a.at_, .string a.pred, .slice ad a.terms.length c] rfl rfl (new_cells2 _ _ _ _) (by simp [Value.oneCell']) (by unfold maxLen; omega) (by omega) (by simp; omega) ?_; intro v2 w2 hown2 hgrow _; obtain ⟨hp2, hg2, hok2⟩ := atoms_world hown1 hp1 (grownBy_trans hg hg1) hok1 hat1 hgrow; clear hgrow hown1 hp1 hok1 hat1) | (go_at_call 54; refine (take_no _ _ _ _ _ hp2 _ ht' _ h6).mono ?_; rintro e w3 ⟨rfl, hb3⟩; have hown3 := ownsRow_below hown2 hb3; have hok3 := oks_below hok2 hb3))
        go_ret2
        have e := hr'.out.symm.trans hon.out
        refine ⟨by rw [e]; exact hp2.below hb3, grownBy_trans hg2 (grownBy_of_below hb3 _), .inl ⟨_, acc ++ [(a, .slice ad a.terms.length c)], rfl, by rw [e]; simp, ?_, hok3⟩⟩
        rw [atomCells_snoc]; simpa using hown3
end Go.Proofs.Ytdmicblafmhflaa
