/- The parser: atom, whole. -/
import Derived.Test.YtdmicblafmhflaaGreatDoorC05
import Derived.Test.YtdmicblafmhflaaGreatDoorC00
set_option linter.unusedSimpArgs false
set_option linter.unusedVariables false
namespace Go.Proofs.YtdmicblafmhflaaGreatDoor
open Go.RowKit
theorem ownsRow_stores3 {w2 : World} {k : Nat} {a b c : Value} {T : TypeId} (r2 : w2.heap[k]? = some (.cells #[a, b, c] T (0, 0))) (x y z : Value) {bs : Nat} {e : TypeId} {size : Nat} {v : Value} {n : Nat} {xs : List Value} (h : w2.ownsRow bs e size v n xs) (hne : e ≠ T) :
 (((w2.setCell ⟨k, 0, none⟩ x).setCell ⟨k, 1, none⟩ y).setCell ⟨k, 2, none⟩ z).ownsRow bs e size v n xs := by
 have h0 := heap_setCell_same (off := 0) r2 x
 have h1 := heap_setCell_same (off := 1) h0 y
 refine ownsRow_type (ownsRow_type (ownsRow_type h (grownBy_setCell _ _) (e' := T) (fun j hj => ?_) hne) (grownBy_setCell _ _) (e' := T) (fun j hj => ?_) hne) (grownBy_setCell _ _) (e' := T) (fun j hj => ?_) hne
 · cases hj; exact ⟨_, _, r2⟩
 · cases hj; exact ⟨_, _, h0⟩
 · cases hj; exact ⟨_, _, h1⟩
set_option maxHeartbeats 2000000 in
theorem atom_4 (w : World) (pb : Nat) (tv : Value) (toks : List Ax.Tok) (nx : Nat) (h : PAt w pb tv toks nx) (t : Ax.Tok) (ht : Hid (toks[nx]? = some t)) (he : (t.kind == 2) = true) (t' : Ax.Tok) (ht' : Hid (toks[nx + 1]? = some t')) (h4 : (t'.kind == 4) = true) (j : Nat) (ts : List Ax.Term) (hR : Hid (Ax.pTerms toks toks.length (nx + 1 + 1) [] = (some ts, j))) (t3 : Ax.Tok) (ht3 : Hid (toks[j]? = some t3)) (h5 : (t3.kind == 5) = true) :
 Calls Tryz.prog 222 #[.pointer (some ⟨pb, 0, none⟩)] w fun e w' => ∃ ad c, e = .returned (.tuple #[.agg #[.int .i64 t.at_, .string t.text, .slice ad ts.length c], .bool true]) ∧ PAt w' pb tv toks (j + 1) ∧ w.grownBy w' (some pb) ∧ w'.ownsRow w.heap.size 310 2 (.slice ad ts.length c) ts.length (termCells ts) := by
 have hpb := lt_of_heap h.1
 go_enter Tryz.func222, Tryz.ntmps222
 go_wp2_with (first | (go_at_call 105; refine (peek_any _ _ _ _ _ (h.alloc _) _ ht).mono ?_; rintro e w1 ⟨rfl, hb1⟩; rw [World.size_alloc] at hb1; have hp1 := ((h.alloc (.cells #[.int .i64 0, .string ⟨#[]⟩, .slice none 0 0] 219)).below (by rw [World.size_alloc]; exact hb1)).alloc (.cells #[.int .i64 t.kind, .int .i64 t.at_, .string t.text] 210)) | (go_at_call_of 223 (Value.int IntKind.i64 2); refine (take_yes _ _ _ _ _ hp1 _ ht _ (by decide) he).mono ?_; rintro e w2 ⟨rfl, hp2, hg2'⟩; have hg2 := hg2') | (go_at_call_of 223 (Value.int IntKind.i64 4); refine (take_yes _ _ _ _ _ hp2 _ ht' _ (by decide) h4).mono ?_; rintro e w3 ⟨rfl, hp3, hg3'⟩; have hg3 := grownBy_trans hg2 hg3') | (go_at_call 260; refine (terms_some _ _ _ _ _ _ _ hp3 hR).mono ?_; rintro e w4 ⟨ad, c, rfl, hp4, hg4', hown4⟩; have hg4 := grownBy_trans hg3 hg4'; have hsz3 := (term_world h hb1 hg3).2.2.1.size; obtain ⟨t4, r4, gw4, lt14, lt24⟩ := term_world h hb1 hg4; have f04 := frozen_at r4 0; have f14 := frozen_at r4 1; have f24 := frozen_at r4 2; have k04 := cell_at r4 0; have k14 := cell_at r4 1; have k24 := cell_at r4 2; have c14 := cell_at t4 1; have c24 := cell_at t4 2; simp only [List.getElem?_toArray, List.getElem?_cons_zero, List.getElem?_cons_succ] at c14 c24 k04 k14 k24))
 go_region_with (go_at_call 223; refine (take_yes _ pb tv toks j (by exact hp4) _ ht3 _ (by decide) h5).mono ?_; rintro e w5 ⟨rfl, hp5, hg5'⟩; have hg5 := grownBy_trans (grownBy_drew hg4) hg5'; have hown5 := ownsRow_step (w := w4.drew) hown4 (by exact hp4) hg5' (by decide); obtain ⟨t5, r5, gw5, lt15, lt25⟩ := term_world h hb1 hg5; have f05 := frozen_at r5 0; have f15 := frozen_at r5 1; have f25 := frozen_at r5 2; have k05 := cell_at r5 0; have k15 := cell_at r5 1; have k25 := cell_at r5 2; have c15 := cell_at t5 1; have c25 := cell_at t5 2; simp only [List.getElem?_toArray, List.getElem?_cons_zero, List.getElem?_cons_succ] at c15 c25 k05 k15 k25)
 all_goals (go_wp2_with fail)
 all_goals (obtain ⟨hu, gu, pu⟩ := three_stores r5 (.int .i64 t.at_) (.string t.text) (.slice ad ts.length c) gw5 hp5 (Nat.le_refl _))
 all_goals (exact bodyPost_ret (v := .tuple #[.agg #[.int .i64 t.at_, .string t.text, .slice ad ts.length c], .bool true]) (by simp [results, Tryz.results222, go_sem, cell_at hu]) rfl ⟨_, _, rfl, pu, gu, ownsRow_base (ownsRow_stores3 r5 _ _ _ hown5 (by decide)) hsz3⟩)
theorem atom_any (w : World) (pb : Nat) (tv : Value) (toks : List Ax.Tok) (nx : Nat) (h : PAt w pb tv toks nx) :
 Calls Tryz.prog 222 #[.pointer (some ⟨pb, 0, none⟩)] w fun e w' => PAt w' pb tv toks (Ax.pAtom toks nx).2 ∧ w.grownBy w' (some pb) ∧
  ((∃ ad c a, e = .returned (.tuple #[.agg #[.int .i64 a.at_, .string a.pred, .slice ad a.terms.length c], .bool true]) ∧ (Ax.pAtom toks nx).1 = some a ∧ w'.ownsRow w.heap.size 310 2 (.slice ad a.terms.length c) a.terms.length (termCells a.terms)) ∨
   (∃ x y ad n c, e = .returned (.tuple #[.agg #[.int .i64 x, .string y, .slice ad n c], .bool false]) ∧ (Ax.pAtom toks nx).1 = none)) := by
 obtain ⟨t, ht⟩ : ∃ t, toks[nx]? = some t := ⟨_, List.getElem?_eq_getElem h.2.2.1⟩
 by_cases he : t.kind = 2
 case neg =>
  rw [Ax.pAtom_0 ht he]
  refine (atom_0 w pb tv toks nx h t ht (by simpa using he)).mono ?_
  rintro e w' ⟨rfl, hp, hg⟩
  exact ⟨hp, hg, .inr ⟨_, _, _, _, _, rfl, rfl⟩⟩
 have hn1 : nx + 1 < toks.length := by
  obtain ⟨hl, e⟩ := Tok_get ht
  exact h.2.2.2.2.next hl (by rw [e]; omega) (by rw [e]; omega)
 obtain ⟨t', ht'⟩ : ∃ t, toks[nx + 1]? = some t := ⟨_, List.getElem?_eq_getElem hn1⟩
 have hk' := Ax.kindAt_of ht'
 by_cases h4 : t'.kind = 4
 case neg =>
  rw [Ax.pAtom_1 ht he (by rw [hk']; exact h4)]
  refine (atom_1 w pb tv toks nx h t ht (by simpa using he) t' ht' (by simpa using h4)).mono ?_
  rintro e w' ⟨rfl, hp, hg⟩
  exact ⟨hp, hg, .inr ⟨_, _, _, _, _, rfl, rfl⟩⟩
 have h4k : Ax.kindAt toks (nx + 1) = 4 := by rw [hk']; exact h4
 have hn2 : nx + 1 + 1 < toks.length := by
  obtain ⟨hl, e⟩ := Tok_get ht'
  exact h.2.2.2.2.next hl (by rw [e]; omega) (by rw [e]; omega)
 rcases hR : Ax.pTerms toks toks.length (nx + 1 + 1) [] with ⟨_ | ts, j⟩
 · rw [Ax.pAtom_2 ht he h4k hR]
   refine (atom_2 w pb tv toks nx h t ht (by simpa using he) t' ht' (by simpa using h4) j hR).mono ?_
   rintro e w' ⟨rfl, hp, hg⟩
   exact ⟨hp, hg, .inr ⟨_, _, _, _, _, rfl, rfl⟩⟩
 · have hj : j < toks.length := Ax.pTerms_lt h.2.2.2.2 _ _ _ hn2 hR
   obtain ⟨t3, ht3⟩ : ∃ t, toks[j]? = some t := ⟨_, List.getElem?_eq_getElem hj⟩
   have hk3 := Ax.kindAt_of ht3
   by_cases h5 : t3.kind = 5
   · rw [Ax.pAtom_4 ht he h4k hR (by rw [hk3]; exact h5)]
     refine (atom_4 w pb tv toks nx h t ht (by simpa using he) t' ht' (by simpa using h4) j ts hR t3 ht3 (by simpa using h5)).mono ?_
     rintro e w' ⟨ad, c, rfl, hp, hg, hown⟩
     exact ⟨hp, hg, .inl ⟨ad, c, ⟨t.at_, t.text, ts⟩, rfl, rfl, hown⟩⟩
   · rw [Ax.pAtom_3 ht he h4k hR (by rw [hk3]; exact h5)]
     refine (atom_3 w pb tv toks nx h t ht (by simpa using he) t' ht' (by simpa using h4) j ts hR t3 ht3 (by simpa using h5)).mono ?_
     rintro e w' ⟨x, y, ad, n, c, rfl, hp, hg⟩
     exact ⟨hp, hg, .inr ⟨_, _, _, _, _, rfl, rfl⟩⟩
end Go.Proofs.YtdmicblafmhflaaGreatDoor
/- The parser: atoms. -/
namespace Go.Proofs.YtdmicblafmhflaaGreatDoor
open Go.RowKit
abbrev MA := Ax.Atom × Value
def MA.ok (w : World) (x : MA) : Prop := w.ownsRow 0 310 2 x.2 x.1.terms.length (termCells x.1.terms)
def atomCells (l : List MA) : List Value := l.flatMap fun x => [.int .i64 x.1.at_, .string x.1.pred, x.2]
theorem atomCells_snoc (l : List MA) (x : MA) : atomCells (l ++ [x]) = atomCells l ++ [.int .i64 x.1.at_, .string x.1.pred, x.2] := by simp [atomCells]
def oks (w : World) (l : List MA) : Prop := ∀ x, x ∈ l → x.ok w
theorem Tryz.infoAtom : (Tryz.prog.info? 219).map (fun i => (i.zero, i.size, i.bytes)) = some (some (.agg #[.int .i64 0, .string ByteArray.empty, .slice none 0 0]), 3, 48) := by kernel_rfl
theorem oks_nil (w : World) : oks w [] := fun _ h => by cases h
theorem oks_below {w w' : World} {l : List MA} (h : oks w l) (hb : Below w.heap.size w w') : oks w' l := fun x hx => ownsRow_below (h x hx) hb
theorem oks_type {w w' : World} {l : List MA} {row : Option Nat} {e' : TypeId} (h : oks w l) (hg : w.grownBy w' row) (hr : ∀ k, row = some k → ∃ cur fz, w.heap[k]? = some (.cells cur e' fz)) (hne : 310 ≠ e') : oks w' l :=
 fun x hx => ownsRow_type (h x hx) hg hr hne
theorem oks_step {w w' : World} {l : List MA} {pb : Nat} {tv : Value} {toks : List Ax.Tok} {nx : Nat} (h : oks w l) (hp : PAt w pb tv toks nx) (hg : w.grownBy w' (some pb)) : oks w' l :=
 fun x hx => ownsRow_step (h x hx) hp hg (by decide)
theorem oks_snoc {w : World} {l : List MA} {x : MA} (h : oks w l) (hx : x.ok w) : oks w (l ++ [x]) := by
 intro y hy
 rcases List.mem_append.1 hy with hy | hy
 · exact h y hy
 · simp at hy; subst hy; exact hx
theorem atom_some (w : World) (pb : Nat) (tv : Value) (toks : List Ax.Tok) (nx j : Nat) (a : Ax.Atom) (h : PAt w pb tv toks nx) (hR : Hid (Ax.pAtom toks nx = (some a, j))) :
 Calls Tryz.prog 222 #[.pointer (some ⟨pb, 0, none⟩)] w fun e w' => ∃ ad c, e = .returned (.tuple #[.agg #[.int .i64 a.at_, .string a.pred, .slice ad a.terms.length c], .bool true]) ∧ PAt w' pb tv toks j ∧ w.grownBy w' (some pb) ∧ MA.ok w' (a, .slice ad a.terms.length c) := by
 refine (atom_any w pb tv toks nx h).mono ?_
 rintro e w' ⟨hp, hg, hc⟩
 rw [hR.out] at hp hc
 rcases hc with ⟨ad, c, a', rfl, hn, hown⟩ | ⟨_, _, _, _, _, _, hn⟩
 · simp at hn; subst hn
   exact ⟨ad, c, rfl, hp, hg, ownsRow_base hown (Nat.zero_le _)⟩
 · simp at hn
theorem atom_none (w : World) (pb : Nat) (tv : Value) (toks : List Ax.Tok) (nx j : Nat) (h : PAt w pb tv toks nx) (hR : Hid (Ax.pAtom toks nx = (none, j))) :
 Calls Tryz.prog 222 #[.pointer (some ⟨pb, 0, none⟩)] w fun e w' => ∃ x y ad n c, e = .returned (.tuple #[.agg #[.int .i64 x, .string y, .slice ad n c], .bool false]) ∧ PAt w' pb tv toks j ∧ w.grownBy w' (some pb) := by
 refine (atom_any w pb tv toks nx h).mono ?_
 rintro e w' ⟨hp, hg, hc⟩
 rw [hR.out] at hp hc
 rcases hc with ⟨ad, c, a', _, hn, _⟩ | ⟨x, y, ad, n, c, rfl, hn⟩
 · simp at hn
 · exact ⟨x, y, ad, n, c, rfl, hp, hg⟩
theorem atoms_world {w w1 w2 : World} {pb : Nat} {tv v : Value} {toks : List Ax.Tok} {nx n : Nat} {xs : List Value} {o1 o2 : Obj} {l : List MA} {x : MA} (hown1 : w1.ownsRow w.heap.size 219 3 v n xs) (hp1 : PAt w1 pb tv toks nx) (hg : w.grownBy w1 (some pb)) (hok : oks w1 l) (hx : x.ok w1)
 (hgrow : ((w1.alloc o1).alloc o2).grownBy w2 v.ownBlock) : PAt w2 pb tv toks nx ∧ w.grownBy w2 (some pb) ∧ oks w2 (l ++ [x]) :=
 ⟨((hp1.alloc o1).alloc o2).row hgrow (ownsRow_kind ((hown1.alloc o1).alloc o2)) (by decide) (by decide),
  grownBy_new (grownBy_alloc (grownBy_alloc hg _) _) hgrow (fun k hk => (hown1.lt k hk).1),
  oks_type (w := (w1.alloc o1).alloc o2) (fun y hy => World.ownsRow.alloc (World.ownsRow.alloc (oks_snoc hok hx y hy) _) _) hgrow (ownsRow_kind ((hown1.alloc o1).alloc o2)) (by decide)⟩
def AtomsRel (w wr : World) (pb : Nat) (tv : Value) (toks : List Ax.Tok) (v : Value) (nx k : Nat) (acc : List MA) (R : Option (List Ax.Atom) × Nat) : Prop :=
 PAt wr pb tv toks nx ∧ wr.ownsRow w.heap.size 219 3 v acc.length (atomCells acc) ∧ oks wr acc ∧ w.grownBy wr (some pb) ∧ acc.length ≤ nx ∧ toks.length ≤ nx + k ∧ Ax.pAtoms toks k nx (acc.map Prod.fst) = R
set_option maxHeartbeats 2000000 in
theorem atoms_any (w : World) (pb : Nat) (tv : Value) (toks : List Ax.Tok) (nx : Nat) (h : PAt w pb tv toks nx) :
 Calls Tryz.prog 224 #[.pointer (some ⟨pb, 0, none⟩)] w fun e w' => PAt w' pb tv toks (Ax.pAtoms toks toks.length nx []).2 ∧ w.grownBy w' (some pb) ∧
  ((∃ v l, e = .returned (.tuple #[v, .bool true]) ∧ (Ax.pAtoms toks toks.length nx []).1 = some (l.map Prod.fst) ∧ w'.ownsRow w.heap.size 219 3 v l.length (atomCells l) ∧ oks w' l) ∨
   (e = .returned (.tuple #[.slice none 0 0, .bool false]) ∧ (Ax.pAtoms toks toks.length nx []).1 = none)) := by
 obtain ⟨i0, hi, hz0, hz1, hz2⟩ := info_parts Tryz.infoAtom
 generalize hR : Ax.pAtoms toks toks.length nx [] = R
 have hpb := lt_of_heap h.1
 go_enter Tryz.func224, Tryz.ntmps224
 go_wp2_with fail
 go_loopg [4] toks.length (fun k v wr => ∃ (i : Nat) (acc : List MA), AtomsRel w wr pb tv toks v i k acc R)
 case atStart => exact ⟨nx, [], h, World.ownsRow_nil _ _ _ _, oks_nil _, grownBy_refl _ _, Nat.zero_le _, by omega, hR⟩
 case round =>
  obtain ⟨i, acc, hp, hown, hok, hg, hal, hlen, hr⟩ := hrel
  have hlt := hp.2.2.1
  have hle := hp.2.2.2.1
  have hends := hp.2.2.2.2
  have hsz := hg.size
  cases gk with
  | zero => omega
  | succ k =>
  have hr' : Hid (Ax.pAtoms toks (k + 1) i (acc.map Prod.fst) = R) := hr
  clear hr hR
  rcases hA0 : Ax.pAtom toks i with ⟨_ | a, j⟩
  · have hA : Hid (Ax.pAtom toks i = (none, j)) := hA0
    clear hA0
    go_wp2_with (go_at_call 222; refine (atom_none _ _ _ _ _ _ hp hA).mono ?_; rintro e w1 ⟨x, y, ad, n, c, rfl, hp1, hg1⟩)
    go_ret2
    have e := hr'.out.symm.trans (Ax.pAtoms_none hA.out)
    exact ⟨by rw [e]; exact hp1.alloc _, grownBy_alloc (grownBy_trans hg hg1) _, .inr ⟨rfl, by rw [e]⟩⟩
  · have hA : Hid (Ax.pAtom toks i = (some a, j)) := hA0
    have hij := Ax.pAtom_gt hA0
    have hj := Ax.pAtom_lt hends hlt hA0
    clear hA0
    obtain ⟨t', ht0⟩ : ∃ t, toks[j]? = some t := ⟨_, List.getElem?_eq_getElem hj⟩
    have ht' : Hid (toks[j]? = some t') := ht0
    clear ht0
    cases h6 : (t'.kind == 6)
    case true =>
     have hon : Hid (Ax.pAtoms toks (k + 1) i (acc.map Prod.fst) = Ax.pAtoms toks k (j + 1) (acc.map Prod.fst ++ [a])) := Ax.pAtoms_on hA.out (by rw [Ax.kindAt_of ht'.out]; simpa using h6)
     go_wp2_with (first | (go_at_call 222; refine (atom_some _ _ _ _ _ _ _ hp hA).mono ?_; rintro e w1 ⟨ad, c, rfl, hp1, hg1, hat1⟩; have hown1 := ownsRow_step hown hp hg1 (by decide); have hs1 := hg1.size; have hok1 := oks_step hok hp hg1) | (at_builtin; refine wpList_append_own _ rfl (.tmp 14) (.tmp 16) 220 rfl w.heap.size 219 i0 _ 3 48 Tryz.underlying220 hi hz0 hz1 hz2 rfl (by decide) _ _ _ rfl ((hown1.alloc _).alloc _) ⟨w1.heap.size + 1, 0, none⟩ 1 1 [.int .i64 a.at_, .string a.pred, .slice ad a.terms.length c] rfl rfl (new_cells2 _ _ _ _) (by simp [Value.oneCell']) (by unfold maxLen; omega) (by omega) (by simp; omega) ?_; intro v2 w2 hown2 hgrow _; obtain ⟨hp2, hg2, hok2⟩ := atoms_world hown1 hp1 (grownBy_trans hg hg1) hok1 hat1 hgrow; clear hgrow hown1 hp1 hok1 hat1) | (go_at_call 223; refine (take_yes _ _ _ _ _ hp2 _ ht' _ (by decide) h6).mono ?_; rintro e w3 ⟨rfl, hp3, hg3⟩; have hown3 := ownsRow_step hown2 hp2 hg3 (by decide); have hok3 := oks_step hok2 hp2 hg3))
     go_roundg k
     case measure => omega
     case rel =>
      refine ⟨j + 1, acc ++ [(a, .slice ad a.terms.length c)], hp3, ?_, hok3, grownBy_trans hg2 hg3, by simp; omega, by omega, ?_⟩
      · rw [atomCells_snoc]; simpa using hown3
      · rw [List.map_append]; exact hon.out.symm.trans hr'.out
    case false =>
     have hon : Hid (Ax.pAtoms toks (k + 1) i (acc.map Prod.fst) = (some (acc.map Prod.fst ++ [a]), j)) := Ax.pAtoms_last hA.out (by rw [Ax.kindAt_of ht'.out]; simpa using h6)
     go_wp2_with (first | (go_at_call 222; refine (atom_some _ _ _ _ _ _ _ hp hA).mono ?_; rintro e w1 ⟨ad, c, rfl, hp1, hg1, hat1⟩; have hown1 := ownsRow_step hown hp hg1 (by decide); have hs1 := hg1.size; have hok1 := oks_step hok hp hg1) | (at_builtin; refine wpList_append_own _ rfl (.tmp 14) (.tmp 16) 220 rfl w.heap.size 219 i0 _ 3 48 Tryz.underlying220 hi hz0 hz1 hz2 rfl (by decide) _ _ _ rfl ((hown1.alloc _).alloc _) ⟨w1.heap.size + 1, 0, none⟩ 1 1 [.int .i64 a.at_, .string a.pred, .slice ad a.terms.length c] rfl rfl (new_cells2 _ _ _ _) (by simp [Value.oneCell']) (by unfold maxLen; omega) (by omega) (by simp; omega) ?_; intro v2 w2 hown2 hgrow _; obtain ⟨hp2, hg2, hok2⟩ := atoms_world hown1 hp1 (grownBy_trans hg hg1) hok1 hat1 hgrow; clear hgrow hown1 hp1 hok1 hat1) | (go_at_call 223; refine (take_no _ _ _ _ _ hp2 _ ht' _ h6).mono ?_; rintro e w3 ⟨rfl, hb3⟩; have hown3 := ownsRow_below hown2 hb3; have hok3 := oks_below hok2 hb3))
     go_ret2
     have e := hr'.out.symm.trans hon.out
     refine ⟨by rw [e]; exact hp2.below hb3, grownBy_trans hg2 (grownBy_of_below hb3 _), .inl ⟨_, acc ++ [(a, .slice ad a.terms.length c)], rfl, by rw [e]; simp, ?_, hok3⟩⟩
     rw [atomCells_snoc]; simpa using hown3
end Go.Proofs.YtdmicblafmhflaaGreatDoor
/- The parser: rule. -/
namespace Go.Proofs.YtdmicblafmhflaaGreatDoor
open Go.RowKit
structure MR where
 head : MA
 bv : Value
 body : List MA
def MR.ok (w : World) (r : MR) : Prop := r.head.ok w ∧ w.ownsRow 0 219 3 r.bv r.body.length (atomCells r.body) ∧ oks w r.body
def MR.rule (r : MR) : Ax.Rule := ⟨r.head.1, r.body.map Prod.fst⟩
theorem MA.alloc {w : World} {x : MA} (h : MA.ok w x) (o : Obj) : MA.ok (w.alloc o) x := World.ownsRow.alloc h o
theorem MA.step {w w' : World} {x : MA} {pb : Nat} {tv : Value} {toks : List Ax.Tok} {nx : Nat} (h : MA.ok w x) (hp : PAt w pb tv toks nx) (hg : w.grownBy w' (some pb)) : MA.ok w' x := ownsRow_step h hp hg (by decide)
theorem MR.type {w w' : World} {r : MR} {row : Option Nat} {e' : TypeId} (h : MR.ok w r) (hg : w.grownBy w' row) (hr : ∀ k, row = some k → ∃ cur fz, w.heap[k]? = some (.cells cur e' fz)) (h1 : 310 ≠ e') (h2 : 219 ≠ e') : MR.ok w' r :=
 ⟨ownsRow_type h.1 hg hr h1, ownsRow_type h.2.1 hg hr h2, oks_type h.2.2 hg hr h1⟩
theorem MR.step {w w' : World} {r : MR} {pb : Nat} {tv : Value} {toks : List Ax.Tok} {nx : Nat} (h : MR.ok w r) (hp : PAt w pb tv toks nx) (hg : w.grownBy w' (some pb)) : MR.ok w' r :=
 ⟨MA.step h.1 hp hg, ownsRow_step h.2.1 hp hg (by decide), oks_step h.2.2 hp hg⟩
theorem MR.below {w w' : World} {r : MR} (h : MR.ok w r) (hb : Below w.heap.size w w') : MR.ok w' r := ⟨ownsRow_below h.1 hb, ownsRow_below h.2.1 hb, oks_below h.2.2 hb⟩
theorem atoms_none (w : World) (pb : Nat) (tv : Value) (toks : List Ax.Tok) (nx j : Nat) (h : PAt w pb tv toks nx) (hR : Hid (Ax.pAtoms toks toks.length nx [] = (none, j))) :
 Calls Tryz.prog 224 #[.pointer (some ⟨pb, 0, none⟩)] w fun e w' => e = .returned (.tuple #[.slice none 0 0, .bool false]) ∧ PAt w' pb tv toks j ∧ w.grownBy w' (some pb) := by
 refine (atoms_any w pb tv toks nx h).mono ?_
 rintro e w' ⟨hp, hg, hc⟩
 rw [hR.out] at hp hc
 rcases hc with ⟨v, ts, _, hn, _⟩ | ⟨rfl, _⟩
 · simp at hn
 · exact ⟨rfl, hp, hg⟩
theorem atoms_some (w : World) (pb : Nat) (tv : Value) (toks : List Ax.Tok) (nx j : Nat) (b : List Ax.Atom) (h : PAt w pb tv toks nx) (hR : Hid (Ax.pAtoms toks toks.length nx [] = (some b, j))) :
 Calls Tryz.prog 224 #[.pointer (some ⟨pb, 0, none⟩)] w fun e w' => ∃ bd d l, e = .returned (.tuple #[.slice bd (List.length l) d, .bool true]) ∧ Hid (l.map Prod.fst = b) ∧ PAt w' pb tv toks j ∧ w.grownBy w' (some pb) ∧ w'.ownsRow 0 219 3 (.slice bd l.length d) l.length (atomCells l) ∧ oks w' l := by
 refine (atoms_any w pb tv toks nx h).mono ?_
 rintro e w' ⟨hp, hg, hc⟩
 rw [hR.out] at hp hc
 rcases hc with ⟨v, l, rfl, hn, hown, hok⟩ | ⟨_, hn⟩
 · obtain ⟨a, c, rfl⟩ := ownsRow_shape hown
   simp only [Option.some.injEq] at hn
   exact ⟨a, c, l, rfl, hn.symm, hp, hg, ownsRow_base hown (Nat.zero_le _), hok⟩
 · simp at hn
theorem rule_world {w w1 w2 : World} {pb : Nat} {tv : Value} {toks : List Ax.Tok} {nx : Nat} {o1 o2 : Obj} (h : PAt w pb tv toks nx) (hg1 : (w.alloc o1).grownBy w1 (some pb)) (hg2 : (w1.alloc o2).grownBy w2 (some pb)) :
 w2.heap[w1.heap.size]? = some o2 ∧ w2.heap[w.heap.size]? = some o1 ∧ w.grownBy w2 (some pb) ∧ w.heap.size < w1.heap.size ∧ w1.heap.size < w2.heap.size := by
 have hp := lt_of_heap h.1
 have hs1 := hg1.size
 have hs2 := hg2.size
 simp only [World.size_alloc] at hs1 hs2
 refine ⟨?_, ?_, ?_, by omega, by omega⟩
 · rw [hg2.block _ (by simp) (by simp; omega)]
   exact heap_alloc_new _ _
 · rw [hg2.block _ (by simp; omega) (by simp; omega), Below.heap_alloc _ _ _ (by omega), hg1.block _ (by simp) (by simp; omega)]
   exact heap_alloc_new _ _
 · exact grownBy_trans (grownBy_trans (grownBy_trans (World.grownBy_alloc w o1 _) hg1) (World.grownBy_alloc _ _ _)) hg2
theorem stores4 {w2 : World} {k : Nat} {a b c d : Value} {T : TypeId} (r2 : w2.heap[k]? = some (.cells #[a, b, c, d] T (0, 0))) (x y z u : Value) :
 ∃ w3 w4 w5, w3 = w2.setCell ⟨k, 0, none⟩ x ∧ w4 = w3.setCell ⟨k, 1, none⟩ y ∧ w5 = w4.setCell ⟨k, 2, none⟩ z ∧
  (∀ w' row, (w' = w3 ∨ w' = w4 ∨ w' = w5 ∨ w' = w2) → row = some k → ∃ cur fz, w'.heap[k]? = some (.cells cur T fz)) ∧
  ((((w2.setCell ⟨k, 0, none⟩ x).setCell ⟨k, 1, none⟩ y).setCell ⟨k, 2, none⟩ z).setCell ⟨k, 3, none⟩ u).heap[k]? = some (.cells #[x, y, z, u] T (0, 0)) := by
 have h0 := heap_setCell_same (off := 0) r2 x
 have h1 := heap_setCell_same (off := 1) h0 y
 have h2 := heap_setCell_same (off := 2) h1 z
 have h3 := heap_setCell_same (off := 3) h2 u
 refine ⟨_, _, _, rfl, rfl, rfl, ?_, by rw [h3]; rfl⟩
 rintro w' row (rfl | rfl | rfl | rfl) _
 · exact ⟨_, _, h0⟩
 · exact ⟨_, _, h1⟩
 · exact ⟨_, _, h2⟩
 · exact ⟨_, _, r2⟩
theorem four_stores {w w2 : World} {pb : Nat} {tv : Value} {toks : List Ax.Tok} {nx k : Nat} {a b c d : Value} (r2 : w2.heap[k]? = some (.cells #[a, b, c, d] 222 (0, 0))) (x y z u : Value) (gw : w.grownBy w2 (some pb)) (hp : PAt w2 pb tv toks nx) (hk : w.heap.size ≤ k) :
 ((((w2.setCell ⟨k, 0, none⟩ x).setCell ⟨k, 1, none⟩ y).setCell ⟨k, 2, none⟩ z).setCell ⟨k, 3, none⟩ u).heap[k]? = some (.cells #[x, y, z, u] 222 (0, 0)) ∧ w.grownBy ((((w2.setCell ⟨k, 0, none⟩ x).setCell ⟨k, 1, none⟩ y).setCell ⟨k, 2, none⟩ z).setCell ⟨k, 3, none⟩ u) (some pb) ∧ PAt ((((w2.setCell ⟨k, 0, none⟩ x).setCell ⟨k, 1, none⟩ y).setCell ⟨k, 2, none⟩ z).setCell ⟨k, 3, none⟩ u) pb tv toks nx := by
 obtain ⟨_, _, _, rfl, rfl, rfl, hk2, hend⟩ := stores4 r2 x y z u
 refine ⟨hend, grownBy_setNew (grownBy_setNew (grownBy_setNew (grownBy_setNew gw hk x) hk y) hk z) hk u, ?_⟩
 refine (((hp.row (grownBy_setCell _ _) (e' := 222) (fun j hj => ?_) (by decide) (by decide)).row (grownBy_setCell _ _) (e' := 222) (fun j hj => ?_) (by decide) (by decide)).row (grownBy_setCell _ _) (e' := 222) (fun j hj => ?_) (by decide) (by decide)).row (grownBy_setCell _ _) (e' := 222) (fun j hj => ?_) (by decide) (by decide)
 all_goals (cases hj)
 · exact hk2 _ _ (.inr (.inr (.inr rfl))) rfl
 · exact hk2 _ _ (.inl rfl) rfl
 · exact hk2 _ _ (.inr (.inl rfl)) rfl
 · exact hk2 _ _ (.inr (.inr (.inl rfl))) rfl
theorem MR.stores4 {w2 : World} {k : Nat} {a b c d : Value} (r2 : w2.heap[k]? = some (.cells #[a, b, c, d] 222 (0, 0))) (x y z u : Value) {r : MR} (h : MR.ok w2 r) :
 MR.ok ((((w2.setCell ⟨k, 0, none⟩ x).setCell ⟨k, 1, none⟩ y).setCell ⟨k, 2, none⟩ z).setCell ⟨k, 3, none⟩ u) r := by
 obtain ⟨_, _, _, rfl, rfl, rfl, hk2, hend⟩ := Go.Proofs.YtdmicblafmhflaaGreatDoor.stores4 r2 x y z u
 refine MR.type (MR.type (MR.type (MR.type h (grownBy_setCell _ _) (e' := 222) (fun j hj => ?_) (by decide) (by decide)) (grownBy_setCell _ _) (e' := 222) (fun j hj => ?_) (by decide) (by decide)) (grownBy_setCell _ _) (e' := 222) (fun j hj => ?_) (by decide) (by decide)) (grownBy_setCell _ _) (e' := 222) (fun j hj => ?_) (by decide) (by decide)
 all_goals (cases hj)
 · exact hk2 _ _ (.inr (.inr (.inr rfl))) rfl
 · exact hk2 _ _ (.inl rfl) rfl
 · exact hk2 _ _ (.inr (.inl rfl)) rfl
 · exact hk2 _ _ (.inr (.inr (.inl rfl))) rfl
theorem rule_world0 {w w1 : World} {pb : Nat} {tv : Value} {toks : List Ax.Tok} {nx : Nat} {o1 : Obj} (h : PAt w pb tv toks nx) (hg1 : (w.alloc o1).grownBy w1 (some pb)) :
 w1.heap[w.heap.size]? = some o1 ∧ w.grownBy w1 (some pb) ∧ w.heap.size < w1.heap.size := by
 have hp := lt_of_heap h.1
 have hs1 := hg1.size
 simp only [World.size_alloc] at hs1
 refine ⟨?_, grownBy_trans (World.grownBy_alloc w o1 _) hg1, by omega⟩
 rw [hg1.block _ (by simp) (by simp; omega)]
 exact heap_alloc_new _ _
set_option maxHeartbeats 2000000 in
theorem rule_0 (w : World) (pb : Nat) (tv : Value) (toks : List Ax.Tok) (nx : Nat) (h : PAt w pb tv toks nx) (j : Nat) (hA : Hid (Ax.pAtom toks nx = (none, j))) :
 Calls Tryz.prog 179 #[.pointer (some ⟨pb, 0, none⟩)] w fun e w' => ∃ x y ad n c bd m d, e = .returned (.tuple #[.agg #[.int .i64 x, .string y, .slice ad n c, .slice bd m d], .bool false]) ∧ PAt w' pb tv toks j ∧ w.grownBy w' (some pb) := by
 have hpb := lt_of_heap h.1
 go_enter Tryz.func179, Tryz.ntmps179
 go_wp2_with (go_at_call 222; refine (atom_none _ _ _ _ _ _ (h.alloc _) hA).mono ?_; rintro e w1 ⟨x, y, ad, n, c, rfl, hp1, hg1⟩; obtain ⟨r1, gw1, lt1⟩ := rule_world0 h hg1; have f0 := frozen_at r1 0; have f1 := frozen_at r1 1; have f2 := frozen_at r1 2; have f3 := frozen_at r1 3; have k0 := cell_at r1 0; have k1 := cell_at r1 1; have k2 := cell_at r1 2; have k3 := cell_at r1 3; simp only [List.getElem?_toArray, List.getElem?_cons_zero, List.getElem?_cons_succ] at k0 k1 k2 k3)
 obtain ⟨hu, gu, pu⟩ := four_stores r1 (.int .i64 0) (.string ⟨#[]⟩) (.slice none 0 0) (.slice none 0 0) gw1 hp1 (Nat.le_refl _)
 have hu' := (Below.heap_alloc _ (.cells #[.int .i64 x, .string y, .slice ad n c] 219) _ (lt_of_heap hu)).trans hu
 exact bodyPost_ret (v := .tuple #[.agg #[.int .i64 0, .string ⟨#[]⟩, .slice none 0 0, .slice none 0 0], .bool false]) (by simp [results, Tryz.results179, go_sem, cell_at hu']) rfl ⟨_, _, _, _, _, _, _, _, rfl, pu.alloc _, grownBy_alloc gu _⟩
set_option maxHeartbeats 2000000 in
theorem rule_1 (w : World) (pb : Nat) (tv : Value) (toks : List Ax.Tok) (nx : Nat) (h : PAt w pb tv toks nx) (j : Nat) (a : Ax.Atom) (hA : Hid (Ax.pAtom toks nx = (some a, j))) (t1 : Ax.Tok) (ht1 : Hid (toks[j]? = some t1)) (h8 : (t1.kind == 8) = true) (j2 : Nat) (hB : Hid (Ax.pAtoms toks toks.length (j + 1) [] = (none, j2))) :
 Calls Tryz.prog 179 #[.pointer (some ⟨pb, 0, none⟩)] w fun e w' => ∃ x y ad n c bd m d, e = .returned (.tuple #[.agg #[.int .i64 x, .string y, .slice ad n c, .slice bd m d], .bool false]) ∧ PAt w' pb tv toks j2 ∧ w.grownBy w' (some pb) := by
 have hpb := lt_of_heap h.1
 go_enter Tryz.func179, Tryz.ntmps179
 go_wp2_with (first | (go_at_call 222; refine (atom_some _ _ _ _ _ _ _ (h.alloc _) hA).mono ?_; rintro e w1 ⟨ad, c, rfl, hp1', hg1, hat1⟩; have hp1 := hp1'.alloc (.cells #[.int .i64 a.at_, .string a.pred, .slice ad a.terms.length c] 219); have hok1 := MA.alloc hat1 (.cells #[.int .i64 a.at_, .string a.pred, .slice ad a.terms.length c] 219)) | (go_at_call_of 223 (Value.int IntKind.i64 8); refine (take_yes _ _ _ _ _ hp1 _ ht1 _ (by decide) h8).mono ?_; rintro e w2 ⟨rfl, hp2, hg2⟩; have hok2 := MA.step hok1 hp1 hg2) | (go_at_call 224; refine (atoms_none _ _ _ _ _ _ hp2 hB).mono ?_; rintro e w3 ⟨rfl, hp3, hg3'⟩; have hg3 := grownBy_trans hg2 hg3'; obtain ⟨t3, r3, gw3, lt13, lt23⟩ := rule_world h hg1 hg3; have f03 := frozen_at r3 0; have f13 := frozen_at r3 1; have f23 := frozen_at r3 2; have f33 := frozen_at r3 3; have k03 := cell_at r3 0; have k13 := cell_at r3 1; have k23 := cell_at r3 2; have k33 := cell_at r3 3; have c03 := cell_at t3 0; have c13 := cell_at t3 1; have c23 := cell_at t3 2; simp only [List.getElem?_toArray, List.getElem?_cons_zero, List.getElem?_cons_succ] at c03 c13 c23 k03 k13 k23 k33))
 obtain ⟨hu, gu, pu⟩ := four_stores r3 (.int .i64 0) (.string ⟨#[]⟩) (.slice none 0 0) (.slice none 0 0) gw3 hp3 (Nat.le_refl _)
 exact bodyPost_ret (v := .tuple #[.agg #[.int .i64 0, .string ⟨#[]⟩, .slice none 0 0, .slice none 0 0], .bool false]) (by simp [results, Tryz.results179, go_sem, cell_at hu]) rfl ⟨_, _, _, _, _, _, _, _, rfl, pu, gu⟩
end Go.Proofs.YtdmicblafmhflaaGreatDoor
