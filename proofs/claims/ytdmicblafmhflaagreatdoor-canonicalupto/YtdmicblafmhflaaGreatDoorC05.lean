/- The parser: term. -/
import Derived.Test.YtdmicblafmhflaaGreatDoorC04
import Derived.Deep.RegionWith
import Derived.Deep.LoopGhost
set_option linter.unusedSimpArgs false
set_option linter.unusedVariables false
namespace Go.Proofs.YtdmicblafmhflaaGreatDoor
open Go.RowKit
theorem PAt.alloc {w : World} {pb : Nat} {tv : Value} {toks : List Ax.Tok} {nx : Nat} (h : PAt w pb tv toks nx) (o : Obj) : PAt (w.alloc o) pb tv toks nx :=
 h.below ((Below.refl _ _).alloc (Nat.le_refl _) o)
theorem PAt.row {w w' : World} {pb : Nat} {tv : Value} {toks : List Ax.Tok} {nx : Nat} {row : Option Nat} {e' : TypeId} (h : PAt w pb tv toks nx) (hg : w.grownBy w' row)
 (hr : ∀ k, row = some k → ∃ cur fz, w.heap[k]? = some (.cells cur e' fz)) (h1 : 205 ≠ e') (h2 : 210 ≠ e') : PAt w' pb tv toks nx := by
 refine ⟨?_, ownsRow_type h.2.1 hg hr h2, h.2.2⟩
 rw [hg.block pb (lt_of_heap h.1) ?_]
 · exact h.1
 · intro e1
   obtain ⟨cur, fz, hk⟩ := hr pb e1.symm
   rw [h.1] at hk
   simp at hk
   exact h1 hk.2.1
theorem heap_setCell_same {w : World} {k off : Nat} {cur : Array Value} {t : TypeId} {fz : Nat × Nat} (h : w.heap[k]? = some (.cells cur t fz)) (v : Value) : (w.setCell ⟨k, off, none⟩ v).heap[k]? = some (.cells (cur.setIfInBounds off v) t fz) := by
 simp only [World.setCell, Array.getElem?_modify, h]
 simp
theorem cell_at {w : World} {k : Nat} {cur : Array Value} {t : TypeId} {fz : Nat × Nat} (h : w.heap[k]? = some (.cells cur t fz)) (j : Nat) : w.cell? ⟨k, j, none⟩ = cur[j]? := by
 rw [cell_of_row _ k j _ _ _ h]
theorem frozen_at {w : World} {k : Nat} {cur : Array Value} {t : TypeId} (h : w.heap[k]? = some (.cells cur t (0, 0))) (j : Nat) : w.frozen? ⟨k, j, none⟩ = false := by
 simp [World.frozen?, h]
theorem term_world {w w1 w2 : World} {pb : Nat} {tv : Value} {toks : List Ax.Tok} {nx : Nat} {o1 o2 : Obj} (h : PAt w pb tv toks nx) (hb1 : Below (w.heap.size + 1) (w.alloc o1) w1) (hg2 : (w1.alloc o2).grownBy w2 (some pb)) :
 w2.heap[w1.heap.size]? = some o2 ∧ w2.heap[w.heap.size]? = some o1 ∧ w.grownBy w2 (some pb) ∧ w.heap.size < w1.heap.size ∧ w1.heap.size < w2.heap.size := by
 have hp := lt_of_heap h.1
 have hs1 := hb1.size
 have hs2 := hg2.size
 simp only [World.size_alloc] at hs1 hs2
 refine ⟨?_, ?_, ?_, by omega, by omega⟩
 · rw [hg2.block _ (by simp) (by simp; omega)]
   exact heap_alloc_new _ _
 · rw [hg2.block _ (by simp; omega) (by simp; omega), Below.heap_alloc _ _ _ (by omega), hb1.block _ (by omega)]
   exact heap_alloc_new _ _
 · refine grownBy_trans ?_ hg2
   refine grownBy_trans ?_ (World.grownBy_alloc _ _ _)
   refine grownBy_trans (World.grownBy_alloc w o1 _) (grownBy_of_below (hb1.mono (by simp)) _)
theorem two_stores {w w2 : World} {pb : Nat} {tv : Value} {toks : List Ax.Tok} {nx k : Nat} {a b : Value} (r2 : w2.heap[k]? = some (.cells #[a, b] 310 (0, 0))) (c d : Value) (gw : w.grownBy w2 (some pb)) (hp : PAt w2 pb tv toks nx) (hk : w.heap.size ≤ k) :
 ((w2.setCell ⟨k, 0, none⟩ c).setCell ⟨k, 1, none⟩ d).heap[k]? = some (.cells #[c, d] 310 (0, 0)) ∧ w.grownBy ((w2.setCell ⟨k, 0, none⟩ c).setCell ⟨k, 1, none⟩ d) (some pb) ∧ PAt ((w2.setCell ⟨k, 0, none⟩ c).setCell ⟨k, 1, none⟩ d) pb tv toks nx := by
 have h0 := heap_setCell_same (off := 0) r2 c
 have h1 := heap_setCell_same (off := 1) h0 d
 refine ⟨by rw [h1]; rfl, grownBy_setNew (grownBy_setNew gw hk c) hk d, ?_⟩
 refine (hp.row (grownBy_setCell _ _) (e' := 310) (fun j hj => ?_) (by decide) (by decide)).row (grownBy_setCell _ _) (e' := 310) (fun j hj => ?_) (by decide) (by decide)
 · cases hj; exact ⟨_, _, r2⟩
 · cases hj; exact ⟨_, _, h0⟩
set_option maxHeartbeats 1000000 in
theorem term_name (w : World) (pb : Nat) (tv : Value) (toks : List Ax.Tok) (nx : Nat) (h : PAt w pb tv toks nx) (t : Ax.Tok) (ht : Hid (toks[nx]? = some t)) (he : (t.kind == 2) = true) :
 Calls Tryz.prog 283 #[.pointer (some ⟨pb, 0, none⟩)] w fun e w' => e = .returned (.tuple #[.agg #[.int .i64 0, .string t.text], .bool true]) ∧ PAt w' pb tv toks (nx + 1) ∧ w.grownBy w' (some pb) := by
 have hpb := lt_of_heap h.1
 go_enter Tryz.func283, Tryz.ntmps283
 go_wp2_with (first | (go_at_call 105; refine (peek_any _ _ _ _ _ (h.alloc _) _ ht).mono ?_; rintro e w1 ⟨rfl, hb1⟩; rw [World.size_alloc] at hb1; have hp1 := ((h.alloc (.cells #[.int .i64 0, .string ⟨#[]⟩] 310)).below (by rw [World.size_alloc]; exact hb1))) | (go_at_call_of 223 (Value.int IntKind.i64 2); refine (take_yes _ _ _ _ _ (hp1.alloc _) _ ht _ (by decide) he).mono ?_; rintro e w2 ⟨rfl, hp2, hg2⟩; obtain ⟨t2, r2, gw2, lt1, lt2⟩ := term_world h hb1 hg2; have c2 := cell_at t2 2; have f0 := frozen_at r2 0; have f1 := frozen_at r2 1; have k0 := cell_at r2 0; have k1 := cell_at r2 1; simp only [List.getElem?_toArray, List.getElem?_cons_zero, List.getElem?_cons_succ] at c2 k0 k1))
 obtain ⟨hu, gu, pu⟩ := two_stores r2 (.int .i64 0) (.string t.text) gw2 hp2 (Nat.le_refl _)
 exact bodyPost_ret (v := .tuple #[.agg #[.int .i64 0, .string t.text], .bool true]) (by simp [results, Tryz.results283, go_sem, cell_at hu]) rfl ⟨rfl, pu, gu⟩
set_option maxHeartbeats 1000000 in
theorem term_var (w : World) (pb : Nat) (tv : Value) (toks : List Ax.Tok) (nx : Nat) (h : PAt w pb tv toks nx) (t : Ax.Tok) (ht : Hid (toks[nx]? = some t)) (he : (t.kind == 2) = false) (hf : (t.kind == 3) = true) :
 Calls Tryz.prog 283 #[.pointer (some ⟨pb, 0, none⟩)] w fun e w' => e = .returned (.tuple #[.agg #[.int .i64 1, .string t.text], .bool true]) ∧ PAt w' pb tv toks (nx + 1) ∧ w.grownBy w' (some pb) := by
 have hpb := lt_of_heap h.1
 go_enter Tryz.func283, Tryz.ntmps283
 go_wp2_with (first | (go_at_call 105; refine (peek_any _ _ _ _ _ (h.alloc _) _ ht).mono ?_; rintro e w1 ⟨rfl, hb1⟩; rw [World.size_alloc] at hb1; have hp1 := ((h.alloc (.cells #[.int .i64 0, .string ⟨#[]⟩] 310)).below (by rw [World.size_alloc]; exact hb1))) | (go_at_call_of 223 (Value.int IntKind.i64 2); refine (take_no _ _ _ _ _ (hp1.alloc _) _ ht _ he).mono ?_; rintro e w2 ⟨rfl, hb2⟩; have hp2 := (hp1.alloc (.cells #[.int .i64 t.kind, .int .i64 t.at_, .string t.text] 210)).below hb2) | (go_at_call_of 223 (Value.int IntKind.i64 3); refine (take_yes _ _ _ _ _ hp2 _ ht _ (by decide) hf).mono ?_; rintro e w3 ⟨rfl, hp3, hg3⟩; have hg2 := grownBy_trans (grownBy_of_below hb2 (some pb)) hg3; obtain ⟨t2, r2, gw2, lt1, lt2⟩ := term_world h hb1 hg2; have c2 := cell_at t2 2; have f0 := frozen_at r2 0; have f1 := frozen_at r2 1; have k0 := cell_at r2 0; have k1 := cell_at r2 1; simp only [List.getElem?_toArray, List.getElem?_cons_zero, List.getElem?_cons_succ] at c2 k0 k1))
 obtain ⟨hu, gu, pu⟩ := two_stores r2 (.int .i64 1) (.string t.text) gw2 hp3 (Nat.le_refl _)
 exact bodyPost_ret (v := .tuple #[.agg #[.int .i64 1, .string t.text], .bool true]) (by simp [results, Tryz.results283, go_sem, cell_at hu]) rfl ⟨rfl, pu, gu⟩
set_option maxHeartbeats 1000000 in
theorem term_none (w : World) (pb : Nat) (tv : Value) (toks : List Ax.Tok) (nx : Nat) (h : PAt w pb tv toks nx) (t : Ax.Tok) (ht : Hid (toks[nx]? = some t)) (he : (t.kind == 2) = false) (hf : (t.kind == 3) = false) :
 Calls Tryz.prog 283 #[.pointer (some ⟨pb, 0, none⟩)] w fun e w' => e = .returned (.tuple #[.agg #[.int .i64 0, .string ⟨#[]⟩], .bool false]) ∧ PAt w' pb tv toks nx ∧ w.grownBy w' (some pb) := by
 have hpb := lt_of_heap h.1
 go_enter Tryz.func283, Tryz.ntmps283
 go_wp2_with (first | (go_at_call 105; refine (peek_any _ _ _ _ _ (h.alloc _) _ ht).mono ?_; rintro e w1 ⟨rfl, hb1⟩; rw [World.size_alloc] at hb1; have hp1 := ((h.alloc (.cells #[.int .i64 0, .string ⟨#[]⟩] 310)).below (by rw [World.size_alloc]; exact hb1))) | (go_at_call_of 223 (Value.int IntKind.i64 2); refine (take_no _ _ _ _ _ (hp1.alloc _) _ ht _ he).mono ?_; rintro e w2 ⟨rfl, hb2⟩; have hp2 := (hp1.alloc (.cells #[.int .i64 t.kind, .int .i64 t.at_, .string t.text] 210)).below hb2) | (go_at_call_of 223 (Value.int IntKind.i64 3); refine (take_no _ _ _ _ _ hp2 _ ht _ hf).mono ?_; rintro e w3 ⟨rfl, hb3⟩; have hp3 := hp2.below hb3; have hg2 := grownBy_trans (grownBy_of_below hb2 (some pb)) (grownBy_of_below hb3 (some pb)); obtain ⟨t2, r2, gw2, lt1, lt2⟩ := term_world h hb1 hg2; have c2 := cell_at t2 2; have f0 := frozen_at r2 0; have f1 := frozen_at r2 1; have k0 := cell_at r2 0; have k1 := cell_at r2 1; simp only [List.getElem?_toArray, List.getElem?_cons_zero, List.getElem?_cons_succ] at c2 k0 k1))
 obtain ⟨hu, gu, pu⟩ := two_stores r2 (.int .i64 0) (.string ⟨#[]⟩) gw2 hp3 (Nat.le_refl _)
 exact bodyPost_ret (v := .tuple #[.agg #[.int .i64 0, .string ⟨#[]⟩], .bool false]) (by simp [results, Tryz.results283, go_sem, cell_at hu]) rfl ⟨rfl, pu, gu⟩
end Go.Proofs.YtdmicblafmhflaaGreatDoor
/- The parser: terms. -/
namespace Go.Proofs.YtdmicblafmhflaaGreatDoor
open Go.RowKit
theorem term_yes (w : World) (pb : Nat) (tv : Value) (toks : List Ax.Tok) (nx : Nat) (h : PAt w pb tv toks nx) (t : Ax.Tok) (ht : Hid (toks[nx]? = some t)) (hk : Hid (t.kind = 2 ∨ t.kind = 3)) :
 Calls Tryz.prog 283 #[.pointer (some ⟨pb, 0, none⟩)] w fun e w' => e = .returned (.tuple #[.agg #[.int .i64 (t.kind - 2), .string t.text], .bool true]) ∧ PAt w' pb tv toks (nx + 1) ∧ w.grownBy w' (some pb) := by
 rcases hk.out with e | e
 · rw [show t.kind - 2 = 0 by omega]; exact term_name w pb tv toks nx h t ht (by simp [e])
 · rw [show t.kind - 2 = 1 by omega]; exact term_var w pb tv toks nx h t ht (by simp [e]) (by simp [e])
def termCells (l : List Ax.Term) : List Value := l.flatMap fun t => [.int .i64 t.kind, .string t.text]
theorem termCells_snoc (l : List Ax.Term) (t : Ax.Term) : termCells (l ++ [t]) = termCells l ++ [.int .i64 t.kind, .string t.text] := by simp [termCells]
theorem Tryz.infoTerm : (Tryz.prog.info? 310).map (fun i => (i.zero, i.size, i.bytes)) = some (some (.agg #[.int .i64 0, .string ByteArray.empty]), 2, 24) := by kernel_rfl
theorem grownBy_new {w w1 w2 : World} {pb : Nat} {row : Option Nat} (h : w.grownBy w1 (some pb)) (hg : w1.grownBy w2 row) (hr : ∀ k, row = some k → w.heap.size ≤ k) : w.grownBy w2 (some pb) :=
 ⟨hg.os.trans h.os, hg.tape.trans h.tape, hg.output.trans h.output, Nat.le_trans h.size hg.size, fun k hk hne => (hg.block k (Nat.lt_of_lt_of_le hk h.size) (fun e => by have := hr k e.symm; omega)).trans (h.block k hk hne)⟩
theorem ownsRow_kind {w : World} {b : Nat} {e : TypeId} {size : Nat} {v : Value} {n : Nat} {xs : List Value} (h : w.ownsRow b e size v n xs) : ∀ k, v.ownBlock = some k → ∃ cur fz, w.heap[k]? = some (.cells cur e fz) := by
 intro k hk
 rcases h.2 with ⟨rfl, _⟩ | ⟨g, cap, cur, rfl, _, hh, _⟩
 · simp [Value.ownBlock] at hk
 · simp [Value.ownBlock] at hk; subst hk; exact ⟨_, _, hh⟩
theorem ownsRow_step {w w' : World} {pb b : Nat} {tv v : Value} {toks : List Ax.Tok} {nx : Nat} {e : TypeId} {size n : Nat} {xs : List Value} (h : w.ownsRow b e size v n xs) (hp : PAt w pb tv toks nx) (hg : w.grownBy w' (some pb)) (hne : e ≠ 205) : w'.ownsRow b e size v n xs :=
 ownsRow_type h hg (e' := 205) (fun k hk => by cases hk; exact ⟨_, _, hp.1⟩) hne
theorem new_cells2 (w : World) (o : Obj) (t : TypeId) (xs : List Value) : ∀ (j : Nat) (u : Value), xs[j]? = some u → ((w.alloc o).alloc (.cells xs.toArray t)).cell? ((⟨w.heap.size + 1, 0, none⟩ : Addr).add j) = some u := by
 have := new_cells (w.alloc o) t xs
 rw [World.size_alloc] at this
 exact this
theorem terms_world {w w1 w2 : World} {pb : Nat} {tv v : Value} {toks : List Ax.Tok} {nx n : Nat} {xs : List Value} {o1 o2 : Obj} (hown1 : w1.ownsRow w.heap.size 310 2 v n xs) (hp1 : PAt w1 pb tv toks nx) (hg : w.grownBy w1 (some pb))
 (hgrow : ((w1.alloc o1).alloc o2).grownBy w2 v.ownBlock) : PAt w2 pb tv toks nx ∧ w.grownBy w2 (some pb) :=
 ⟨((hp1.alloc o1).alloc o2).row hgrow (ownsRow_kind ((hown1.alloc o1).alloc o2)) (by decide) (by decide),
  grownBy_new (grownBy_alloc (grownBy_alloc hg _) _) hgrow (fun k hk => (hown1.lt k hk).1)⟩
def TermsRel (w wr : World) (pb : Nat) (tv : Value) (toks : List Ax.Tok) (v : Value) (nx k : Nat) (acc : List Ax.Term) (R : Option (List Ax.Term) × Nat) : Prop :=
 PAt wr pb tv toks nx ∧ wr.ownsRow w.heap.size 310 2 v acc.length (termCells acc) ∧ w.grownBy wr (some pb) ∧ acc.length ≤ nx ∧ toks.length ≤ nx + k ∧ Ax.pTerms toks k nx acc = R
set_option maxHeartbeats 1000000 in
theorem terms_any (w : World) (pb : Nat) (tv : Value) (toks : List Ax.Tok) (nx : Nat) (h : PAt w pb tv toks nx) :
 Calls Tryz.prog 260 #[.pointer (some ⟨pb, 0, none⟩)] w fun e w' => PAt w' pb tv toks (Ax.pTerms toks toks.length nx []).2 ∧ w.grownBy w' (some pb) ∧
  ((∃ v ts, e = .returned (.tuple #[v, .bool true]) ∧ (Ax.pTerms toks toks.length nx []).1 = some ts ∧ w'.ownsRow w.heap.size 310 2 v ts.length (termCells ts)) ∨
   (e = .returned (.tuple #[.slice none 0 0, .bool false]) ∧ (Ax.pTerms toks toks.length nx []).1 = none)) := by
 obtain ⟨i0, hi, hz0, hz1, hz2⟩ := info_parts Tryz.infoTerm
 generalize hR : Ax.pTerms toks toks.length nx [] = R
 have hpb := lt_of_heap h.1
 go_enter Tryz.func260, Tryz.ntmps260
 go_wp2_with fail
 go_loopg [4] toks.length (fun k v wr => ∃ (i : Nat) (acc : List Ax.Term), TermsRel w wr pb tv toks v i k acc R)
 case atStart => exact ⟨nx, [], h, World.ownsRow_nil _ _ _ _, grownBy_refl _ _, Nat.zero_le _, by omega, hR⟩
 case round =>
  obtain ⟨i, acc, hp, hown, hg, hal, hlen, hr⟩ := hrel
  have hlt := hp.2.2.1
  have hle := hp.2.2.2.1
  have hsz := hg.size
  cases gk with
  | zero => omega
  | succ k =>
  obtain ⟨t, ht0⟩ : ∃ t, toks[i]? = some t := ⟨_, List.getElem?_eq_getElem hlt⟩
  have ht : Hid (toks[i]? = some t) := ht0
  have hr' : Hid (Ax.pTerms toks (k + 1) i acc = R) := hr
  clear ht0 hr hR
  by_cases hk : t.kind = 2 ∨ t.kind = 3
  · have hkh : Hid (t.kind = 2 ∨ t.kind = 3) := hk
    clear hk
    have hn1 : i + 1 < toks.length := by
     obtain ⟨_, e⟩ := Tok_get ht.out
     have := hkh.out
     exact hp.2.2.2.2.next hlt (by rw [e]; omega) (by rw [e]; omega)
    obtain ⟨t', ht0⟩ : ∃ t, toks[i + 1]? = some t := ⟨_, List.getElem?_eq_getElem hn1⟩
    have ht' : Hid (toks[i + 1]? = some t') := ht0
    clear ht0
    have hpt : Hid (Ax.pTerm toks i = (some ⟨t.kind - 2, t.text⟩, i + 1)) := Ax.pTerm_some ht.out hkh.out
    cases h6 : (t'.kind == 6)
    case true =>
     have hon : Hid (Ax.pTerms toks (k + 1) i acc = Ax.pTerms toks k (i + 1 + 1) (acc ++ [⟨t.kind - 2, t.text⟩])) := Ax.pTerms_on hpt.out (by rw [Ax.kindAt_of ht'.out]; simpa using h6)
     go_wp2_with (first | (go_at_call 283; refine (term_yes _ _ _ _ _ hp _ ht hkh).mono ?_; rintro e w1 ⟨rfl, hp1, hg1⟩; have hown1 := ownsRow_step hown hp hg1 (by decide); have hs1 := hg1.size) | (at_builtin; refine wpList_append_own _ rfl (.tmp 14) (.tmp 16) 217 rfl w.heap.size 310 i0 _ 2 24 Tryz.underlying217 hi hz0 hz1 hz2 rfl (by decide) _ _ _ rfl ((hown1.alloc _).alloc _) ⟨w1.heap.size + 1, 0, none⟩ 1 1 [.int .i64 (t.kind - 2), .string t.text] rfl rfl (new_cells2 _ _ _ _) (by simp [Value.oneCell']) (by unfold maxLen; omega) (by omega) (by simp; omega) ?_; intro v2 w2 hown2 hgrow _; obtain ⟨hp2, hg2⟩ := terms_world hown1 hp1 (grownBy_trans hg hg1) hgrow; clear hgrow hown1 hp1) | (go_at_call 223; refine (take_yes _ _ _ _ _ hp2 _ ht' _ (by decide) h6).mono ?_; rintro e w3 ⟨rfl, hp3, hg3⟩; have hown3 := ownsRow_step hown2 hp2 hg3 (by decide)))
     go_roundg k
     case measure => omega
     case rel =>
      refine ⟨i + 1 + 1, acc ++ [⟨t.kind - 2, t.text⟩], hp3, ?_, grownBy_trans hg2 hg3, by simp; omega, by omega, hon.out.symm.trans hr'.out⟩
      rw [termCells_snoc]; simpa using hown3
    case false =>
     have hon : Hid (Ax.pTerms toks (k + 1) i acc = (some (acc ++ [⟨t.kind - 2, t.text⟩]), i + 1)) := Ax.pTerms_last hpt.out (by rw [Ax.kindAt_of ht'.out]; simpa using h6)
     go_wp2_with (first | (go_at_call 283; refine (term_yes _ _ _ _ _ hp _ ht hkh).mono ?_; rintro e w1 ⟨rfl, hp1, hg1⟩; have hown1 := ownsRow_step hown hp hg1 (by decide); have hs1 := hg1.size) | (at_builtin; refine wpList_append_own _ rfl (.tmp 14) (.tmp 16) 217 rfl w.heap.size 310 i0 _ 2 24 Tryz.underlying217 hi hz0 hz1 hz2 rfl (by decide) _ _ _ rfl ((hown1.alloc _).alloc _) ⟨w1.heap.size + 1, 0, none⟩ 1 1 [.int .i64 (t.kind - 2), .string t.text] rfl rfl (new_cells2 _ _ _ _) (by simp [Value.oneCell']) (by unfold maxLen; omega) (by omega) (by simp; omega) ?_; intro v2 w2 hown2 hgrow _; obtain ⟨hp2, hg2⟩ := terms_world hown1 hp1 (grownBy_trans hg hg1) hgrow; clear hgrow hown1 hp1) | (go_at_call 223; refine (take_no _ _ _ _ _ hp2 _ ht' _ h6).mono ?_; rintro e w3 ⟨rfl, hb3⟩; have hown3 := ownsRow_below hown2 hb3))
     go_ret2
     have e := hr'.out.symm.trans hon.out
     refine ⟨by rw [e]; exact hp2.below hb3, grownBy_trans hg2 (grownBy_of_below hb3 _), .inl ⟨_, acc ++ [⟨t.kind - 2, t.text⟩], rfl, by rw [e], ?_⟩⟩
     rw [termCells_snoc]; simpa using hown3
  · have hpn : Hid (Ax.pTerms toks (k + 1) i acc = (none, i)) := Ax.pTerms_none (Ax.pTerm_none ht.out hk)
    have k2 : (t.kind == 2) = false := by simp; omega
    have k3 : (t.kind == 3) = false := by simp; omega
    clear hk
    go_wp2_with (go_at_call 283; refine (term_none _ _ _ _ _ hp _ ht k2 k3).mono ?_; rintro e w1 ⟨rfl, hp1, hg1⟩)
    go_ret2
    have e := hr'.out.symm.trans hpn.out
    exact ⟨by rw [e]; exact hp1.alloc _, grownBy_alloc (grownBy_trans hg hg1) _, .inr ⟨rfl, by rw [e]⟩⟩
theorem terms_none (w : World) (pb : Nat) (tv : Value) (toks : List Ax.Tok) (nx j : Nat) (h : PAt w pb tv toks nx) (hR : Hid (Ax.pTerms toks toks.length nx [] = (none, j))) :
 Calls Tryz.prog 260 #[.pointer (some ⟨pb, 0, none⟩)] w fun e w' => e = .returned (.tuple #[.slice none 0 0, .bool false]) ∧ PAt w' pb tv toks j ∧ w.grownBy w' (some pb) := by
 refine (terms_any w pb tv toks nx h).mono ?_
 rintro e w' ⟨hp, hg, hc⟩
 rw [hR.out] at hp hc
 rcases hc with ⟨v, ts, _, hn, _⟩ | ⟨rfl, _⟩
 · simp at hn
 · exact ⟨rfl, hp, hg⟩
theorem terms_some (w : World) (pb : Nat) (tv : Value) (toks : List Ax.Tok) (nx j : Nat) (ts : List Ax.Term) (h : PAt w pb tv toks nx) (hR : Hid (Ax.pTerms toks toks.length nx [] = (some ts, j))) :
 Calls Tryz.prog 260 #[.pointer (some ⟨pb, 0, none⟩)] w fun e w' => ∃ ad c, e = .returned (.tuple #[.slice ad ts.length c, .bool true]) ∧ PAt w' pb tv toks j ∧ w.grownBy w' (some pb) ∧ w'.ownsRow w.heap.size 310 2 (.slice ad ts.length c) ts.length (termCells ts) := by
 refine (terms_any w pb tv toks nx h).mono ?_
 rintro e w' ⟨hp, hg, hc⟩
 rw [hR.out] at hp hc
 rcases hc with ⟨v, ts', rfl, hn, hown⟩ | ⟨_, hn⟩
 · simp at hn
   subst hn
   obtain ⟨a, c, rfl⟩ : ∃ a c, v = .slice a ts.length c := by
    rcases hown.2 with ⟨rfl, e⟩ | ⟨g, cap, cur, rfl, _⟩
    · rw [e]; exact ⟨none, 0, rfl⟩
    · exact ⟨_, _, rfl⟩
   exact ⟨a, c, rfl, hp, hg, hown⟩
 · simp at hn
end Go.Proofs.YtdmicblafmhflaaGreatDoor
/- The parser: atom. -/
namespace Go.Proofs.YtdmicblafmhflaaGreatDoor
open Go.RowKit
theorem ownsRow_shape {w : World} {b : Nat} {e : TypeId} {size : Nat} {v : Value} {n : Nat} {xs : List Value} (h : w.ownsRow b e size v n xs) : ∃ a c, v = .slice a n c := by
 rcases h.2 with ⟨rfl, rfl⟩ | ⟨g, cap, cur, rfl, _⟩
 · exact ⟨none, 0, rfl⟩
 · exact ⟨_, _, rfl⟩
theorem three_stores {w w2 : World} {pb : Nat} {tv : Value} {toks : List Ax.Tok} {nx k : Nat} {a b c : Value} (r2 : w2.heap[k]? = some (.cells #[a, b, c] 219 (0, 0))) (x y z : Value) (gw : w.grownBy w2 (some pb)) (hp : PAt w2 pb tv toks nx) (hk : w.heap.size ≤ k) :
 (((w2.setCell ⟨k, 0, none⟩ x).setCell ⟨k, 1, none⟩ y).setCell ⟨k, 2, none⟩ z).heap[k]? = some (.cells #[x, y, z] 219 (0, 0)) ∧ w.grownBy (((w2.setCell ⟨k, 0, none⟩ x).setCell ⟨k, 1, none⟩ y).setCell ⟨k, 2, none⟩ z) (some pb) ∧ PAt (((w2.setCell ⟨k, 0, none⟩ x).setCell ⟨k, 1, none⟩ y).setCell ⟨k, 2, none⟩ z) pb tv toks nx := by
 have h0 := heap_setCell_same (off := 0) r2 x
 have h1 := heap_setCell_same (off := 1) h0 y
 have h2 := heap_setCell_same (off := 2) h1 z
 refine ⟨by rw [h2]; rfl, grownBy_setNew (grownBy_setNew (grownBy_setNew gw hk x) hk y) hk z, ?_⟩
 refine ((hp.row (grownBy_setCell _ _) (e' := 219) (fun j hj => ?_) (by decide) (by decide)).row (grownBy_setCell _ _) (e' := 219) (fun j hj => ?_) (by decide) (by decide)).row (grownBy_setCell _ _) (e' := 219) (fun j hj => ?_) (by decide) (by decide)
 · cases hj; exact ⟨_, _, r2⟩
 · cases hj; exact ⟨_, _, h0⟩
 · cases hj; exact ⟨_, _, h1⟩
set_option maxHeartbeats 2000000 in
theorem atom_0 (w : World) (pb : Nat) (tv : Value) (toks : List Ax.Tok) (nx : Nat) (h : PAt w pb tv toks nx) (t : Ax.Tok) (ht : Hid (toks[nx]? = some t)) (he : (t.kind == 2) = false) :
 Calls Tryz.prog 222 #[.pointer (some ⟨pb, 0, none⟩)] w fun e w' => e = .returned (.tuple #[.agg #[.int .i64 0, .string ⟨#[]⟩, .slice none 0 0], .bool false]) ∧ PAt w' pb tv toks nx ∧ w.grownBy w' (some pb) := by
 have hpb := lt_of_heap h.1
 go_enter Tryz.func222, Tryz.ntmps222
 go_wp2_with (first | (go_at_call 105; refine (peek_any _ _ _ _ _ (h.alloc _) _ ht).mono ?_; rintro e w1 ⟨rfl, hb1⟩; rw [World.size_alloc] at hb1; have hp1 := ((h.alloc (.cells #[.int .i64 0, .string ⟨#[]⟩, .slice none 0 0] 219)).below (by rw [World.size_alloc]; exact hb1)).alloc (.cells #[.int .i64 t.kind, .int .i64 t.at_, .string t.text] 210)) | (go_at_call_of 223 (Value.int IntKind.i64 2); refine (take_no _ _ _ _ _ hp1 _ ht _ he).mono ?_; rintro e w2 ⟨rfl, hb2⟩; have hp2 := hp1.below hb2; have hg2 := (grownBy_of_below hb2 (some pb)); obtain ⟨t2, r2, gw2, lt12, lt22⟩ := term_world h hb1 hg2; have f02 := frozen_at r2 0; have f12 := frozen_at r2 1; have f22 := frozen_at r2 2; have k02 := cell_at r2 0; have k12 := cell_at r2 1; have k22 := cell_at r2 2; have c12 := cell_at t2 1; have c22 := cell_at t2 2; simp only [List.getElem?_toArray, List.getElem?_cons_zero, List.getElem?_cons_succ] at c12 c22 k02 k12 k22))
 obtain ⟨hu, gu, pu⟩ := three_stores r2 (.int .i64 0) (.string ⟨#[]⟩) (.slice none 0 0) gw2 hp2 (Nat.le_refl _)
 exact bodyPost_ret (v := .tuple #[.agg #[.int .i64 0, .string ⟨#[]⟩, .slice none 0 0], .bool false]) (by simp [results, Tryz.results222, go_sem, cell_at hu]) rfl ⟨rfl, pu, gu⟩
set_option maxHeartbeats 2000000 in
theorem atom_1 (w : World) (pb : Nat) (tv : Value) (toks : List Ax.Tok) (nx : Nat) (h : PAt w pb tv toks nx) (t : Ax.Tok) (ht : Hid (toks[nx]? = some t)) (he : (t.kind == 2) = true) (t' : Ax.Tok) (ht' : Hid (toks[nx + 1]? = some t')) (h4 : (t'.kind == 4) = false) :
 Calls Tryz.prog 222 #[.pointer (some ⟨pb, 0, none⟩)] w fun e w' => e = .returned (.tuple #[.agg #[.int .i64 0, .string ⟨#[]⟩, .slice none 0 0], .bool false]) ∧ PAt w' pb tv toks (nx + 1) ∧ w.grownBy w' (some pb) := by
 have hpb := lt_of_heap h.1
 go_enter Tryz.func222, Tryz.ntmps222
 go_wp2_with (first | (go_at_call 105; refine (peek_any _ _ _ _ _ (h.alloc _) _ ht).mono ?_; rintro e w1 ⟨rfl, hb1⟩; rw [World.size_alloc] at hb1; have hp1 := ((h.alloc (.cells #[.int .i64 0, .string ⟨#[]⟩, .slice none 0 0] 219)).below (by rw [World.size_alloc]; exact hb1)).alloc (.cells #[.int .i64 t.kind, .int .i64 t.at_, .string t.text] 210)) | (go_at_call_of 223 (Value.int IntKind.i64 2); refine (take_yes _ _ _ _ _ hp1 _ ht _ (by decide) he).mono ?_; rintro e w2 ⟨rfl, hp2, hg2'⟩; have hg2 := hg2') | (go_at_call_of 223 (Value.int IntKind.i64 4); refine (take_no _ _ _ _ _ hp2 _ ht' _ h4).mono ?_; rintro e w3 ⟨rfl, hb3⟩; have hp3 := hp2.below hb3; have hg3 := grownBy_trans hg2 (grownBy_of_below hb3 (some pb)); obtain ⟨t3, r3, gw3, lt13, lt23⟩ := term_world h hb1 hg3; have f03 := frozen_at r3 0; have f13 := frozen_at r3 1; have f23 := frozen_at r3 2; have k03 := cell_at r3 0; have k13 := cell_at r3 1; have k23 := cell_at r3 2; have c13 := cell_at t3 1; have c23 := cell_at t3 2; simp only [List.getElem?_toArray, List.getElem?_cons_zero, List.getElem?_cons_succ] at c13 c23 k03 k13 k23))
 obtain ⟨hu, gu, pu⟩ := three_stores r3 (.int .i64 0) (.string ⟨#[]⟩) (.slice none 0 0) gw3 hp3 (Nat.le_refl _)
 exact bodyPost_ret (v := .tuple #[.agg #[.int .i64 0, .string ⟨#[]⟩, .slice none 0 0], .bool false]) (by simp [results, Tryz.results222, go_sem, cell_at hu]) rfl ⟨rfl, pu, gu⟩
set_option maxHeartbeats 2000000 in
theorem atom_2 (w : World) (pb : Nat) (tv : Value) (toks : List Ax.Tok) (nx : Nat) (h : PAt w pb tv toks nx) (t : Ax.Tok) (ht : Hid (toks[nx]? = some t)) (he : (t.kind == 2) = true) (t' : Ax.Tok) (ht' : Hid (toks[nx + 1]? = some t')) (h4 : (t'.kind == 4) = true) (j : Nat) (hR : Hid (Ax.pTerms toks toks.length (nx + 1 + 1) [] = (none, j))) :
 Calls Tryz.prog 222 #[.pointer (some ⟨pb, 0, none⟩)] w fun e w' => e = .returned (.tuple #[.agg #[.int .i64 0, .string ⟨#[]⟩, .slice none 0 0], .bool false]) ∧ PAt w' pb tv toks j ∧ w.grownBy w' (some pb) := by
 have hpb := lt_of_heap h.1
 go_enter Tryz.func222, Tryz.ntmps222
 go_wp2_with (first | (go_at_call 105; refine (peek_any _ _ _ _ _ (h.alloc _) _ ht).mono ?_; rintro e w1 ⟨rfl, hb1⟩; rw [World.size_alloc] at hb1; have hp1 := ((h.alloc (.cells #[.int .i64 0, .string ⟨#[]⟩, .slice none 0 0] 219)).below (by rw [World.size_alloc]; exact hb1)).alloc (.cells #[.int .i64 t.kind, .int .i64 t.at_, .string t.text] 210)) | (go_at_call_of 223 (Value.int IntKind.i64 2); refine (take_yes _ _ _ _ _ hp1 _ ht _ (by decide) he).mono ?_; rintro e w2 ⟨rfl, hp2, hg2'⟩; have hg2 := hg2') | (go_at_call_of 223 (Value.int IntKind.i64 4); refine (take_yes _ _ _ _ _ hp2 _ ht' _ (by decide) h4).mono ?_; rintro e w3 ⟨rfl, hp3, hg3'⟩; have hg3 := grownBy_trans hg2 hg3') | (go_at_call 260; refine (terms_none _ _ _ _ _ _ hp3 hR).mono ?_; rintro e w4 ⟨rfl, hp4, hg4'⟩; have hg4 := grownBy_trans hg3 hg4'; obtain ⟨t4, r4, gw4, lt14, lt24⟩ := term_world h hb1 hg4; have f04 := frozen_at r4 0; have f14 := frozen_at r4 1; have f24 := frozen_at r4 2; have k04 := cell_at r4 0; have k14 := cell_at r4 1; have k24 := cell_at r4 2; have c14 := cell_at t4 1; have c24 := cell_at t4 2; simp only [List.getElem?_toArray, List.getElem?_cons_zero, List.getElem?_cons_succ] at c14 c24 k04 k14 k24))
 obtain ⟨hu, gu, pu⟩ := three_stores r4 (.int .i64 0) (.string ⟨#[]⟩) (.slice none 0 0) gw4 hp4 (Nat.le_refl _)
 exact bodyPost_ret (v := .tuple #[.agg #[.int .i64 0, .string ⟨#[]⟩, .slice none 0 0], .bool false]) (by simp [results, Tryz.results222, go_sem, cell_at hu]) rfl ⟨rfl, pu, gu⟩
set_option maxHeartbeats 2000000 in
theorem atom_3 (w : World) (pb : Nat) (tv : Value) (toks : List Ax.Tok) (nx : Nat) (h : PAt w pb tv toks nx) (t : Ax.Tok) (ht : Hid (toks[nx]? = some t)) (he : (t.kind == 2) = true) (t' : Ax.Tok) (ht' : Hid (toks[nx + 1]? = some t')) (h4 : (t'.kind == 4) = true) (j : Nat) (ts : List Ax.Term) (hR : Hid (Ax.pTerms toks toks.length (nx + 1 + 1) [] = (some ts, j))) (t3 : Ax.Tok) (ht3 : Hid (toks[j]? = some t3)) (h5 : (t3.kind == 5) = false) :
 Calls Tryz.prog 222 #[.pointer (some ⟨pb, 0, none⟩)] w fun e w' => ∃ x y ad n c, e = .returned (.tuple #[.agg #[.int .i64 x, .string y, .slice ad n c], .bool false]) ∧ PAt w' pb tv toks j ∧ w.grownBy w' (some pb) := by
 have hpb := lt_of_heap h.1
 go_enter Tryz.func222, Tryz.ntmps222
 go_wp2_with (first | (go_at_call 105; refine (peek_any _ _ _ _ _ (h.alloc _) _ ht).mono ?_; rintro e w1 ⟨rfl, hb1⟩; rw [World.size_alloc] at hb1; have hp1 := ((h.alloc (.cells #[.int .i64 0, .string ⟨#[]⟩, .slice none 0 0] 219)).below (by rw [World.size_alloc]; exact hb1)).alloc (.cells #[.int .i64 t.kind, .int .i64 t.at_, .string t.text] 210)) | (go_at_call_of 223 (Value.int IntKind.i64 2); refine (take_yes _ _ _ _ _ hp1 _ ht _ (by decide) he).mono ?_; rintro e w2 ⟨rfl, hp2, hg2'⟩; have hg2 := hg2') | (go_at_call_of 223 (Value.int IntKind.i64 4); refine (take_yes _ _ _ _ _ hp2 _ ht' _ (by decide) h4).mono ?_; rintro e w3 ⟨rfl, hp3, hg3'⟩; have hg3 := grownBy_trans hg2 hg3') | (go_at_call 260; refine (terms_some _ _ _ _ _ _ _ hp3 hR).mono ?_; rintro e w4 ⟨ad, c, rfl, hp4, hg4', hown4⟩; have hg4 := grownBy_trans hg3 hg4'; obtain ⟨t4, r4, gw4, lt14, lt24⟩ := term_world h hb1 hg4; have f04 := frozen_at r4 0; have f14 := frozen_at r4 1; have f24 := frozen_at r4 2; have k04 := cell_at r4 0; have k14 := cell_at r4 1; have k24 := cell_at r4 2; have c14 := cell_at t4 1; have c24 := cell_at t4 2; simp only [List.getElem?_toArray, List.getElem?_cons_zero, List.getElem?_cons_succ] at c14 c24 k04 k14 k24))
 go_region_with (go_at_call 223; refine (take_no _ pb tv toks j (by exact hp4) _ ht3 _ h5).mono ?_; rintro e w5 ⟨rfl, hb5⟩; have hp5 := PAt.below (by exact hp4) hb5; have hg5 := grownBy_trans (grownBy_drew hg4) (grownBy_of_below hb5 (some pb)); obtain ⟨t5, r5, gw5, lt15, lt25⟩ := term_world h hb1 hg5; have f05 := frozen_at r5 0; have f15 := frozen_at r5 1; have f25 := frozen_at r5 2; have k05 := cell_at r5 0; have k15 := cell_at r5 1; have k25 := cell_at r5 2; have c15 := cell_at t5 1; have c25 := cell_at t5 2; simp only [List.getElem?_toArray, List.getElem?_cons_zero, List.getElem?_cons_succ] at c15 c25 k05 k15 k25)
 all_goals (go_wp2_with fail)
 all_goals (obtain ⟨hu, gu, pu⟩ := three_stores r5 (.int .i64 t.at_) (.string t.text) (.slice ad ts.length c) gw5 hp5 (Nat.le_refl _))
 all_goals (exact bodyPost_ret (v := .tuple #[.agg #[.int .i64 t.at_, .string t.text, .slice ad ts.length c], .bool false]) (by simp [results, Tryz.results222, go_sem, cell_at hu]) rfl ⟨_, _, _, _, _, rfl, pu, gu⟩)
end Go.Proofs.YtdmicblafmhflaaGreatDoor
