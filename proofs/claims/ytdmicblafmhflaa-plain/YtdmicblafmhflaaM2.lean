/- The parser: terms. -/
import Derived.Test.YtdmicblafmhflaaM1
import Derived.Deep.LoopGhost
namespace Go.Proofs.Ytdmicblafmhflaa
set_option linter.unusedSimpArgs false
set_option linter.unusedVariables false
open Go.RowKit

theorem term_yes (w : World) (pb : Nat) (tv : Value) (toks : List Ax.Tok) (nx : Nat) (h : PAt w pb tv toks nx) (t : Ax.Tok) (ht : Hid (toks[nx]? = some t)) (hk : Hid (t.kind = 2 ∨ t.kind = 3)) :
    Calls Try.prog 70 #[.pointer (some ⟨pb, 0, none⟩)] w fun e w' => e = .returned (.tuple #[.agg #[.int .i64 (t.kind - 2), .string t.text], .bool true]) ∧ PAt w' pb tv toks (nx + 1) ∧ w.grownBy w' (some pb) := by
  rcases hk.out with e | e
  · rw [show t.kind - 2 = 0 by omega]; exact term_name w pb tv toks nx h t ht (by simp [e])
  · rw [show t.kind - 2 = 1 by omega]; exact term_var w pb tv toks nx h t ht (by simp [e]) (by simp [e])

def termCells (l : List Ax.Term) : List Value := l.flatMap fun t => [.int .i64 t.kind, .string t.text]
theorem termCells_snoc (l : List Ax.Term) (t : Ax.Term) : termCells (l ++ [t]) = termCells l ++ [.int .i64 t.kind, .string t.text] := by simp [termCells]
theorem Try.infoTerm : (Try.prog.info? 102).map (fun i => (i.zero, i.size, i.bytes)) = some (some (.agg #[.int .i64 0, .string ByteArray.empty]), 2, 24) := by kernel_rfl

/-- a block that was new since w may be written: all of w stands -/
theorem grownBy_new {w w1 w2 : World} {pb : Nat} {row : Option Nat} (h : w.grownBy w1 (some pb)) (hg : w1.grownBy w2 row) (hr : ∀ k, row = some k → w.heap.size ≤ k) : w.grownBy w2 (some pb) :=
  ⟨hg.os.trans h.os, hg.tape.trans h.tape, hg.output.trans h.output, Nat.le_trans h.size hg.size, fun k hk hne => (hg.block k (Nat.lt_of_lt_of_le hk h.size) (fun e => by have := hr k e.symm; omega)).trans (h.block k hk hne)⟩

theorem ownsRow_kind {w : World} {b : Nat} {e : TypeId} {size : Nat} {v : Value} {n : Nat} {xs : List Value} (h : w.ownsRow b e size v n xs) : ∀ k, v.ownBlock = some k → ∃ cur fz, w.heap[k]? = some (.cells cur e fz) := by
  intro k hk
  rcases h.2 with ⟨rfl, _⟩ | ⟨g, cap, cur, rfl, _, hh, _⟩
  · simp [Value.ownBlock] at hk
  · simp [Value.ownBlock] at hk; subst hk; exact ⟨_, _, hh⟩

/-- an owned row of another type than the parser's block stands while the parser goes on -/
theorem ownsRow_step {w w' : World} {pb b : Nat} {tv v : Value} {toks : List Ax.Tok} {nx : Nat} {e : TypeId} {size n : Nat} {xs : List Value} (h : w.ownsRow b e size v n xs) (hp : PAt w pb tv toks nx) (hg : w.grownBy w' (some pb)) (hne : e ≠ 61) : w'.ownsRow b e size v n xs :=
  ownsRow_type h hg (e' := 61) (fun k hk => by cases hk; exact ⟨_, _, hp.1⟩) hne

/-- the second of two new blocks -/
theorem new_cells2 (w : World) (o : Obj) (t : TypeId) (xs : List Value) : ∀ (j : Nat) (u : Value), xs[j]? = some u → ((w.alloc o).alloc (.cells xs.toArray t)).cell? ((⟨w.heap.size + 1, 0, none⟩ : Addr).add j) = some u := by
  have := new_cells (w.alloc o) t xs
  rw [World.size_alloc] at this
  exact this

theorem terms_world {w w1 w2 : World} {pb : Nat} {tv v : Value} {toks : List Ax.Tok} {nx n : Nat} {xs : List Value} {o1 o2 : Obj} (hown1 : w1.ownsRow w.heap.size 102 2 v n xs) (hp1 : PAt w1 pb tv toks nx) (hg : w.grownBy w1 (some pb))
    (hgrow : ((w1.alloc o1).alloc o2).grownBy w2 v.ownBlock) : PAt w2 pb tv toks nx ∧ w.grownBy w2 (some pb) :=
  ⟨((hp1.alloc o1).alloc o2).row hgrow (ownsRow_kind ((hown1.alloc o1).alloc o2)) (by decide) (by decide),
   grownBy_new (grownBy_alloc (grownBy_alloc hg _) _) hgrow (fun k hk => (hown1.lt k hk).1)⟩

def TermsRel (w wr : World) (pb : Nat) (tv : Value) (toks : List Ax.Tok) (v : Value) (nx k : Nat) (acc : List Ax.Term) (R : Option (List Ax.Term) × Nat) : Prop :=
  PAt wr pb tv toks nx ∧ wr.ownsRow w.heap.size 102 2 v acc.length (termCells acc) ∧ w.grownBy wr (some pb) ∧ acc.length ≤ nx ∧ toks.length ≤ nx + k ∧ Ax.pTerms toks k nx acc = R

set_option maxHeartbeats 1000000 in
theorem terms_any (w : World) (pb : Nat) (tv : Value) (toks : List Ax.Tok) (nx : Nat) (h : PAt w pb tv toks nx) :
    Calls Try.prog 64 #[.pointer (some ⟨pb, 0, none⟩)] w fun e w' => PAt w' pb tv toks (Ax.pTerms toks toks.length nx []).2 ∧ w.grownBy w' (some pb) ∧
      ((∃ v ts, e = .returned (.tuple #[v, .bool true]) ∧ (Ax.pTerms toks toks.length nx []).1 = some ts ∧ w'.ownsRow w.heap.size 102 2 v ts.length (termCells ts)) ∨
       (e = .returned (.tuple #[.slice none 0 0, .bool false]) ∧ (Ax.pTerms toks toks.length nx []).1 = none)) := by
  obtain ⟨i0, hi, hz0, hz1, hz2⟩ := info_parts Try.infoTerm
  generalize hR : Ax.pTerms toks toks.length nx [] = R
  have hpb := lt_of_heap h.1
  go_enter Try.func64, Try.ntmps64
  go_wp2_with fail
  go_loopg [4] toks.length (fun k v wr => ∃ (i : Nat) (acc : List Ax.Term), TermsRel w wr pb tv toks v i k acc R)
  case atStart => exact ⟨nx, [], h, World.ownsRow_nil _ _ _ _, grownBy_refl _ _, Nat.zero_le _, by omega, hR⟩
  case round =>
    obtain ⟨i, acc, hp, hown, hg, hal, hlen, hr⟩ := hrel
    have hlt := hp.2.2.1
    have hle := hp.2.2.2.1
    have hsz := hg.size
    cases gk with
    | zero => omega
    | succ k =>
    obtain ⟨t, ht0⟩ : ∃ t, toks[i]? = some t := ⟨_, List.getElem?_eq_getElem hlt⟩
    have ht : Hid (toks[i]? = some t) := ht0
    have hr' : Hid (Ax.pTerms toks (k + 1) i acc = R) := hr
    clear ht0 hr hR
    by_cases hk : t.kind = 2 ∨ t.kind = 3
    · have hkh : Hid (t.kind = 2 ∨ t.kind = 3) := hk
      clear hk
      have hn1 : i + 1 < toks.length := by
        obtain ⟨_, e⟩ := Tok_get ht.out
        have := hkh.out
        exact hp.2.2.2.2.next hlt (by rw [e]; omega) (by rw [e]; omega)
      obtain ⟨t', ht0⟩ : ∃ t, toks[i + 1]? = some t := ⟨_, List.getElem?_eq_getElem hn1⟩
      have ht' : Hid (toks[i + 1]? = some t') := ht0
      clear ht0
      have hpt : Hid (Ax.pTerm toks i = (some ⟨t.kind - 2, t.text⟩, i + 1)) := Ax.pTerm_some ht.out hkh.out
      cases h6 : (t'.kind == 6)
      case true =>
        have hon : Hid (Ax.pTerms toks (k + 1) i acc = Ax.pTerms toks k (i + 1 + 1) (acc ++ [⟨t.kind - 2, t.text⟩])) := Ax.pTerms_on hpt.out (by rw [Ax.kindAt_of ht'.out]; simpa using h6)
        go_wp2_with (first | (go_at_call 70; refine (term_yes _ _ _ _ _ hp _ ht hkh).mono ?_; rintro e w1 ⟨rfl, hp1, hg1⟩; have hown1 := ownsRow_step hown hp hg1 (by decide); have hs1 := hg1.size) | (at_builtin; refine wpList_append_own _ rfl (.tmp 14) (.tmp 16) 87 rfl w.heap.size 102 i0 _ 2 24 Try.underlying87 hi hz0 hz1 hz2 rfl (by decide) _ _ _ rfl ((hown1.alloc _).alloc _) ⟨w1.heap.size + 1, 0, none⟩ 1 1 [.int .i64 (t.kind - 2), .string t.text] rfl rfl (new_cells2 _ _ _ _) (by simp [Value.oneCell']) (by unfold maxLen; omega) (by omega) (by simp; omega) ?_; intro v2 w2 hown2 hgrow _; obtain ⟨hp2, hg2⟩ := terms_world hown1 hp1 (grownBy_trans hg hg1) hgrow; clear hgrow hown1 hp1) | (go_at_call 54; refine (take_yes _ _ _ _ _ hp2 _ ht' _ (by decide) h6).mono ?_; rintro e w3 ⟨rfl, hp3, hg3⟩; have hown3 := ownsRow_step hown2 hp2 hg3 (by decide)))
        go_roundg k
        case measure => omega
        case rel =>
          refine ⟨i + 1 + 1, acc ++ [⟨t.kind - 2, t.text⟩], hp3, ?_, grownBy_trans hg2 hg3, by simp; omega, by omega, hon.out.symm.trans hr'.out⟩
          rw [termCells_snoc]; simpa using hown3
      case false =>
        have hon : Hid (Ax.pTerms toks (k + 1) i acc = (some (acc ++ [⟨t.kind - 2, t.text⟩]), i + 1)) := Ax.pTerms_last hpt.out (by rw [Ax.kindAt_of ht'.out]; simpa using h6)
        go_wp2_with (first | (go_at_call 70; refine (term_yes _ _ _ _ _ hp _ ht hkh).mono ?_; rintro e w1 ⟨rfl, hp1, hg1⟩; have hown1 := ownsRow_step hown hp hg1 (by decide); have hs1 := hg1.size) | (at_builtin; refine wpList_append_own _ rfl (.tmp 14) (.tmp 16) 87 rfl w.heap.size 102 i0 _ 2 24 Try.underlying87 hi hz0 hz1 hz2 rfl (by decide) _ _ _ rfl ((hown1.alloc _).alloc _) ⟨w1.heap.size + 1, 0, none⟩ 1 1 [.int .i64 (t.kind - 2), .string t.text] rfl rfl (new_cells2 _ _ _ _) (by simp [Value.oneCell']) (by unfold maxLen; omega) (by omega) (by simp; omega) ?_; intro v2 w2 hown2 hgrow _; obtain ⟨hp2, hg2⟩ := terms_world hown1 hp1 (grownBy_trans hg hg1) hgrow; clear hgrow hown1 hp1) | (go_at_call 54; refine (take_no _ _ _ _ _ hp2 _ ht' _ h6).mono ?_; rintro e w3 ⟨rfl, hb3⟩; have hown3 := ownsRow_below hown2 hb3))
        go_ret2
        have e := hr'.out.symm.trans hon.out
        refine ⟨by rw [e]; exact hp2.below hb3, grownBy_trans hg2 (grownBy_of_below hb3 _), .inl ⟨_, acc ++ [⟨t.kind - 2, t.text⟩], rfl, by rw [e], ?_⟩⟩
        rw [termCells_snoc]; simpa using hown3
    · have hpn : Hid (Ax.pTerms toks (k + 1) i acc = (none, i)) := Ax.pTerms_none (Ax.pTerm_none ht.out hk)
      have k2 : (t.kind == 2) = false := by simp; omega
      have k3 : (t.kind == 3) = false := by simp; omega
      clear hk
      go_wp2_with (go_at_call 70; refine (term_none _ _ _ _ _ hp _ ht k2 k3).mono ?_; rintro e w1 ⟨rfl, hp1, hg1⟩)
      go_ret2
      have e := hr'.out.symm.trans hpn.out
      exact ⟨by rw [e]; exact hp1.alloc _, grownBy_alloc (grownBy_trans hg hg1) _, .inr ⟨rfl, by rw [e]⟩⟩

theorem terms_none (w : World) (pb : Nat) (tv : Value) (toks : List Ax.Tok) (nx j : Nat) (h : PAt w pb tv toks nx) (hR : Hid (Ax.pTerms toks toks.length nx [] = (none, j))) :
    Calls Try.prog 64 #[.pointer (some ⟨pb, 0, none⟩)] w fun e w' => e = .returned (.tuple #[.slice none 0 0, .bool false]) ∧ PAt w' pb tv toks j ∧ w.grownBy w' (some pb) := by
  refine (terms_any w pb tv toks nx h).mono ?_
  rintro e w' ⟨hp, hg, hc⟩
  rw [hR.out] at hp hc
  rcases hc with ⟨v, ts, _, hn, _⟩ | ⟨rfl, _⟩
  · simp at hn
  · exact ⟨rfl, hp, hg⟩

theorem terms_some (w : World) (pb : Nat) (tv : Value) (toks : List Ax.Tok) (nx j : Nat) (ts : List Ax.Term) (h : PAt w pb tv toks nx) (hR : Hid (Ax.pTerms toks toks.length nx [] = (some ts, j))) :
    Calls Try.prog 64 #[.pointer (some ⟨pb, 0, none⟩)] w fun e w' => ∃ ad c, e = .returned (.tuple #[.slice ad ts.length c, .bool true]) ∧ PAt w' pb tv toks j ∧ w.grownBy w' (some pb) ∧ w'.ownsRow w.heap.size 102 2 (.slice ad ts.length c) ts.length (termCells ts) := by
  refine (terms_any w pb tv toks nx h).mono ?_
  rintro e w' ⟨hp, hg, hc⟩
  rw [hR.out] at hp hc
  rcases hc with ⟨v, ts', rfl, hn, hown⟩ | ⟨_, hn⟩
  · simp at hn
    subst hn
    obtain ⟨a, c, rfl⟩ : ∃ a c, v = .slice a ts.length c := by
      rcases hown.2 with ⟨rfl, e⟩ | ⟨g, cap, cur, rfl, _⟩
      · rw [e]; exact ⟨none, 0, rfl⟩
      · exact ⟨_, _, rfl⟩
    exact ⟨a, c, rfl, hp, hg, hown⟩
  · simp at hn
end Go.Proofs.Ytdmicblafmhflaa
