/- The parser: rules. -/
import Derived.Test.YtdmicblafmhflaaM7
namespace Go.Proofs.Ytdmicblafmhflaa
set_option linter.unusedSimpArgs false
set_option linter.unusedVariables false
open Go.RowKit

/-- rule, whole -/
theorem rule_some (w : World) (pb : Nat) (tv : Value) (toks : List Ax.Tok) (nx j : Nat) (r : Ax.Rule) (h : PAt w pb tv toks nx) (hR : Hid (Ax.pRule toks nx = (some r, j))) :
    Calls Try.prog 38 #[.pointer (some ⟨pb, 0, none⟩)] w fun e w' => ∃ ad n c bd m d l, e = .returned (.tuple #[.agg #[.int .i64 r.head.at_, .string r.head.pred, .slice ad n c, .slice bd m d], .bool true]) ∧ PAt w' pb tv toks j ∧ w.grownBy w' (some pb) ∧ MR.ok w' ⟨(r.head, .slice ad n c), .slice bd m d, l⟩ ∧ Hid (l.map Prod.fst = r.body) := by
  have hends := h.2.2.2.2
  have hR := hR.out
  rcases hA : Ax.pAtom toks nx with ⟨_ | a, j1⟩
  · rw [Ax.pRule_0 hA] at hR; simp at hR
  · have hj1 := Ax.pAtom_lt hends h.2.2.1 hA
    have ht1 : toks[j1]? = some toks[j1] := List.getElem?_eq_getElem hj1
    have hk1 := Ax.kindAt_of ht1
    by_cases h8 : Ax.kindAt toks j1 = 8
    · have hn := Ax.kind_next hends hj1 h8 (by omega)
      rcases hB : Ax.pAtoms toks toks.length (j1 + 1) [] with ⟨_ | b, j2⟩
      · rw [Ax.pRule_1 hA h8 hB] at hR; simp at hR
      · have hj2 := Ax.pAtoms_lt hends _ _ _ hn hB
        have ht2 : toks[j2]? = some toks[j2] := List.getElem?_eq_getElem hj2
        have hk2 := Ax.kindAt_of ht2
        by_cases h7 : Ax.kindAt toks j2 = 7
        · rw [Ax.pRule_3 hA h8 hB h7] at hR
          simp only [Prod.mk.injEq, Option.some.injEq] at hR
          obtain ⟨rfl, rfl⟩ := hR
          refine (rule_3 w pb tv toks nx h j1 a hA _ ht1 (by rw [hk1] at h8; simpa using h8) j2 b hB _ ht2 (by rw [hk2] at h7; simpa using h7)).mono ?_
          rintro e w' ⟨ad, c, bd, d, l, rfl, hp, hg, hok, hl⟩
          exact ⟨_, _, _, _, _, _, l, rfl, hp, hg, hok, hl⟩
        · rw [Ax.pRule_2 hA h8 hB h7] at hR; simp at hR
    · by_cases h7 : Ax.kindAt toks j1 = 7
      · rw [Ax.pRule_5 hA h8 h7] at hR
        simp only [Prod.mk.injEq, Option.some.injEq] at hR
        obtain ⟨rfl, rfl⟩ := hR
        refine (rule_5 w pb tv toks nx h j1 a hA _ ht1 (by rw [hk1] at h8; simpa using h8) (by rw [hk1] at h7; simpa using h7)).mono ?_
        rintro e w' ⟨ad, c, bd, d, l, rfl, hp, hg, hok, hl⟩
        exact ⟨_, _, _, _, _, _, l, rfl, hp, hg, hok, hl⟩
      · rw [Ax.pRule_4 hA h8 h7] at hR; simp at hR

theorem rule_none (w : World) (pb : Nat) (tv : Value) (toks : List Ax.Tok) (nx j : Nat) (h : PAt w pb tv toks nx) (hR : Hid (Ax.pRule toks nx = (none, j))) :
    Calls Try.prog 38 #[.pointer (some ⟨pb, 0, none⟩)] w fun e w' => ∃ x y ad n c bd m d, e = .returned (.tuple #[.agg #[.int .i64 x, .string y, .slice ad n c, .slice bd m d], .bool false]) ∧ PAt w' pb tv toks j ∧ w.grownBy w' (some pb) := by
  have hends := h.2.2.2.2
  have hR := hR.out
  rcases hA : Ax.pAtom toks nx with ⟨_ | a, j1⟩
  · rw [Ax.pRule_0 hA] at hR
    simp only [Prod.mk.injEq, true_and] at hR
    subst hR
    exact rule_0 w pb tv toks nx h j1 hA
  · have hj1 := Ax.pAtom_lt hends h.2.2.1 hA
    have ht1 : toks[j1]? = some toks[j1] := List.getElem?_eq_getElem hj1
    have hk1 := Ax.kindAt_of ht1
    by_cases h8 : Ax.kindAt toks j1 = 8
    · have hn := Ax.kind_next hends hj1 h8 (by omega)
      rcases hB : Ax.pAtoms toks toks.length (j1 + 1) [] with ⟨_ | b, j2⟩
      · rw [Ax.pRule_1 hA h8 hB] at hR
        simp only [Prod.mk.injEq, true_and] at hR
        subst hR
        exact rule_1 w pb tv toks nx h j1 a hA _ ht1 (by rw [hk1] at h8; simpa using h8) j2 hB
      · have hj2 := Ax.pAtoms_lt hends _ _ _ hn hB
        have ht2 : toks[j2]? = some toks[j2] := List.getElem?_eq_getElem hj2
        have hk2 := Ax.kindAt_of ht2
        by_cases h7 : Ax.kindAt toks j2 = 7
        · rw [Ax.pRule_3 hA h8 hB h7] at hR; simp at hR
        · rw [Ax.pRule_2 hA h8 hB h7] at hR
          simp only [Prod.mk.injEq, true_and] at hR
          subst hR
          exact rule_2 w pb tv toks nx h j1 a hA _ ht1 (by rw [hk1] at h8; simpa using h8) j2 b hB _ ht2 (by rw [hk2] at h7; simpa using h7)
    · by_cases h7 : Ax.kindAt toks j1 = 7
      · rw [Ax.pRule_5 hA h8 h7] at hR; simp at hR
      · rw [Ax.pRule_4 hA h8 h7] at hR
        simp only [Prod.mk.injEq, true_and] at hR
        subst hR
        exact rule_4 w pb tv toks nx h j1 a hA _ ht1 (by rw [hk1] at h8; simpa using h8) (by rw [hk1] at h7; simpa using h7)

def ruleCells (l : List MR) : List Value := l.flatMap fun r => [.int .i64 r.head.1.at_, .string r.head.1.pred, r.head.2, r.bv]
theorem ruleCells_snoc (l : List MR) (r : MR) : ruleCells (l ++ [r]) = ruleCells l ++ [.int .i64 r.head.1.at_, .string r.head.1.pred, r.head.2, r.bv] := by simp [ruleCells]
theorem Try.infoRule : (Try.prog.info? 92).map (fun i => (i.zero, i.size, i.bytes)) = some (some (.agg #[.int .i64 0, .string ByteArray.empty, .slice none 0 0, .slice none 0 0]), 4, 72) := by kernel_rfl
def mrs (w : World) (l : List MR) : Prop := ∀ r, r ∈ l → MR.ok w r
theorem mrs_nil (w : World) : mrs w [] := fun _ h => by cases h
theorem mrs_below {w w' : World} {l : List MR} (h : mrs w l) (hb : Below w.heap.size w w') : mrs w' l := fun x hx => MR.below (h x hx) hb
theorem mrs_step {w w' : World} {l : List MR} {pb : Nat} {tv : Value} {toks : List Ax.Tok} {nx : Nat} (h : mrs w l) (hp : PAt w pb tv toks nx) (hg : w.grownBy w' (some pb)) : mrs w' l := fun x hx => MR.step (h x hx) hp hg
theorem mrs_snoc {w : World} {l : List MR} {x : MR} (h : mrs w l) (hx : MR.ok w x) : mrs w (l ++ [x]) := by
  intro y hy
  rcases List.mem_append.1 hy with hy | hy
  · exact h y hy
  · simp at hy; subst hy; exact hx

theorem rules_world {w w1 w2 : World} {pb : Nat} {tv v : Value} {toks : List Ax.Tok} {nx n : Nat} {xs : List Value} {o1 o2 : Obj} {l : List MR} {x : MR} (hown1 : w1.ownsRow w.heap.size 92 4 v n xs) (hp1 : PAt w1 pb tv toks nx) (hg : w.grownBy w1 (some pb)) (hok : mrs w1 l) (hx : MR.ok w1 x)
    (hgrow : ((w1.alloc o1).alloc o2).grownBy w2 v.ownBlock) : PAt w2 pb tv toks nx ∧ w.grownBy w2 (some pb) ∧ mrs w2 (l ++ [x]) :=
  ⟨((hp1.alloc o1).alloc o2).row hgrow (ownsRow_kind ((hown1.alloc o1).alloc o2)) (by decide) (by decide),
   grownBy_new (grownBy_alloc (grownBy_alloc hg _) _) hgrow (fun k hk => (hown1.lt k hk).1),
   fun y hy => MR.type (w := (w1.alloc o1).alloc o2) (MR.below (mrs_snoc hok hx y hy) (((Below.refl _ _).alloc (Nat.le_refl _) _).alloc (by simp) _)) hgrow (ownsRow_kind ((hown1.alloc o1).alloc o2)) (by decide) (by decide)⟩

def RulesRel (w wr : World) (pb : Nat) (tv : Value) (toks : List Ax.Tok) (v : Value) (nx k : Nat) (acc : List MR) (R : Option (List Ax.Rule) × Nat) : Prop :=
  PAt wr pb tv toks nx ∧ wr.ownsRow w.heap.size 92 4 v acc.length (ruleCells acc) ∧ mrs wr acc ∧ w.grownBy wr (some pb) ∧ acc.length ≤ nx ∧ toks.length ≤ nx + k ∧ Ax.pRules toks k nx (acc.map MR.rule) = R

set_option maxHeartbeats 2000000 in
theorem rules_any (w : World) (pb : Nat) (tv : Value) (toks : List Ax.Tok) (nx : Nat) (h : PAt w pb tv toks nx) :
    Calls Try.prog 24 #[.pointer (some ⟨pb, 0, none⟩)] w fun e w' => PAt w' pb tv toks (Ax.pRules toks toks.length nx []).2 ∧ w.grownBy w' (some pb) ∧
      ((∃ v l, e = .returned (.tuple #[v, .bool true]) ∧ (Ax.pRules toks toks.length nx []).1 = some (l.map MR.rule) ∧ w'.ownsRow w.heap.size 92 4 v l.length (ruleCells l) ∧ mrs w' l) ∨
       (e = .returned (.tuple #[.slice none 0 0, .bool false]) ∧ (Ax.pRules toks toks.length nx []).1 = none)) := by
  obtain ⟨i0, hi, hz0, hz1, hz2⟩ := info_parts Try.infoRule
  generalize hR : Ax.pRules toks toks.length nx [] = R
  have hpb := lt_of_heap h.1
  have hfd := Try.fieldTok0
  go_enter Try.func24, Try.ntmps24
  go_wp2_with fail
  go_loopg [4] toks.length (fun k v wr => ∃ (i : Nat) (acc : List MR), RulesRel w wr pb tv toks v i k acc R)
  case atStart => exact ⟨nx, [], h, World.ownsRow_nil _ _ _ _, mrs_nil _, grownBy_refl _ _, Nat.zero_le _, by omega, hR⟩
  case round =>
    obtain ⟨i, acc, hp, hown, hok, hg, hal, hlen, hr⟩ := hrel
    have hlt := hp.2.2.1
    have hle := hp.2.2.2.1
    have hends := hp.2.2.2.2
    have hsz := hg.size
    cases gk with
    | zero => omega
    | succ k =>
    have hr' : Hid (Ax.pRules toks (k + 1) i (acc.map MR.rule) = R) := hr
    clear hr hR
    obtain ⟨t, ht0⟩ : ∃ t, toks[i]? = some t := ⟨_, List.getElem?_eq_getElem hlt⟩
    have hka := Ax.kindAt_of ht0
    have ht : Hid (toks[i]? = some t) := ht0
    clear ht0
    by_cases h1 : t.kind = 1
    · have e : Hid (R = (some (acc.map MR.rule), i)) := hr'.out.symm.trans (Ax.pRules_end (by rw [hka]; exact h1))
      have hne : (t.kind != 1) = false := by simp [h1]
      clear h1 hka
      go_wp2_with (first | (go_at_call 25; refine (peek_any _ _ _ _ _ hp _ ht).mono ?_; rintro e w0 ⟨rfl, hb0⟩; have hp0 := hp.below hb0; have hown0 := ownsRow_below hown hb0; have hok0 := mrs_below hok hb0; have hg0 := grownBy_trans hg (grownBy_of_below hb0 (some pb))))
      go_ret2
      exact ⟨by rw [e.out]; exact hp0, hg0, .inl ⟨_, acc, rfl, by rw [e.out], hown0, hok0⟩⟩
    · have hk1 : Hid (¬ Ax.kindAt toks i = 1) := by rw [hka]; exact h1
      have hne : (t.kind != 1) = true := by simp [h1]
      clear h1 hka
      rcases hA0 : Ax.pRule toks i with ⟨_ | r, j⟩
      · have hA : Hid (Ax.pRule toks i = (none, j)) := hA0
        clear hA0
        go_wp2_with (first | (go_at_call 25; refine (peek_any _ _ _ _ _ hp _ ht).mono ?_; rintro e w0 ⟨rfl, hb0⟩; have hp0 := hp.below hb0; have hown0 := ownsRow_below hown hb0; have hok0 := mrs_below hok hb0; have hg0 := grownBy_trans hg (grownBy_of_below hb0 (some pb))) | (go_at_call 38; refine (rule_none _ _ _ _ _ _ hp0 hA).mono ?_; rintro e w1 ⟨x, y, ad, n, c, bd, m, d, rfl, hp1, hg1⟩))
        go_ret2
        have e := hr'.out.symm.trans (Ax.pRules_none hk1.out hA.out)
        exact ⟨by rw [e]; exact hp1.alloc _, grownBy_alloc (grownBy_trans hg0 hg1) _, .inr ⟨rfl, by rw [e]⟩⟩
      · have hA : Hid (Ax.pRule toks i = (some r, j)) := hA0
        have hj := (Ax.pRule_lt hends hlt hA0).1
        have hij := (Ax.pRule_lt hends hlt hA0).2 (by simp)
        clear hA0
        have hon : Hid (Ax.pRules toks (k + 1) i (acc.map MR.rule) = Ax.pRules toks k j (acc.map MR.rule ++ [r])) := Ax.pRules_on hk1.out hA.out
        go_wp2_with (first | (go_at_call 25; refine (peek_any _ _ _ _ _ hp _ ht).mono ?_; rintro e w0 ⟨rfl, hb0⟩; have hp0 := hp.below hb0; have hown0 := ownsRow_below hown hb0; have hok0 := mrs_below hok hb0; have hg0 := grownBy_trans hg (grownBy_of_below hb0 (some pb))) | (go_at_call 38; refine (rule_some _ _ _ _ _ _ _ hp0 hA).mono ?_; rintro e w1 ⟨ad, n, c, bd, m, d, l, rfl, hp1, hg1, hmr, hl⟩; have hown1 := ownsRow_step hown0 hp0 hg1 (by decide); have hs1 := (grownBy_trans hg0 hg1).size; have hok1 := mrs_step hok0 hp0 hg1) | (at_builtin; refine wpList_append_own _ rfl (.tmp 18) (.tmp 20) 43 rfl w.heap.size 92 i0 _ 4 72 Try.underlying43 hi hz0 hz1 hz2 rfl (by decide) _ _ _ rfl ((hown1.alloc _).alloc _) ⟨w1.heap.size + 1, 0, none⟩ 1 1 [.int .i64 r.head.at_, .string r.head.pred, .slice ad n c, .slice bd m d] rfl rfl (new_cells2 _ _ _ _) (by simp [Value.oneCell']) (by unfold maxLen; omega) (by omega) (by simp; omega) ?_; intro v2 w2 hown2 hgrow _; obtain ⟨hp2, hg2, hok2⟩ := rules_world hown1 hp1 (grownBy_trans hg0 hg1) hok1 hmr hgrow; clear hgrow hown1 hp1 hok1 hmr))
        go_roundg k
        case measure => omega
        case rel =>
          refine ⟨j, acc ++ [⟨(r.head, .slice ad n c), .slice bd m d, l⟩], hp2, ?_, hok2, hg2, by simp; omega, by omega, ?_⟩
          · rw [ruleCells_snoc]; simpa using hown2
          · rw [List.map_append]
            have e : MR.rule ⟨(r.head, .slice ad n c), .slice bd m d, l⟩ = r := by simp only [MR.rule]; rw [hl.out]
            rw [List.map_singleton, e]
            exact hon.out.symm.trans hr'.out
end Go.Proofs.Ytdmicblafmhflaa
