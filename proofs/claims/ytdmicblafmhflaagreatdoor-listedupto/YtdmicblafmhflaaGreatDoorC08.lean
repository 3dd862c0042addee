/- The parser: rules. -/
import Derived.Test.YtdmicblafmhflaaGreatDoorC07
import Derived.Test.YtdmicblafmhflaaGreatDoorC00
import Derived.BigQuiet
import Derived.Deep.QuietTactic

namespace Go.Proofs.YtdmicblafmhflaaGreatDoor
set_option linter.unusedSimpArgs false
set_option linter.unusedVariables false
open Go.RowKit
/-- rule, whole -/
theorem rule_some (w : World) (pb : Nat) (tv : Value) (toks : List Ax.Tok) (nx j : Nat) (r : Ax.Rule) (h : PAt w pb tv toks nx) (hR : Hid (Ax.pRule toks nx = (some r, j))) :
    Calls Tryz.prog 179 #[.pointer (some ⟨pb, 0, none⟩)] w fun e w' => ∃ ad n c bd m d l, e = .returned (.tuple #[.agg #[.int .i64 r.head.at_, .string r.head.pred, .slice ad n c, .slice bd m d], .bool true]) ∧ PAt w' pb tv toks j ∧ w.grownBy w' (some pb) ∧ MR.ok w' ⟨(r.head, .slice ad n c), .slice bd m d, l⟩ ∧ Hid (l.map Prod.fst = r.body) := by
  have hends := h.2.2.2.2
  have hR := hR.out
  rcases hA : Ax.pAtom toks nx with ⟨_ | a, j1⟩
  · rw [Ax.pRule_0 hA] at hR; simp at hR
  · have hj1 := Ax.pAtom_lt hends h.2.2.1 hA
    have ht1 : toks[j1]? = some toks[j1] := List.getElem?_eq_getElem hj1
    have hk1 := Ax.kindAt_of ht1
    by_cases h8 : Ax.kindAt toks j1 = 8
    · have hn := Ax.kind_next hends hj1 h8 (by omega)
      rcases hB : Ax.pAtoms toks toks.length (j1 + 1) [] with ⟨_ | b, j2⟩
      · rw [Ax.pRule_1 hA h8 hB] at hR; simp at hR
      · have hj2 := Ax.pAtoms_lt hends _ _ _ hn hB
        have ht2 : toks[j2]? = some toks[j2] := List.getElem?_eq_getElem hj2
        have hk2 := Ax.kindAt_of ht2
        by_cases h7 : Ax.kindAt toks j2 = 7
        · rw [Ax.pRule_3 hA h8 hB h7] at hR
          simp only [Prod.mk.injEq, Option.some.injEq] at hR
          obtain ⟨rfl, rfl⟩ := hR
          refine (rule_3 w pb tv toks nx h j1 a hA _ ht1 (by rw [hk1] at h8; simpa using h8) j2 b hB _ ht2 (by rw [hk2] at h7; simpa using h7)).mono ?_
          rintro e w' ⟨ad, c, bd, d, l, rfl, hp, hg, hok, hl⟩
          exact ⟨_, _, _, _, _, _, l, rfl, hp, hg, hok, hl⟩
        · rw [Ax.pRule_2 hA h8 hB h7] at hR; simp at hR
    · by_cases h7 : Ax.kindAt toks j1 = 7
      · rw [Ax.pRule_5 hA h8 h7] at hR
        simp only [Prod.mk.injEq, Option.some.injEq] at hR
        obtain ⟨rfl, rfl⟩ := hR
        refine (rule_5 w pb tv toks nx h j1 a hA _ ht1 (by rw [hk1] at h8; simpa using h8) (by rw [hk1] at h7; simpa using h7)).mono ?_
        rintro e w' ⟨ad, c, bd, d, l, rfl, hp, hg, hok, hl⟩
        exact ⟨_, _, _, _, _, _, l, rfl, hp, hg, hok, hl⟩
      · rw [Ax.pRule_4 hA h8 h7] at hR; simp at hR
theorem rule_none (w : World) (pb : Nat) (tv : Value) (toks : List Ax.Tok) (nx j : Nat) (h : PAt w pb tv toks nx) (hR : Hid (Ax.pRule toks nx = (none, j))) :
    Calls Tryz.prog 179 #[.pointer (some ⟨pb, 0, none⟩)] w fun e w' => ∃ x y ad n c bd m d, e = .returned (.tuple #[.agg #[.int .i64 x, .string y, .slice ad n c, .slice bd m d], .bool false]) ∧ PAt w' pb tv toks j ∧ w.grownBy w' (some pb) := by
  have hends := h.2.2.2.2
  have hR := hR.out
  rcases hA : Ax.pAtom toks nx with ⟨_ | a, j1⟩
  · rw [Ax.pRule_0 hA] at hR
    simp only [Prod.mk.injEq, true_and] at hR
    subst hR
    exact rule_0 w pb tv toks nx h j1 hA
  · have hj1 := Ax.pAtom_lt hends h.2.2.1 hA
    have ht1 : toks[j1]? = some toks[j1] := List.getElem?_eq_getElem hj1
    have hk1 := Ax.kindAt_of ht1
    by_cases h8 : Ax.kindAt toks j1 = 8
    · have hn := Ax.kind_next hends hj1 h8 (by omega)
      rcases hB : Ax.pAtoms toks toks.length (j1 + 1) [] with ⟨_ | b, j2⟩
      · rw [Ax.pRule_1 hA h8 hB] at hR
        simp only [Prod.mk.injEq, true_and] at hR
        subst hR
        exact rule_1 w pb tv toks nx h j1 a hA _ ht1 (by rw [hk1] at h8; simpa using h8) j2 hB
      · have hj2 := Ax.pAtoms_lt hends _ _ _ hn hB
        have ht2 : toks[j2]? = some toks[j2] := List.getElem?_eq_getElem hj2
        have hk2 := Ax.kindAt_of ht2
        by_cases h7 : Ax.kindAt toks j2 = 7
        · rw [Ax.pRule_3 hA h8 hB h7] at hR; simp at hR
        · rw [Ax.pRule_2 hA h8 hB h7] at hR
          simp only [Prod.mk.injEq, true_and] at hR
          subst hR
          exact rule_2 w pb tv toks nx h j1 a hA _ ht1 (by rw [hk1] at h8; simpa using h8) j2 b hB _ ht2 (by rw [hk2] at h7; simpa using h7)
    · by_cases h7 : Ax.kindAt toks j1 = 7
      · rw [Ax.pRule_5 hA h8 h7] at hR; simp at hR
      · rw [Ax.pRule_4 hA h8 h7] at hR
        simp only [Prod.mk.injEq, true_and] at hR
        subst hR
        exact rule_4 w pb tv toks nx h j1 a hA _ ht1 (by rw [hk1] at h8; simpa using h8) (by rw [hk1] at h7; simpa using h7)
def ruleCells (l : List MR) : List Value := l.flatMap fun r => [.int .i64 r.head.1.at_, .string r.head.1.pred, r.head.2, r.bv]
theorem ruleCells_snoc (l : List MR) (r : MR) : ruleCells (l ++ [r]) = ruleCells l ++ [.int .i64 r.head.1.at_, .string r.head.1.pred, r.head.2, r.bv] := by simp [ruleCells]
theorem Tryz.infoRule : (Tryz.prog.info? 222).map (fun i => (i.zero, i.size, i.bytes)) = some (some (.agg #[.int .i64 0, .string ByteArray.empty, .slice none 0 0, .slice none 0 0]), 4, 72) := by kernel_rfl
def mrs (w : World) (l : List MR) : Prop := ∀ r, r ∈ l → MR.ok w r
theorem mrs_nil (w : World) : mrs w [] := fun _ h => by cases h
theorem mrs_below {w w' : World} {l : List MR} (h : mrs w l) (hb : Below w.heap.size w w') : mrs w' l := fun x hx => MR.below (h x hx) hb
theorem mrs_step {w w' : World} {l : List MR} {pb : Nat} {tv : Value} {toks : List Ax.Tok} {nx : Nat} (h : mrs w l) (hp : PAt w pb tv toks nx) (hg : w.grownBy w' (some pb)) : mrs w' l := fun x hx => MR.step (h x hx) hp hg
theorem mrs_snoc {w : World} {l : List MR} {x : MR} (h : mrs w l) (hx : MR.ok w x) : mrs w (l ++ [x]) := by
  intro y hy
  rcases List.mem_append.1 hy with hy | hy
  · exact h y hy
  · simp at hy; subst hy; exact hx
theorem rules_world {w w1 w2 : World} {pb : Nat} {tv v : Value} {toks : List Ax.Tok} {nx n : Nat} {xs : List Value} {o1 o2 : Obj} {l : List MR} {x : MR} (hown1 : w1.ownsRow w.heap.size 222 4 v n xs) (hp1 : PAt w1 pb tv toks nx) (hg : w.grownBy w1 (some pb)) (hok : mrs w1 l) (hx : MR.ok w1 x)
    (hgrow : ((w1.alloc o1).alloc o2).grownBy w2 v.ownBlock) : PAt w2 pb tv toks nx ∧ w.grownBy w2 (some pb) ∧ mrs w2 (l ++ [x]) :=
  ⟨((hp1.alloc o1).alloc o2).row hgrow (ownsRow_kind ((hown1.alloc o1).alloc o2)) (by decide) (by decide),
   grownBy_new (grownBy_alloc (grownBy_alloc hg _) _) hgrow (fun k hk => (hown1.lt k hk).1),
   fun y hy => MR.type (w := (w1.alloc o1).alloc o2) (MR.below (mrs_snoc hok hx y hy) (((Below.refl _ _).alloc (Nat.le_refl _) _).alloc (by simp) _)) hgrow (ownsRow_kind ((hown1.alloc o1).alloc o2)) (by decide) (by decide)⟩
def RulesRel (w wr : World) (pb : Nat) (tv : Value) (toks : List Ax.Tok) (v : Value) (nx k : Nat) (acc : List MR) (R : Option (List Ax.Rule) × Nat) : Prop :=
  PAt wr pb tv toks nx ∧ wr.ownsRow w.heap.size 222 4 v acc.length (ruleCells acc) ∧ mrs wr acc ∧ w.grownBy wr (some pb) ∧ acc.length ≤ nx ∧ toks.length ≤ nx + k ∧ Ax.pRules toks k nx (acc.map MR.rule) = R
set_option maxHeartbeats 2000000 in
theorem rules_any (w : World) (pb : Nat) (tv : Value) (toks : List Ax.Tok) (nx : Nat) (h : PAt w pb tv toks nx) :
    Calls Tryz.prog 104 #[.pointer (some ⟨pb, 0, none⟩)] w fun e w' => PAt w' pb tv toks (Ax.pRules toks toks.length nx []).2 ∧ w.grownBy w' (some pb) ∧
      ((∃ v l, e = .returned (.tuple #[v, .bool true]) ∧ (Ax.pRules toks toks.length nx []).1 = some (l.map MR.rule) ∧ w'.ownsRow w.heap.size 222 4 v l.length (ruleCells l) ∧ mrs w' l) ∨
       (e = .returned (.tuple #[.slice none 0 0, .bool false]) ∧ (Ax.pRules toks toks.length nx []).1 = none)) := by
  obtain ⟨i0, hi, hz0, hz1, hz2⟩ := info_parts Tryz.infoRule
  generalize hR : Ax.pRules toks toks.length nx [] = R
  have hpb := lt_of_heap h.1
  have hfd := Tryz.fieldTok0
  go_enter Tryz.func104, Tryz.ntmps104
  go_wp2_with fail
  go_loopg [4] toks.length (fun k v wr => ∃ (i : Nat) (acc : List MR), RulesRel w wr pb tv toks v i k acc R)
  case atStart => exact ⟨nx, [], h, World.ownsRow_nil _ _ _ _, mrs_nil _, grownBy_refl _ _, Nat.zero_le _, by omega, hR⟩
  case round =>
    obtain ⟨i, acc, hp, hown, hok, hg, hal, hlen, hr⟩ := hrel
    have hlt := hp.2.2.1
    have hle := hp.2.2.2.1
    have hends := hp.2.2.2.2
    have hsz := hg.size
    cases gk with
    | zero => omega
    | succ k =>
    have hr' : Hid (Ax.pRules toks (k + 1) i (acc.map MR.rule) = R) := hr
    clear hr hR
    obtain ⟨t, ht0⟩ : ∃ t, toks[i]? = some t := ⟨_, List.getElem?_eq_getElem hlt⟩
    have hka := Ax.kindAt_of ht0
    have ht : Hid (toks[i]? = some t) := ht0
    clear ht0
    by_cases h1 : t.kind = 1
    · have e : Hid (R = (some (acc.map MR.rule), i)) := hr'.out.symm.trans (Ax.pRules_end (by rw [hka]; exact h1))
      have hne : (t.kind != 1) = false := by simp [h1]
      clear h1 hka
      go_wp2_with (first | (go_at_call 105; refine (peek_any _ _ _ _ _ hp _ ht).mono ?_; rintro e w0 ⟨rfl, hb0⟩; have hp0 := hp.below hb0; have hown0 := ownsRow_below hown hb0; have hok0 := mrs_below hok hb0; have hg0 := grownBy_trans hg (grownBy_of_below hb0 (some pb))))
      go_ret2
      exact ⟨by rw [e.out]; exact hp0, hg0, .inl ⟨_, acc, rfl, by rw [e.out], hown0, hok0⟩⟩
    · have hk1 : Hid (¬ Ax.kindAt toks i = 1) := by rw [hka]; exact h1
      have hne : (t.kind != 1) = true := by simp [h1]
      clear h1 hka
      rcases hA0 : Ax.pRule toks i with ⟨_ | r, j⟩
      · have hA : Hid (Ax.pRule toks i = (none, j)) := hA0
        clear hA0
        go_wp2_with (first | (go_at_call 105; refine (peek_any _ _ _ _ _ hp _ ht).mono ?_; rintro e w0 ⟨rfl, hb0⟩; have hp0 := hp.below hb0; have hown0 := ownsRow_below hown hb0; have hok0 := mrs_below hok hb0; have hg0 := grownBy_trans hg (grownBy_of_below hb0 (some pb))) | (go_at_call 179; refine (rule_none _ _ _ _ _ _ hp0 hA).mono ?_; rintro e w1 ⟨x, y, ad, n, c, bd, m, d, rfl, hp1, hg1⟩))
        go_ret2
        have e := hr'.out.symm.trans (Ax.pRules_none hk1.out hA.out)
        exact ⟨by rw [e]; exact hp1.alloc _, grownBy_alloc (grownBy_trans hg0 hg1) _, .inr ⟨rfl, by rw [e]⟩⟩
      · have hA : Hid (Ax.pRule toks i = (some r, j)) := hA0
        have hj := (Ax.pRule_lt hends hlt hA0).1
        have hij := (Ax.pRule_lt hends hlt hA0).2 (by simp)
        clear hA0
        have hon : Hid (Ax.pRules toks (k + 1) i (acc.map MR.rule) = Ax.pRules toks k j (acc.map MR.rule ++ [r])) := Ax.pRules_on hk1.out hA.out
        go_wp2_with (first | (go_at_call 105; refine (peek_any _ _ _ _ _ hp _ ht).mono ?_; rintro e w0 ⟨rfl, hb0⟩; have hp0 := hp.below hb0; have hown0 := ownsRow_below hown hb0; have hok0 := mrs_below hok hb0; have hg0 := grownBy_trans hg (grownBy_of_below hb0 (some pb))) | (go_at_call 179; refine (rule_some _ _ _ _ _ _ _ hp0 hA).mono ?_; rintro e w1 ⟨ad, n, c, bd, m, d, l, rfl, hp1, hg1, hmr, hl⟩; have hown1 := ownsRow_step hown0 hp0 hg1 (by decide); have hs1 := (grownBy_trans hg0 hg1).size; have hok1 := mrs_step hok0 hp0 hg1) | (at_builtin; refine wpList_append_own _ rfl (.tmp 18) (.tmp 20) 99 rfl w.heap.size 222 i0 _ 4 72 Tryz.underlying99 hi hz0 hz1 hz2 rfl (by decide) _ _ _ rfl ((hown1.alloc _).alloc _) ⟨w1.heap.size + 1, 0, none⟩ 1 1 [.int .i64 r.head.at_, .string r.head.pred, .slice ad n c, .slice bd m d] rfl rfl (new_cells2 _ _ _ _) (by simp [Value.oneCell']) (by unfold maxLen; omega) (by omega) (by simp; omega) ?_; intro v2 w2 hown2 hgrow _; obtain ⟨hp2, hg2, hok2⟩ := rules_world hown1 hp1 (grownBy_trans hg0 hg1) hok1 hmr hgrow; clear hgrow hown1 hp1 hok1 hmr))
        go_roundg k
        case measure => omega
        case rel =>
          refine ⟨j, acc ++ [⟨(r.head, .slice ad n c), .slice bd m d, l⟩], hp2, ?_, hok2, hg2, by simp; omega, by omega, ?_⟩
          · rw [ruleCells_snoc]; simpa using hown2
          · rw [List.map_append]
            have e : MR.rule ⟨(r.head, .slice ad n c), .slice bd m d, l⟩ = r := by simp only [MR.rule]; rw [hl.out]
            rw [List.map_singleton, e]
            exact hon.out.symm.trans hr'.out
end Go.Proofs.YtdmicblafmhflaaGreatDoor

/- slices.Index, slices.Contains at strings and at terms. -/
namespace Go.Proofs.YtdmicblafmhflaaGreatDoor
set_option linter.unusedSimpArgs false
set_option linter.unusedVariables false
open Go.RowKit
/-- the cells of a slice that has an element -/
theorem row_cells {w : World} {b : Nat} {e : TypeId} {size : Nat} {ad : Option Addr} {n c : Nat} {xs : List Value} (h : w.ownsRow b e size (.slice ad n c) n xs) (hn : 0 < n) :
    ∃ g, ad = some ⟨g, 0, none⟩ ∧ g < w.heap.size ∧ n ≤ c ∧ ∀ j u, xs[j]? = some u → w.cell? ⟨g, j, none⟩ = some u := by
  have hcs := fun g hg => World.ownsRow.cells h (g := g) hg
  rcases h.2 with ⟨e1, e2⟩ | ⟨g, cap, cur, e1, _, hg, hc, _⟩
  · omega
  · simp only [Value.slice.injEq] at e1
    obtain ⟨rfl, _, rfl⟩ := e1
    refine ⟨g, rfl, lt_of_heap hg, hc, ?_⟩
    intro j u hu
    have := hcs g rfl j u hu
    have hadd : (⟨g, 0, none⟩ : Addr).add j = ⟨g, j, none⟩ := by unfold Addr.add; split <;> simp_all
    rw [hadd] at this
    exact this
theorem ownsRow_le {w : World} {b : Nat} {e : TypeId} {size : Nat} {v : Value} {n : Nat} {xs : List Value} (h : w.ownsRow b e size v n xs) : n ≤ 9223372036854775807 := by
  rcases h.2 with ⟨_, rfl⟩ | ⟨g, cap, cur, _, _, _, h1, h2, _⟩
  · omega
  · unfold maxLen at h2; omega
def strCells (l : List ByteArray) : List Value := l.map .string
theorem strCells_get (l : List ByteArray) (k : Nat) (h : k < l.length) : (strCells l)[k]? = some (.string l[k]) := by simp [strCells, h]
theorem beq_bytes (a b : ByteArray) : (a.toList == b.toList) = decide (a = b) := by
  rw [toList_eq, toList_eq, Bool.eq_iff_iff]
  rcases a with ⟨⟨a⟩⟩
  rcases b with ⟨⟨b⟩⟩
  simp
set_option maxHeartbeats 1000000 in
theorem indexStr_any (w : World) (b : Nat) (ad : Option Addr) (c : Nat) (l : List ByteArray) (v : ByteArray) (h : w.ownsRow b 9 1 (.slice ad l.length c) l.length (strCells l)) :
    Calls Tryz.prog 261 #[.slice ad l.length c, .string v] w fun e w' => ∃ i : Int, e = .returned (.int .i64 i) ∧ (0 ≤ i ↔ v ∈ l) ∧ w' = w := by
  have hle := ownsRow_le h
  go_enter Tryz.func261, Tryz.ntmps261
  go_wp2_with fail
  go_loop [8] (fun i => ∃ k : Nat, k ≤ l.length ∧ i = .int .i64 k ∧ ∀ j (hj : j < l.length), j < k → v ≠ l[j]) (fun i => l.length - (intOf i).toNat)
  case atStart => exact ⟨0, Nat.zero_le _, rfl, fun j _ hj => by omega⟩
  case round =>
    obtain ⟨k, hk, rfl, hno⟩ := hrel
    have HNO : Hid (∀ j (hj : j < l.length), j < k → v ≠ l[j]) := hno
    clear hno
    by_cases hlt : k < l.length
    · obtain ⟨g, rfl, hg, hc, hcs⟩ := row_cells h (by omega)
      have hcell := hcs _ _ (strCells_get l k hlt)
      clear hcs
      generalize hx : l[k] = x at hcell
      have HX : Hid (l[k] = x) := hx
      clear hx
      by_cases hv : v = x
      · have hb : (v.toList == x.toList) = true := by rw [beq_bytes]; simp [hv]
        have HV : Hid (v = x) := hv
        clear hv
        go_wp2_with fail
        go_ret
        refine ⟨k, rfl, ⟨fun _ => ?_, fun _ => by omega⟩, rfl⟩
        rw [HV.out, ← HX.out]
        exact List.getElem_mem hlt
      · have hb : (v.toList == x.toList) = false := by rw [beq_bytes]; simp [hv]
        have HV : Hid (¬ v = x) := hv
        clear hv
        go_wp2_with fail
        go_round
        case rel =>
          refine ⟨k + 1, by omega, by go_num, fun j hj hjk => ?_⟩
          by_cases e : j = k
          · subst e; rw [HX.out]; exact HV.out
          · exact HNO.out j hj (by omega)
        case measure => simp [intOf]; omega
    · go_wp2_with fail
      go_ret
      refine ⟨-1, rfl, ⟨fun h => by omega, fun hm => ?_⟩, rfl⟩
      obtain ⟨j, hj, e⟩ := List.getElem_of_mem hm
      exact absurd e.symm (HNO.out j hj (by omega))
set_option maxHeartbeats 1000000 in
theorem containsStr_any (w : World) (b : Nat) (ad : Option Addr) (c : Nat) (l : List ByteArray) (v : ByteArray) (h : w.ownsRow b 9 1 (.slice ad l.length c) l.length (strCells l)) :
    Calls Tryz.prog 225 #[.slice ad l.length c, .string v] w fun e w' => e = .returned (.bool (Ax.has l v)) ∧ w' = w := by
  have hle := ownsRow_le h
  go_enter Tryz.func225, Tryz.ntmps225
  go_wp2_with (go_at_call 261; refine (indexStr_any _ _ _ _ _ _ h).mono ?_; rintro e w' ⟨i, rfl, hi, rfl⟩; have HI : Hid (0 ≤ i ↔ v ∈ l) := hi; clear hi)
  go_ret
  exact ⟨ret_bool (by rw [Bool.eq_iff_iff]; rw [Ax.has_iff]; simp; exact HI.out), rfl⟩
end Go.Proofs.YtdmicblafmhflaaGreatDoor

/- slices.Index, slices.Contains at terms. -/
namespace Go.Proofs.YtdmicblafmhflaaGreatDoor
set_option linter.unusedSimpArgs false
set_option linter.unusedVariables false
open Go.RowKit
theorem termCells_get (l : List Ax.Term) (k : Nat) (h : k < l.length) :
    (termCells l)[k * 2]? = some (.int .i64 l[k].kind) ∧ (termCells l)[k * 2 + 1]? = some (.string l[k].text) := by
  induction l generalizing k with
  | nil => simp at h
  | cons a l ih =>
    cases k with
    | zero => simp [termCells]
    | succ k =>
      have := ih k (by simpa using h)
      have e : ∀ j, (termCells (a :: l))[(k + 1) * 2 + j]? = (termCells l)[k * 2 + j]? := by
        intro j
        have : termCells (a :: l) = [.int .i64 a.kind, .string a.text] ++ termCells l := by simp [termCells]
        rw [this, List.getElem?_append_right (by simp; omega)]
        congr 1
        simp; omega
      have e0 := e 0
      simp only [Nat.add_zero] at e0
      rw [e0, e 1]
      simpa using this
theorem below_draws (w : World) (o : Obj) (n : Nat) : Below w.heap.size w ((w.alloc o).drewN n) :=
  ((Below.refl _ _).alloc (Nat.le_refl _) _).trans ⟨rfl, rfl, rfl, Nat.le_refl _, fun _ _ => rfl⟩
theorem Tryz.fieldsTerm : (Tryz.prog.fieldsOf 310).toList = [{ name := "Kind", type := 308, offset := 0, embedded := false, tag := "", pkgPath := "", byteOffset := 0 }, { name := "Text", type := 9, offset := 1, embedded := false, tag := "", pkgPath := "", byteOffset := 8 }] := by kernel_rfl
theorem Tryz.structTerm : Tryz.prog.underlying 310 = some (.struct (Tryz.prog.fieldsOf 310)) := by kernel_rfl
theorem Tryz.heldTerm : Tryz.prog.stoodInHeld 310 = false := by kernel_rfl
theorem Tryz.guardTerm : Tryz.prog.eqGuardType Tryz.prog.depth 310 = false := by kernel_rfl
/-- two terms by == -/
theorem run_eql_term (a b : Int) (s t : ByteArray) (w : World) : (binOp .eql 310 (.agg #[.int .i64 a, .string s]) (.agg #[.int .i64 b, .string t])).run Tryz.prog w = .ok (.bool (Ax.Term.beq ⟨a, s⟩ ⟨b, t⟩)) w := by
  have h99 : Tryz.prog.underlying 308 = some (.int .i64) := Tryz.underlying308
  have h9 : Tryz.prog.underlying 9 = some .string := Tryz.underlying9
  rw [run_eql_struct, run_equalIn_struct w 9999 310 _ _ Tryz.structTerm Tryz.heldTerm, Tryz.fieldsTerm]
  simp only [Op.eqFields, part, isAgg, run_underlying h99, run_underlying h9, Ax.Term.beq, ← beq_bytes]
  simp [part, isAgg, run_underlying h99, run_underlying h9, run_equalIn_int w 9998 308 .i64 .i64 a b h99, run_equalIn_string w 9998 9 s t h9]
  by_cases h1 : a = b <;> by_cases h2 : s.toList = t.toList <;> simp [h1, h2]
set_option maxHeartbeats 1000000 in
theorem indexTerm_any (w : World) (b : Nat) (ad : Option Addr) (c : Nat) (l : List Ax.Term) (v : Ax.Term) (h : w.ownsRow b 310 2 (.slice ad l.length c) l.length (termCells l)) :
    Calls Tryz.prog 262 #[.slice ad l.length c, .agg #[.int .i64 v.kind, .string v.text]] w fun e w' => ∃ i : Int, e = .returned (.int .i64 i) ∧ (0 ≤ i ↔ v ∈ l) ∧ Below w.heap.size w w' := by
  have hle := ownsRow_le h
  go_enter Tryz.func262, Tryz.ntmps262
  go_wp2_with fail
  go_loopw [8] (fun i wr => ∃ k m : Nat, k ≤ l.length ∧ i = .int .i64 k ∧ wr = (w.alloc (.cells #[.int .i64 v.kind, .string v.text] 310)).drewN m ∧ ∀ j (hj : j < l.length), j < k → v ≠ l[j]) (fun i _ => l.length - (intOf i).toNat)
  case atStart => exact ⟨0, 0, Nat.zero_le _, rfl, rfl, fun j _ hj => by omega⟩
  case round =>
    obtain ⟨k, m, hk, rfl, rfl, hno⟩ := hrel
    have HNO : Hid (∀ j (hj : j < l.length), j < k → v ≠ l[j]) := hno
    clear hno
    by_cases hlt : k < l.length
    · obtain ⟨g, rfl, hg, hc, hcs⟩ := row_cells h (by omega)
      have hcell0 := hcs _ _ (termCells_get l k hlt).1
      have hcell1 := hcs _ _ (termCells_get l k hlt).2
      clear hcs
      generalize hx : l[k] = x at hcell0 hcell1
      have HX : Hid (l[k] = x) := hx
      clear hx
      have heq := run_eql_term
      have hgd : ∀ (op : BinOp) (x y : Operand) (xs ys : Array Value) (w : World), (eqGuard op 310 x y (.agg xs) (.agg ys)).run Tryz.prog w = .ok () w := fun op x y xs ys w => run_eqGuard_agg w op 310 x y xs ys Tryz.guardTerm
      cases hv : Ax.Term.beq ⟨v.kind, v.text⟩ ⟨x.kind, x.text⟩
      case true =>
        have HV : Hid (v = x) := (Ax.Term.beq_iff _ _).1 hv
        go_wp2_with fail
        go_quiet (fail)
        go_wp2_with fail
        go_ret
        refine ⟨k, rfl, ⟨fun _ => ?_, fun _ => by omega⟩, by rw [World.drewN_drewN]; exact below_draws _ _ _⟩
        have hm : l[k] ∈ l := List.getElem_mem hlt
        rw [HX.out] at hm
        rw [HV.out]
        exact hm
      case false =>
        have HV : Hid (¬ v = x) := fun e => by rw [(Ax.Term.beq_iff _ _).2 e] at hv; cases hv
        go_wp2_with fail
        go_quiet (fail)
        go_wp2_with fail
        go_roundw
        case rel =>
          refine ⟨k + 1, _, by omega, by go_num, rfl, fun j hj hjk => ?_⟩
          by_cases e : j = k
          · subst e; rw [HX.out]; exact HV.out
          · exact HNO.out j hj (by omega)
        case measure => simp [intOf]; omega
    · go_wp2_with fail
      go_ret
      refine ⟨-1, rfl, ⟨fun h => by omega, fun hm => ?_⟩, below_draws _ _ _⟩
      obtain ⟨j, hj, e⟩ := List.getElem_of_mem hm
      exact absurd e.symm (HNO.out j hj (by omega))
set_option maxHeartbeats 1000000 in
theorem containsTerm_any (w : World) (b : Nat) (ad : Option Addr) (c : Nat) (l : List Ax.Term) (v : Ax.Term) (h : w.ownsRow b 310 2 (.slice ad l.length c) l.length (termCells l)) :
    Calls Tryz.prog 228 #[.slice ad l.length c, .agg #[.int .i64 v.kind, .string v.text]] w fun e w' => e = .returned (.bool (Ax.hasTerm l v)) ∧ Below w.heap.size w w' := by
  have hle := ownsRow_le h
  go_enter Tryz.func228, Tryz.ntmps228
  go_wp2_with (go_at_call 262; refine (indexTerm_any _ _ _ _ _ _ (h.alloc _)).mono ?_; rintro e w' ⟨i, rfl, hi, hb1⟩; have HI : Hid (0 ≤ i ↔ v ∈ l) := hi; clear hi)
  go_ret
  refine ⟨ret_bool (by rw [Bool.eq_iff_iff, Ax.hasTerm_iff]; simp; exact HI.out), ?_⟩
  exact ((Below.refl _ _).alloc (Nat.le_refl _) _).trans (hb1.mono (by simp))
end Go.Proofs.YtdmicblafmhflaaGreatDoor

/- isWide, bodyHas's closure; slices.IndexFunc, slices.ContainsFunc with each. -/
namespace Go.Proofs.YtdmicblafmhflaaGreatDoor
set_option linter.unusedSimpArgs false
set_option linter.unusedVariables false
open Go.RowKit
theorem atomCells_get (l : List MA) (k : Nat) (h : k < l.length) :
    (atomCells l)[k * 3]? = some (.int .i64 (l[k]).1.at_) ∧ (atomCells l)[k * 3 + 1]? = some (.string (l[k]).1.pred) ∧ (atomCells l)[k * 3 + 2]? = some (l[k]).2 := by
  induction l generalizing k with
  | nil => simp at h
  | cons a l ih =>
    cases k with
    | zero => simp [atomCells]
    | succ k =>
      have := ih k (by simpa using h)
      have e : ∀ j, (atomCells (a :: l))[(k + 1) * 3 + j]? = (atomCells l)[k * 3 + j]? := by
        intro j
        have : atomCells (a :: l) = [.int .i64 a.1.at_, .string a.1.pred, a.2] ++ atomCells l := by simp [atomCells]
        rw [this, List.getElem?_append_right (by simp; omega)]
        congr 1
        simp; omega
      have e0 := e 0
      simp only [Nat.add_zero] at e0
      rw [e0, e 1, e 2]
      simpa using this
set_option maxHeartbeats 400000 in
theorem isWide_any (w : World) (a : Ax.Atom) (ad : Option Addr) (c : Nat) (hn : a.terms.length ≤ 9223372036854775807) :
    Calls Tryz.prog 182 #[.agg #[.int .i64 a.at_, .string a.pred, .slice ad a.terms.length c]] w fun e w' => e = .returned (.bool (Ax.wide a)) ∧ Below w.heap.size w w' := by
  go_enter Tryz.func182, Tryz.ntmps182
  go_wp2_with fail
  go_ret
  exact ⟨ret_bool (by unfold Ax.wide; rw [Bool.eq_iff_iff]; simp; omega), (Below.refl _ _).alloc (Nat.le_refl _) _⟩
set_option maxHeartbeats 400000 in
theorem bodyHas1_any (w : World) (x : Int) (y : ByteArray) (b : Nat) (ad : Option Addr) (c : Nat) (l : List Ax.Term) (t : Ax.Term) (tb : Nat) (h : w.ownsRow b 310 2 (.slice ad l.length c) l.length (termCells l))
    (ht : w.heap[tb]? = some (.cells #[.int .i64 t.kind, .string t.text] 310 (0, 0))) :
    Calls Tryz.prog 227 #[.agg #[.int .i64 x, .string y, .slice ad l.length c], .pointer (some ⟨tb, 0, none⟩)] w fun e w' => e = .returned (.bool (Ax.hasTerm l t)) ∧ Below w.heap.size w w' := by
  have k0 := cell_at ht 0
  have k1 := cell_at ht 1
  have hlt := lt_of_heap ht
  simp only [List.getElem?_toArray, List.getElem?_cons_zero, List.getElem?_cons_succ] at k0 k1
  have hle := ownsRow_le h
  go_enter Tryz.func227, Tryz.ntmps227
  go_wp2_with (go_at_call 228; refine (containsTerm_any _ _ _ _ _ t (h.alloc _)).mono ?_; rintro e w' ⟨rfl, hb1⟩)
  go_ret
  exact ⟨rfl, ((Below.refl _ _).alloc (Nat.le_refl _) _).trans (hb1.mono (by simp))⟩
set_option maxHeartbeats 1000000 in
theorem indexWide_any (w : World) (b : Nat) (ad : Option Addr) (c : Nat) (l : List MA) (h : w.ownsRow b 219 3 (.slice ad l.length c) l.length (atomCells l)) (hok : oks w l) :
    Calls Tryz.prog 226 #[.slice ad l.length c, .func (Fn.func 182) #[] #[]] w fun e w' => ∃ i : Int, e = .returned (.int .i64 i) ∧ (0 ≤ i ↔ ∃ x, x ∈ l ∧ Ax.wide x.1 = true) ∧ Below w.heap.size w w' := by
  have hle := ownsRow_le h
  go_enter Tryz.func226, Tryz.ntmps226
  go_wp2_with fail
  go_loopw [8] (fun i wr => ∃ k : Nat, k ≤ l.length ∧ i = .int .i64 k ∧ Below w.heap.size w wr ∧ ∀ j (hj : j < l.length), j < k → Ax.wide (l[j]).1 = false) (fun i _ => l.length - (intOf i).toNat)
  case atStart => exact ⟨0, Nat.zero_le _, rfl, Below.refl _ _, fun j _ hj => by omega⟩
  case round =>
    obtain ⟨k, hk, rfl, hbel, hno⟩ := hrel
    have HNO : Hid (∀ j (hj : j < l.length), j < k → Ax.wide (l[j]).1 = false) := hno
    clear hno
    by_cases hlt : k < l.length
    · have hrow := ownsRow_below h hbel
      obtain ⟨g, rfl, hg, hc, hcs⟩ := row_cells hrow (by omega)
      have hcell0 := hcs _ _ (atomCells_get l k hlt).1
      have hcell1 := hcs _ _ (atomCells_get l k hlt).2.1
      have hcell2 := hcs _ _ (atomCells_get l k hlt).2.2
      have hxk : MA.ok wr l[k] := oks_below hok hbel _ (List.getElem_mem hlt)
      obtain ⟨ad', c', hsh⟩ := ownsRow_shape hxk
      unfold MA.ok at hxk
      rw [hsh] at hcell2 hxk
      generalize ha : (l[k]).1 = a at hcell0 hcell1 hcell2 hxk
      have HA : Hid ((l[k]).1 = a) := ha
      clear ha hsh hcs hrow
      have hnk := ownsRow_le hxk
      cases hv : Ax.wide a
      case true =>
        go_wp2_with (go_at_call 182; refine (isWide_any _ _ _ _ hnk).mono ?_; rintro e w1 ⟨rfl, hb1⟩)
        go_ret
        refine ⟨k, rfl, ⟨fun _ => ⟨l[k], List.getElem_mem hlt, by rw [HA.out]; exact hv⟩, fun _ => by omega⟩, hbel.trans (hb1.mono hbel.size)⟩
      case false =>
        go_wp2_with (go_at_call 182; refine (isWide_any _ _ _ _ hnk).mono ?_; rintro e w1 ⟨rfl, hb1⟩)
        go_roundw
        case rel =>
          refine ⟨k + 1, by omega, by go_num, hbel.trans (hb1.mono hbel.size), fun j hj hjk => ?_⟩
          by_cases e : j = k
          · subst e; rw [HA.out]; exact hv
          · exact HNO.out j hj (by omega)
        case measure => simp [intOf]; omega
    · go_wp2_with fail
      go_ret
      refine ⟨-1, rfl, ⟨fun h => by omega, fun hm => ?_⟩, hbel⟩
      obtain ⟨x, hx, hp⟩ := hm
      obtain ⟨j, hj, e⟩ := List.getElem_of_mem hx
      have := HNO.out j hj (by omega)
      rw [e, hp] at this
      cases this
set_option maxHeartbeats 1000000 in
theorem containsWide_any (w : World) (b : Nat) (ad : Option Addr) (c : Nat) (l : List MA) (h : w.ownsRow b 219 3 (.slice ad l.length c) l.length (atomCells l)) (hok : oks w l) :
    Calls Tryz.prog 181 #[.slice ad l.length c, .func (Fn.func 182) #[] #[]] w fun e w' => e = .returned (.bool (Ax.anyWide (l.map Prod.fst))) ∧ Below w.heap.size w w' := by
  have hle := ownsRow_le h
  go_enter Tryz.func181, Tryz.ntmps181
  go_wp2_with (go_at_call 226; refine (indexWide_any _ _ _ _ _ h hok).mono ?_; rintro e w' ⟨i, rfl, hi, hb1⟩; have HI : Hid (0 ≤ i ↔ ∃ x, x ∈ l ∧ Ax.wide x.1 = true) := hi; clear hi)
  go_ret
  refine ⟨ret_bool ?_, hb1⟩
  unfold Ax.anyWide
  rw [Bool.eq_iff_iff, List.any_eq_true]
  simp only [decide_eq_true_eq, List.mem_map]
  rw [HI.out]
  constructor
  · rintro ⟨x, hx, hp⟩; exact ⟨x.1, ⟨x, hx, rfl⟩, hp⟩
  · rintro ⟨_, ⟨x, hx, rfl⟩, hp⟩; exact ⟨x, hx, hp⟩
set_option maxHeartbeats 1000000 in
theorem indexHas_any (w : World) (b : Nat) (ad : Option Addr) (c : Nat) (l : List MA) (h : w.ownsRow b 219 3 (.slice ad l.length c) l.length (atomCells l)) (hok : oks w l) (t : Ax.Term) (tb : Nat) (ht : w.heap[tb]? = some (.cells #[.int .i64 t.kind, .string t.text] 310 (0, 0))) :
    Calls Tryz.prog 226 #[.slice ad l.length c, .func (Fn.func 227) #[] #[.pointer (some ⟨tb, 0, none⟩)]] w fun e w' => ∃ i : Int, e = .returned (.int .i64 i) ∧ (0 ≤ i ↔ ∃ x, x ∈ l ∧ Ax.hasTerm x.1.terms t = true) ∧ Below w.heap.size w w' := by
  have hle := ownsRow_le h
  go_enter Tryz.func226, Tryz.ntmps226
  go_wp2_with fail
  go_loopw [8] (fun i wr => ∃ k : Nat, k ≤ l.length ∧ i = .int .i64 k ∧ Below w.heap.size w wr ∧ ∀ j (hj : j < l.length), j < k → Ax.hasTerm (l[j]).1.terms t = false) (fun i _ => l.length - (intOf i).toNat)
  case atStart => exact ⟨0, Nat.zero_le _, rfl, Below.refl _ _, fun j _ hj => by omega⟩
  case round =>
    obtain ⟨k, hk, rfl, hbel, hno⟩ := hrel
    have HNO : Hid (∀ j (hj : j < l.length), j < k → Ax.hasTerm (l[j]).1.terms t = false) := hno
    clear hno
    by_cases hlt : k < l.length
    · have hrow := ownsRow_below h hbel
      obtain ⟨g, rfl, hg, hc, hcs⟩ := row_cells hrow (by omega)
      have hcell0 := hcs _ _ (atomCells_get l k hlt).1
      have hcell1 := hcs _ _ (atomCells_get l k hlt).2.1
      have hcell2 := hcs _ _ (atomCells_get l k hlt).2.2
      have hxk : MA.ok wr l[k] := oks_below hok hbel _ (List.getElem_mem hlt)
      obtain ⟨ad', c', hsh⟩ := ownsRow_shape hxk
      unfold MA.ok at hxk
      rw [hsh] at hcell2 hxk
      generalize ha : (l[k]).1 = a at hcell0 hcell1 hcell2 hxk
      have HA : Hid ((l[k]).1 = a) := ha
      clear ha hsh hcs hrow
      have ht' := (hbel.block tb (lt_of_heap ht)).trans ht
      cases hv : Ax.hasTerm a.terms t
      case true =>
        go_wp2_with (go_at_call 227; refine (bodyHas1_any _ _ _ _ _ _ _ t tb hxk ht').mono ?_; rintro e w1 ⟨rfl, hb1⟩)
        go_ret
        refine ⟨k, rfl, ⟨fun _ => ⟨l[k], List.getElem_mem hlt, by rw [HA.out]; exact hv⟩, fun _ => by omega⟩, hbel.trans (hb1.mono hbel.size)⟩
      case false =>
        go_wp2_with (go_at_call 227; refine (bodyHas1_any _ _ _ _ _ _ _ t tb hxk ht').mono ?_; rintro e w1 ⟨rfl, hb1⟩)
        go_roundw
        case rel =>
          refine ⟨k + 1, by omega, by go_num, hbel.trans (hb1.mono hbel.size), fun j hj hjk => ?_⟩
          by_cases e : j = k
          · subst e; rw [HA.out]; exact hv
          · exact HNO.out j hj (by omega)
        case measure => simp [intOf]; omega
    · go_wp2_with fail
      go_ret
      refine ⟨-1, rfl, ⟨fun h => by omega, fun hm => ?_⟩, hbel⟩
      obtain ⟨x, hx, hp⟩ := hm
      obtain ⟨j, hj, e⟩ := List.getElem_of_mem hx
      have := HNO.out j hj (by omega)
      rw [e, hp] at this
      cases this
set_option maxHeartbeats 1000000 in
theorem containsHas_any (w : World) (b : Nat) (ad : Option Addr) (c : Nat) (l : List MA) (h : w.ownsRow b 219 3 (.slice ad l.length c) l.length (atomCells l)) (hok : oks w l) (t : Ax.Term) (tb : Nat) (ht : w.heap[tb]? = some (.cells #[.int .i64 t.kind, .string t.text] 310 (0, 0))) :
    Calls Tryz.prog 181 #[.slice ad l.length c, .func (Fn.func 227) #[] #[.pointer (some ⟨tb, 0, none⟩)]] w fun e w' => e = .returned (.bool (Ax.bodyHas (l.map Prod.fst) t)) ∧ Below w.heap.size w w' := by
  have hle := ownsRow_le h
  go_enter Tryz.func181, Tryz.ntmps181
  go_wp2_with (go_at_call 226; refine (indexHas_any _ _ _ _ _ h hok t tb ht).mono ?_; rintro e w' ⟨i, rfl, hi, hb1⟩; have HI : Hid (0 ≤ i ↔ ∃ x, x ∈ l ∧ Ax.hasTerm x.1.terms t = true) := hi; clear hi)
  go_ret
  refine ⟨ret_bool ?_, hb1⟩
  unfold Ax.bodyHas
  rw [Bool.eq_iff_iff, List.any_eq_true]
  simp only [decide_eq_true_eq, List.mem_map]
  rw [HI.out]
  constructor
  · rintro ⟨x, hx, hp⟩; exact ⟨x.1, ⟨x, hx, rfl⟩, hp⟩
  · rintro ⟨_, ⟨x, hx, rfl⟩, hp⟩; exact ⟨x, hx, hp⟩
end Go.Proofs.YtdmicblafmhflaaGreatDoor
