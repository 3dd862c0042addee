/- The parser: rule, its last region. -/
import Derived.Test.YtdmicblafmhflaaGreatDoorC06
import Derived.Test.YtdmicblafmhflaaGreatDoorC00
import Derived.BigQuiet
import Derived.Deep.QuietTactic
set_option linter.unusedSimpArgs false
set_option linter.unusedVariables false
namespace Go.Proofs.YtdmicblafmhflaaGreatDoor
open Go.RowKit
set_option maxHeartbeats 2000000 in
theorem rule_2 (w : World) (pb : Nat) (tv : Value) (toks : List Ax.Tok) (nx : Nat) (h : PAt w pb tv toks nx) (j : Nat) (a : Ax.Atom) (hA : Hid (Ax.pAtom toks nx = (some a, j))) (t1 : Ax.Tok) (ht1 : Hid (toks[j]? = some t1)) (h8 : (t1.kind == 8) = true) (j2 : Nat) (b : List Ax.Atom) (hB : Hid (Ax.pAtoms toks toks.length (j + 1) [] = (some b, j2))) (t2 : Ax.Tok) (ht2 : Hid (toks[j2]? = some t2)) (h7 : (t2.kind == 7) = false) :
 Calls Tryz.prog 179 #[.pointer (some ⟨pb, 0, none⟩)] w fun e w' => ∃ x y ad n c bd m d, e = .returned (.tuple #[.agg #[.int .i64 x, .string y, .slice ad n c, .slice bd m d], .bool false]) ∧ PAt w' pb tv toks j2 ∧ w.grownBy w' (some pb) := by
 have hpb := lt_of_heap h.1
 go_enter Tryz.func179, Tryz.ntmps179
 go_wp2_with (first | (go_at_call 222; refine (atom_some _ _ _ _ _ _ _ (h.alloc _) hA).mono ?_; rintro e w1 ⟨ad, c, rfl, hp1', hg1, hat1⟩; have hp1 := hp1'.alloc (.cells #[.int .i64 a.at_, .string a.pred, .slice ad a.terms.length c] 219); have hok1 := MA.alloc hat1 (.cells #[.int .i64 a.at_, .string a.pred, .slice ad a.terms.length c] 219)) | (go_at_call_of 223 (Value.int IntKind.i64 8); refine (take_yes _ _ _ _ _ hp1 _ ht1 _ (by decide) h8).mono ?_; rintro e w2 ⟨rfl, hp2, hg2⟩; have hok2 := MA.step hok1 hp1 hg2) | (go_at_call 224; refine (atoms_some _ _ _ _ _ _ _ hp2 hB).mono ?_; rintro e w3 ⟨bd, d, l, rfl, hl, hp3, hg3', hbody, hoks⟩; have hg3 := grownBy_trans hg2 hg3'; have hok3 := MA.step hok2 hp2 hg3'; obtain ⟨t3, r3, gw3, lt13, lt23⟩ := rule_world h hg1 hg3; have f03 := frozen_at r3 0; have f13 := frozen_at r3 1; have f23 := frozen_at r3 2; have f33 := frozen_at r3 3; have k03 := cell_at r3 0; have k13 := cell_at r3 1; have k23 := cell_at r3 2; have k33 := cell_at r3 3; have c03 := cell_at t3 0; have c13 := cell_at t3 1; have c23 := cell_at t3 2; simp only [List.getElem?_toArray, List.getElem?_cons_zero, List.getElem?_cons_succ] at c03 c13 c23 k03 k13 k23 k33))
 go_region_with (go_at_call 223; refine (take_no _ pb tv toks j2 (by exact hp3) _ ht2 _ h7).mono ?_; rintro e w4 ⟨rfl, hb4⟩; have hp4 := PAt.below (by exact hp3) hb4; have hg4 := grownBy_trans (grownBy_drew hg3) (grownBy_of_below hb4 (some pb)); obtain ⟨t4, r4, gw4, lt14, lt24⟩ := rule_world h hg1 hg4; have f04 := frozen_at r4 0; have f14 := frozen_at r4 1; have f24 := frozen_at r4 2; have f34 := frozen_at r4 3; have k04 := cell_at r4 0; have k14 := cell_at r4 1; have k24 := cell_at r4 2; have k34 := cell_at r4 3; have c04 := cell_at t4 0; have c14 := cell_at t4 1; have c24 := cell_at t4 2; simp only [List.getElem?_toArray, List.getElem?_cons_zero, List.getElem?_cons_succ] at c04 c14 c24 k04 k14 k24 k34)
 all_goals (go_wp2_with fail)
 all_goals (obtain ⟨hu, gu, pu⟩ := four_stores r4 (.int .i64 a.at_) (.string a.pred) (.slice ad a.terms.length c) (.slice bd l.length d) gw4 hp4 (Nat.le_refl _))
 all_goals (exact bodyPost_ret (v := .tuple #[.agg #[.int .i64 a.at_, .string a.pred, .slice ad a.terms.length c, .slice bd l.length d], .bool false]) (by simp [results, Tryz.results179, go_sem, cell_at hu]) rfl ⟨_, _, _, _, _, _, _, _, rfl, pu, gu⟩)
set_option maxHeartbeats 2000000 in
theorem rule_3 (w : World) (pb : Nat) (tv : Value) (toks : List Ax.Tok) (nx : Nat) (h : PAt w pb tv toks nx) (j : Nat) (a : Ax.Atom) (hA : Hid (Ax.pAtom toks nx = (some a, j))) (t1 : Ax.Tok) (ht1 : Hid (toks[j]? = some t1)) (h8 : (t1.kind == 8) = true) (j2 : Nat) (b : List Ax.Atom) (hB : Hid (Ax.pAtoms toks toks.length (j + 1) [] = (some b, j2))) (t2 : Ax.Tok) (ht2 : Hid (toks[j2]? = some t2)) (h7 : (t2.kind == 7) = true) :
 Calls Tryz.prog 179 #[.pointer (some ⟨pb, 0, none⟩)] w fun e w' => ∃ ad c bd d l, e = .returned (.tuple #[.agg #[.int .i64 a.at_, .string a.pred, .slice ad a.terms.length c, .slice bd (List.length l) d], .bool true]) ∧ PAt w' pb tv toks (j2 + 1) ∧ w.grownBy w' (some pb) ∧ MR.ok w' ⟨(a, .slice ad a.terms.length c), .slice bd (List.length l) d, l⟩ ∧ l.map Prod.fst = b := by
 have hpb := lt_of_heap h.1
 go_enter Tryz.func179, Tryz.ntmps179
 go_wp2_with (first | (go_at_call 222; refine (atom_some _ _ _ _ _ _ _ (h.alloc _) hA).mono ?_; rintro e w1 ⟨ad, c, rfl, hp1', hg1, hat1⟩; have hp1 := hp1'.alloc (.cells #[.int .i64 a.at_, .string a.pred, .slice ad a.terms.length c] 219); have hok1 := MA.alloc hat1 (.cells #[.int .i64 a.at_, .string a.pred, .slice ad a.terms.length c] 219)) | (go_at_call_of 223 (Value.int IntKind.i64 8); refine (take_yes _ _ _ _ _ hp1 _ ht1 _ (by decide) h8).mono ?_; rintro e w2 ⟨rfl, hp2, hg2⟩; have hok2 := MA.step hok1 hp1 hg2) | (go_at_call 224; refine (atoms_some _ _ _ _ _ _ _ hp2 hB).mono ?_; rintro e w3 ⟨bd, d, l, rfl, hl, hp3, hg3', hbody, hoks⟩; have hg3 := grownBy_trans hg2 hg3'; have hok3 := MA.step hok2 hp2 hg3'; obtain ⟨t3, r3, gw3, lt13, lt23⟩ := rule_world h hg1 hg3; have f03 := frozen_at r3 0; have f13 := frozen_at r3 1; have f23 := frozen_at r3 2; have f33 := frozen_at r3 3; have k03 := cell_at r3 0; have k13 := cell_at r3 1; have k23 := cell_at r3 2; have k33 := cell_at r3 3; have c03 := cell_at t3 0; have c13 := cell_at t3 1; have c23 := cell_at t3 2; simp only [List.getElem?_toArray, List.getElem?_cons_zero, List.getElem?_cons_succ] at c03 c13 c23 k03 k13 k23 k33))
 go_region_with (go_at_call 223; refine (take_yes _ pb tv toks j2 (by exact hp3) _ ht2 _ (by decide) h7).mono ?_; rintro e w4 ⟨rfl, hp4, hg4'⟩; have hg4 := grownBy_trans (grownBy_drew hg3) hg4'; have hmr := MR.step (w := w3.drew) (r := ⟨(a, .slice ad a.terms.length c), .slice bd l.length d, l⟩) ⟨hok3, hbody, hoks⟩ (by exact hp3) hg4'; obtain ⟨t4, r4, gw4, lt14, lt24⟩ := rule_world h hg1 hg4; have f04 := frozen_at r4 0; have f14 := frozen_at r4 1; have f24 := frozen_at r4 2; have f34 := frozen_at r4 3; have k04 := cell_at r4 0; have k14 := cell_at r4 1; have k24 := cell_at r4 2; have k34 := cell_at r4 3; have c04 := cell_at t4 0; have c14 := cell_at t4 1; have c24 := cell_at t4 2; simp only [List.getElem?_toArray, List.getElem?_cons_zero, List.getElem?_cons_succ] at c04 c14 c24 k04 k14 k24 k34)
 all_goals (go_wp2_with fail)
 all_goals (obtain ⟨hu, gu, pu⟩ := four_stores r4 (.int .i64 a.at_) (.string a.pred) (.slice ad a.terms.length c) (.slice bd l.length d) gw4 hp4 (Nat.le_refl _))
 all_goals (exact bodyPost_ret (v := .tuple #[.agg #[.int .i64 a.at_, .string a.pred, .slice ad a.terms.length c, .slice bd l.length d], .bool true]) (by simp [results, Tryz.results179, go_sem, cell_at hu]) rfl ⟨_, _, _, _, l, rfl, pu, gu, MR.stores4 r4 _ _ _ _ hmr, hl.out⟩)
set_option maxHeartbeats 2000000 in
theorem rule_4 (w : World) (pb : Nat) (tv : Value) (toks : List Ax.Tok) (nx : Nat) (h : PAt w pb tv toks nx) (j : Nat) (a : Ax.Atom) (hA : Hid (Ax.pAtom toks nx = (some a, j))) (t1 : Ax.Tok) (ht1 : Hid (toks[j]? = some t1)) (h8 : (t1.kind == 8) = false) (h7 : (t1.kind == 7) = false) :
 Calls Tryz.prog 179 #[.pointer (some ⟨pb, 0, none⟩)] w fun e w' => ∃ x y ad n c bd m d, e = .returned (.tuple #[.agg #[.int .i64 x, .string y, .slice ad n c, .slice bd m d], .bool false]) ∧ PAt w' pb tv toks j ∧ w.grownBy w' (some pb) := by
 have hpb := lt_of_heap h.1
 go_enter Tryz.func179, Tryz.ntmps179
 go_wp2_with (first | (go_at_call 222; refine (atom_some _ _ _ _ _ _ _ (h.alloc _) hA).mono ?_; rintro e w1 ⟨ad, c, rfl, hp1', hg1, hat1⟩; have hp1 := hp1'.alloc (.cells #[.int .i64 a.at_, .string a.pred, .slice ad a.terms.length c] 219); have hok1 := MA.alloc hat1 (.cells #[.int .i64 a.at_, .string a.pred, .slice ad a.terms.length c] 219)) | (go_at_call_of 223 (Value.int IntKind.i64 8); refine (take_no _ _ _ _ _ hp1 _ ht1 _ h8).mono ?_; rintro e w2 ⟨rfl, hb2⟩; have hp2 := hp1.below hb2; have hg2 := grownBy_of_below hb2 (some pb); have hok2 := MA.step hok1 hp1 hg2; obtain ⟨t2, r2, gw2, lt12, lt22⟩ := rule_world h hg1 hg2; have f02 := frozen_at r2 0; have f12 := frozen_at r2 1; have f22 := frozen_at r2 2; have f32 := frozen_at r2 3; have k02 := cell_at r2 0; have k12 := cell_at r2 1; have k22 := cell_at r2 2; have k32 := cell_at r2 3; have c02 := cell_at t2 0; have c12 := cell_at t2 1; have c22 := cell_at t2 2; simp only [List.getElem?_toArray, List.getElem?_cons_zero, List.getElem?_cons_succ] at c02 c12 c22 k02 k12 k22 k32))
 go_region_with (go_at_call 223; refine (take_no _ pb tv toks j (by exact hp2) _ ht1 _ h7).mono ?_; rintro e w4 ⟨rfl, hb4⟩; have hp4 := PAt.below (by exact hp2) hb4; have hg4 := grownBy_trans (grownBy_drew hg2) (grownBy_of_below hb4 (some pb)); obtain ⟨t4, r4, gw4, lt14, lt24⟩ := rule_world h hg1 hg4; have f04 := frozen_at r4 0; have f14 := frozen_at r4 1; have f24 := frozen_at r4 2; have f34 := frozen_at r4 3; have k04 := cell_at r4 0; have k14 := cell_at r4 1; have k24 := cell_at r4 2; have k34 := cell_at r4 3; have c04 := cell_at t4 0; have c14 := cell_at t4 1; have c24 := cell_at t4 2; simp only [List.getElem?_toArray, List.getElem?_cons_zero, List.getElem?_cons_succ] at c04 c14 c24 k04 k14 k24 k34)
 all_goals (go_wp2_with fail)
 all_goals (obtain ⟨hu, gu, pu⟩ := four_stores r4 (.int .i64 a.at_) (.string a.pred) (.slice ad a.terms.length c) (.slice none 0 0) gw4 hp4 (Nat.le_refl _))
 all_goals (exact bodyPost_ret (v := .tuple #[.agg #[.int .i64 a.at_, .string a.pred, .slice ad a.terms.length c, .slice none 0 0], .bool false]) (by simp [results, Tryz.results179, go_sem, cell_at hu]) rfl ⟨_, _, _, _, _, _, _, _, rfl, pu, gu⟩)
set_option maxHeartbeats 2000000 in
theorem rule_5 (w : World) (pb : Nat) (tv : Value) (toks : List Ax.Tok) (nx : Nat) (h : PAt w pb tv toks nx) (j : Nat) (a : Ax.Atom) (hA : Hid (Ax.pAtom toks nx = (some a, j))) (t1 : Ax.Tok) (ht1 : Hid (toks[j]? = some t1)) (h8 : (t1.kind == 8) = false) (h7 : (t1.kind == 7) = true) :
 Calls Tryz.prog 179 #[.pointer (some ⟨pb, 0, none⟩)] w fun e w' => ∃ ad c bd d l, e = .returned (.tuple #[.agg #[.int .i64 a.at_, .string a.pred, .slice ad a.terms.length c, .slice bd (List.length l) d], .bool true]) ∧ PAt w' pb tv toks (j + 1) ∧ w.grownBy w' (some pb) ∧ MR.ok w' ⟨(a, .slice ad a.terms.length c), .slice bd (List.length l) d, l⟩ ∧ l.map Prod.fst = [] := by
 have hpb := lt_of_heap h.1
 go_enter Tryz.func179, Tryz.ntmps179
 go_wp2_with (first | (go_at_call 222; refine (atom_some _ _ _ _ _ _ _ (h.alloc _) hA).mono ?_; rintro e w1 ⟨ad, c, rfl, hp1', hg1, hat1⟩; have hp1 := hp1'.alloc (.cells #[.int .i64 a.at_, .string a.pred, .slice ad a.terms.length c] 219); have hok1 := MA.alloc hat1 (.cells #[.int .i64 a.at_, .string a.pred, .slice ad a.terms.length c] 219)) | (go_at_call_of 223 (Value.int IntKind.i64 8); refine (take_no _ _ _ _ _ hp1 _ ht1 _ h8).mono ?_; rintro e w2 ⟨rfl, hb2⟩; have hp2 := hp1.below hb2; have hg2 := grownBy_of_below hb2 (some pb); have hok2 := MA.step hok1 hp1 hg2; obtain ⟨t2, r2, gw2, lt12, lt22⟩ := rule_world h hg1 hg2; have f02 := frozen_at r2 0; have f12 := frozen_at r2 1; have f22 := frozen_at r2 2; have f32 := frozen_at r2 3; have k02 := cell_at r2 0; have k12 := cell_at r2 1; have k22 := cell_at r2 2; have k32 := cell_at r2 3; have c02 := cell_at t2 0; have c12 := cell_at t2 1; have c22 := cell_at t2 2; simp only [List.getElem?_toArray, List.getElem?_cons_zero, List.getElem?_cons_succ] at c02 c12 c22 k02 k12 k22 k32))
 go_region_with (go_at_call 223; refine (take_yes _ pb tv toks j (by exact hp2) _ ht1 _ (by decide) h7).mono ?_; rintro e w4 ⟨rfl, hp4, hg4'⟩; have hg4 := grownBy_trans (grownBy_drew hg2) hg4'; have hmr := MR.step (w := w2.drew) (r := ⟨(a, .slice ad a.terms.length c), .slice none 0 0, []⟩) ⟨hok2, World.ownsRow_nil _ _ _ _, oks_nil _⟩ (by exact hp2) hg4'; obtain ⟨t4, r4, gw4, lt14, lt24⟩ := rule_world h hg1 hg4; have f04 := frozen_at r4 0; have f14 := frozen_at r4 1; have f24 := frozen_at r4 2; have f34 := frozen_at r4 3; have k04 := cell_at r4 0; have k14 := cell_at r4 1; have k24 := cell_at r4 2; have k34 := cell_at r4 3; have c04 := cell_at t4 0; have c14 := cell_at t4 1; have c24 := cell_at t4 2; simp only [List.getElem?_toArray, List.getElem?_cons_zero, List.getElem?_cons_succ] at c04 c14 c24 k04 k14 k24 k34)
 all_goals (go_wp2_with fail)
 all_goals (obtain ⟨hu, gu, pu⟩ := four_stores r4 (.int .i64 a.at_) (.string a.pred) (.slice ad a.terms.length c) (.slice none 0 0) gw4 hp4 (Nat.le_refl _))
 all_goals (exact bodyPost_ret (v := .tuple #[.agg #[.int .i64 a.at_, .string a.pred, .slice ad a.terms.length c, .slice none 0 0], .bool true]) (by simp [results, Tryz.results179, go_sem, cell_at hu]) rfl ⟨_, _, none, 0, [], rfl, pu, gu, MR.stores4 r4 _ _ _ _ hmr, rfl⟩)
end Go.Proofs.YtdmicblafmhflaaGreatDoor
/- The parser: rules. -/
namespace Go.Proofs.YtdmicblafmhflaaGreatDoor
open Go.RowKit
theorem rule_some (w : World) (pb : Nat) (tv : Value) (toks : List Ax.Tok) (nx j : Nat) (r : Ax.Rule) (h : PAt w pb tv toks nx) (hR : Hid (Ax.pRule toks nx = (some r, j))) :
 Calls Tryz.prog 179 #[.pointer (some ⟨pb, 0, none⟩)] w fun e w' => ∃ ad n c bd m d l, e = .returned (.tuple #[.agg #[.int .i64 r.head.at_, .string r.head.pred, .slice ad n c, .slice bd m d], .bool true]) ∧ PAt w' pb tv toks j ∧ w.grownBy w' (some pb) ∧ MR.ok w' ⟨(r.head, .slice ad n c), .slice bd m d, l⟩ ∧ Hid (l.map Prod.fst = r.body) := by
 have hends := h.2.2.2.2
 have hR := hR.out
 rcases hA : Ax.pAtom toks nx with ⟨_ | a, j1⟩
 · rw [Ax.pRule_0 hA] at hR; simp at hR
 · have hj1 := Ax.pAtom_lt hends h.2.2.1 hA
   have ht1 : toks[j1]? = some toks[j1] := List.getElem?_eq_getElem hj1
   have hk1 := Ax.kindAt_of ht1
   by_cases h8 : Ax.kindAt toks j1 = 8
   · have hn := Ax.kind_next hends hj1 h8 (by omega)
     rcases hB : Ax.pAtoms toks toks.length (j1 + 1) [] with ⟨_ | b, j2⟩
     · rw [Ax.pRule_1 hA h8 hB] at hR; simp at hR
     · have hj2 := Ax.pAtoms_lt hends _ _ _ hn hB
       have ht2 : toks[j2]? = some toks[j2] := List.getElem?_eq_getElem hj2
       have hk2 := Ax.kindAt_of ht2
       by_cases h7 : Ax.kindAt toks j2 = 7
       · rw [Ax.pRule_3 hA h8 hB h7] at hR
         simp only [Prod.mk.injEq, Option.some.injEq] at hR
         obtain ⟨rfl, rfl⟩ := hR
         refine (rule_3 w pb tv toks nx h j1 a hA _ ht1 (by rw [hk1] at h8; simpa using h8) j2 b hB _ ht2 (by rw [hk2] at h7; simpa using h7)).mono ?_
         rintro e w' ⟨ad, c, bd, d, l, rfl, hp, hg, hok, hl⟩
         exact ⟨_, _, _, _, _, _, l, rfl, hp, hg, hok, hl⟩
       · rw [Ax.pRule_2 hA h8 hB h7] at hR; simp at hR
   · by_cases h7 : Ax.kindAt toks j1 = 7
     · rw [Ax.pRule_5 hA h8 h7] at hR
       simp only [Prod.mk.injEq, Option.some.injEq] at hR
       obtain ⟨rfl, rfl⟩ := hR
       refine (rule_5 w pb tv toks nx h j1 a hA _ ht1 (by rw [hk1] at h8; simpa using h8) (by rw [hk1] at h7; simpa using h7)).mono ?_
       rintro e w' ⟨ad, c, bd, d, l, rfl, hp, hg, hok, hl⟩
       exact ⟨_, _, _, _, _, _, l, rfl, hp, hg, hok, hl⟩
     · rw [Ax.pRule_4 hA h8 h7] at hR; simp at hR
theorem rule_none (w : World) (pb : Nat) (tv : Value) (toks : List Ax.Tok) (nx j : Nat) (h : PAt w pb tv toks nx) (hR : Hid (Ax.pRule toks nx = (none, j))) :
 Calls Tryz.prog 179 #[.pointer (some ⟨pb, 0, none⟩)] w fun e w' => ∃ x y ad n c bd m d, e = .returned (.tuple #[.agg #[.int .i64 x, .string y, .slice ad n c, .slice bd m d], .bool false]) ∧ PAt w' pb tv toks j ∧ w.grownBy w' (some pb) := by
 have hends := h.2.2.2.2
 have hR := hR.out
 rcases hA : Ax.pAtom toks nx with ⟨_ | a, j1⟩
 · rw [Ax.pRule_0 hA] at hR
   simp only [Prod.mk.injEq, true_and] at hR
   subst hR
   exact rule_0 w pb tv toks nx h j1 hA
 · have hj1 := Ax.pAtom_lt hends h.2.2.1 hA
   have ht1 : toks[j1]? = some toks[j1] := List.getElem?_eq_getElem hj1
   have hk1 := Ax.kindAt_of ht1
   by_cases h8 : Ax.kindAt toks j1 = 8
   · have hn := Ax.kind_next hends hj1 h8 (by omega)
     rcases hB : Ax.pAtoms toks toks.length (j1 + 1) [] with ⟨_ | b, j2⟩
     · rw [Ax.pRule_1 hA h8 hB] at hR
       simp only [Prod.mk.injEq, true_and] at hR
       subst hR
       exact rule_1 w pb tv toks nx h j1 a hA _ ht1 (by rw [hk1] at h8; simpa using h8) j2 hB
     · have hj2 := Ax.pAtoms_lt hends _ _ _ hn hB
       have ht2 : toks[j2]? = some toks[j2] := List.getElem?_eq_getElem hj2
       have hk2 := Ax.kindAt_of ht2
       by_cases h7 : Ax.kindAt toks j2 = 7
       · rw [Ax.pRule_3 hA h8 hB h7] at hR; simp at hR
       · rw [Ax.pRule_2 hA h8 hB h7] at hR
         simp only [Prod.mk.injEq, true_and] at hR
         subst hR
         exact rule_2 w pb tv toks nx h j1 a hA _ ht1 (by rw [hk1] at h8; simpa using h8) j2 b hB _ ht2 (by rw [hk2] at h7; simpa using h7)
   · by_cases h7 : Ax.kindAt toks j1 = 7
     · rw [Ax.pRule_5 hA h8 h7] at hR; simp at hR
     · rw [Ax.pRule_4 hA h8 h7] at hR
       simp only [Prod.mk.injEq, true_and] at hR
       subst hR
       exact rule_4 w pb tv toks nx h j1 a hA _ ht1 (by rw [hk1] at h8; simpa using h8) (by rw [hk1] at h7; simpa using h7)
def ruleCells (l : List MR) : List Value := l.flatMap fun r => [.int .i64 r.head.1.at_, .string r.head.1.pred, r.head.2, r.bv]
theorem ruleCells_snoc (l : List MR) (r : MR) : ruleCells (l ++ [r]) = ruleCells l ++ [.int .i64 r.head.1.at_, .string r.head.1.pred, r.head.2, r.bv] := by simp [ruleCells]
theorem Tryz.infoRule : (Tryz.prog.info? 222).map (fun i => (i.zero, i.size, i.bytes)) = some (some (.agg #[.int .i64 0, .string ByteArray.empty, .slice none 0 0, .slice none 0 0]), 4, 72) := by kernel_rfl
def mrs (w : World) (l : List MR) : Prop := ∀ r, r ∈ l → MR.ok w r
theorem mrs_nil (w : World) : mrs w [] := fun _ h => by cases h
theorem mrs_below {w w' : World} {l : List MR} (h : mrs w l) (hb : Below w.heap.size w w') : mrs w' l := fun x hx => MR.below (h x hx) hb
theorem mrs_step {w w' : World} {l : List MR} {pb : Nat} {tv : Value} {toks : List Ax.Tok} {nx : Nat} (h : mrs w l) (hp : PAt w pb tv toks nx) (hg : w.grownBy w' (some pb)) : mrs w' l := fun x hx => MR.step (h x hx) hp hg
theorem mrs_snoc {w : World} {l : List MR} {x : MR} (h : mrs w l) (hx : MR.ok w x) : mrs w (l ++ [x]) := by
 intro y hy
 rcases List.mem_append.1 hy with hy | hy
 · exact h y hy
 · simp at hy; subst hy; exact hx
theorem rules_world {w w1 w2 : World} {pb : Nat} {tv v : Value} {toks : List Ax.Tok} {nx n : Nat} {xs : List Value} {o1 o2 : Obj} {l : List MR} {x : MR} (hown1 : w1.ownsRow w.heap.size 222 4 v n xs) (hp1 : PAt w1 pb tv toks nx) (hg : w.grownBy w1 (some pb)) (hok : mrs w1 l) (hx : MR.ok w1 x)
 (hgrow : ((w1.alloc o1).alloc o2).grownBy w2 v.ownBlock) : PAt w2 pb tv toks nx ∧ w.grownBy w2 (some pb) ∧ mrs w2 (l ++ [x]) :=
 ⟨((hp1.alloc o1).alloc o2).row hgrow (ownsRow_kind ((hown1.alloc o1).alloc o2)) (by decide) (by decide),
  grownBy_new (grownBy_alloc (grownBy_alloc hg _) _) hgrow (fun k hk => (hown1.lt k hk).1),
  fun y hy => MR.type (w := (w1.alloc o1).alloc o2) (MR.below (mrs_snoc hok hx y hy) (((Below.refl _ _).alloc (Nat.le_refl _) _).alloc (by simp) _)) hgrow (ownsRow_kind ((hown1.alloc o1).alloc o2)) (by decide) (by decide)⟩
def RulesRel (w wr : World) (pb : Nat) (tv : Value) (toks : List Ax.Tok) (v : Value) (nx k : Nat) (acc : List MR) (R : Option (List Ax.Rule) × Nat) : Prop :=
 PAt wr pb tv toks nx ∧ wr.ownsRow w.heap.size 222 4 v acc.length (ruleCells acc) ∧ mrs wr acc ∧ w.grownBy wr (some pb) ∧ acc.length ≤ nx ∧ toks.length ≤ nx + k ∧ Ax.pRules toks k nx (acc.map MR.rule) = R
set_option maxHeartbeats 2000000 in
theorem rules_any (w : World) (pb : Nat) (tv : Value) (toks : List Ax.Tok) (nx : Nat) (h : PAt w pb tv toks nx) :
 Calls Tryz.prog 104 #[.pointer (some ⟨pb, 0, none⟩)] w fun e w' => PAt w' pb tv toks (Ax.pRules toks toks.length nx []).2 ∧ w.grownBy w' (some pb) ∧
  ((∃ v l, e = .returned (.tuple #[v, .bool true]) ∧ (Ax.pRules toks toks.length nx []).1 = some (l.map MR.rule) ∧ w'.ownsRow w.heap.size 222 4 v l.length (ruleCells l) ∧ mrs w' l) ∨
   (e = .returned (.tuple #[.slice none 0 0, .bool false]) ∧ (Ax.pRules toks toks.length nx []).1 = none)) := by
 obtain ⟨i0, hi, hz0, hz1, hz2⟩ := info_parts Tryz.infoRule
 generalize hR : Ax.pRules toks toks.length nx [] = R
 have hpb := lt_of_heap h.1
 have hfd := Tryz.fieldTok0
 go_enter Tryz.func104, Tryz.ntmps104
 go_wp2_with fail
 go_loopg [4] toks.length (fun k v wr => ∃ (i : Nat) (acc : List MR), RulesRel w wr pb tv toks v i k acc R)
 case atStart => exact ⟨nx, [], h, World.ownsRow_nil _ _ _ _, mrs_nil _, grownBy_refl _ _, Nat.zero_le _, by omega, hR⟩
 case round =>
  obtain ⟨i, acc, hp, hown, hok, hg, hal, hlen, hr⟩ := hrel
  have hlt := hp.2.2.1
  have hle := hp.2.2.2.1
  have hends := hp.2.2.2.2
  have hsz := hg.size
  cases gk with
  | zero => omega
  | succ k =>
  have hr' : Hid (Ax.pRules toks (k + 1) i (acc.map MR.rule) = R) := hr
  clear hr hR
  obtain ⟨t, ht0⟩ : ∃ t, toks[i]? = some t := ⟨_, List.getElem?_eq_getElem hlt⟩
  have hka := Ax.kindAt_of ht0
  have ht : Hid (toks[i]? = some t) := ht0
  clear ht0
  by_cases h1 : t.kind = 1
  · have e : Hid (R = (some (acc.map MR.rule), i)) := hr'.out.symm.trans (Ax.pRules_end (by rw [hka]; exact h1))
    have hne : (t.kind != 1) = false := by simp [h1]
    clear h1 hka
    go_wp2_with (first | (go_at_call 105; refine (peek_any _ _ _ _ _ hp _ ht).mono ?_; rintro e w0 ⟨rfl, hb0⟩; have hp0 := hp.below hb0; have hown0 := ownsRow_below hown hb0; have hok0 := mrs_below hok hb0; have hg0 := grownBy_trans hg (grownBy_of_below hb0 (some pb))))
    go_ret2
    exact ⟨by rw [e.out]; exact hp0, hg0, .inl ⟨_, acc, rfl, by rw [e.out], hown0, hok0⟩⟩
  · have hk1 : Hid (¬ Ax.kindAt toks i = 1) := by rw [hka]; exact h1
    have hne : (t.kind != 1) = true := by simp [h1]
    clear h1 hka
    rcases hA0 : Ax.pRule toks i with ⟨_ | r, j⟩
    · have hA : Hid (Ax.pRule toks i = (none, j)) := hA0
      clear hA0
      go_wp2_with (first | (go_at_call 105; refine (peek_any _ _ _ _ _ hp _ ht).mono ?_; rintro e w0 ⟨rfl, hb0⟩; have hp0 := hp.below hb0; have hown0 := ownsRow_below hown hb0; have hok0 := mrs_below hok hb0; have hg0 := grownBy_trans hg (grownBy_of_below hb0 (some pb))) | (go_at_call 179; refine (rule_none _ _ _ _ _ _ hp0 hA).mono ?_; rintro e w1 ⟨x, y, ad, n, c, bd, m, d, rfl, hp1, hg1⟩))
      go_ret2
      have e := hr'.out.symm.trans (Ax.pRules_none hk1.out hA.out)
      exact ⟨by rw [e]; exact hp1.alloc _, grownBy_alloc (grownBy_trans hg0 hg1) _, .inr ⟨rfl, by rw [e]⟩⟩
    · have hA : Hid (Ax.pRule toks i = (some r, j)) := hA0
      have hj := (Ax.pRule_lt hends hlt hA0).1
      have hij := (Ax.pRule_lt hends hlt hA0).2 (by simp)
      clear hA0
      have hon : Hid (Ax.pRules toks (k + 1) i (acc.map MR.rule) = Ax.pRules toks k j (acc.map MR.rule ++ [r])) := Ax.pRules_on hk1.out hA.out
      go_wp2_with (first | (go_at_call 105; refine (peek_any _ _ _ _ _ hp _ ht).mono ?_; rintro e w0 ⟨rfl, hb0⟩; have hp0 := hp.below hb0; have hown0 := ownsRow_below hown hb0; have hok0 := mrs_below hok hb0; have hg0 := grownBy_trans hg (grownBy_of_below hb0 (some pb))) | (go_at_call 179; refine (rule_some _ _ _ _ _ _ _ hp0 hA).mono ?_; rintro e w1 ⟨ad, n, c, bd, m, d, l, rfl, hp1, hg1, hmr, hl⟩; have hown1 := ownsRow_step hown0 hp0 hg1 (by decide); have hs1 := (grownBy_trans hg0 hg1).size; have hok1 := mrs_step hok0 hp0 hg1) | (at_builtin; refine wpList_append_own _ rfl (.tmp 18) (.tmp 20) 99 rfl w.heap.size 222 i0 _ 4 72 Tryz.underlying99 hi hz0 hz1 hz2 rfl (by decide) _ _ _ rfl ((hown1.alloc _).alloc _) ⟨w1.heap.size + 1, 0, none⟩ 1 1 [.int .i64 r.head.at_, .string r.head.pred, .slice ad n c, .slice bd m d] rfl rfl (new_cells2 _ _ _ _) (by simp [Value.oneCell']) (by unfold maxLen; omega) (by omega) (by simp; omega) ?_; intro v2 w2 hown2 hgrow _; obtain ⟨hp2, hg2, hok2⟩ := rules_world hown1 hp1 (grownBy_trans hg0 hg1) hok1 hmr hgrow; clear hgrow hown1 hp1 hok1 hmr))
      go_roundg k
      case measure => omega
      case rel =>
       refine ⟨j, acc ++ [⟨(r.head, .slice ad n c), .slice bd m d, l⟩], hp2, ?_, hok2, hg2, by simp; omega, by omega, ?_⟩
       · rw [ruleCells_snoc]; simpa using hown2
       · rw [List.map_append]
         have e : MR.rule ⟨(r.head, .slice ad n c), .slice bd m d, l⟩ = r := by simp only [MR.rule]; rw [hl.out]
         rw [List.map_singleton, e]
         exact hon.out.symm.trans hr'.out
end Go.Proofs.YtdmicblafmhflaaGreatDoor
/- slices.Index, slices.Contains at strings and at terms. -/
namespace Go.Proofs.YtdmicblafmhflaaGreatDoor
open Go.RowKit
theorem row_cells {w : World} {b : Nat} {e : TypeId} {size : Nat} {ad : Option Addr} {n c : Nat} {xs : List Value} (h : w.ownsRow b e size (.slice ad n c) n xs) (hn : 0 < n) :
 ∃ g, ad = some ⟨g, 0, none⟩ ∧ g < w.heap.size ∧ n ≤ c ∧ ∀ j u, xs[j]? = some u → w.cell? ⟨g, j, none⟩ = some u := by
 have hcs := fun g hg => World.ownsRow.cells h (g := g) hg
 rcases h.2 with ⟨e1, e2⟩ | ⟨g, cap, cur, e1, _, hg, hc, _⟩
 · omega
 · simp only [Value.slice.injEq] at e1
   obtain ⟨rfl, _, rfl⟩ := e1
   refine ⟨g, rfl, lt_of_heap hg, hc, ?_⟩
   intro j u hu
   have := hcs g rfl j u hu
   have hadd : (⟨g, 0, none⟩ : Addr).add j = ⟨g, j, none⟩ := by unfold Addr.add; split <;> simp_all
   rw [hadd] at this
   exact this
theorem ownsRow_le {w : World} {b : Nat} {e : TypeId} {size : Nat} {v : Value} {n : Nat} {xs : List Value} (h : w.ownsRow b e size v n xs) : n ≤ 9223372036854775807 := by
 rcases h.2 with ⟨_, rfl⟩ | ⟨g, cap, cur, _, _, _, h1, h2, _⟩
 · omega
 · unfold maxLen at h2; omega
def strCells (l : List ByteArray) : List Value := l.map .string
theorem strCells_get (l : List ByteArray) (k : Nat) (h : k < l.length) : (strCells l)[k]? = some (.string l[k]) := by simp [strCells, h]
theorem beq_bytes (a b : ByteArray) : (a.toList == b.toList) = decide (a = b) := by
 rw [toList_eq, toList_eq, Bool.eq_iff_iff]
 rcases a with ⟨⟨a⟩⟩
 rcases b with ⟨⟨b⟩⟩
 simp
set_option maxHeartbeats 1000000 in
theorem indexStr_any (w : World) (b : Nat) (ad : Option Addr) (c : Nat) (l : List ByteArray) (v : ByteArray) (h : w.ownsRow b 9 1 (.slice ad l.length c) l.length (strCells l)) :
 Calls Tryz.prog 261 #[.slice ad l.length c, .string v] w fun e w' => ∃ i : Int, e = .returned (.int .i64 i) ∧ (0 ≤ i ↔ v ∈ l) ∧ w' = w := by
 have hle := ownsRow_le h
 go_enter Tryz.func261, Tryz.ntmps261
 go_wp2_with fail
 go_loop [8] (fun i => ∃ k : Nat, k ≤ l.length ∧ i = .int .i64 k ∧ ∀ j (hj : j < l.length), j < k → v ≠ l[j]) (fun i => l.length - (intOf i).toNat)
 case atStart => exact ⟨0, Nat.zero_le _, rfl, fun j _ hj => by omega⟩
 case round =>
  obtain ⟨k, hk, rfl, hno⟩ := hrel
  have HNO : Hid (∀ j (hj : j < l.length), j < k → v ≠ l[j]) := hno
  clear hno
  by_cases hlt : k < l.length
  · obtain ⟨g, rfl, hg, hc, hcs⟩ := row_cells h (by omega)
    have hcell := hcs _ _ (strCells_get l k hlt)
    clear hcs
    generalize hx : l[k] = x at hcell
    have HX : Hid (l[k] = x) := hx
    clear hx
    by_cases hv : v = x
    · have hb : (v.toList == x.toList) = true := by rw [beq_bytes]; simp [hv]
      have HV : Hid (v = x) := hv
      clear hv
      go_wp2_with fail
      go_ret
      refine ⟨k, rfl, ⟨fun _ => ?_, fun _ => by omega⟩, rfl⟩
      rw [HV.out, ← HX.out]
      exact List.getElem_mem hlt
    · have hb : (v.toList == x.toList) = false := by rw [beq_bytes]; simp [hv]
      have HV : Hid (¬ v = x) := hv
      clear hv
      go_wp2_with fail
      go_round
      case rel =>
       refine ⟨k + 1, by omega, by go_num, fun j hj hjk => ?_⟩
       by_cases e : j = k
       · subst e; rw [HX.out]; exact HV.out
       · exact HNO.out j hj (by omega)
      case measure => simp [intOf]; omega
  · go_wp2_with fail
    go_ret
    refine ⟨-1, rfl, ⟨fun h => by omega, fun hm => ?_⟩, rfl⟩
    obtain ⟨j, hj, e⟩ := List.getElem_of_mem hm
    exact absurd e.symm (HNO.out j hj (by omega))
set_option maxHeartbeats 1000000 in
theorem containsStr_any (w : World) (b : Nat) (ad : Option Addr) (c : Nat) (l : List ByteArray) (v : ByteArray) (h : w.ownsRow b 9 1 (.slice ad l.length c) l.length (strCells l)) :
 Calls Tryz.prog 225 #[.slice ad l.length c, .string v] w fun e w' => e = .returned (.bool (Ax.has l v)) ∧ w' = w := by
 have hle := ownsRow_le h
 go_enter Tryz.func225, Tryz.ntmps225
 go_wp2_with (go_at_call 261; refine (indexStr_any _ _ _ _ _ _ h).mono ?_; rintro e w' ⟨i, rfl, hi, rfl⟩; have HI : Hid (0 ≤ i ↔ v ∈ l) := hi; clear hi)
 go_ret
 exact ⟨ret_bool (by rw [Bool.eq_iff_iff]; rw [Ax.has_iff]; simp; exact HI.out), rfl⟩
end Go.Proofs.YtdmicblafmhflaaGreatDoor
/- slices.Index, slices.Contains at terms. -/
namespace Go.Proofs.YtdmicblafmhflaaGreatDoor
open Go.RowKit
theorem termCells_get (l : List Ax.Term) (k : Nat) (h : k < l.length) :
 (termCells l)[k * 2]? = some (.int .i64 l[k].kind) ∧ (termCells l)[k * 2 + 1]? = some (.string l[k].text) := by
 induction l generalizing k with
 | nil => simp at h
 | cons a l ih =>
  cases k with
  | zero => simp [termCells]
  | succ k =>
   have := ih k (by simpa using h)
   have e : ∀ j, (termCells (a :: l))[(k + 1) * 2 + j]? = (termCells l)[k * 2 + j]? := by
    intro j
    have : termCells (a :: l) = [.int .i64 a.kind, .string a.text] ++ termCells l := by simp [termCells]
    rw [this, List.getElem?_append_right (by simp; omega)]
    congr 1
    simp; omega
   have e0 := e 0
   simp only [Nat.add_zero] at e0
   rw [e0, e 1]
   simpa using this
theorem below_draws (w : World) (o : Obj) (n : Nat) : Below w.heap.size w ((w.alloc o).drewN n) :=
 ((Below.refl _ _).alloc (Nat.le_refl _) _).trans ⟨rfl, rfl, rfl, Nat.le_refl _, fun _ _ => rfl⟩
theorem Tryz.fieldsTerm : (Tryz.prog.fieldsOf 310).toList = [{ name := "Kind", type := 308, offset := 0, embedded := false, tag := "", pkgPath := "", byteOffset := 0 }, { name := "Text", type := 9, offset := 1, embedded := false, tag := "", pkgPath := "", byteOffset := 8 }] := by kernel_rfl
theorem Tryz.structTerm : Tryz.prog.underlying 310 = some (.struct (Tryz.prog.fieldsOf 310)) := by kernel_rfl
theorem Tryz.heldTerm : Tryz.prog.stoodInHeld 310 = false := by kernel_rfl
theorem Tryz.guardTerm : Tryz.prog.eqGuardType Tryz.prog.depth 310 = false := by kernel_rfl
theorem run_eql_term (a b : Int) (s t : ByteArray) (w : World) : (binOp .eql 310 (.agg #[.int .i64 a, .string s]) (.agg #[.int .i64 b, .string t])).run Tryz.prog w = .ok (.bool (Ax.Term.beq ⟨a, s⟩ ⟨b, t⟩)) w := by
 have h99 : Tryz.prog.underlying 308 = some (.int .i64) := Tryz.underlying308
 have h9 : Tryz.prog.underlying 9 = some .string := Tryz.underlying9
 rw [run_eql_struct, run_equalIn_struct w 9999 310 _ _ Tryz.structTerm Tryz.heldTerm, Tryz.fieldsTerm]
 simp only [Op.eqFields, part, isAgg, run_underlying h99, run_underlying h9, Ax.Term.beq, ← beq_bytes]
 simp [part, isAgg, run_underlying h99, run_underlying h9, run_equalIn_int w 9998 308 .i64 .i64 a b h99, run_equalIn_string w 9998 9 s t h9]
 by_cases h1 : a = b <;> by_cases h2 : s.toList = t.toList <;> simp [h1, h2]
set_option maxHeartbeats 1000000 in
theorem indexTerm_any (w : World) (b : Nat) (ad : Option Addr) (c : Nat) (l : List Ax.Term) (v : Ax.Term) (h : w.ownsRow b 310 2 (.slice ad l.length c) l.length (termCells l)) :
 Calls Tryz.prog 262 #[.slice ad l.length c, .agg #[.int .i64 v.kind, .string v.text]] w fun e w' => ∃ i : Int, e = .returned (.int .i64 i) ∧ (0 ≤ i ↔ v ∈ l) ∧ Below w.heap.size w w' := by
 have hle := ownsRow_le h
 go_enter Tryz.func262, Tryz.ntmps262
 go_wp2_with fail
 go_loopw [8] (fun i wr => ∃ k m : Nat, k ≤ l.length ∧ i = .int .i64 k ∧ wr = (w.alloc (.cells #[.int .i64 v.kind, .string v.text] 310)).drewN m ∧ ∀ j (hj : j < l.length), j < k → v ≠ l[j]) (fun i _ => l.length - (intOf i).toNat)
 case atStart => exact ⟨0, 0, Nat.zero_le _, rfl, rfl, fun j _ hj => by omega⟩
 case round =>
  obtain ⟨k, m, hk, rfl, rfl, hno⟩ := hrel
  have HNO : Hid (∀ j (hj : j < l.length), j < k → v ≠ l[j]) := hno
  clear hno
  by_cases hlt : k < l.length
  · obtain ⟨g, rfl, hg, hc, hcs⟩ := row_cells h (by omega)
    have hcell0 := hcs _ _ (termCells_get l k hlt).1
    have hcell1 := hcs _ _ (termCells_get l k hlt).2
    clear hcs
    generalize hx : l[k] = x at hcell0 hcell1
    have HX : Hid (l[k] = x) := hx
    clear hx
    have heq := run_eql_term
    have hgd : ∀ (op : BinOp) (x y : Operand) (xs ys : Array Value) (w : World), (eqGuard op 310 x y (.agg xs) (.agg ys)).run Tryz.prog w = .ok () w := fun op x y xs ys w => run_eqGuard_agg w op 310 x y xs ys Tryz.guardTerm
    cases hv : Ax.Term.beq ⟨v.kind, v.text⟩ ⟨x.kind, x.text⟩
    case true =>
     have HV : Hid (v = x) := (Ax.Term.beq_iff _ _).1 hv
     go_wp2_with fail
     go_quiet (fail)
     go_wp2_with fail
     go_ret
     refine ⟨k, rfl, ⟨fun _ => ?_, fun _ => by omega⟩, by rw [World.drewN_drewN]; exact below_draws _ _ _⟩
     have hm : l[k] ∈ l := List.getElem_mem hlt
     rw [HX.out] at hm
     rw [HV.out]
     exact hm
    case false =>
     have HV : Hid (¬ v = x) := fun e => by rw [(Ax.Term.beq_iff _ _).2 e] at hv; cases hv
     go_wp2_with fail
     go_quiet (fail)
     go_wp2_with fail
     go_roundw
     case rel =>
      refine ⟨k + 1, _, by omega, by go_num, rfl, fun j hj hjk => ?_⟩
      by_cases e : j = k
      · subst e; rw [HX.out]; exact HV.out
      · exact HNO.out j hj (by omega)
     case measure => simp [intOf]; omega
  · go_wp2_with fail
    go_ret
    refine ⟨-1, rfl, ⟨fun h => by omega, fun hm => ?_⟩, below_draws _ _ _⟩
    obtain ⟨j, hj, e⟩ := List.getElem_of_mem hm
    exact absurd e.symm (HNO.out j hj (by omega))
set_option maxHeartbeats 1000000 in
theorem containsTerm_any (w : World) (b : Nat) (ad : Option Addr) (c : Nat) (l : List Ax.Term) (v : Ax.Term) (h : w.ownsRow b 310 2 (.slice ad l.length c) l.length (termCells l)) :
 Calls Tryz.prog 228 #[.slice ad l.length c, .agg #[.int .i64 v.kind, .string v.text]] w fun e w' => e = .returned (.bool (Ax.hasTerm l v)) ∧ Below w.heap.size w w' := by
 have hle := ownsRow_le h
 go_enter Tryz.func228, Tryz.ntmps228
 go_wp2_with (go_at_call 262; refine (indexTerm_any _ _ _ _ _ _ (h.alloc _)).mono ?_; rintro e w' ⟨i, rfl, hi, hb1⟩; have HI : Hid (0 ≤ i ↔ v ∈ l) := hi; clear hi)
 go_ret
 refine ⟨ret_bool (by rw [Bool.eq_iff_iff, Ax.hasTerm_iff]; simp; exact HI.out), ?_⟩
 exact ((Below.refl _ _).alloc (Nat.le_refl _) _).trans (hb1.mono (by simp))
end Go.Proofs.YtdmicblafmhflaaGreatDoor
