/- axiomref: atom, the terms: the walk. -/
import Derived.Test.YtdmicblafmhflaaR9
import Derived.Deep.CutRange
namespace Go.Proofs.Ytdmicblafmhflaa
set_option linter.unusedSimpArgs false
set_option linter.unusedVariables false
open Go.RowKit

set_option maxRecDepth 100000 in
set_option maxHeartbeats 40000000 in
theorem ratom_2 (w : World) (ld : Option Addr) (lc : Nat) (T : List Ax.Tok) (i : Nat) (h : RAt w ld lc T) (t : Ax.Tok) (ht : Hid (T[i]? = some t)) (hk : Hid (t.kind = 2)) (t' : Ax.Tok) (ht' : Hid (T[i + 1]? = some t')) (hk' : Hid (t'.kind = 4)) (R : Option Ax.Atom × Nat) (HR : Hid (rend T t (Ax.pTerms T T.length (i + 1 + 1) []) = R)) :
    Calls Try.prog 46 #[.slice ld T.length lc, .int .i64 i] w fun e w' => RAPost w R e w' := by
  have hT := h.2.1
  obtain ⟨hi, _⟩ := Tok_get ht.out
  obtain ⟨hi', _⟩ := Tok_get ht'.out
  obtain ⟨g', hgg, _, _, d0, _, _, j0, j8⟩ := h.cells ht'.out
  obtain ⟨g, rfl, hg, hc, c0, c1, c2, k0, k8⟩ := h.cells ht.out
  obtain rfl : g = g' := by simpa using hgg
  have hb : ((Ax.kc t.kind : Int) != 110) = false := ne_of' (j := 2) k0 k8 (by decide) (by decide) hk.out
  have hb' : ((Ax.kc t'.kind : Int) != 40) = false := ne_of' (j := 4) j0 j8 (by decide) (by decide) hk'.out
  have hi2 : i + 1 + 1 < T.length := h.2.2.1.next hi' (by rw [show T[i + 1] = t' by assumption, hk'.out]; decide) (by rw [show T[i + 1] = t' by assumption, hk'.out]; decide)
  generalize Ax.kc t.kind = K at *
  generalize Ax.kc t'.kind = K' at *
  go_enter Try.func46, Try.ntmps46
  go_wp2_with fail
  go_region
  all_goals (go_wp2_with fail)
  clear c0 c1 c2 d0
  go_loopg [1] T.length (fun f iv wr => ∃ (q : Nat) (ts : List Ax.Term) (td : Option Addr) (tc : Nat) (vd : Option Addr) (vc : Nat), q < T.length ∧ T.length ≤ q + f ∧ ts.length ≤ q ∧ iv = .int .i64 q ∧ rend T t (Ax.pTerms T f q ts) = R ∧ RAR w wr t (.slice td ts.length tc) (.slice vd ts.length vc) ts.length ts.length (ts.map Ax.Term.text) (ts.map isVar))
  case atStart =>
    refine ⟨i + 1 + 1, [], none, 0, none, 0, hi2, by omega, by simp, by go_num, HR.out, ⟨?_, ?_, World.ownsRow_nil _ _ _ _, World.ownsRow_nil _ _ _ _, (((Below.refl _ _).alloc (Nat.le_refl _) _).alloc (by simp) _).drew⟩⟩
    · exact (Below.heap_alloc _ _ _ (by simp)).trans (heap_alloc_new _ _)
    · have := heap_alloc_new (w.alloc (.cells #[.string ⟨#[]⟩, .slice none 0 0, .slice none 0 0, .int .i64 0] 115)) (.cells #[.string t.text, .slice none 0 0, .slice none 0 0, .int .i64 t.at_] 115)
      rw [World.size_alloc] at this
      exact this
  case round =>
    obtain ⟨q, ts, td, tc, vd, vc, hq, hf, htl, rfl, hr, hrar⟩ := hrel
    have hbel := hrar.bel
    have hownT := hrar.oT
    have hownV := hrar.oV
    have HRq : Hid (rend T t (Ax.pTerms T gk q ts) = R) := hr
    clear hr HR
    obtain ⟨f, hfk⟩ : ∃ f, gk = f + 1 := ⟨gk - 1, by omega⟩
    subst hfk
    obtain ⟨u, hu0⟩ : ∃ u, T[q]? = some u := ⟨_, List.getElem?_eq_getElem hq⟩
    have HU : Hid (T[q]? = some u) := hu0
    clear hu0
    obtain ⟨g2, hgg2, hgl, _, e0, e1, _, q0, q8⟩ := (h.below hbel).cells HU.out
    obtain rfl : g = g2 := by simpa using hgg2
    have hsz := hbel.size
    have E0 : Hid (w.cell? ⟨g, q * 3, none⟩ = some (.int .u8 (Ax.kc u.kind))) := (hbel.cell (p := ⟨g, q * 3, none⟩) hg).symm.trans e0
    obtain ⟨a0, a1, a2, a3, fa0, fa1, fa2, fa3, hl0⟩ := blocks_cells hrar.b0
    obtain ⟨b0, b1, b2, b3, _, fb1, fb2, _, hl1⟩ := blocks_cells hrar.b1
    by_cases hnv : u.kind = 2 ∨ u.kind = 3
    · obtain ⟨i9, hi9', hz9', hs9', hy9'⟩ := info_parts Try.infoStr'
      have hi9 : Hid (Try.prog.info? 9 = some i9) := hi9'
      have hz9 : Hid (i9.zero = some (.string ByteArray.empty)) := hz9'
      have hs9 : Hid (i9.size = 1) := hs9'
      have hy9 : Hid (i9.bytes = 16) := hy9'
      clear hi9' hz9' hs9' hy9'
      obtain ⟨i4, hi4', hz4', hs4', hy4'⟩ := info_parts Try.infoBool
      have hi4 : Hid (Try.prog.info? 4 = some i4) := hi4'
      have hz4 : Hid (i4.zero = some (.bool false)) := hz4'
      have hs4 : Hid (i4.size = 1) := hs4'
      have hy4 : Hid (i4.bytes = 1) := hy4'
      clear hi4' hz4' hs4' hy4'
      have hq1 : q + 1 < T.length := by
        obtain ⟨hql, e⟩ := Tok_get HU.out
        exact h.2.2.1.next hql (by rw [e]; omega) (by rw [e]; omega)
      obtain ⟨u2, hu20⟩ : ∃ u, T[q + 1]? = some u := ⟨_, List.getElem?_eq_getElem hq1⟩
      have HU2 : Hid (T[q + 1]? = some u2) := hu20
      clear hu20
      have hpt : Ax.pTerm T q = (some ⟨u.kind - 2, u.text⟩, q + 1) := Ax.pTerm_some HU.out hnv
      have hk2 := Ax.kindAt_of HU2.out
      obtain ⟨r0, r8⟩ := h.2.2.2 u2 (List.mem_of_getElem? HU2.out)
      have hEa : ((Ax.kc u2.kind : Nat) : Int) = 41 → Hid (R = (some ⟨t.at_, t.text, ts ++ [⟨u.kind - 2, u.text⟩]⟩, q + 1 + 1)) := by
        intro hm
        have hm : u2.kind = 5 := by
          have := Ax.kc_eq u2.kind r0 r8 5 (by decide) (by decide)
          rw [show ((Ax.kc 5 : Nat) : Int) = 41 by rfl, hm] at this
          simpa using this.symm
        rw [← HRq.out, Ax.pTerms_last hpt (by rw [hk2, hm]; decide)]
        simp [Hid, rend, hk2, hm]
      have hEb : ¬ ((Ax.kc u2.kind : Nat) : Int) = 41 → ¬ ((Ax.kc u2.kind : Nat) : Int) = 44 → Hid (R = (none, q + 1)) := by
        intro hm hm2
        have hm : ¬ u2.kind = 5 := by rintro e; rw [e] at hm; exact hm rfl
        have hm2 : ¬ u2.kind = 6 := by rintro e; rw [e] at hm2; exact hm2 rfl
        rw [← HRq.out, Ax.pTerms_last hpt (by rw [hk2]; exact hm2)]
        simp [Hid, rend, hk2, hm]
      have hEc : ((Ax.kc u2.kind : Nat) : Int) = 44 → Hid (rend T t (Ax.pTerms T f (q + 1 + 1) (ts ++ [⟨u.kind - 2, u.text⟩])) = R) ∧ q + 1 + 1 < T.length := by
        intro hm2
        have hm2 : u2.kind = 6 := by
          have := Ax.kc_eq u2.kind r0 r8 6 (by decide) (by decide)
          rw [show ((Ax.kc 6 : Nat) : Int) = 44 by rfl, hm2] at this
          simpa using this.symm
        obtain ⟨hql, e⟩ := Tok_get HU2.out
        refine ⟨?_, h.2.2.1.next hql (by rw [e]; omega) (by rw [e]; omega)⟩
        rw [← HRq.out, Ax.pTerms_on hpt (by rw [hk2]; exact hm2)]
        rfl
      have HEa : Hid _ := hEa
      have HEb : Hid _ := hEb
      have HEc : Hid _ := hEc
      clear hEa hEb hEc hpt hk2 HRq
      rcases hnv with hn | hn
      · have n1 : ((Ax.kc u.kind : Int) != 110) = false := ne_of' (j := 2) q0 q8 (by decide) (by decide) hn
        have n2 : ((Ax.kc u.kind : Int) == 118) = false := eq_of' (j := 3) q0 q8 (by decide) (by decide) (by omega)
        have HV : Hid (isVar ⟨u.kind - 2, u.text⟩ = false) := by simp [Hid, isVar, hn]
        clear hn
        go_upto_region 9 with fail
        go_cut [1] from 39 to 96 (fun iv wx => iv = .int .i64 q ∧ ∃ g3 cap3, RAR w wx t (.slice (some ⟨g3, 0, none⟩) (ts.length + 1) cap3) (.slice vd ts.length vc) (ts.length + 1) ts.length (ts.map Ax.Term.text ++ [u.text]) (ts.map isVar))
        case first =>
          go_region_law (refine step_append_lies _ rfl (.tmp 56) (.tmp 62) 82 rfl w.heap.size 9 i9 _ 1 16 Try.underlying82 hi9.out hz9.out hs9.out hy9.out rfl (by decide) (.slice td ts.length tc) ts.length (strCells (ts.map Ax.Term.text)) (by simp [Act.eval, Act.put]) (by exact hownT.alloc _) ⟨wr.heap.size, 0, none⟩ 1 1 [.string u.text] (by simp [Act.eval, Act.put]) rfl (by exact new_cells _ _ _) (by simp [Value.oneCell']) (by decide) (by unfold maxLen; omega) (by omega) (by simp; omega) (wr.heap.size + 1) (by simp) ?_; intro g3 cap3 w3 hown3 hgrow3 _ hlt3; obtain ⟨hC0, hC1, hbel3⟩ := hrar.grown (grownBy_undrew (w := wr.alloc (.cells #[.string u.text] 9)) hgrow3) (ownsRow_kind (hownT.alloc _)) (fun k hk => (hownT.lt k hk).1) (by decide); have hV3 := ownsRow_type (hownV.alloc (.cells #[.string u.text] 9)) (grownBy_undrew (w := wr.alloc (.cells #[.string u.text] 9)) hgrow3) (ownsRow_kind (hownT.alloc _)) (by decide); have hrar3 := RAR.putT hC0 hC1 hbel3 (tv' := .slice (some ⟨g3, 0, none⟩) (ts.length + 1) cap3) (lT := ts.map Ax.Term.text ++ [u.text]) (by rw [strCells_snoc']; exact hown3) hV3; obtain ⟨a03, a13, a23, a33, fa03, fa13, fa23, fa33, hl03⟩ := blocks_cells hC0; obtain ⟨b03, b13, b23, b33, _, fb13, fb23, _, hl13⟩ := blocks_cells hC1)
          all_goals (go_wp2_with fail)
          all_goals go_meet
          all_goals exact ⟨rfl, g3, cap3, hrar3⟩
        case rest =>
          obtain ⟨rfl, g3, cap3, hrar3⟩ := hcut
          clear hrar hownT hownV a0 a1 a2 a3 fa0 fa1 fa2 fa3 hl0 b0 b1 b2 b3 fb1 fb2 hl1 e0 e1 hbel hgl hsz
          have hbel := hrar3.bel
          have hsz := hbel.size
          have hownV := hrar3.oV
          obtain ⟨a0, a1, a2, a3, fa0, fa1, fa2, fa3, hl0⟩ := blocks_cells hrar3.b0
          obtain ⟨b0, b1, b2, b3, _, fb1, fb2, _, hl1⟩ := blocks_cells hrar3.b1
          have e0 := (hbel.cell (p := ⟨g, q * 3, none⟩) hg).trans E0.out
          go_upto_region 10 with fail
          go_cut [1] from 39 to 96 (fun iv wx => iv = .int .i64 q ∧ ∃ g5 cap5, RAR w wx t (.slice (some ⟨g3, 0, none⟩) (ts.length + 1) cap3) (.slice (some ⟨g5, 0, none⟩) (ts.length + 1) cap5) (ts.length + 1) (ts.length + 1) (ts.map Ax.Term.text ++ [u.text]) (ts.map isVar ++ [false]))
          case first =>
            go_region_law (refine step_append_lies _ rfl (.tmp 66) (.tmp 73) 113 rfl w.heap.size 4 i4 _ 1 1 Try.underlying113 hi4.out hz4.out hs4.out hy4.out rfl (by decide) (.slice vd ts.length vc) ts.length (boolCells (ts.map isVar)) (by simp [Act.eval, Act.put]) (by exact hownV.alloc _) ⟨wc.heap.size, 0, none⟩ 1 1 [.bool false] (by simp [Act.eval, Act.put]) rfl (by exact new_cells _ _ _) (by simp [Value.oneCell']) (by decide) (by unfold maxLen; omega) (by omega) (by simp; omega) (wc.heap.size + 1) (by simp) ?_; intro g5 cap5 w5 hown5 hgrow5 _ hlt5; obtain ⟨hD0, hD1, hbel5⟩ := hrar3.grown (grownBy_undrew (w := wc.alloc (.cells #[.bool false] 4)) hgrow5) (ownsRow_kind (hownV.alloc _)) (fun k hk => (hownV.lt k hk).1) (by decide); have hT5 := ownsRow_type (hrar3.oT.alloc (.cells #[.bool false] 4)) (grownBy_undrew (w := wc.alloc (.cells #[.bool false] 4)) hgrow5) (ownsRow_kind (hownV.alloc _)) (by decide); have hrar5 := RAR.putV hD0 hD1 hbel5 (vv' := .slice (some ⟨g5, 0, none⟩) (ts.length + 1) cap5) (lV := ts.map isVar ++ [false]) hT5 (by rw [boolCells_snoc]; exact hown5); obtain ⟨a05, a15, a25, a35, fa05, fa15, fa25, fa35, hl05⟩ := blocks_cells hD0; obtain ⟨b05, b15, b25, b35, _, fb15, fb25, _, hl15⟩ := blocks_cells hD1)
            all_goals (go_wp2_with fail)
            all_goals go_meet
            all_goals exact ⟨rfl, g5, cap5, hrar5⟩
          case rest =>
            obtain ⟨rfl, g5, cap5, hrar5⟩ := hcut
            clear hrar3 hownV a0 a1 a2 a3 fa0 fa1 fa2 fa3 hl0 b0 b1 b2 b3 fb1 fb2 hl1 e0 hbel hsz
            have hbel5 := hrar5.bel
            have hsz := hbel5.size
            obtain ⟨a0, a1, a2, a3, fa0, fa1, fa2, fa3, hl0⟩ := blocks_cells hrar5.b0
            obtain ⟨b0, b1, b2, b3, _, fb1, fb2, _, hl1⟩ := blocks_cells hrar5.b1
            obtain ⟨g6, hgg6, _, _, e05, _, _, _, _⟩ := (h.below hbel5).cells HU2.out
            obtain rfl : g = g6 := by simpa using hgg6
            obtain ⟨hu, bu, oTu, oVu⟩ := hrar5.finish
            by_cases h5 : u2.kind = 5
            · have m1 : ((Ax.kc u2.kind : Int) == 41) = true := eq_of (j := 5) r0 r8 (by decide) (by decide) h5
              have HE := HEa.out (by simpa using m1)
              clear h5
              go_wp2_with fail
              all_goals exact bodyPost_ret (v := .tuple #[.agg #[.string t.text, .slice (some ⟨g3, 0, none⟩) (ts.length + 1) cap3, .slice (some ⟨g5, 0, none⟩) (ts.length + 1) cap5, .int .i64 t.at_], .int .i64 (q + 1 + 1), .bool true]) (by simp [results, Try.results46, go_sem, cell_at hu]; done) rfl (rapost_yes HE HV bu oTu oVu)
            · have m1 : ((Ax.kc u2.kind : Int) == 41) = false := eq_of' (j := 5) r0 r8 (by decide) (by decide) h5
              by_cases h6 : u2.kind = 6
              · have m2 : ((Ax.kc u2.kind : Int) != 44) = false := ne_of' (j := 6) r0 r8 (by decide) (by decide) h6
                obtain ⟨HC, hql⟩ := HEc.out (by simpa using m2)
                clear h5 h6
                go_wp2_with fail
                all_goals (go_roundg f; (case measure => omega); (case rel => exact ⟨q + 1 + 1, ts ++ [⟨u.kind - 2, u.text⟩], some ⟨g3, 0, none⟩, cap3, some ⟨g5, 0, none⟩, cap5, hql, by omega, by simp; omega, by go_num, HC.out, rar_next hrar5 HV⟩))
              · have m2 : ((Ax.kc u2.kind : Int) != 44) = true := ne_of (j := 6) r0 r8 (by decide) (by decide) h6
                have HE := HEb.out (by simpa using m1) (by simpa using m2)
                clear h5 h6
                go_wp2_with fail
                all_goals exact bodyPost_ret (v := .tuple #[.agg #[.string t.text, .slice (some ⟨g3, 0, none⟩) (ts.length + 1) cap3, .slice (some ⟨g5, 0, none⟩) (ts.length + 1) cap5, .int .i64 t.at_], .int .i64 (q + 1), .bool false]) (by simp [results, Try.results46, go_sem, cell_at hu]; done) rfl (rapost_no HE (by omega) bu)
      · have n1 : ((Ax.kc u.kind : Int) != 110) = true := ne_of (j := 2) q0 q8 (by decide) (by decide) (by omega)
        have n3 : ((Ax.kc u.kind : Int) != 118) = false := ne_of' (j := 3) q0 q8 (by decide) (by decide) hn
        have n2 : ((Ax.kc u.kind : Int) == 118) = true := eq_of (j := 3) q0 q8 (by decide) (by decide) hn
        have HV : Hid (isVar ⟨u.kind - 2, u.text⟩ = true) := by simp [Hid, isVar, hn]
        clear hn
        go_upto_region 9 with fail
        go_cut [1] from 39 to 96 (fun iv wx => iv = .int .i64 q ∧ ∃ g3 cap3, RAR w wx t (.slice (some ⟨g3, 0, none⟩) (ts.length + 1) cap3) (.slice vd ts.length vc) (ts.length + 1) ts.length (ts.map Ax.Term.text ++ [u.text]) (ts.map isVar))
        case first =>
          go_region_law (refine step_append_lies _ rfl (.tmp 56) (.tmp 62) 82 rfl w.heap.size 9 i9 _ 1 16 Try.underlying82 hi9.out hz9.out hs9.out hy9.out rfl (by decide) (.slice td ts.length tc) ts.length (strCells (ts.map Ax.Term.text)) (by simp [Act.eval, Act.put]) (by exact hownT.alloc _) ⟨wr.heap.size, 0, none⟩ 1 1 [.string u.text] (by simp [Act.eval, Act.put]) rfl (by exact new_cells _ _ _) (by simp [Value.oneCell']) (by decide) (by unfold maxLen; omega) (by omega) (by simp; omega) (wr.heap.size + 1) (by simp) ?_; intro g3 cap3 w3 hown3 hgrow3 _ hlt3; obtain ⟨hC0, hC1, hbel3⟩ := hrar.grown (grownBy_undrew (w := wr.alloc (.cells #[.string u.text] 9)) hgrow3) (ownsRow_kind (hownT.alloc _)) (fun k hk => (hownT.lt k hk).1) (by decide); have hV3 := ownsRow_type (hownV.alloc (.cells #[.string u.text] 9)) (grownBy_undrew (w := wr.alloc (.cells #[.string u.text] 9)) hgrow3) (ownsRow_kind (hownT.alloc _)) (by decide); have hrar3 := RAR.putT hC0 hC1 hbel3 (tv' := .slice (some ⟨g3, 0, none⟩) (ts.length + 1) cap3) (lT := ts.map Ax.Term.text ++ [u.text]) (by rw [strCells_snoc']; exact hown3) hV3; obtain ⟨a03, a13, a23, a33, fa03, fa13, fa23, fa33, hl03⟩ := blocks_cells hC0; obtain ⟨b03, b13, b23, b33, _, fb13, fb23, _, hl13⟩ := blocks_cells hC1)
          all_goals (go_wp2_with fail)
          all_goals go_meet
          all_goals exact ⟨rfl, g3, cap3, hrar3⟩
        case rest =>
          obtain ⟨rfl, g3, cap3, hrar3⟩ := hcut
          clear hrar hownT hownV a0 a1 a2 a3 fa0 fa1 fa2 fa3 hl0 b0 b1 b2 b3 fb1 fb2 hl1 e0 e1 hbel hgl hsz
          have hbel := hrar3.bel
          have hsz := hbel.size
          have hownV := hrar3.oV
          obtain ⟨a0, a1, a2, a3, fa0, fa1, fa2, fa3, hl0⟩ := blocks_cells hrar3.b0
          obtain ⟨b0, b1, b2, b3, _, fb1, fb2, _, hl1⟩ := blocks_cells hrar3.b1
          have e0 := (hbel.cell (p := ⟨g, q * 3, none⟩) hg).trans E0.out
          go_upto_region 10 with fail
          go_cut [1] from 39 to 96 (fun iv wx => iv = .int .i64 q ∧ ∃ g5 cap5, RAR w wx t (.slice (some ⟨g3, 0, none⟩) (ts.length + 1) cap3) (.slice (some ⟨g5, 0, none⟩) (ts.length + 1) cap5) (ts.length + 1) (ts.length + 1) (ts.map Ax.Term.text ++ [u.text]) (ts.map isVar ++ [true]))
          case first =>
            go_region_law (refine step_append_lies _ rfl (.tmp 66) (.tmp 73) 113 rfl w.heap.size 4 i4 _ 1 1 Try.underlying113 hi4.out hz4.out hs4.out hy4.out rfl (by decide) (.slice vd ts.length vc) ts.length (boolCells (ts.map isVar)) (by simp [Act.eval, Act.put]) (by exact hownV.alloc _) ⟨wc.heap.size, 0, none⟩ 1 1 [.bool true] (by simp [Act.eval, Act.put]) rfl (by exact new_cells _ _ _) (by simp [Value.oneCell']) (by decide) (by unfold maxLen; omega) (by omega) (by simp; omega) (wc.heap.size + 1) (by simp) ?_; intro g5 cap5 w5 hown5 hgrow5 _ hlt5; obtain ⟨hD0, hD1, hbel5⟩ := hrar3.grown (grownBy_undrew (w := wc.alloc (.cells #[.bool true] 4)) hgrow5) (ownsRow_kind (hownV.alloc _)) (fun k hk => (hownV.lt k hk).1) (by decide); have hT5 := ownsRow_type (hrar3.oT.alloc (.cells #[.bool true] 4)) (grownBy_undrew (w := wc.alloc (.cells #[.bool true] 4)) hgrow5) (ownsRow_kind (hownV.alloc _)) (by decide); have hrar5 := RAR.putV hD0 hD1 hbel5 (vv' := .slice (some ⟨g5, 0, none⟩) (ts.length + 1) cap5) (lV := ts.map isVar ++ [true]) hT5 (by rw [boolCells_snoc]; exact hown5); obtain ⟨a05, a15, a25, a35, fa05, fa15, fa25, fa35, hl05⟩ := blocks_cells hD0; obtain ⟨b05, b15, b25, b35, _, fb15, fb25, _, hl15⟩ := blocks_cells hD1)
            all_goals (go_wp2_with fail)
            all_goals go_meet
            all_goals exact ⟨rfl, g5, cap5, hrar5⟩
          case rest =>
            obtain ⟨rfl, g5, cap5, hrar5⟩ := hcut
            clear hrar3 hownV a0 a1 a2 a3 fa0 fa1 fa2 fa3 hl0 b0 b1 b2 b3 fb1 fb2 hl1 e0 hbel hsz
            have hbel5 := hrar5.bel
            have hsz := hbel5.size
            obtain ⟨a0, a1, a2, a3, fa0, fa1, fa2, fa3, hl0⟩ := blocks_cells hrar5.b0
            obtain ⟨b0, b1, b2, b3, _, fb1, fb2, _, hl1⟩ := blocks_cells hrar5.b1
            obtain ⟨g6, hgg6, _, _, e05, _, _, _, _⟩ := (h.below hbel5).cells HU2.out
            obtain rfl : g = g6 := by simpa using hgg6
            obtain ⟨hu, bu, oTu, oVu⟩ := hrar5.finish
            by_cases h5 : u2.kind = 5
            · have m1 : ((Ax.kc u2.kind : Int) == 41) = true := eq_of (j := 5) r0 r8 (by decide) (by decide) h5
              have HE := HEa.out (by simpa using m1)
              clear h5
              go_wp2_with fail
              all_goals exact bodyPost_ret (v := .tuple #[.agg #[.string t.text, .slice (some ⟨g3, 0, none⟩) (ts.length + 1) cap3, .slice (some ⟨g5, 0, none⟩) (ts.length + 1) cap5, .int .i64 t.at_], .int .i64 (q + 1 + 1), .bool true]) (by simp [results, Try.results46, go_sem, cell_at hu]; done) rfl (rapost_yes HE HV bu oTu oVu)
            · have m1 : ((Ax.kc u2.kind : Int) == 41) = false := eq_of' (j := 5) r0 r8 (by decide) (by decide) h5
              by_cases h6 : u2.kind = 6
              · have m2 : ((Ax.kc u2.kind : Int) != 44) = false := ne_of' (j := 6) r0 r8 (by decide) (by decide) h6
                obtain ⟨HC, hql⟩ := HEc.out (by simpa using m2)
                clear h5 h6
                go_wp2_with fail
                all_goals (go_roundg f; (case measure => omega); (case rel => exact ⟨q + 1 + 1, ts ++ [⟨u.kind - 2, u.text⟩], some ⟨g3, 0, none⟩, cap3, some ⟨g5, 0, none⟩, cap5, hql, by omega, by simp; omega, by go_num, HC.out, rar_next hrar5 HV⟩))
              · have m2 : ((Ax.kc u2.kind : Int) != 44) = true := ne_of (j := 6) r0 r8 (by decide) (by decide) h6
                have HE := HEb.out (by simpa using m1) (by simpa using m2)
                clear h5 h6
                go_wp2_with fail
                all_goals exact bodyPost_ret (v := .tuple #[.agg #[.string t.text, .slice (some ⟨g3, 0, none⟩) (ts.length + 1) cap3, .slice (some ⟨g5, 0, none⟩) (ts.length + 1) cap5, .int .i64 t.at_], .int .i64 (q + 1), .bool false]) (by simp [results, Try.results46, go_sem, cell_at hu]; done) rfl (rapost_no HE (by omega) bu)
    · have n1 : ((Ax.kc u.kind : Int) != 110) = true := ne_of (j := 2) q0 q8 (by decide) (by decide) (by omega)
      have n3 : ((Ax.kc u.kind : Int) != 118) = true := ne_of (j := 3) q0 q8 (by decide) (by decide) (by omega)
      have HE : Hid (R = (none, q)) := by
        rw [← HRq.out, Ax.pTerms_none (Ax.pTerm_none HU.out hnv)]
        rfl
      clear HRq hnv
      obtain ⟨hu, bu, oTu, oVu⟩ := hrar.finish
      go_wp2_with fail
      all_goals (exact bodyPost_ret (v := .tuple #[.agg #[.string t.text, .slice td ts.length tc, .slice vd ts.length vc, .int .i64 t.at_], .int .i64 q, .bool false]) (by simp [results, Try.results46, go_sem, cell_at hu]; done) rfl (rapost_no HE (by omega) bu))
end Go.Proofs.Ytdmicblafmhflaa
