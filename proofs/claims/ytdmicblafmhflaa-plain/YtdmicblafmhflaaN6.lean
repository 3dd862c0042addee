/- openHead. -/
import Derived.Test.YtdmicblafmhflaaN5
import Derived.Test.YtdmicblafmhflaaPP
namespace Go.Proofs.Ytdmicblafmhflaa
set_option linter.unusedSimpArgs false
set_option linter.unusedVariables false
open Go.RowKit

set_option maxHeartbeats 2000000 in
theorem openHead_any (w : World) (rd : Option Addr) (rc : Nat) (l : List MR) (h : RulesIn w rd rc l) :
    Calls Try.prog 28 #[.slice rd l.length rc] w fun e w' => Below w.heap.size w w' ∧ ((∃ at_ : Nat, Ax.openHead (l.map MR.rule) = some at_ ∧ e = .returned (.tuple #[.int .i64 at_, .bool true])) ∨ (Ax.openHead (l.map MR.rule) = none ∧ e = .returned (.tuple #[.int .i64 0, .bool false]))) := by
  have hle := ownsRow_le h.1
  generalize hR : Ax.openHead (l.map MR.rule) = R
  go_enter Try.func28, Try.ntmps28
  go_wp2_with fail
  go_loopw [10] (fun i wr => ∃ (k : Nat), k ≤ l.length ∧ i = .int .i64 k ∧ Below w.heap.size w wr ∧ Ax.openHead ((l.map MR.rule).drop k) = R) (fun i _ => l.length - (intOf i).toNat)
  case atStart => exact ⟨0, Nat.zero_le _, rfl, Below.refl _ _, hR⟩
  case round =>
    obtain ⟨k, hk, rfl, hbel, hr⟩ := hrel
    have HR : Hid (Ax.openHead ((l.map MR.rule).drop k) = R) := hr
    clear hr hR
    obtain ⟨w0, rfl⟩ : ∃ x, x = wr := ⟨_, rfl⟩
    have hsz := hbel.size
    by_cases hlt : k < l.length
    · obtain ⟨g, a, ad, c, bd, d, body, rfl, hg, hcap, d0, d1, d2, d3, hmr, hbl, hrule⟩ := (h.below hbel).at hlt
      have hdrop : (l.map MR.rule).drop k = ⟨a, List.map Prod.fst body⟩ :: (l.map MR.rule).drop (k + 1) := by
        rw [List.drop_eq_getElem_cons (by simpa using hlt)]; simp [hrule]
      rw [hdrop] at HR
      clear hdrop hrule
      have hyes : Ax.openAt ⟨a, List.map Prod.fst body⟩ = true → R = some a.at_ := by
        intro hm
        have := HR.out
        simp only [Ax.openHead, hm, if_true] at this
        exact this.symm
      have hno : Ax.openAt ⟨a, List.map Prod.fst body⟩ = false → Ax.openHead ((l.map MR.rule).drop (k + 1)) = R := by
        intro hm
        have := HR.out
        simp only [Ax.openHead, hm, Bool.false_eq_true, if_false] at this
        exact this
      have HY : Hid (Ax.openAt ⟨a, List.map Prod.fst body⟩ = true → R = some a.at_) := hyes
      have HN : Hid (Ax.openAt ⟨a, List.map Prod.fst body⟩ = false → Ax.openHead ((l.map MR.rule).drop (k + 1)) = R) := hno
      clear hyes hno HR
      have hatl := ownsRow_le hmr.1
      simp only at hatl
      go_wp2_with fail
      go_loopw [18] (fun i w2 => ∃ (q : Nat), q ≤ a.terms.length ∧ i = .int .i64 q ∧ Below (w0.heap.size + 1) (w0.alloc (.cells #[.int .i64 a.at_, .string a.pred, .slice ad a.terms.length c, .slice bd body.length d] 92)) w2 ∧ ∀ j (hj : j < a.terms.length), j < q → Ax.openTerm (List.map Prod.fst body) a.terms[j] = false) (fun i _ => a.terms.length - (intOf i).toNat)
      case atStart => exact ⟨0, Nat.zero_le _, rfl, Below.refl _ _, fun j _ hj => by omega⟩
      case round =>
        obtain ⟨q, hq, rfl, hb2, hno⟩ := hrel
        have HO : Hid (∀ j (hj : j < a.terms.length), j < q → Ax.openTerm (List.map Prod.fst body) a.terms[j] = false) := hno
        clear hno
        have hsz2 := hb2.size
        simp only [World.size_alloc] at hsz2
        have hlt0 : w0.heap.size < wr.heap.size := by omega
        have hblk := (hb2.block _ (by omega)).trans (heap_alloc_new w0 _)
        have e0 := cell_at hblk 0
        have e1 := cell_at hblk 1
        have e2 := cell_at hblk 2
        have e3 := cell_at hblk 3
        simp only [List.getElem?_toArray, List.getElem?_cons_zero, List.getElem?_cons_succ] at e0 e1 e2 e3
        have hmr2 := MR.below (MR.below hmr ((Below.refl _ _).alloc (Nat.le_refl _) _)) (hb2.mono (by simp))
        by_cases hlq : q < a.terms.length
        · obtain ⟨tg, hadg, htg, htc, htcs⟩ := row_cells hmr2.1 (by show 0 < a.terms.length; omega)
          simp only at hadg htcs
          subst hadg
          have t0 := htcs _ _ (termCells_get a.terms q hlq).1
          have t1 := htcs _ _ (termCells_get a.terms q hlq).2
          clear htcs
          generalize ht : a.terms[q] = t at t0 t1
          have HT : Hid (a.terms[q] = t) := ht
          clear ht
          by_cases hk1 : t.kind = 1
          · cases hbh : Ax.bodyHas (List.map Prod.fst body) t
            case false =>
              have HRR : Hid (R = some a.at_) := HY.out (by
                simp only [Ax.openAt, List.any_eq_true]
                exact ⟨t, by rw [← HT.out]; exact List.getElem_mem hlq, by simp [Ax.openTerm, hk1, hbh]⟩)
              have hkb : (t.kind == 1) = true := by simp [hk1]
              clear hk1
              go_wp2_with (first | (go_at_call 43; refine (bodyHas_any _ _ _ _ _ _ _ (MR.below hmr2 ((Below.refl _ _).alloc (Nat.le_refl _) _)) t).mono ?_; rintro e w3 ⟨rfl, hb3⟩; have hblk3 := (hb3.block _ (by simp; omega)).trans ((Below.heap_alloc _ _ _ (lt_of_heap hblk)).trans hblk); have g0 := cell_at hblk3 0; simp only [List.getElem?_toArray, List.getElem?_cons_zero] at g0; have hl3 := lt_of_heap hblk3; simp only [World.size_alloc] at hb3))
              go_ret2
              refine ⟨?_, .inl ⟨a.at_, HRR.out, rfl⟩⟩
              exact ((hbel.alloc hsz _).trans (hb2.mono (by omega))).trans (((Below.refl _ _).alloc (by omega) _).trans (hb3.mono (by omega)))
            case true =>
              have hopen : Hid (Ax.openTerm (List.map Prod.fst body) t = false) := by simp [Hid, Ax.openTerm, hbh]
              have hkb : (t.kind == 1) = true := by simp [hk1]
              clear hk1
              go_wp2_with (first | (go_at_call 43; refine (bodyHas_any _ _ _ _ _ _ _ (MR.below hmr2 ((Below.refl _ _).alloc (Nat.le_refl _) _)) t).mono ?_; rintro e w3 ⟨rfl, hb3⟩; have hblk3 := (hb3.block _ (by simp; omega)).trans ((Below.heap_alloc _ _ _ (lt_of_heap hblk)).trans hblk); have g0 := cell_at hblk3 0; simp only [List.getElem?_toArray, List.getElem?_cons_zero] at g0; have hl3 := lt_of_heap hblk3; simp only [World.size_alloc] at hb3))
              go_roundw
              case rel =>
                refine ⟨q + 1, by omega, by go_num, hb2.trans (((Below.refl _ _).alloc (by omega) _).trans (hb3.mono (by omega))), fun j hj hjq => ?_⟩
                by_cases e : j = q
                · subst e; rw [HT.out]; exact hopen.out
                · exact HO.out j hj (by omega)
              case measure => simp [intOf]; omega
          · have hopen : Hid (Ax.openTerm (List.map Prod.fst body) t = false) := by simp [Hid, Ax.openTerm, hk1]
            have hkb : (t.kind == 1) = false := by simp [hk1]
            clear hk1
            go_wp2_with fail
            go_roundw
            case rel =>
              refine ⟨q + 1, by omega, by go_num, hb2.alloc (by omega) _, fun j hj hjq => ?_⟩
              by_cases e : j = q
              · subst e; rw [HT.out]; exact hopen.out
              · exact HO.out j hj (by omega)
            case measure => simp [intOf]; omega
        · have hshut : Ax.openAt ⟨a, List.map Prod.fst body⟩ = false := by
            rw [Bool.eq_false_iff]
            intro ho
            simp only [Ax.openAt, List.any_eq_true] at ho
            obtain ⟨t, ht, hto⟩ := ho
            obtain ⟨j, hj, e⟩ := List.getElem_of_mem ht
            have := HO.out j hj (by omega)
            rw [e, hto] at this
            cases this
          have HNN : Hid (Ax.openHead ((l.map MR.rule).drop (k + 1)) = R) := HN.out hshut
          clear hshut
          go_wp2_with fail
          go_roundw
          case rel => exact ⟨k + 1, by omega, by go_num, (hbel.alloc hsz _).trans (hb2.mono (by omega)), HNN.out⟩
          case measure => simp [intOf]; omega
    · have HE : Hid (R = none) := by
        have := HR.out
        rw [List.drop_eq_nil_of_le (by simp; omega)] at this
        exact this.symm
      go_wp2_with fail
      go_ret2
      exact ⟨hbel, .inr ⟨HE.out, rfl⟩⟩
end Go.Proofs.Ytdmicblafmhflaa
