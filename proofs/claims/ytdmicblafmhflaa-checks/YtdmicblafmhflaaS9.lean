/- axiomref: read's last answer; Check. -/
import Derived.Test.YtdmicblafmhflaaS7
import Derived.Test.YtdmicblafmhflaaS8
import Derived.Deep.CutRange
namespace Go.Proofs.Ytdmicblafmhflaa
set_option linter.unusedSimpArgs false
set_option linter.unusedVariables false
open Go.RowKit

def ptexts (l : List Ax.Tok) : List UInt8 := l.flatMap fun t => t.text.data.toList

def SortAt (w2 wr : World) (pd : Option Addr) (n pc : Nat) : Prop := Below w2.heap.size w2 wr ∧ (0 < n → ∃ g, pd = some ⟨g, 0, none⟩ ∧ PRow w2 wr g n pc)

theorem cell_setCell_block {w : World} {g h j i : Nat} (v : Value) (hne : g ≠ h) : (w.setCell ⟨g, j, none⟩ v).cell? ⟨h, i, none⟩ = w.cell? ⟨h, i, none⟩ := by
  unfold World.cell?
  rw [Below.heap_setCell _ _ _ _ (by simpa using fun e => hne e.symm)]

set_option maxRecDepth 100000 in
set_option maxHeartbeats 8000000 in
theorem rr_0 (s : ByteArray) (w : World) (hsz : s.size ≤ 600) (rs : List Ax.Rule) (j : Nat) (HR : Hid (Ax.pRules (Ax.split s) (Ax.split s).length 0 [] = (some rs, j))) (H3 : Hid (Ax.tooMany 0 [] rs = none)) (H4 : Hid (Ax.twoAr [] (rs.flatMap Ax.Rule.atoms) = none)) (H5 : Hid (Ax.openHead rs = none)) (T : List Ax.Tok) (HT : Hid (Ax.split s = T)) (HTT : Hid (∀ t, t ∈ T → t.text.size ≤ 600)) (P : ByteArray) (HP : Hid (P = ⟨(ptexts T).toArray⟩)) : Calls Try.prog 16 #[.string s] w fun e w' => RdPost w (P, 0, 0) e w' := by
  have hgt : ¬ (600 : Int) < (s.size : Int) := by omega
  have htok : ∀ w, Calls Try.prog 34 #[.string s] w fun e w' => ∃ ld lc, e = .returned (.slice ld T.length lc) ∧ RAt w' ld lc T ∧ Below w.heap.size w w' := fun w => by
    rw [← HT.out]; exact rtokens_any s w hsz
  have HTOK : Hid (∀ w, Calls Try.prog 34 #[.string s] w fun e w' => ∃ ld lc, e = .returned (.slice ld T.length lc) ∧ RAt w' ld lc T ∧ Below w.heap.size w w') := htok
  clear htok
  go_enter Try.func16, Try.ntmps16
  go_wp2_with (first | (go_at_call 30; refine (rrules_some s _ hsz rs j HR).mono ?_; rintro e w1 ⟨od, oc, out, rfl, hq, hrs, hol, hb1⟩) | (go_at_call 31; refine (rmany_no _ _ _ out hq hol (by rw [hrs.out]; exact H3)).mono ?_; rintro e w2 ⟨rfl, hb2⟩; have hb12 := hb1.trans (hb2.mono hb1.size); have hq2 := hq.below hb2) | (go_at_call 32; refine (rpreds_no _ _ _ out hq2 hol (by rw [hrs.out]; exact H4)).mono ?_; rintro e w3 ⟨pd, pc, o, rfl, hpa⟩; have hq3 := hq2.below hpa.bel) | (go_at_call 33; refine (loose_no _ _ _ out hq3 (by rw [hrs.out]; exact H5)).mono ?_; rintro e w4 ⟨rfl, hb4⟩) | (go_at_call 34; refine (HTOK.out _).mono ?_; rintro e w5 ⟨ld, lc, rfl, hT, hb5⟩))
  have hs2 := hpa.bel.size
  have hs4 := hb4.size
  have hb34 : Below w2.heap.size w2 w4 := hpa.bel.trans (hb4.mono hs2)
  have hb35 : Below w2.heap.size w2 w5 := hb34.trans (hb5.mono (by omega))
  have hsort : SortAt w2 w5 pd o.length pc := by
    refine ⟨hb35, fun h0 => ?_⟩
    have hown := ownsRow_below (ownsRow_below hpa.own hb4) hb5
    obtain ⟨g, rfl, _⟩ := row_cells hown h0
    exact ⟨g, rfl, o, rfl, hown⟩
  have hole := ownsRow_le hpa.own
  have HW : Hid (Below (w.alloc ZP).heap.size (w.alloc ZP) w2) := hb12
  clear hpa hb4 hb5 hb34 hb35 hq hq2 hq3 hb1 hb2 hb12 H3 H4 H5 HR hrs
  have hTl := hT.2.1
  generalize o.length = n at *
  go_loopw [9, 10] (fun pv iv wr => ∃ (i : Nat) (p : ByteArray), i ≤ T.length ∧ pv = .string p ∧ iv = .int .i64 i ∧ wr = w5 ∧ p.data.toList = ptexts (T.take i) ∧ p.size ≤ 600 * i) (fun _ iv _ => T.length - (intOf iv).toNat)
  case atStart => exact ⟨0, ⟨#[]⟩, Nat.zero_le _, rfl, rfl, rfl, rfl, Nat.zero_le _⟩
  case round =>
    obtain ⟨i, p, hi, rfl, rfl, rfl, hp, hps⟩ := hrel
    have HPP : Hid (p.data.toList = ptexts (T.take i)) := hp
    clear hp
    by_cases hlt : i < T.length
    · have ht : T[i]? = some T[i] := List.getElem?_eq_getElem hlt
      obtain ⟨g, rfl, hg, hc, _, c1, _, _, _⟩ := hT.cells ht
      have hts := HTT.out _ (List.getElem_mem hlt)
      have HN : Hid ((p ++ (T[i]).text).data.toList = ptexts (T.take (i + 1))) := by
        show (p ++ (T[i]).text).data.toList = _
        rw [List.take_succ_eq_append_getElem hlt]
        simp only [ptexts, List.flatMap_append, List.flatMap_cons, List.flatMap_nil, List.append_nil, ByteArray.data_append, Array.toList_append]
        rw [HPP.out]; rfl
      have HNS : Hid ((p ++ (T[i]).text).size ≤ 600 * (i + 1)) := by
        show (p ++ (T[i]).text).size ≤ _
        rw [ByteArray.size_append]; omega
      clear ht
      generalize (T[i]).text = tx at *
      go_wp2_with fail
      go_roundw
      case rel => exact ⟨i + 1, p ++ tx, by omega, rfl, by go_num, trivial, HN.out, HNS.out⟩
      case measure => simp [intOf]; omega
    · have hpP : p = P := by
        have := HPP.out
        rw [List.take_of_length_le (by omega)] at this
        rw [HP.out, ← this]
      subst hpP
      clear HPP HP hT HT HTT HTOK
      go_wp2_with fail
      go_loopw [11] (fun iv wr => ∃ (i : Nat), 1 ≤ i ∧ iv = .int .i64 i ∧ SortAt w2 wr pd n pc) (fun iv _ => n - (intOf iv).toNat)
      case atStart => exact ⟨1, Nat.le_refl _, rfl, hsort⟩
      case round =>
        clear hsort
        obtain ⟨i, hi1, rfl, hso⟩ := hrel
        by_cases hin : i < n
        · obtain ⟨hb6, hrowf⟩ := hso
          obtain ⟨g, rfl, hrow⟩ := hrowf (by omega)
          clear hrowf
          go_wp2_with fail
          go_loopw [12] (fun kv wr => ∃ (k : Nat), k ≤ i ∧ kv = .int .i64 k ∧ Below w2.heap.size w2 wr ∧ PRow w2 wr g n pc) (fun kv _ => (intOf kv).toNat)
          case atStart => exact ⟨i, Nat.le_refl _, rfl, hb6, hrow⟩
          case round =>
            clear hrow hb6
            obtain ⟨k, hk, rfl, hb6, hrow⟩ := hrel
            cases k with
            | zero =>
              have hz : decide ((0 : Int) < ((0 : Nat) : Int)) = false := by simp
              go_wp2_with fail
              go_region
              all_goals (go_wp2_with fail)
              all_goals (go_roundw; (case rel => exact ⟨i + 1, by omega, by go_num, hb6.drew, fun _ => ⟨g, rfl, hrow⟩⟩); (case measure => simp [intOf]; omega))
            | succ m =>
              obtain ⟨sa, na, c0, c1, f0, f1, hg, hnc, hgb⟩ := hrow.at (k := m) (by omega)
              obtain ⟨sb, nb, d0, d1, f2, f3, _, _, _⟩ := hrow.at (k := m + 1) (by omega)
              have hpos : decide ((0 : Int) < ((m + 1 : Nat) : Int)) = true := by simp
              go_upto_region 25 with fail
              go_cut [85] from 70 to 104 (fun c wx => ∃ b, c = .bool b ∧ wx = wr.drew)
              case first =>
                go_region
                all_goals (go_wp2_with fail)
                all_goals go_meet
                all_goals exact ⟨_, rfl, rfl⟩
              case rest =>
                obtain ⟨b, rfl, rfl⟩ := hcut
                cases b
                case false =>
                  go_wp2_with fail
                  go_roundw
                  case rel => exact ⟨i + 1, by omega, by go_num, hb6.drew, fun _ => ⟨g, rfl, hrow⟩⟩
                  case measure => simp [intOf]; omega
                case true =>
                  go_wp2_with fail
                  go_roundw
                  case rel =>
                    have hsz6 := hb6.size
                    exact ⟨m, by omega, rfl, (((((hb6.setCell hgb _).setCell hgb _).setCell hgb _).setCell hgb _).alloc (by simp [World.setCell]; omega) _).drew, ((hrow.put (m + 1) sa na (by omega)).put m sb nb (by omega)).alloc _⟩
                  case measure => simp [intOf]
        · obtain ⟨r1, gw1, lt1⟩ := rd_world (HW.out.trans (hso.1.mono HW.out.size))
          obtain ⟨k0, k1, k2, f0, f1, f2⟩ := blk3_cells r1
          clear hso
          go_wp2_with fail
          obtain ⟨hu, bu⟩ := three_storesP r1 (.slice od out.length oc) (.slice pd n pc) (.string p) gw1 (Nat.le_refl _)
          exact bodyPost_ret (v := .tuple #[.agg #[.slice od out.length oc, .slice pd n pc, .string p], .int .i64 0, .int .i64 0]) (by simp [results, Try.results16, go_sem, cell_at hu]) rfl ⟨bu, _, _, _, _, _, _, rfl⟩

/-- read, whole -/
theorem rread_any (s : ByteArray) (w : World) (hm : s.size ≤ maxLen) : Calls Try.prog 16 #[.string s] w fun e w' => RdPost w (Ax.read s) e w' := by
  by_cases h1 : 600 < s.size
  · rw [Ax.read_1 h1]; exact rr_1 s w h1 hm
  · have hs : s.size ≤ 600 := by omega
    rcases hR : Ax.pRules (Ax.split s) (Ax.split s).length 0 [] with ⟨_ | rs, j⟩
    · have hj := Ax.pRules_lt (Ax.split_ends s) _ _ _ (by have := Ax.split_ends s; obtain ⟨m, t, e, _⟩ := this; rw [e]; simp) hR
      have ht : (Ax.split s)[j]? = some (Ax.split s)[j] := List.getElem?_eq_getElem hj
      rw [Ax.read_2 h1 hR ht]
      exact rr_2 s w hs j hR _ ht
    · rcases h3 : Ax.tooMany 0 [] rs with _ | p
      · rcases h4 : Ax.twoAr [] (rs.flatMap Ax.Rule.atoms) with _ | p
        · rcases h5 : Ax.openHead rs with _ | p
          · rw [Ax.read_0 h1 hR h3 h4 h5]
            exact rr_0 s w hs rs j hR h3 h4 h5 _ rfl (fun t ht => by have := Ax.split_text s t ht; omega) _ rfl
          · rw [Ax.read_5 h1 hR h3 h4 h5]; exact rr_5 s w hs rs j hR h3 h4 p h5
        · rw [Ax.read_4 h1 hR h3 h4]; exact rr_4 s w hs rs j hR h3 p h4
      · rw [Ax.read_3 h1 hR h3]; exact rr_3 s w hs rs j hR p h3

set_option maxRecDepth 100000 in
set_option maxHeartbeats 2000000 in
theorem rcheck_any (s : ByteArray) (w : World) (hm : s.size ≤ maxLen) (R : ByteArray × Int × Nat) (HR : Hid (Ax.read s = R)) : Calls Try.prog 9 #[.string s] w fun e w' => e = .returned (.tuple #[.string R.1, .int .i64 R.2.1, .int .i64 R.2.2]) ∧ Below w.heap.size w w' := by
  have hrd : ∀ w, Calls Try.prog 16 #[.string s] w fun e w' => RdPost w R e w' := fun w => by rw [← HR.out]; exact rread_any s w hm
  rcases R with ⟨P, E, A⟩
  go_enter Try.func9, Try.ntmps9
  go_wp2_with (go_at_call 16; refine (hrd _).mono ?_; rintro e w1 ⟨hb1, od, on, oc, pd, pn, pc, rfl⟩)
  go_ret3
  exact ⟨rfl, hb1.alloc hb1.size _⟩
end Go.Proofs.Ytdmicblafmhflaa
