/- addPreds. -/
import Derived.Test.YtdmicblafmhflaaN3
namespace Go.Proofs.Ytdmicblafmhflaa
set_option linter.unusedSimpArgs false
set_option linter.unusedVariables false
open Go.RowKit

theorem ownsRow_others {w w' : World} {b : Nat} {e e' : TypeId} {size : Nat} {v : Value} {n : Nat} {xs : List Value} (h : w.ownsRow b e size v n xs) (ho : Lib.OthersKept e' none w w') (hne : e ≠ e') : w'.ownsRow b e size v n xs := by
  refine ⟨h.1, ?_⟩
  rcases h.2 with hn | ⟨g, cap, cur, hv, hg, hh, r⟩
  · exact .inl hn
  · refine .inr ⟨g, cap, cur, hv, hg, ho g _ hh (by simp) (fun c fz e1 => ?_), r⟩
    simp at e1
    exact hne e1.2.1
theorem others_below {w w' : World} {e : TypeId} (h : Below w.heap.size w w') : Lib.OthersKept e none w w' := fun k o hk _ _ => (h.block k (lt_of_heap hk)).trans hk
theorem oks_others {w w' : World} {l : List MA} {e' : TypeId} (h : oks w l) (ho : Lib.OthersKept e' none w w') (hne : 102 ≠ e') : oks w' l := fun x hx => ownsRow_others (h x hx) ho hne
theorem MR.others {w w' : World} {r : MR} {e' : TypeId} (h : MR.ok w r) (ho : Lib.OthersKept e' none w w') (h1 : 102 ≠ e') (h2 : 89 ≠ e') : MR.ok w' r :=
  ⟨ownsRow_others h.1 ho h1, ownsRow_others h.2.1 ho h2, oks_others h.2.2 ho h1⟩

theorem strCells_snoc (l : List ByteArray) (s : ByteArray) : strCells (l ++ [s]) = strCells l ++ [.string s] := by simp [strCells]
theorem Try.infoStr : (Try.prog.info? 9).map (fun i => (i.zero, i.size, i.bytes)) = some (some (.string ByteArray.empty), 1, 16) := by kernel_rfl

/-- what an append to a row of strings does -/
theorem preds_world {B : Nat} {w w1 w2 : World} {v : Value} {n : Nat} {xs : List Value} {o : Obj} (hB : B ≤ w1.heap.size) (hown : w1.ownsRow B 9 1 v n xs) (hbel : Below B w w1) (ho : Lib.OthersKept 9 none w w1) (hgrow : (w1.alloc o).grownBy w2 v.ownBlock) :
    Below B w w2 ∧ Lib.OthersKept 9 none w w2 :=
  ⟨(hbel.alloc hB o).grown hgrow (by simp; omega) (fun k hk => (hown.lt k hk).1), (ho.alloc o).grown hgrow (ownsRow_kind (hown.alloc o))⟩

def PredsRel (B : Nat) (w wr : World) (v : Value) (ps : List ByteArray) (k : Nat) (L : List Ax.Atom) (n : Nat) (R : List ByteArray) : Prop :=
  wr.ownsRow B 9 1 v ps.length (strCells ps) ∧ Below B w wr ∧ B ≤ wr.heap.size ∧ Lib.OthersKept 9 none w wr ∧ ps.length ≤ n + k ∧ Ax.addPreds ps (L.drop k) = R

set_option maxHeartbeats 2000000 in
theorem addPreds_any (B : Nat) (w : World) (pd : Option Addr) (pc : Nat) (ps : List ByteArray) (a : Ax.Atom) (ad : Option Addr) (c : Nat) (bd : Option Addr) (d : Nat) (l : List MA) (h : MR.ok w ⟨(a, .slice ad a.terms.length c), .slice bd l.length d, l⟩) (hl : l.length ≤ 1000)
    (hB : B ≤ w.heap.size) (hps : w.ownsRow B 9 1 (.slice pd ps.length pc) ps.length (strCells ps)) (hpl : ps.length ≤ 1000) :
    Calls Try.prog 39 #[.slice pd ps.length pc, .agg #[.int .i64 a.at_, .string a.pred, .slice ad a.terms.length c, .slice bd l.length d]] w fun e w' => ∃ pd' pc' ps', e = .returned (.slice pd' (List.length ps') pc') ∧ Hid (ps' = Ax.addPreds ps (a :: l.map Prod.fst)) ∧ w'.ownsRow B 9 1 (.slice pd' ps'.length pc') ps'.length (strCells ps') ∧ Below B w w' ∧ Lib.OthersKept 9 none w w' ∧ ps'.length ≤ ps.length + l.length + 1 := by
  generalize hR : Ax.addPreds ps (a :: l.map Prod.fst) = R
  have HR : Hid (Ax.addPreds ps (a :: l.map Prod.fst) = R) := hR
  clear hR
  go_enter Try.func39, Try.ntmps39
  go_wp2_with (go_at_call 41; refine (atomsOf_any _ _ _ _ _ _ _ (MR.below h ((Below.refl _ _).alloc (Nat.le_refl _) _)) hl).mono ?_; rintro e w1 ⟨ad', c', rfl, hats, hoks, hb1⟩)
  have hb0 : Below w.heap.size w w1 := ((Below.refl _ _).alloc (Nat.le_refl _) _).trans (hb1.mono (by simp))
  have hs1 := hb0.size
  clear hb1 h
  generalize hL : (a, Value.slice ad a.terms.length c) :: l = L at hats hoks
  have hLl : L.length = l.length + 1 := by rw [← hL]; rfl
  have hLm : L.map Prod.fst = a :: l.map Prod.fst := by rw [← hL]; rfl
  rw [← hLm] at HR
  clear hL hLm
  have hLa : L.length ≤ l.length + 1 := by omega
  have hLb : l.length + 1 ≤ L.length := by omega
  clear hLl
  go_loopw [0, 10] (fun v i wr => ∃ (k : Nat) (qs : List ByteArray), k ≤ L.length ∧ i = .int .i64 k ∧ PredsRel B w wr v qs k (L.map Prod.fst) ps.length R ∧ Lib.OthersKept 9 none w1 wr) (fun _ i _ => L.length - (intOf i).toNat)
  case atStart => exact ⟨0, ps, Nat.zero_le _, rfl, ⟨ownsRow_below hps hb0, hb0.mono hB, by omega, others_below hb0, by omega, HR.out⟩, Lib.OthersKept.refl _ _ _⟩
  case round =>
    obtain ⟨k, qs, hk, rfl, ⟨hown, hbel, hBw, hoth, hql, hr⟩, ho1⟩ := hrel
    have HRk : Hid (Ax.addPreds qs ((L.map Prod.fst).drop k) = R) := hr
    clear hr HR
    obtain ⟨qd, qc, hq0⟩ := ownsRow_shape hown
    subst hq0
    by_cases hlt : k < L.length
    · have hrow := ownsRow_others hats ho1 (by decide)
      obtain ⟨g, rfl, hg, hc, hcs⟩ := row_cells hrow (by omega)
      have hcell0 := hcs _ _ (atomCells_get L k hlt).1
      have hcell1 := hcs _ _ (atomCells_get L k hlt).2.1
      have hcell2 := hcs _ _ (atomCells_get L k hlt).2.2
      have hxk : MA.ok wr L[k] := oks_others hoks ho1 (by decide) _ (List.getElem_mem hlt)
      obtain ⟨xd, xc, hsh⟩ := ownsRow_shape hxk
      rw [hsh] at hcell2
      have hdrop : (L.map Prod.fst).drop k = (L[k]).1 :: (L.map Prod.fst).drop (k + 1) := by
        rw [List.drop_eq_getElem_cons (by simpa using hlt)]; simp
      rw [hdrop] at HRk
      generalize (L[k]).1 = x at hcell0 hcell1 hcell2 HRk
      clear hsh hcs hrow hdrop hxk hats
      cases hv : Ax.has qs x.pred
      case true =>
        have HN : Hid (Ax.addPreds qs ((L.map Prod.fst).drop (k + 1)) = R) := by
          have := HRk.out
          simp only [Ax.addPreds, hv, if_true] at this
          exact this
        go_wp2_with (go_at_call 56; refine (containsStr_any _ _ _ _ _ _ (hown.alloc _)).mono ?_; rintro e w2 ⟨rfl, rfl⟩)
        go_roundw
        case rel =>
          refine ⟨k + 1, qs, by omega, by go_num, ⟨hown.alloc _, hbel.alloc hBw _, by simp; omega, hoth.alloc _, by omega, HN.out⟩, ho1.alloc _⟩
        case measure => simp [intOf]; omega
      case false =>
        have HN : Hid (Ax.addPreds (qs ++ [x.pred]) ((L.map Prod.fst).drop (k + 1)) = R) := by
          have := HRk.out
          simp only [Ax.addPreds, hv, Bool.false_eq_true, if_false] at this
          exact this
        go_wp2_with (first | (go_at_call 56; refine (containsStr_any _ _ _ _ _ _ (hown.alloc _)).mono ?_; rintro e w2 ⟨rfl, rfl⟩) | (at_builtin; go_must (obtain ⟨i0, hi, hz0, hz1, hz2⟩ := info_parts Try.infoStr; refine wpList_append_own _ rfl (.tmp 19) (.tmp 22) 82 rfl B 9 i0 _ 1 16 Try.underlying82 hi hz0 hz1 hz2 rfl (by decide) _ _ _ rfl ((hown.alloc _).alloc _) ⟨wr.heap.size + 1, 0, none⟩ 1 1 [.string x.pred] rfl rfl (new_cells2 _ _ _ _) (by simp [Value.oneCell']) (by unfold maxLen; omega) (by omega) (by simp; omega) ?_; intro v2 w2 hown2 hgrow _; clear hi hz0 hz1 hz2; obtain ⟨hbel2, hoth2⟩ := preds_world (by simp; omega) (hown.alloc _) (hbel.alloc hBw _) (hoth.alloc _) hgrow; have hoth1 := ((ho1.alloc _).alloc _).grown hgrow (ownsRow_kind ((hown.alloc _).alloc _)))))
        go_roundw
        case rel =>
          refine ⟨k + 1, qs ++ [x.pred], by omega, by go_num, ⟨?_, hbel2, ?_, hoth2, by simp; omega, HN.out⟩, hoth1⟩
          · rw [strCells_snoc]; simpa using hown2
          · have := hgrow.size; simp at this; omega
        case measure => simp [intOf]; omega
    · have A1 : Hid (Lib.OthersKept 9 none w wr) := hoth
      clear hoth ho1 hoks hats
      go_wp2_with fail
      go_ret
      rw [List.drop_eq_nil_of_le (by simp; omega)] at HRk
      exact ⟨qd, qc, qs, rfl, HRk.out, hown, hbel, A1, by omega⟩
end Go.Proofs.Ytdmicblafmhflaa
