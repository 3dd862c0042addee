/- axiomref: preds. -/
import Derived.Test.YtdmicblafmhflaaS0
import Derived.Test.YtdmicblafmhflaaPP
import Derived.Test.YtdmicblafmhflaaN4
namespace Go.Proofs.Ytdmicblafmhflaa
set_option linter.unusedSimpArgs false
set_option linter.unusedVariables false
open Go.RowKit

def prCells (l : List (ByteArray × Nat)) : List Value := l.flatMap fun x => [.string x.1, .int .i64 x.2]
theorem prCells_snoc (l : List (ByteArray × Nat)) (x : ByteArray × Nat) : prCells (l ++ [x]) = prCells l ++ [.string x.1, .int .i64 x.2] := by simp [prCells]
theorem prCells_get (l : List (ByteArray × Nat)) (k : Nat) (h : k < l.length) : (prCells l)[k * 2]? = some (.string (l[k]).1) ∧ (prCells l)[k * 2 + 1]? = some (.int .i64 (l[k]).2) := by
  induction l generalizing k with
  | nil => simp at h
  | cons a l ih =>
    cases k with
    | zero => simp [prCells]
    | succ k =>
      have := ih k (by simpa using h)
      have e : ∀ j, (prCells (a :: l))[(k + 1) * 2 + j]? = (prCells l)[k * 2 + j]? := by
        intro j
        have : prCells (a :: l) = [.string a.1, .int .i64 a.2] ++ prCells l := by simp [prCells]
        rw [this, List.getElem?_append_right (by simp; omega)]
        congr 1
        simp; omega
      have e0 := e 0
      simp only [Nat.add_zero] at e0
      rw [e0, e 1]
      simpa using this
theorem Try.infoPred : (Try.prog.info? 81).map (fun i => (i.zero, i.size, i.bytes)) = some (some (.agg #[.string ByteArray.empty, .int .i64 0]), 2, 24) := by kernel_rfl

theorem qas_others {w w' : World} {l : List QA} {e' : TypeId} (h : qas w l) (ho : Lib.OthersKept e' none w w') (h1 : 9 ≠ e') (h2 : 4 ≠ e') : qas w' l := fun x hx => ⟨ownsRow_others (h x hx).1 ho h1, ownsRow_others (h x hx).2 ho h2⟩

/-- where preds stands -/
structure PredsAt (w wr : World) (od : Option Addr) (oc : Nat) (o : List (ByteArray × Nat)) : Prop where
  own : wr.ownsRow w.heap.size 81 2 (.slice od o.length oc) o.length (prCells o)
  bel : Below w.heap.size w wr

theorem rulesBelow {w wr : World} {rd : Option Addr} {rc : Nat} {l : List QR} (h : QRsIn w rd rc l) (hb : Below w.heap.size w wr) : QRsIn wr rd rc l := h.below hb

/-- the next round behind an append -/
theorem preds_rel {w w1 w2 wr w4 : World} {od : Option Addr} {oc g4 cap4 i k : Nat} {o : List (ByteArray × Nat)} {L : List QA} {wn : Int} {p : ByteArray} {n : Nat} {Y : List (ByteArray × Nat) × Int}
    (hown4 : w4.ownsRow w.heap.size 81 2 (.slice (some ⟨g4, 0, none⟩) (o.length + 1) cap4) (o.length + 1) (prCells o ++ [.string p, .int .i64 n])) (hgrow4 : (wr.alloc (.cells #[.string p, .int .i64 n] 81)).drew.grownBy w4 (Value.slice od o.length oc).ownBlock)
    (hown3 : wr.ownsRow w.heap.size 81 2 (.slice od o.length oc) o.length (prCells o)) (hpa : PredsAt w w2 od oc o) (hb3 : Below w2.heap.size w2 wr) (hsz2 : w.heap.size ≤ w2.heap.size) (hoth : Lib.OthersKept 81 none w1 w2) (_ : k ≤ L.length) (hlk : k < L.length) (hwn : -1 ≤ wn) (hol : o.length ≤ i * 1001 + k)
    (HS : Hid (((L.map QA.a).drop (k + 1)).foldl Ax.predStep (o ++ [(p, n)], wn) = Y)) :
    ∃ (k' : Nat) (od : Option Addr) (oc : Nat) (o' : List (ByteArray × Nat)) (wn' : Int), k' ≤ L.length ∧ Value.int .i64 (k + 1) = .int .i64 k' ∧ Value.slice (some ⟨g4, 0, none⟩) (o.length + 1) cap4 = .slice od o'.length oc ∧ Value.int .i64 wn = .int .i64 wn' ∧ -1 ≤ wn' ∧ PredsAt w w4 od oc o' ∧ Lib.OthersKept 81 none w1 w4 ∧ o'.length ≤ i * 1001 + k' ∧ ((L.map QA.a).drop k').foldl Ax.predStep (o', wn') = Y := by
  have hgr := grownBy_undrew (w := wr.alloc (.cells #[.string p, .int .i64 n] 81)) hgrow4
  have hsz3 := hb3.size
  refine ⟨k + 1, some ⟨g4, 0, none⟩, cap4, o ++ [(p, n)], wn, by omega, by simp, by simp, rfl, hwn, ⟨?_, ?_⟩, ?_, by simp; omega, HS.out⟩
  · rw [prCells_snoc]; simpa using hown4
  · exact ((hpa.bel.trans (hb3.mono hsz2)).alloc (by omega) _).grown hgr (by simp; omega) (fun q hq => (hown3.lt q hq).1)
  · exact ((hoth.trans (others_below hb3)).alloc _).grown hgr (ownsRow_kind (hown3.alloc _))

set_option maxRecDepth 100000 in
set_option maxHeartbeats 8000000 in
theorem rpreds_any (w : World) (rd : Option Addr) (rc : Nat) (l : List QR) (h : QRsIn w rd rc l) (hll : l.length ≤ 1000) :
    Calls Try.prog 32 #[.slice rd l.length rc] w fun e w' => ∃ od oc o, e = .returned (.tuple #[.slice od (List.length o) oc, .int .i64 (Ax.rpreds ((l.map QR.rule).flatMap Ax.Rule.atoms)).2]) ∧ Hid (o = (Ax.rpreds ((l.map QR.rule).flatMap Ax.Rule.atoms)).1) ∧ PredsAt w w' od oc o := by
  generalize hZ : Ax.rpreds ((l.map QR.rule).flatMap Ax.Rule.atoms) = Z
  go_enter Try.func32, Try.ntmps32
  go_wp2_with fail
  go_loopw [4, 5, 6] (fun ov wv iv wr => ∃ (i : Nat) (od : Option Addr) (oc : Nat) (o : List (ByteArray × Nat)) (wn : Int), i ≤ l.length ∧ iv = .int .i64 i ∧ ov = .slice od o.length oc ∧ wv = .int .i64 wn ∧ -1 ≤ wn ∧ PredsAt w wr od oc o ∧ o.length ≤ i * 1001 ∧ (((l.map QR.rule).drop i).flatMap Ax.Rule.atoms).foldl Ax.predStep (o, wn) = Z) (fun _ _ iv _ => l.length - (intOf iv).toNat)
  case atStart => exact ⟨0, none, 0, [], -1, Nat.zero_le _, rfl, rfl, rfl, by omega, ⟨World.ownsRow_nil _ _ _ _, Below.refl _ _⟩, by simp, hZ⟩
  case round =>
    obtain ⟨i, od, oc, o, wn, hi, rfl, rfl, rfl, hwn, hpa, hol, hr⟩ := hrel
    have HR : Hid ((((l.map QR.rule).drop i).flatMap Ax.Rule.atoms).foldl Ax.predStep (o, wn) = Z) := hr
    clear hr hZ
    obtain ⟨w0, rfl⟩ : ∃ x, x = wr := ⟨_, rfl⟩
    have hsz := hpa.bel.size
    by_cases hlt : i < l.length
    · obtain ⟨g, r, rfl, hg, hcap, d0, d1, d2, d3, d4, hqr, hbl, hrule⟩ := (h.below hpa.bel).at hlt
      have hdrop : (l.map QR.rule).drop i = r.rule :: (l.map QR.rule).drop (i + 1) := by
        rw [List.drop_eq_getElem_cons (by simpa using hlt)]; simp [hrule.out]
      rw [hdrop, List.flatMap_cons, List.foldl_append] at HR
      clear hdrop hrule
      obtain ⟨Y, hY⟩ : ∃ Y, (r.rule.atoms).foldl Ax.predStep (o, wn) = Y := ⟨_, rfl⟩
      rw [hY] at HR
      have hY' : ((r.head :: r.body).map QA.a).foldl Ax.predStep (o, wn) = Y := hY
      clear hY
      go_wp2_with (go_at_call 47; refine (qall_any _ r hqr hbl).mono ?_; rintro e w1 ⟨ad', c', rfl, hats, hoks, hb1⟩)
      generalize hL : r.head :: r.body = L at hats hoks hY'
      have hLl : L.length = r.body.length + 1 := by rw [← hL]; rfl
      rw [← hLl] at hats ⊢
      clear hL
      have HY : Hid (((L.map QA.a).drop 0).foldl Ax.predStep (o, wn) = Y) := hY'
      clear hY' hqr
      have hLa : L.length ≤ 1001 := by omega
      clear hLl
      have hs1 := hb1.size
      have hpa1 : PredsAt w w1 od oc o := ⟨ownsRow_below hpa.own hb1, hpa.bel.trans (hb1.mono hsz)⟩
      go_loopw [4, 5, 8] (fun ov wv kv wr => ∃ (k : Nat) (od : Option Addr) (oc : Nat) (o : List (ByteArray × Nat)) (wn : Int), k ≤ L.length ∧ kv = .int .i64 k ∧ ov = .slice od o.length oc ∧ wv = .int .i64 wn ∧ -1 ≤ wn ∧ PredsAt w wr od oc o ∧ Lib.OthersKept 81 none w1 wr ∧ o.length ≤ i * 1001 + k ∧ ((L.map QA.a).drop k).foldl Ax.predStep (o, wn) = Y) (fun _ _ kv _ => L.length - (intOf kv).toNat)
      case atStart => exact ⟨0, od, oc, o, wn, Nat.zero_le _, rfl, rfl, rfl, hwn, hpa1, Lib.OthersKept.refl _ _ _, by omega, HY.out⟩
      case round =>
        clear hpa hpa1 hol hwn HY
        obtain ⟨k, od, oc, o, wn, hk, rfl, rfl, rfl, hwn, hpa, hoth, hol, hy⟩ := hrel
        have HYk : Hid (((L.map QA.a).drop k).foldl Ax.predStep (o, wn) = Y) := hy
        clear hy
        obtain ⟨w2, rfl⟩ : ∃ x, x = wr := ⟨_, rfl⟩
        have hsz2 := hpa.bel.size
        by_cases hlk : k < L.length
        · have hrow := ownsRow_others hats hoth (by decide)
          obtain ⟨ag, had, hag, hac, hacs⟩ := row_cells hrow (by omega)
          subst had
          obtain ⟨x0, x1, x2, x3⟩ := qaCells_get L k hlk
          have x0 := hacs _ _ x0
          have x1 := hacs _ _ x1
          have x3 := hacs _ _ x3
          have hxok := qas_others hoks hoth (by decide) (by decide) _ (List.getElem_mem hlk)
          have hdrop : (L.map QA.a).drop k = (L[k]).a :: (L.map QA.a).drop (k + 1) := by
            rw [List.drop_eq_getElem_cons (by simpa using hlk)]; simp
          rw [hdrop, List.foldl_cons] at HYk
          clear hdrop hacs hrow x2
          generalize L[k] = x at *
          rcases x with ⟨y, yt, ytc, yv, yvc⟩
          simp only at x0 x1 x3 HYk
          have hyl := ownsRow_le hxok.1
          simp only at hyl
          clear hxok
          obtain ⟨N, hN⟩ : ∃ N, Ax.ix y.pred o 0 (-1) = N := ⟨_, rfl⟩
          have HN0 : Hid (Ax.ix y.pred (o.drop 0) 0 (-1) = N) := hN
          have HN1 : Hid (Ax.ix y.pred o 0 (-1) = N) := hN
          clear hN
          have hown := hpa.own
          go_wp2_with fail
          go_loopw [9, 10] (fun nv jv w3 => ∃ (n : Int) (j : Nat), j ≤ o.length ∧ nv = .int .i64 n ∧ jv = .int .i64 j ∧ -1 ≤ n ∧ n ≤ j ∧ Below w2.heap.size w2 w3 ∧ Ax.ix y.pred (o.drop j) j n = N) (fun _ jv _ => o.length - (intOf jv).toNat)
          case atStart => exact ⟨-1, 0, Nat.zero_le _, rfl, rfl, by omega, by omega, Below.refl _ _, HN0.out⟩
          case round =>
            obtain ⟨n, j, hj, rfl, rfl, hn1, hnj, hb3, hx⟩ := hrel
            have HX : Hid (Ax.ix y.pred (o.drop j) j n = N) := hx
            clear hx HN0
            have hown3 := ownsRow_below hown hb3
            have x03 := (hb3.cell (p := ⟨ag, k * 4, none⟩) hag).trans x0
            have x13 := (hb3.cell (p := ⟨ag, k * 4 + 1, none⟩) hag).trans x1
            have x33 := (hb3.cell (p := ⟨ag, k * 4 + 3, none⟩) hag).trans x3
            have hsz3 := hb3.size
            by_cases hlj : j < o.length
            · obtain ⟨og, hod, hog, hoc, hocs⟩ := row_cells hown3 (by omega)
              subst hod
              have p0 := hocs _ _ (prCells_get o j hlj).1
              have hdrop : o.drop j = o[j] :: o.drop (j + 1) := List.drop_eq_getElem_cons hlj
              rw [hdrop] at HX
              clear hdrop hocs
              generalize o[j] = z at *
              by_cases he : z.1 = y.pred
              · have hb : (z.1.toList == y.pred.toList) = true := by rw [str_eq_decide]; simpa using he
                have HXn : Hid (Ax.ix y.pred (o.drop (j + 1)) (j + 1) j = N) := by
                  have := HX.out
                  rw [Ax.ix, if_pos he] at this
                  exact this
                clear he
                go_wp2_with fail
                go_region
                all_goals (go_wp2_with fail)
                all_goals go_roundw
                case rel => exact ⟨j, j + 1, by omega, rfl, by go_num, by omega, by omega, hb3.drew, HXn.out⟩
                case measure => simp [intOf]; omega
              · have hb : (z.1.toList == y.pred.toList) = false := by rw [str_eq_decide]; simpa using he
                have HXn : Hid (Ax.ix y.pred (o.drop (j + 1)) (j + 1) n = N) := by
                  have := HX.out
                  rw [Ax.ix, if_neg he] at this
                  exact this
                clear he
                go_wp2_with fail
                go_region
                all_goals (go_wp2_with fail)
                all_goals go_roundw
                case rel => exact ⟨n, j + 1, by omega, rfl, by go_num, by omega, by omega, hb3.drew, HXn.out⟩
                case measure => simp [intOf]; omega
            · have hNn : n = N := by
                have := HX.out
                rw [List.drop_eq_nil_of_le (by omega)] at this
                exact this
              subst hNn
              clear HX
              by_cases hneg : n < 0
              · have HS : Hid (((L.map QA.a).drop (k + 1)).foldl Ax.predStep (o ++ [(y.pred, y.terms.length)], wn) = Y) := by
                  have := HYk.out
                  rw [Ax.predStep, HN1.out, if_pos hneg] at this
                  exact this
                clear HYk HN1
                obtain ⟨i0, hi0, hz0, hs0, hy0⟩ := info_parts Try.infoPred
                have Hi0 : Hid (Try.prog.info? 81 = some i0) := hi0
                have Hz0 : Hid (i0.zero = some (.agg #[.string ByteArray.empty, .int .i64 0])) := hz0
                have Hs0 : Hid (i0.size = 2) := hs0
                have Hy0 : Hid (i0.bytes = 24) := hy0
                clear hi0 hz0 hs0 hy0
                go_wp2_with fail
                go_region_law (refine step_append_lies _ rfl (.tmp 48) (.tmp 61) 49 rfl w.heap.size 81 i0 _ 2 24 Try.underlying49 Hi0.out Hz0.out Hs0.out Hy0.out rfl (by decide) (.slice od o.length oc) o.length (prCells o) (by simp [Act.eval, Act.put]) (by exact hown3.alloc _) ⟨wr.heap.size, 0, none⟩ 1 1 [.string y.pred, .int .i64 y.terms.length] (by simp [Act.eval, Act.put]) rfl (by exact new_cells _ _ _) (by simp [Value.oneCell']) (by decide) (by unfold maxLen; omega) (by omega) (by simp; omega) (wr.heap.size + 1) (by simp) ?_; intro g4 cap4 w4 hown4 hgrow4 _ hlt4)
                all_goals (go_wp2_with fail)
                all_goals (go_roundw; (case rel => exact preds_rel hown4 hgrow4 hown3 hpa hb3 hsz2 hoth hk hlk hwn hol HS); (case measure => simp [intOf]; omega))
              · obtain ⟨m, hm, x, hx, hxp⟩ : ∃ m : Nat, n = m ∧ ∃ x, o[m]? = some x ∧ x.1 = y.pred := by
                  rcases Ax.ix_all y.pred o with ⟨e, _⟩ | ⟨m, e, hh⟩
                  · rw [HN1.out] at e; omega
                  · rw [HN1.out] at e; exact ⟨m, e, hh⟩
                subst hm
                obtain ⟨hml, hxe⟩ := List.getElem?_eq_some_iff.1 hx
                obtain ⟨og, hod, hog, hoc, hocs⟩ := row_cells hown3 (by omega)
                subst hod
                have p1 := hocs _ _ (prCells_get o m hml).2
                rw [hxe] at p1
                clear hocs hxe
                have HST : Hid (Ax.predStep (o, wn) y = if wn < 0 ∧ x.2 ≠ y.terms.length then (o, (y.at_ : Int)) else (o, wn)) := by
                  show Ax.predStep (o, wn) y = _
                  rw [Ax.predStep, HN1.out, if_neg hneg]
                  simp [Ax.placesAt, hx]
                clear hx hxp HN1 hneg
                generalize x.2 = xn at *
                by_cases hw : wn < 0
                · have hwb : decide (wn < 0) = true := by simpa using hw
                  by_cases hne : xn = y.terms.length
                  · have hnb : (((xn : Nat) : Int) != ((y.terms.length : Nat) : Int)) = false := by simp [hne]
                    have HS : Hid (((L.map QA.a).drop (k + 1)).foldl Ax.predStep (o, wn) = Y) := by
                      have := HYk.out
                      rw [HST.out, if_neg (by simp [hne])] at this
                      exact this
                    clear HYk HST hne
                    go_wp2_with fail
                    go_region
                    all_goals (go_wp2_with fail)
                    all_goals (go_roundw; (case rel => exact ⟨k + 1, some ⟨og, 0, none⟩, oc, o, wn, by omega, by go_num, rfl, rfl, hwn, ⟨hown3, (hpa.bel.trans (hb3.mono hsz2)).drew⟩, hoth.trans (others_below hb3.drew), by omega, HS.out⟩); (case measure => simp [intOf]; omega))
                  · have hnb : (((xn : Nat) : Int) != ((y.terms.length : Nat) : Int)) = true := by simp; omega
                    have HS : Hid (((L.map QA.a).drop (k + 1)).foldl Ax.predStep (o, (y.at_ : Int)) = Y) := by
                      have := HYk.out
                      rw [HST.out, if_pos ⟨hw, hne⟩] at this
                      exact this
                    clear HYk HST hne
                    go_wp2_with fail
                    go_region
                    all_goals (go_wp2_with fail)
                    all_goals (go_roundw; (case rel => exact ⟨k + 1, some ⟨og, 0, none⟩, oc, o, _, by omega, by go_num, rfl, rfl, by omega, ⟨hown3, (hpa.bel.trans (hb3.mono hsz2)).drew⟩, hoth.trans (others_below hb3.drew), by omega, HS.out⟩); (case measure => simp [intOf]; omega))
                · have hwb : decide (wn < 0) = false := by simpa using hw
                  have HS : Hid (((L.map QA.a).drop (k + 1)).foldl Ax.predStep (o, wn) = Y) := by
                    have := HYk.out
                    rw [HST.out, if_neg (by simp [hw])] at this
                    exact this
                  clear HYk HST
                  go_wp2_with fail
                  go_region
                  all_goals (go_wp2_with fail)
                  all_goals (go_roundw; (case rel => exact ⟨k + 1, some ⟨og, 0, none⟩, oc, o, wn, by omega, by go_num, rfl, rfl, hwn, ⟨hown3, (hpa.bel.trans (hb3.mono hsz2)).drew⟩, hoth.trans (others_below hb3.drew), by omega, HS.out⟩); (case measure => simp [intOf]; omega))
        · have HE : Hid ((o, wn) = Y) := by
            have := HYk.out
            rw [List.drop_eq_nil_of_le (by simp; omega)] at this
            exact this
          go_wp2_with fail
          go_roundw
          case rel => exact ⟨i + 1, od, oc, o, wn, by omega, by go_num, rfl, rfl, hwn, hpa, by omega, by rw [HE.out]; exact HR.out⟩
          case measure => simp [intOf]; omega
    · have HE : Hid ((o, wn) = Z) := by
        have := HR.out
        rw [List.drop_eq_nil_of_le (by simp; omega)] at this
        exact this
      go_wp2_with fail
      go_ret2
      exact ⟨od, oc, o, by rw [← HE.out]; rfl, by rw [← HE.out]; exact rfl, hpa⟩
end Go.Proofs.Ytdmicblafmhflaa
