/- axiomref: rules. -/
import Derived.Test.YtdmicblafmhflaaS5
import Derived.Deep.CutRange
namespace Go.Proofs.Ytdmicblafmhflaa
set_option linter.unusedSimpArgs false
set_option linter.unusedVariables false
open Go.RowKit

/-- a rule on its way: its block, its body's row -/
structure RIn (w1 wr : World) (x : QA) (bd : Option Addr) (bc : Nat) (acc : List QA) : Prop where
  blk : wr.heap[w1.heap.size + 1]? = some (.cells #[.string x.a.pred, .slice x.td x.a.terms.length x.tc, .slice x.vd x.a.terms.length x.vc, .int .i64 x.a.at_, .slice bd acc.length bc] 120 (0, 0))
  row : wr.ownsRow w1.heap.size 115 4 (.slice bd acc.length bc) acc.length (qaCells acc)
  ok : qas wr acc
  bel : Below w1.heap.size w1 wr

theorem blk5_cells {w3 : World} {B : Nat} {a b c d e : Value} {t : TypeId} (h : w3.heap[B]? = some (.cells #[a, b, c, d, e] t (0, 0))) :
    w3.cell? ⟨B, 0, none⟩ = some a ∧ w3.cell? ⟨B, 1, none⟩ = some b ∧ w3.cell? ⟨B, 2, none⟩ = some c ∧ w3.cell? ⟨B, 3, none⟩ = some d ∧ w3.cell? ⟨B, 4, none⟩ = some e ∧ w3.frozen? ⟨B, 4, none⟩ = false ∧ B < w3.heap.size := by
  refine ⟨?_, ?_, ?_, ?_, ?_, frozen_at h 4, lt_of_heap h⟩ <;> rw [cell_at h] <;> rfl

theorem RIn.below {w1 wr w2 : World} {x : QA} {bd : Option Addr} {bc : Nat} {acc : List QA} (h : RIn w1 wr x bd bc acc) (hb : Below wr.heap.size wr w2) : RIn w1 w2 x bd bc acc :=
  ⟨(hb.block _ (lt_of_heap h.blk)).trans h.blk, ownsRow_below h.row hb, qas_below h.ok hb, h.bel.trans (hb.mono h.bel.size)⟩

/-- an atom more -/
theorem RIn.grow {w1 w2 w3 : World} {x y : QA} {bd : Option Addr} {bc : Nat} {acc : List QA} {o1 o2 : Obj} (h : RIn w1 w2 x bd bc acc) (hy : y.ok w2) (hgrow : ((w2.alloc o1).alloc o2).grownBy w3 (Value.slice bd acc.length bc).ownBlock) :
    w3.heap[w1.heap.size + 1]? = some (.cells #[.string x.a.pred, .slice x.td x.a.terms.length x.tc, .slice x.vd x.a.terms.length x.vc, .int .i64 x.a.at_, .slice bd acc.length bc] 120 (0, 0)) ∧ qas w3 (acc ++ [y]) ∧ Below w1.heap.size w1 w3 := by
  have hk := ownsRow_kind ((h.row.alloc o1).alloc o2)
  have hlt := lt_of_heap h.blk
  have hb : ((w2.alloc o1).alloc o2).heap[w1.heap.size + 1]? = _ := (Below.heap_alloc _ _ _ (by simp; omega)).trans ((Below.heap_alloc w2 o1 _ hlt).trans h.blk)
  refine ⟨?_, ?_, ?_⟩
  · rw [hgrow.block _ (lt_of_heap hb) ?_]
    · exact hb
    · intro e
      obtain ⟨cur, fz, hk'⟩ := hk _ e.symm
      rw [hb] at hk'
      simp at hk'
  · exact qas_type (w := (w2.alloc o1).alloc o2) (qas_below (qas_snoc h.ok hy) (((Below.refl _ _).alloc (Nat.le_refl _) _).alloc (by simp) _)) hgrow hk (by decide) (by decide)
  · have := h.bel.size
    exact ((h.bel.alloc this o1).alloc (by simp; omega) o2).grown hgrow (by simp; omega) (fun k hk => (h.row.lt k hk).1)

theorem RIn.put {w1 w3 : World} {x y : QA} {bd bd' : Option Addr} {bc bc' : Nat} {acc : List QA}
    (hb : w3.heap[w1.heap.size + 1]? = some (.cells #[.string x.a.pred, .slice x.td x.a.terms.length x.tc, .slice x.vd x.a.terms.length x.vc, .int .i64 x.a.at_, .slice bd acc.length bc] 120 (0, 0))) (hq : qas w3 (acc ++ [y])) (hbel : Below w1.heap.size w1 w3)
    (hown : w3.ownsRow w1.heap.size 115 4 (.slice bd' (acc.length + 1) bc') (acc.length + 1) (qaCells acc ++ [.string y.a.pred, .slice y.td y.a.terms.length y.tc, .slice y.vd y.a.terms.length y.vc, .int .i64 y.a.at_])) :
    RIn w1 (w3.setCell ⟨w1.heap.size + 1, 4, none⟩ (.slice bd' (acc.length + 1) bc')) x bd' bc' (acc ++ [y]) := by
  have hr : ∀ k, (some (w1.heap.size + 1) : Option Nat) = some k → ∃ cur fz, w3.heap[k]? = some (.cells cur 120 fz) := fun k hk => by cases hk; exact ⟨_, _, hb⟩
  have hl : (acc ++ [y]).length = acc.length + 1 := by simp
  refine ⟨by rw [heap_setCell_same hb, hl]; rfl, ?_, qas_type hq (grownBy_setCell _ _) hr (by decide) (by decide), hbel.setCell (by simp) _⟩
  rw [qaCells_snoc, hl]
  exact ownsRow_type hown (grownBy_setCell _ _) hr (by decide)

/-- the rules so far -/
structure ROut (w wr : World) (od : Option Addr) (oc : Nat) (out : List QR) : Prop where
  row : wr.ownsRow w.heap.size 120 5 (.slice od out.length oc) out.length (qrCells out)
  ok : ∀ r, r ∈ out → r.ok wr ∧ r.body.length ≤ 1000
  bel : Below w.heap.size w wr
theorem ROut.below {w wr w2 : World} {od : Option Addr} {oc : Nat} {out : List QR} (h : ROut w wr od oc out) (hb : Below wr.heap.size wr w2) : ROut w w2 od oc out :=
  ⟨ownsRow_below h.row hb, fun r hr => ⟨QR.below (h.ok r hr).1 hb, (h.ok r hr).2⟩, h.bel.trans (hb.mono h.bel.size)⟩
theorem ROut.snoc {w w2 w3 : World} {od : Option Addr} {oc : Nat} {out : List QR} {v : Value} {o1 : Obj} {r : QR} (h : ROut w w2 od oc out) (hr : r.ok w2) (hl : r.body.length ≤ 1000) (hgrow : (w2.alloc o1).grownBy w3 (Value.slice od out.length oc).ownBlock)
    (hown : w3.ownsRow w.heap.size 120 5 v (out.length + 1) (qrCells out ++ [.string r.head.a.pred, .slice r.head.td r.head.a.terms.length r.head.tc, .slice r.head.vd r.head.a.terms.length r.head.vc, .int .i64 r.head.a.at_, .slice r.bd r.body.length r.bc])) :
    ∃ od' oc', v = .slice od' (out ++ [r]).length oc' ∧ ROut w w3 od' oc' (out ++ [r]) := by
  obtain ⟨od', oc', rfl⟩ := ownsRow_shape hown
  have hk := ownsRow_kind (h.row.alloc o1)
  have hlen : (out ++ [r]).length = out.length + 1 := by simp
  have hsz := h.bel.size
  refine ⟨od', oc', by rw [hlen], ⟨by rw [qrCells_snoc, hlen]; exact hown, ?_, (h.bel.alloc hsz o1).grown hgrow (by simp; omega) (fun k hk => (h.row.lt k hk).1)⟩⟩
  intro y hy
  have hyy : y.ok w2 ∧ y.body.length ≤ 1000 := by
    rcases List.mem_append.1 hy with hy | hy
    · exact h.ok y hy
    · simp at hy; subst hy; exact ⟨hr, hl⟩
  exact ⟨QR.type (w := w2.alloc o1) (QR.below hyy.1 ((Below.refl _ _).alloc (Nat.le_refl _) _)) hgrow hk (by decide) (by decide) (by decide), hyy.2⟩

def RPost (w : World) (T : List Ax.Tok) (R : Option (List Ax.Rule) × Nat) (e : Ending) (w' : World) : Prop := Below w.heap.size w w' ∧
  ((∃ od oc out, R.1 = some (List.map QR.rule out) ∧ e = .returned (.tuple #[.slice od out.length oc, .int .i64 (-1)]) ∧ QRsIn w' od oc out ∧ out.length ≤ 1000) ∨
   (∃ t, R.1 = none ∧ T[R.2]? = some t ∧ e = .returned (.tuple #[.slice none 0 0, .int .i64 (Ax.Tok.at_ t)])))
theorem rpost_no {w w' : World} {T : List Ax.Tok} {R : Option (List Ax.Rule) × Nat} {j : Nat} {t : Ax.Tok} (h : Hid (R = (none, j))) (ht : T[j]? = some t) (hb : Below w.heap.size w w') : RPost w T R (.returned (.tuple #[.slice none 0 0, .int .i64 t.at_])) w' :=
  ⟨hb, .inr ⟨t, by rw [h.out], by rw [h.out]; exact ht, rfl⟩⟩

set_option maxRecDepth 100000 in
set_option maxHeartbeats 16000000 in
theorem rrules_aux (s : ByteArray) (w : World) (hs : s.size ≤ 600) (T : List Ax.Tok) (hTs : Hid (Ax.split s = T)) (R : Option (List Ax.Rule) × Nat) (hR : Hid (Ax.pRules T T.length 0 [] = R)) :
    Calls Try.prog 30 #[.string s] w fun e w' => RPost w T R e w' := by
  have htok : ∀ w, Calls Try.prog 34 #[.string s] w fun e w' => ∃ ld lc, e = .returned (.slice ld T.length lc) ∧ RAt w' ld lc T ∧ Below w.heap.size w w' := fun w => by
    rw [← hTs.out]; exact rtokens_any s w hs
  go_enter Try.func30, Try.ntmps30
  go_wp2_with (go_at_call 34; refine (htok _).mono ?_; rintro e w' ⟨ld, lc, rfl, hT, hb0⟩)
  clear htok hTs
  have hTl := hT.2.1
  have hends := hT.2.2.1
  have hs0 := hb0.size
  have h0 : 0 < T.length := by obtain ⟨m, t, rfl, _⟩ := hends; simp
  go_loopg [5, 6] T.length (fun f ov iv wr => ∃ (i : Nat) (od : Option Addr) (oc : Nat) (out : List QR), i < T.length ∧ T.length ≤ i + f ∧ out.length ≤ i ∧ iv = .int .i64 i ∧ ov = .slice od out.length oc ∧ ROut w wr od oc out ∧ RAt wr ld lc T ∧ Ax.pRules T f i (out.map QR.rule) = R)
  case atStart => exact ⟨0, none, 0, [], h0, by omega, by simp, rfl, rfl, ⟨World.ownsRow_nil _ _ _ _, (fun r hr => by cases hr), hb0⟩, hT, hR.out⟩
  case round =>
    obtain ⟨i, od, oc, out, hi, hf, hol, rfl, rfl, hout, hTr, hr⟩ := hrel
    have HR : Hid (Ax.pRules T gk i (out.map QR.rule) = R) := hr
    clear hr hR hT
    obtain ⟨f, hfk⟩ : ∃ f, gk = f + 1 := ⟨gk - 1, by omega⟩
    subst hfk
    obtain ⟨w0, rfl⟩ : ∃ x, x = wr := ⟨_, rfl⟩
    have hsz := hout.bel.size
    have ht : T[i]? = some T[i] := List.getElem?_eq_getElem hi
    have hka := Ax.kindAt_of ht
    obtain ⟨g, rfl, hg, hcap, c0, _, _, k0, k8⟩ := hTr.cells ht
    by_cases h1 : Ax.kindAt T i = 1
    · have HE : Hid (R = (some (out.map QR.rule), i)) := HR.out.symm.trans (Ax.pRules_end h1)
      have hb : ((Ax.kc (T[i]).kind : Int) != 101) = false := ne_of' (j := 1) k0 k8 (by decide) (by decide) (by omega)
      clear h1 hka
      go_wp2_with fail
      go_ret2
      exact ⟨hout.bel, .inl ⟨od, oc, out, by rw [HE.out], rfl, ⟨ownsRow_base hout.row (Nat.zero_le _), hout.ok⟩, by omega⟩⟩
    · have hb : ((Ax.kc (T[i]).kind : Int) != 101) = true := ne_of (j := 1) k0 k8 (by decide) (by decide) (by omega)
      have H1 : Hid (¬ Ax.kindAt T i = 1) := h1
      clear h1 hka
      rcases hA0 : Ax.pAtom T i with ⟨_ | a, j⟩
      · have hA : Hid (Ax.pAtom T i = (none, j)) := hA0
        have hj := Ax.pAtom_lt hends hi hA0
        have HE : Hid (R = (none, j)) := HR.out.symm.trans (Ax.pRules_none H1.out (Ax.pRule_0 hA0))
        clear hA0 HR
        have htj : T[j]? = some T[j] := List.getElem?_eq_getElem hj
        have HTJ : Hid (T[j]? = some T[j]) := htj
        go_wp2_with (go_at_call 46; refine (ratom_none _ _ _ T i j hTr hi hA).mono ?_; rintro e w1 ⟨x, td, n, tc, vd, m, vc, y, rfl, hb1⟩; obtain ⟨g', hgg, _, _, _, _, f2, _, _⟩ := (hTr.below hb1).cells htj; obtain rfl : g = g' := by simpa using hgg)
        go_region
        all_goals (go_wp2_with fail)
        all_goals go_ret2
        all_goals exact rpost_no HE HTJ.out ((hout.bel.trans (hb1.mono hsz)).alloc (by have := hb1.size; omega) _).drew
      · have hA : Hid (Ax.pAtom T i = (some a, j)) := hA0
        have hj := Ax.pAtom_lt hends hi hA0
        have hij := Ax.pAtom_gt hA0
        have HPR : Hid (Ax.pRule T i = match rbody T T.length j [] with
          | (none, j2) => (none, j2)
          | (some b, j2) => if Ax.kindAt T j2 = 7 then (some ⟨a, b⟩, j2 + 1) else (none, j2)) := pRule_body hA0
        clear hA0
        obtain ⟨B, hB⟩ : ∃ B, rbody T T.length j [] = B := ⟨_, rfl⟩
        rw [hB] at HPR
        have HB : Hid (rbody T T.length j [] = B) := hB
        clear hB
        go_wp2_with (go_at_call 46; refine (ratom_some _ _ _ T i j a hTr hi hA).mono ?_; rintro e w1 ⟨td, tc, vd, vc, rfl, hxok, hb1⟩)
        have hs1 := hb1.size
        have hTr1 := hTr.below hb1
        have hout1 := hout.below hb1
        clear hTr hout c0 hb
        go_loopg [6] T.length (fun f2 iv wr => ∃ (q : Nat) (bd : Option Addr) (bc : Nat) (acc : List QA), q < T.length ∧ T.length ≤ q + f2 ∧ j ≤ q ∧ acc.length ≤ q ∧ iv = .int .i64 q ∧ RIn w1 wr ⟨a, td, tc, vd, vc⟩ bd bc acc ∧ rbody T f2 q (acc.map QA.a) = B)
        case atStart =>
          refine ⟨j, none, 0, [], hj, by omega, by omega, by simp, by go_num, ⟨?_, World.ownsRow_nil _ _ _ _, qas_nil _, ((Below.refl _ _).alloc (Nat.le_refl _) _).alloc (by simp) _⟩, HB.out⟩
          have := heap_alloc_new (w1.alloc (.cells #[.string a.pred, .slice td a.terms.length tc, .slice vd a.terms.length vc, .int .i64 a.at_] 115)) (.cells #[.string a.pred, .slice td a.terms.length tc, .slice vd a.terms.length vc, .int .i64 a.at_, .slice none 0 0] 120)
          rw [World.size_alloc] at this
          exact this
        case round =>
          obtain ⟨q, bd, bc, acc, hq, hqf, hjq, hal, rfl, hrin, hrb⟩ := hrel
          have HRB : Hid (rbody T gk q (acc.map QA.a) = B) := hrb
          clear hrb HB
          obtain ⟨f2, hfk2⟩ : ∃ f, gk = f + 1 := ⟨gk - 1, by omega⟩
          subst hfk2
          obtain ⟨w3, rfl⟩ : ∃ x, x = wr := ⟨_, rfl⟩
          have hbel3 := hrin.bel
          have hsz3 := hbel3.size
          have htq : T[q]? = some T[q] := List.getElem?_eq_getElem hq
          have hkq := Ax.kindAt_of htq
          have hTr3 := hTr1.below hbel3
          obtain ⟨g', hgg, hg3, _, c0, _, c2, k0, k8⟩ := hTr3.cells htq
          obtain rfl : g = g' := by simpa using hgg
          obtain ⟨e0, e1, e2, e3, e4, fe4, hl5⟩ := blk5_cells hrin.blk
          obtain ⟨G, hG⟩ : ∃ G, goesOn T q (acc.map QA.a) = G := ⟨_, rfl⟩
          have hbll := ownsRow_le hrin.row
          have hG2 : G = ((((Ax.kc (T[q]).kind : Nat) : Int) == 58 && ((acc.length : Nat) : Int) == 0) || (((Ax.kc (T[q]).kind : Nat) : Int) == 44 && decide ((0 : Int) < ((acc.length : Nat) : Int)))) := by
            have e8 := Ax.kc_eq (T[q]).kind k0 k8 8 (by decide) (by decide)
            have e6 := Ax.kc_eq (T[q]).kind k0 k8 6 (by decide) (by decide)
            rw [show ((Ax.kc 8 : Nat) : Int) = 58 from rfl] at e8
            rw [show ((Ax.kc 6 : Nat) : Int) = 44 from rfl] at e6
            rw [e8, e6, ← hG, goesOn, hkq, List.length_map]
            congr 2
            · congr 1
              exact propext (by omega)
            · congr 1
              exact propext (by omega)
          have HG : Hid (goesOn T q (acc.map QA.a) = G) := hG
          clear hG
          go_upto_region 10 with fail
          go_cut [64] from 39 to 86 (fun c wx => c = .bool G ∧ wx = w3)
          case first =>
            cases hc8 : (((Ax.kc (T[q]).kind : Nat) : Int) == 58)
            case true =>
              cases hl0 : (((acc.length : Nat) : Int) == 0)
              case true =>
                go_wp2_with fail
                go_meet
                exact ⟨by rw [hG2, hc8, hl0]; rfl, rfl⟩
              case false =>
                cases hc6 : (((Ax.kc (T[q]).kind : Nat) : Int) == 44)
                case true => simp at hc8 hc6; omega
                case false =>
                  go_wp2_with fail
                  go_meet
                  exact ⟨by rw [hG2, hc8, hl0, hc6]; rfl, rfl⟩
            case false =>
              cases hc6 : (((Ax.kc (T[q]).kind : Nat) : Int) == 44)
              case true =>
                go_wp2_with fail
                go_meet
                exact ⟨by rw [hG2, hc8, hc6]; simp, rfl⟩
              case false =>
                go_wp2_with fail
                go_meet
                exact ⟨by rw [hG2, hc8, hc6]; rfl, rfl⟩
          case rest =>
            obtain ⟨rfl, rfl⟩ := hcut
            clear hG2
            cases G
            case true =>
              have hq1 : q + 1 < T.length := by
                have := HG.out
                simp only [goesOn, Bool.or_eq_true, Bool.and_eq_true, decide_eq_true_eq] at this
                rcases this with ⟨h8, _⟩ | ⟨h6, _⟩
                · exact Ax.kind_next hends hq h8 (by omega)
                · exact Ax.kind_next hends hq h6 (by omega)
              rcases hA0 : Ax.pAtom T (q + 1) with ⟨_ | b, j2⟩
              · have hA2 : Hid (Ax.pAtom T (q + 1) = (none, j2)) := hA0
                have hj2 := Ax.pAtom_lt hends hq1 hA0
                have HE : Hid (R = (none, j2)) := by
                  refine HR.out.symm.trans (Ax.pRules_none H1.out ?_)
                  rw [HPR.out, ← HRB.out, rbody_none HG.out hA0]
                clear hA0 HR HPR HRB HG
                have htj : T[j2]? = some T[j2] := List.getElem?_eq_getElem hj2
                have HTJ : Hid (T[j2]? = some T[j2]) := htj
                go_wp2_with (go_at_call 46; refine (ratom_none _ _ _ T (q + 1) j2 hTr3 hq1 hA2).mono ?_; rintro e w4 ⟨x, td4, n, tc4, vd4, m, vc4, y, rfl, hb4⟩; obtain ⟨g4, hgg4, hg4, _, _, _, f24, _, _⟩ := (hTr3.below hb4).cells htj; obtain rfl : g = g4 := by simpa using hgg4)
                go_region
                all_goals (go_wp2_with fail)
                all_goals go_ret2
                all_goals exact rpost_no HE HTJ.out (((hout1.bel.trans (hbel3.mono (by omega))).trans (hb4.mono (by omega))).alloc (by have := hb4.size; omega) _).drew
              · have hA2 : Hid (Ax.pAtom T (q + 1) = (some b, j2)) := hA0
                have hj2 := Ax.pAtom_lt hends hq1 hA0
                have hqj := Ax.pAtom_gt hA0
                have HRN : Hid (rbody T f2 j2 (acc.map QA.a ++ [b]) = B) := by
                  have := HRB.out
                  rw [rbody_on HG.out hA0] at this
                  exact this
                clear hA0 HRB HG
                obtain ⟨i0, hi0, hz0, hs0', hy0⟩ := info_parts Try.infoQA
                have Hi0 : Hid (Try.prog.info? 115 = some i0) := hi0
                have Hz0 : Hid (i0.zero = some (.agg #[.string ByteArray.empty, .slice none 0 0, .slice none 0 0, .int .i64 0])) := hz0
                have Hs0 : Hid (i0.size = 4) := hs0'
                have Hy0 : Hid (i0.bytes = 72) := hy0
                clear hi0 hz0 hs0' hy0
                go_wp2_with (first | (go_at_call 46; refine (ratom_some _ _ _ T (q + 1) j2 b hTr3 hq1 hA2).mono ?_; rintro e w4 ⟨td4, tc4, vd4, vc4, rfl, hyok, hb4⟩; have hs4 := hb4.size; have hrin4 := hrin.below hb4; have hblk4 := hrin4.blk; obtain ⟨e04, e14, e24, e34, e44, fe44, hl54⟩ := blk5_cells hblk4) | (at_builtin; refine wpList_append_own _ rfl (.tmp 81) (.tmp 83) 118 rfl w1.heap.size 115 i0 _ 4 72 Try.underlying118 Hi0.out Hz0.out Hs0.out Hy0.out rfl (by decide) _ _ _ rfl ((hrin4.row.alloc _).alloc _) ⟨w4.heap.size + 1, 0, none⟩ 1 1 [.string b.pred, .slice td4 b.terms.length tc4, .slice vd4 b.terms.length vc4, .int .i64 b.at_] rfl rfl (new_cells2 _ _ _ _) (by simp [Value.oneCell']) (by unfold maxLen; omega) (by omega) (by simp; omega) ?_; intro v5 w5 hown5 hgrow5 _; obtain ⟨bd5, bc5, rfl⟩ := ownsRow_shape hown5; obtain ⟨hblk5, hq5, hbel5⟩ := hrin4.grow (y := ⟨b, td4, tc4, vd4, vc4⟩) hyok hgrow5; obtain ⟨e05, e15, e25, e35, e45, fe45, hl55⟩ := blk5_cells hblk5))
                go_roundg f2
                case measure => omega
                case rel =>
                  refine ⟨j2, bd5, bc5, acc ++ [⟨b, td4, tc4, vd4, vc4⟩], hj2, by omega, by omega, by simp; omega, rfl, RIn.put hblk5 hq5 hbel5 hown5, ?_⟩
                  rw [List.map_append]
                  exact HRN.out
            case false =>
              have HBE : Hid (B = (some (acc.map QA.a), q)) := by
                rw [← HRB.out]; exact rbody_stop HG.out
              rw [HBE.out] at HPR
              clear HRB HG HBE
              by_cases h7 : Ax.kindAt T q = 7
              · have hb7 : (((Ax.kc (T[q]).kind : Nat) : Int) != 46) = false := ne_of' (j := 7) k0 k8 (by decide) (by decide) (by omega)
                have hq1 := Ax.kind_next hends hq h7 (by omega)
                have HRN : Hid (Ax.pRules T f (q + 1) (out.map QR.rule ++ [⟨a, acc.map QA.a⟩]) = R) := by
                  rw [← HR.out, Ax.pRules_on (r := ⟨a, acc.map QA.a⟩) (j := q + 1) H1.out (by rw [HPR.out]; simp [h7])]
                  rfl
                clear HR HPR h7 hkq
                obtain ⟨i0, hi0, hz0, hs0', hy0⟩ := info_parts Try.infoQR
                have Hi0 : Hid (Try.prog.info? 120 = some i0) := hi0
                have Hz0 : Hid (i0.zero = some (.agg #[.string ByteArray.empty, .slice none 0 0, .slice none 0 0, .int .i64 0, .slice none 0 0])) := hz0
                have Hs0 : Hid (i0.size = 5) := hs0'
                have Hy0 : Hid (i0.bytes = 96) := hy0
                clear hi0 hz0 hs0' hy0
                have hout3 := hout1.below hbel3
                have hqr : QR.ok wc ⟨⟨a, td, tc, vd, vc⟩, bd, bc, acc⟩ := ⟨QA.below hxok hbel3, ownsRow_base hrin.row (Nat.zero_le _), hrin.ok⟩
                have HQR : Hid (QR.ok wc ⟨⟨a, td, tc, vd, vc⟩, bd, bc, acc⟩) := hqr
                clear hqr
                go_wp2_with (at_builtin; refine wpList_append_own _ rfl (.tmp 98) (.tmp 100) 48 rfl w.heap.size 120 i0 _ 5 96 Try.underlying48 Hi0.out Hz0.out Hs0.out Hy0.out rfl (by decide) _ _ _ rfl (hout3.row.alloc _) ⟨wc.heap.size, 0, none⟩ 1 1 [.string a.pred, .slice td a.terms.length tc, .slice vd a.terms.length vc, .int .i64 a.at_, .slice bd acc.length bc] rfl rfl (new_cells _ _ _) (by simp [Value.oneCell']) (by unfold maxLen; omega) (by omega) (by simp; omega) ?_; intro v5 w5 hown5 hgrow5 _)
                go_roundg f
                case measure => omega
                case rel =>
                  obtain ⟨od5, oc5, rfl, hout5⟩ := hout3.snoc (r := ⟨⟨a, td, tc, vd, vc⟩, bd, bc, acc⟩) HQR.out (by show acc.length ≤ 1000; omega) hgrow5 hown5
                  refine ⟨q + 1, od5, oc5, out ++ [⟨⟨a, td, tc, vd, vc⟩, bd, bc, acc⟩], hq1, by omega, by simp; omega, by go_num, rfl, hout5, ?_, ?_⟩
                  · exact ⟨ownsRow_type (hTr3.1.alloc _) hgrow5 (ownsRow_kind (hout3.row.alloc _)) (by decide), hTr3.2⟩
                  · rw [List.map_append]; exact HRN.out
              · have hb7 : (((Ax.kc (T[q]).kind : Nat) : Int) != 46) = true := ne_of (j := 7) k0 k8 (by decide) (by decide) (by omega)
                have HE : Hid (R = (none, q)) := by
                  refine HR.out.symm.trans (Ax.pRules_none H1.out ?_)
                  rw [HPR.out]
                  simp [h7]
                have HTQ : Hid (T[q]? = some T[q]) := htq
                clear HR HPR h7 hkq
                go_wp2_with fail
                go_region
                all_goals (go_wp2_with fail)
                all_goals go_ret2
                all_goals exact rpost_no HE HTQ.out (hout1.bel.trans (hbel3.mono (by omega))).drew

theorem rrules_any (s : ByteArray) (w : World) (hs : s.size ≤ 600) : Calls Try.prog 30 #[.string s] w fun e w' => RPost w (Ax.split s) (Ax.pRules (Ax.split s) (Ax.split s).length 0 []) e w' :=
  rrules_aux s w hs _ rfl _ rfl
end Go.Proofs.Ytdmicblafmhflaa
