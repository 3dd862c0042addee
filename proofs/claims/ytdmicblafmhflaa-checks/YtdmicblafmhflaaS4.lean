/- axiomref: loose. -/
import Derived.Test.YtdmicblafmhflaaS0
namespace Go.Proofs.Ytdmicblafmhflaa
set_option linter.unusedSimpArgs false
set_option linter.unusedVariables false
open Go.RowKit

def rmatch (t x : Ax.Term) : Bool := isVar x && decide (x.text = t.text)
def rfound (b : List Ax.Atom) (t : Ax.Term) : Bool := !isVar t || b.any fun x => x.terms.any (rmatch t)
theorem open_found (b : List Ax.Atom) (t : Ax.Term) : Ax.openTerm b t = !rfound b t := by
  unfold Ax.openTerm rfound Ax.bodyHas Ax.hasTerm isVar
  by_cases h : t.kind = 1
  · simp only [h, decide_true, Bool.true_and, Bool.not_true, Bool.false_or]
    congr 2; funext x; congr 1; funext y
    rw [Bool.eq_iff_iff]
    simp only [rmatch, isVar, Ax.Term.beq, h, Bool.and_eq_true, decide_eq_true_eq]
    exact ⟨fun e => ⟨e.1.symm, e.2.symm⟩, fun e => ⟨e.1.symm, e.2.symm⟩⟩
  · simp [h]

theorem strCells_at (l : List Ax.Term) (k : Nat) (h : k < l.length) : (strCells (l.map Ax.Term.text))[k]? = some (.string (l[k]).text) := by simp [strCells, h]
theorem boolCells_at (l : List Ax.Term) (k : Nat) (h : k < l.length) : (boolCells (l.map isVar))[k]? = some (.bool (isVar l[k])) := by simp [boolCells, h]

set_option maxRecDepth 100000 in
set_option maxHeartbeats 8000000 in
theorem loose_any (w : World) (rd : Option Addr) (rc : Nat) (l : List QR) (h : QRsIn w rd rc l) :
    Calls Try.prog 33 #[.slice rd l.length rc] w fun e w' => Below w.heap.size w w' ∧ ((∃ at_ : Nat, Ax.openHead (l.map QR.rule) = some at_ ∧ e = .returned (.int .i64 at_)) ∨ (Ax.openHead (l.map QR.rule) = none ∧ e = .returned (.int .i64 (-1)))) := by
  have hle := ownsRow_le h.1
  generalize hR : Ax.openHead (l.map QR.rule) = R
  go_enter Try.func33, Try.ntmps33
  go_wp2_with fail
  go_loopw [3] (fun i wr => ∃ (k : Nat), k ≤ l.length ∧ i = .int .i64 k ∧ Below w.heap.size w wr ∧ Ax.openHead ((l.map QR.rule).drop k) = R) (fun i _ => l.length - (intOf i).toNat)
  case atStart => exact ⟨0, Nat.zero_le _, rfl, Below.refl _ _, hR⟩
  case round =>
    obtain ⟨k, hk, rfl, hbel, hr⟩ := hrel
    have HR : Hid (Ax.openHead ((l.map QR.rule).drop k) = R) := hr
    clear hr hR
    obtain ⟨w0, rfl⟩ : ∃ x, x = wr := ⟨_, rfl⟩
    have hsz := hbel.size
    by_cases hlt : k < l.length
    · obtain ⟨g, r, rfl, hg, hcap, d0, d1, d2, d3, d4, hqr, hbl, hrule⟩ := (h.below hbel).at hlt
      have hdrop : (l.map QR.rule).drop k = r.rule :: (l.map QR.rule).drop (k + 1) := by
        rw [List.drop_eq_getElem_cons (by simpa using hlt)]; simp [hrule.out]
      rw [hdrop] at HR
      clear hdrop hrule
      rcases r with ⟨⟨a, td, tc, vd, vc⟩, bd, bc, body⟩
      obtain ⟨hqh, hqb, hqs⟩ := hqr
      simp only [QR.rule] at *
      have HY : Hid (Ax.openAt ⟨a, List.map QA.a body⟩ = true → R = some a.at_) := by
        intro hm
        have := HR.out
        simp only [Ax.openHead, hm, if_true] at this
        exact this.symm
      have HN : Hid (Ax.openAt ⟨a, List.map QA.a body⟩ = false → Ax.openHead ((l.map QR.rule).drop (k + 1)) = R) := by
        intro hm
        have := HR.out
        simp only [Ax.openHead, hm, Bool.false_eq_true, if_false] at this
        exact this
      clear HR
      obtain ⟨O, hO⟩ : ∃ O, Ax.openAt ⟨a, List.map QA.a body⟩ = O := ⟨_, rfl⟩
      rw [hO] at HY HN
      have HO : Hid ((a.terms.drop 0).any (Ax.openTerm (List.map QA.a body)) = O) := hO
      clear hO
      have hatl := ownsRow_le hqh.1
      have hbll := ownsRow_le hqb
      simp only at hatl hbll
      have HQH : Hid (QA.ok w0 ⟨a, td, tc, vd, vc⟩) := hqh
      have HQB : Hid (w0.ownsRow 0 115 4 (.slice bd body.length bc) body.length (qaCells body)) := hqb
      have HQS : Hid (qas w0 body) := hqs
      clear hqh hqb hqs
      go_wp2_with fail
      go_loopw [5] (fun i w2 => ∃ (q : Nat), q ≤ a.terms.length ∧ i = .int .i64 q ∧ Below (w0.heap.size + 1) (w0.alloc (.cells #[.string a.pred, .slice td a.terms.length tc, .slice vd a.terms.length vc, .int .i64 a.at_] 115)) w2 ∧ (a.terms.drop q).any (Ax.openTerm (List.map QA.a body)) = O) (fun i _ => a.terms.length - (intOf i).toNat)
      case atStart => exact ⟨0, Nat.zero_le _, rfl, Below.refl _ _, HO.out⟩
      case round =>
        obtain ⟨q, hq, rfl, hb2, ho⟩ := hrel
        have HOq : Hid ((a.terms.drop q).any (Ax.openTerm (List.map QA.a body)) = O) := ho
        clear ho HO
        obtain ⟨w2, rfl⟩ : ∃ x, x = wr := ⟨_, rfl⟩
        have hsz2 := hb2.size
        simp only [World.size_alloc] at hsz2
        have hlt0 : w0.heap.size < w2.heap.size := by omega
        have hblk := (hb2.block _ (by omega)).trans (heap_alloc_new w0 _)
        have HBLK : Hid (w2.heap[w0.heap.size]? = some (.cells #[.string a.pred, .slice td a.terms.length tc, .slice vd a.terms.length vc, .int .i64 a.at_] 115)) := hblk
        obtain ⟨e0, e1, e2, e3, _, _, _, _, _⟩ := blocks_cells hblk
        clear hblk
        have hb02 : Below w0.heap.size w0 w2 := ((Below.refl _ _).alloc (Nat.le_refl _) _).trans (hb2.mono (by omega))
        by_cases hlq : q < a.terms.length
        · have hqh2 := QA.below HQH.out hb02
          obtain ⟨tg, htd, htg, htc, htcs⟩ := row_cells hqh2.1 (by show 0 < a.terms.length; omega)
          obtain ⟨vg, hvd, hvg, hvc, hvcs⟩ := row_cells hqh2.2 (by show 0 < a.terms.length; omega)
          simp only at htd hvd htcs hvcs htc hvc
          subst htd hvd
          have t0 := htcs _ _ (strCells_at a.terms q hlq)
          have v0 := hvcs _ _ (boolCells_at a.terms q hlq)
          clear htcs hvcs hqh2
          have hsplit : (a.terms.drop q).any (Ax.openTerm (List.map QA.a body)) = (Ax.openTerm (List.map QA.a body) a.terms[q] || (a.terms.drop (q + 1)).any (Ax.openTerm (List.map QA.a body))) := by
            rw [List.drop_eq_getElem_cons hlq, List.any_cons]
          rw [hsplit] at HOq
          clear hsplit
          generalize a.terms[q] = t at *
          rw [open_found] at HOq
          obtain ⟨F, hF⟩ : ∃ F, rfound (List.map QA.a body) t = F := ⟨_, rfl⟩
          have HF : Hid ((!isVar t || (body.drop 0).any fun x => x.a.terms.any (rmatch t)) = F) := by
            rw [← hF, rfound, List.any_map]; rfl
          rw [hF] at HOq
          clear hF
          generalize isVar t = b at *
          go_wp2_with fail
          go_loopw [6, 7] (fun fv jv w3 => ∃ (f : Bool) (j : Nat), j ≤ body.length ∧ fv = .bool f ∧ jv = .int .i64 j ∧ Below w2.heap.size w2 w3 ∧ (f || (body.drop j).any fun x => x.a.terms.any (rmatch t)) = F) (fun _ jv _ => body.length - (intOf jv).toNat)
          case atStart => exact ⟨_, 0, Nat.zero_le _, rfl, rfl, Below.refl _ _, HF.out⟩
          case round =>
            obtain ⟨f, j, hj, rfl, rfl, hb3, hf⟩ := hrel
            have HFj : Hid ((f || (body.drop j).any fun x => x.a.terms.any (rmatch t)) = F) := hf
            clear hf HF
            obtain ⟨w3, rfl⟩ : ∃ x, x = wr := ⟨_, rfl⟩
            have hsz3 := hb3.size
            have hb03 := hb02.trans (hb3.mono hb02.size)
            have d43 := (hb03.cell (p := ⟨g, k * 5 + 4, none⟩) hg).trans d4
            obtain ⟨e03, e13, e23, e33, _, _, _, _, _⟩ := blocks_cells ((hb3.block _ (lt_of_heap HBLK.out)).trans HBLK.out)
            by_cases hlj : j < body.length
            · have hqb3 := ownsRow_below HQB.out hb03
              obtain ⟨bg, hbd, hbg, hbc, hbcs⟩ := row_cells hqb3 (by omega)
              subst hbd
              obtain ⟨x0, x1, x2, x3⟩ := qaCells_get body j hlj
              have x0 := hbcs _ _ x0
              have x1 := hbcs _ _ x1
              have x2 := hbcs _ _ x2
              have x3 := hbcs _ _ x3
              have hxok := QA.below (HQS.out _ (List.getElem_mem hlj)) hb03
              have hsplit : ((body.drop j).any fun x => x.a.terms.any (rmatch t)) = ((body[j]).a.terms.any (rmatch t) || (body.drop (j + 1)).any fun x => x.a.terms.any (rmatch t)) := by
                rw [List.drop_eq_getElem_cons hlj, List.any_cons]
              rw [hsplit, ← Bool.or_assoc] at HFj
              clear hsplit hbcs hqb3
              generalize body[j] = x at *
              rcases x with ⟨y, yt, ytc, yv, yvc⟩
              simp only at x0 x1 x2 x3 HFj
              obtain ⟨E, hE⟩ : ∃ E, (f || y.terms.any (rmatch t)) = E := ⟨_, rfl⟩
              rw [hE] at HFj
              have HE : Hid ((f || (y.terms.drop 0).any (rmatch t)) = E) := hE
              clear hE
              have hyl := ownsRow_le hxok.1
              simp only at hyl
              have HXOK : Hid (QA.ok w3 ⟨y, yt, ytc, yv, yvc⟩) := hxok
              clear hxok
              go_wp2_with fail
              go_loopw [6, 9] (fun fv nv w4 => ∃ (f : Bool) (n : Nat), n ≤ y.terms.length ∧ fv = .bool f ∧ nv = .int .i64 n ∧ Below (w3.heap.size + 1) (w3.alloc (.cells #[.string y.pred, .slice yt y.terms.length ytc, .slice yv y.terms.length yvc, .int .i64 y.at_] 115)) w4 ∧ (f || (y.terms.drop n).any (rmatch t)) = E) (fun _ nv _ => y.terms.length - (intOf nv).toNat)
              case atStart => exact ⟨f, 0, Nat.zero_le _, rfl, rfl, Below.refl _ _, HE.out⟩
              case round =>
                obtain ⟨f, n, hn, rfl, rfl, hb4, hf⟩ := hrel
                have HFn : Hid ((f || (y.terms.drop n).any (rmatch t)) = E) := hf
                clear hf HE
                have hsz4 := hb4.size
                simp only [World.size_alloc] at hsz4
                obtain ⟨y0, y1, y2, y3, _, _, _, _, hly⟩ := blocks_cells ((hb4.block _ (by omega)).trans (heap_alloc_new w3 _))
                have hb34 : Below w3.heap.size w3 wr := ((Below.refl _ _).alloc (Nat.le_refl _) _).trans (hb4.mono (by omega))
                have hb24 := hb3.trans (hb34.mono hsz3)
                obtain ⟨e04, e14, e24, e34, _, _, _, _, hlh⟩ := blocks_cells ((hb24.block _ (lt_of_heap HBLK.out)).trans HBLK.out)
                have t04 := (hb24.cell (p := ⟨tg, q, none⟩) htg).trans t0
                by_cases hln : n < y.terms.length
                · have hok4 := QA.below HXOK.out hb34
                  obtain ⟨ug, hud, hug, huc, hucs⟩ := row_cells hok4.1 (by show 0 < y.terms.length; omega)
                  obtain ⟨sg, hsd, hsg, hsc, hscs⟩ := row_cells hok4.2 (by show 0 < y.terms.length; omega)
                  simp only at hud hsd hucs hscs huc hsc
                  subst hud hsd
                  have u0 := hucs _ _ (strCells_at y.terms n hln)
                  have s0 := hscs _ _ (boolCells_at y.terms n hln)
                  clear hucs hscs hok4
                  have hsplit : (y.terms.drop n).any (rmatch t) = ((isVar y.terms[n] && decide ((y.terms[n]).text = t.text)) || (y.terms.drop (n + 1)).any (rmatch t)) := by
                    rw [List.drop_eq_getElem_cons hln, List.any_cons]; rfl
                  rw [hsplit, ← Bool.or_assoc] at HFn
                  clear hsplit
                  generalize isVar y.terms[n] = sv at *
                  generalize (y.terms[n]).text = yx at *
                  generalize t.text = tx at *
                  cases f
                  case true =>
                    go_wp2_with fail
                    go_region
                    all_goals (go_wp2_with fail)
                    all_goals go_roundw
                    case rel => exact ⟨true, n + 1, by omega, rfl, by go_num, hb4.drew, by have := HFn.out; simpa using this⟩
                    case measure => simp [intOf]; omega
                  case false =>
                    cases sv
                    case true =>
                      go_wp2_with fail
                      go_region
                      all_goals (go_wp2_with fail)
                      all_goals go_roundw
                      case rel => exact ⟨_, n + 1, by omega, rfl, by go_num, hb4.drew, by have := HFn.out; rw [str_eq_decide]; simpa using this⟩
                      case measure => simp [intOf]; omega
                    case false =>
                      go_wp2_with fail
                      go_region
                      all_goals (go_wp2_with fail)
                      all_goals go_roundw
                      case rel => exact ⟨false, n + 1, by omega, rfl, by go_num, hb4.drew, by have := HFn.out; simpa using this⟩
                      case measure => simp [intOf]; omega
                · have HE : Hid (f = E) := by
                    have := HFn.out
                    rw [List.drop_eq_nil_of_le (by omega)] at this
                    simpa [Hid] using this
                  go_wp2_with fail
                  go_roundw
                  case rel => exact ⟨f, j + 1, by omega, rfl, by go_num, hb24, by rw [HE.out]; exact HFj.out⟩
                  case measure => simp [intOf]; omega
            · have HE : Hid (f = F) := by
                have := HFj.out
                rw [List.drop_eq_nil_of_le (by omega)] at this
                simpa [Hid] using this
              cases f
              case false =>
                have HRR : Hid (R = some a.at_) := HY.out (by rw [← HOq.out, ← HE.out]; rfl)
                go_wp2_with fail
                go_ret
                exact ⟨hbel.trans (hb03.mono hsz), .inl ⟨a.at_, HRR.out, rfl⟩⟩
              case true =>
                have HOn : Hid ((a.terms.drop (q + 1)).any (Ax.openTerm (List.map QA.a body)) = O) := by
                  have := HOq.out
                  rw [← HE.out] at this
                  simpa [Hid] using this
                go_wp2_with fail
                go_roundw
                case rel => exact ⟨q + 1, by omega, by go_num, hb2.trans (hb3.mono (by omega)), HOn.out⟩
                case measure => simp [intOf]; omega
        · have HNN : Hid (Ax.openHead ((l.map QR.rule).drop (k + 1)) = R) := HN.out (by
            rw [← HOq.out, List.drop_eq_nil_of_le (by omega)]; rfl)
          go_wp2_with fail
          go_roundw
          case rel => exact ⟨k + 1, by omega, by go_num, hbel.trans (hb02.mono hsz), HNN.out⟩
          case measure => simp [intOf]; omega
    · have HE : Hid (R = none) := by
        have := HR.out
        rw [List.drop_eq_nil_of_le (by simp; omega)] at this
        exact this.symm
      go_wp2_with fail
      go_ret
      exact ⟨hbel, .inr ⟨HE.out, rfl⟩⟩
end Go.Proofs.Ytdmicblafmhflaa
