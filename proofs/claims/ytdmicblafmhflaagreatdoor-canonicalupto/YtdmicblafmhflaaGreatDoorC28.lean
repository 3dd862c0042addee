/- Package follow: join, one atom further. -/
import Derived.Test.YtdmicblafmhflaaGreatDoorC27
import Derived.Deep.RegionHeld3
set_option linter.unusedSimpArgs false
set_option linter.unusedVariables false
namespace Go.Proofs.YtdmicblafmhflaaGreatDoor.En
theorem hold_len (s : Sea Fct) (f : Fct) (n : Nat) : s.found.length ≤ (hold s f n).found.length ∧ (hold s f n).found.length ≤ s.found.length + 1 := by
 unfold hold
 simp only
 split <;> simp
theorem holds_len : ∀ (l : List Fct) (s : Sea Fct), s.found.length ≤ (holds s l).found.length ∧ (holds s l).found.length ≤ s.found.length + l.length
 | [], s => ⟨Nat.le_refl _, Nat.le_refl _⟩
 | f :: l, s => by
  rw [holds_cons]
  have h1 := hold_len s f 1
  have h2 := holds_len l (hold s f 1)
  rw [List.length_cons]
  omega
theorem holds_count_le {F : Type} [DecidableEq F] (l : List F) (s : Sea F) (f : F) : (holds s l).count f ≤ s.count f + l.length := by
 obtain ⟨_, _, _, _, _, h⟩ := holds_spec l s
 rw [h f]
 exact Nat.add_le_add_left List.count_le_length _
theorem holds_take (l : List Fct) (s : Sea Fct) {m : Nat} (hm : m ≤ s.found.length) : (holds s l).found.take m = s.found.take m := by
 obtain ⟨t, h, _⟩ := holds_spec l s
 rw [h, List.take_append_of_le_length hm]
def jone (P : List Fct) (z : Fct) (turn : Nat) (h : Ax.Atom) (i : Nat) (a : Ax.Atom) (l : List Ax.Atom) (b : Bind) (f : Fct) : List Fct := match amatch a f b with
 | some b' => jn P z turn h (i + 1) l b'
 | none => []
theorem jn_cons (P : List Fct) (z : Fct) (turn : Nat) (h : Ax.Atom) (i : Nat) (a : Ax.Atom) (l : List Ax.Atom) (b : Bind) : jn P z turn h i (a :: l) b = (cands P z turn i).flatMap (jone P z turn h i a l b) := rfl
def cfrom (turn newest i : Nat) : Nat := if i = turn then newest else 0
def cto (turn newest i : Nat) : Nat := if i = turn then newest + 1 else if i < turn then newest else newest + 1
theorem cands_found {F P : List Fct} {z : Fct} {newest : Nat} (hP : P.length = newest) (hF : F.take (newest + 1) = P ++ [z]) (turn i : Nat) : cands P z turn i = (F.take (cto turn newest i)).drop (cfrom turn newest i) := by
 have hPn : F.take newest = P := by
  have := congrArg (List.take newest) hF
  rw [List.take_take, Nat.min_eq_left (by omega)] at this
  rw [this]
  exact List.take_left' hP
 unfold cands cto cfrom
 by_cases h1 : i = turn
 · rw [if_pos h1, if_pos h1, if_pos h1, hF]
   exact (List.drop_left' hP).symm
 · rw [if_neg h1, if_neg h1, if_neg h1]
   by_cases h2 : i < turn
   · rw [if_pos h2, if_pos h2, List.drop_zero, hPn]
   · rw [if_neg h2, if_neg h2, List.drop_zero, hF]
end Go.Proofs.YtdmicblafmhflaaGreatDoor.En
namespace Go.Proofs.YtdmicblafmhflaaGreatDoor
open Go.RowKit Go.Maps Go.WideMaps Go.WideElems
open Go.Sort (grow)
def JSpec (sb mb : Nat) (rv : Value) (a : Ax.Atom) (ad : Option Addr) (ac : Nat) (bd : Option Addr) (bc : Nat) (body : List MA) (P : List En.Fct) (z : En.Fct) (turn newest i : Nat) : Prop :=
 ∀ (w : World) (fd : Option Addr) (fc : Nat) (T : List HT) (s : En.Sea En.Fct) (b : En.Bind) (n : Nat) (X Y : Nat → ByteArray), SAt w sb mb rv fd fc T s → RAtW w a ad ac bd bc body → BIs b n X Y → n ≤ 3 * i → a.pred ∈ T.map HT.nm → newest < s.found.length → s.found.take (newest + 1) = P ++ [z] →
  s.found.length + (En.jn P z turn a i ((body.drop i).map Prod.fst) b).length ≤ 999990 → (∀ f, s.count f + (En.jn P z turn a i ((body.drop i).map Prod.fst) b).length ≤ 1000000000000) →
  Calls Tryz.prog 232 #[.pointer (some ⟨sb, 0, none⟩), .agg #[.int .i64 a.at_, .string a.pred, .slice ad a.terms.length ac, .slice bd body.length bc], .int .i64 i, .int .i64 turn, .int .i64 newest, .agg (bArr n X Y)] w fun e w' => e = .returned (.tuple #[]) ∧ SOn w w' sb mb rv fd fc T s (En.holds s (En.jn P z turn a i ((body.drop i).map Prod.fst) b))
theorem sfoot_lt {w : World} {sb mb : Nat} {rv : Value} {fd : Option Addr} {fc : Nat} {T : List HT} {s : En.Sea En.Fct} (h : SAt w sb mb rv fd fc T s) {b : Nat} (hb : b ∈ sfoot sb fd fc s.found.length T) : b < w.heap.size := by
 obtain ⟨cur, U, e, _⟩ := sfoot_types h hb
 exact lt_of_heap e
theorem fct_parts {f : En.Fct} (h : f.2.length = 3) : ∃ p x y z, f = (p, [x, y, z]) := by
 obtain ⟨p, r⟩ := f
 obtain ⟨x, y, z, e⟩ := three_of h
 exact ⟨p, x, y, z, by rw [← e]⟩
theorem SOn.post {w w1 w2 : World} {sb mb : Nat} {rv : Value} {fd : Option Addr} {fc : Nat} {T : List HT} {s s' : En.Sea En.Fct} (h : SOn w w1 sb mb rv fd fc T s s') (hb : Below w1.heap.size w1 w2) : SOn w w2 sb mb rv fd fc T s s' where
 on := by
  obtain ⟨fd', fc', T', a, b, c⟩ := h.on
  exact ⟨fd', fc', T', a.below hb, b, c⟩
 kept := h.kept.below hb
 cells := by
  intro b hbl
  obtain ⟨⟨cur, e⟩, c⟩ := h.cells b hbl
  exact ⟨⟨cur, by rw [hb.block b (lt_of_heap e)]; exact e⟩, fun j hj => (hb.cell (lt_of_heap e)).trans (c j hj)⟩
theorem take_flat {α β : Type} (G : α → List β) (cs : List α) {k : Nat} (hk : k < cs.length) : (cs.take (k + 1)).flatMap G = (cs.take k).flatMap G ++ G cs[k] := by
 rw [List.take_succ_eq_append_getElem hk, List.flatMap_append]
 simp
theorem take_flat_le {α β : Type} (G : α → List β) (cs : List α) (k : Nat) : ((cs.take k).flatMap G).length ≤ (cs.flatMap G).length := by
 conv => rhs; rw [← List.take_append_drop k cs, List.flatMap_append, List.length_append]
 omega
theorem jspec_end {sb mb : Nat} {rv : Value} {a : Ax.Atom} {ad : Option Addr} {ac : Nat} {bd : Option Addr} {bc : Nat} {body : List MA} {P : List En.Fct} {z : En.Fct} {turn newest : Nat} : JSpec sb mb rv a ad ac bd bc body P z turn newest body.length := by
 intro w fd fc T s b n X Y h hr hb hn hp hnw hPz hF hC
 have e : En.jn P z turn a body.length ((body.drop body.length).map Prod.fst) b = [En.afact (En.val b) a] := by
  rw [List.drop_length]
  rfl
 rw [e] at hF hC ⊢
 exact join_end w sb mb rv fd fc T s h (by simp at hF; omega) (fun f => by have := hC f; omega) a ad ac bd bc body hr hp b n X Y hb turn newest
set_option maxRecDepth 100000 in
set_option maxHeartbeats 8000000 in
theorem jspec_on {sb mb : Nat} {rv : Value} {a : Ax.Atom} {ad : Option Addr} {ac : Nat} {bd : Option Addr} {bc : Nat} {body : List MA} {P : List En.Fct} {z : En.Fct} {turn newest i : Nat} (hi : i < body.length) (hPl : P.length = newest) (hnb : newest ≤ 999990) (htb : turn ≤ 10) (IH : JSpec sb mb rv a ad ac bd bc body P z turn newest (i + 1)) : JSpec sb mb rv a ad ac bd bc body P z turn newest i := by
 intro w fd fc T s b n X Y h hr hb hn hp hnw hPz hF hC
 have h2 := hr.two
 obtain ⟨ma, hma⟩ : ∃ ma, body[i] = ma := ⟨_, rfl⟩
 have hmem : ma ∈ body := by rw [← hma]; exact List.getElem_mem hi
 have hao := hr.atoms ma hmem
 have hdr : (body.drop i).map Prod.fst = ma.1 :: (body.drop (i + 1)).map Prod.fst := by rw [List.drop_eq_getElem_cons hi, hma]; rfl
 rw [hdr, En.jn_cons, En.cands_found hPl hPz] at hF hC ⊢
 obtain ⟨cs, hcs⟩ : ∃ cs, cs = (s.found.take (En.cto turn newest i)).drop (En.cfrom turn newest i) := ⟨_, rfl⟩
 have hft : En.cfrom turn newest i ≤ En.cto turn newest i ∧ En.cto turn newest i ≤ newest + 1 ∧ En.cfrom turn newest i ≤ newest := by
  unfold En.cfrom En.cto
  split
  · omega
  · split <;> omega
 have hcl : cs.length = En.cto turn newest i - En.cfrom turn newest i := by rw [hcs]; simp only [List.length_drop, List.length_take]; omega
 have hcg : ∀ k (hk : k < cs.length), ∃ (hq : En.cfrom turn newest i + k < s.found.length), cs[k] = s.found[En.cfrom turn newest i + k] := by
  intro k hk
  refine ⟨by omega, ?_⟩
  simp only [hcs, List.getElem_drop, List.getElem_take]
 rw [← hcs] at hF hC ⊢
 obtain ⟨fr, hfr⟩ : ∃ fr, fr = En.cfrom turn newest i := ⟨_, rfl⟩
 obtain ⟨tn, hto⟩ : ∃ tn, tn = En.cto turn newest i := ⟨_, rfl⟩
 rw [← hfr, ← hto] at hft hcl
 rw [← hfr] at hcg
 have HFR : Hid (fr = if i = turn then newest else 0) := hfr
 have HTO : Hid (tn = if i = turn then newest + 1 else if i < turn then newest else newest + 1) := hto
 clear hcs hfr hto hdr
 generalize hG : En.jone P z turn a i ma.1 ((body.drop (i + 1)).map Prod.fst) b = G at hF hC ⊢
 have HG : Hid (En.jone P z turn a i ma.1 ((body.drop (i + 1)).map Prod.fst) b = G) := hG
 clear hG
 obtain ⟨fb, efd, hfb, hfc, hfcs⟩ := row_cells h.fnd (by omega)
 subst efd
 obtain ⟨xd, xc, hsh⟩ := ownsRow_shape (hr.mr.2.2 ma hmem)
 obtain ⟨bg, ebd, hbg, hbc, hbcs⟩ := row_cells hr.mr.2.1 (by omega)
 subst ebd
 have hblk := h.blk
 have HH : Hid (SAt w sb mb rv (some ⟨fb, 0, none⟩) fc T s) := h
 have HRR : Hid (RAtW w a ad ac (some ⟨bg, 0, none⟩) bc body) := hr
 go_enter Tryz.func232, Tryz.ntmps232
 go_upto_region 1 with fail
 obtain ⟨jb, js, jr, jx⟩ := jw_made w (.cells #[.int .i64 a.at_, .string a.pred, .slice ad a.terms.length ac, .slice (some ⟨bg, 0, none⟩) body.length bc] 222) (.cells (bArr n X Y) 369)
 generalize (w.alloc (.cells #[.int .i64 a.at_, .string a.pred, .slice ad a.terms.length ac, .slice (some ⟨bg, 0, none⟩) body.length bc] 222)).alloc (.cells (bArr n X Y) 369) = w0 at jb js jr jx ⊢
 have hwl : w.heap.size < w0.heap.size := by omega
 have hwl1 : w.heap.size + 1 < w0.heap.size := by omega
 have r3 : w0.cell? ⟨w.heap.size, 3, none⟩ = some (.slice (some ⟨bg, 0, none⟩) body.length bc) := by rw [cell_of_row _ _ _ _ _ _ jr]; rfl
 have hne : ¬ ((i : Int) = (body.length : Int)) := by omega
 have hnei : ((i : Int) == (body.length : Int)) = false := by simp; omega
 have s2 : w0.cell? ⟨sb, 2, none⟩ = some (.slice (some ⟨fb, 0, none⟩) s.found.length fc) := by rw [cell_of_row _ _ 2 _ _ _ (HH.out.below jb).blk]; rfl
 have hsb0 : sb < w0.heap.size := lt_of_heap (HH.out.below jb).blk
 have H0 : Hid (SAt w0 sb mb rv (some ⟨fb, 0, none⟩) fc T s) := HH.out.below jb
 go_upto_if 31 with fail
 go_cut [12, 13] from 29 (fun fv tv wx => fv = .int .i64 fr ∧ tv = .int .i64 tn ∧ wx = w0)
 case first =>
  by_cases c1 : i = turn
  · have e1 : Hid (fr = newest) := by have := HFR.out; rw [if_pos c1] at this; exact this
    have e2 : Hid (tn = newest + 1) := by have := HTO.out; rw [if_pos c1] at this; exact this
    have hb1 : ((i : Int) == (turn : Int)) = true := by simp; omega
    clear c1
    go_wp2_with fail
    go_meet
    case rel => exact ⟨by rw [e1.out], by rw [e2.out]; rfl, rfl⟩
  · have hb1 : ((i : Int) == (turn : Int)) = false := by simp; omega
    by_cases c2 : i < turn
    · have e1 : Hid (fr = 0) := by have := HFR.out; rw [if_neg c1] at this; exact this
      have e2 : Hid (tn = newest) := by have := HTO.out; rw [if_neg c1, if_pos c2] at this; exact this
      clear c1
      go_wp2_with fail
      go_meet
      case rel => exact ⟨by rw [e1.out]; rfl, by rw [e2.out], rfl⟩
    · have e1 : Hid (fr = 0) := by have := HFR.out; rw [if_neg c1] at this; exact this
      have e2 : Hid (tn = newest + 1) := by have := HTO.out; rw [if_neg c1, if_neg c2] at this; exact this
      clear c1
      go_wp2_with fail
      go_meet
      case rel => exact ⟨by rw [e1.out]; rfl, by rw [e2.out]; rfl, rfl⟩
 case rest =>
  obtain ⟨rfl, rfl, hwx⟩ := hcut
  have hwx2 := hwx.symm
  subst hwx2
  have g1 : (fr : Int) ≤ (tn : Int) := by omega
  have g2 : tn ≤ fc := by omega
  have g3 : ¬ (fc = fr) := by omega
  have g4 : fr ≤ tn := hft.1
  have hff := ownsRow_le HH.out.fnd
  have HJB : Hid (Below w.heap.size w w0) := jb
  have HJR : Hid (w0.heap[w.heap.size]? = some (.cells #[.int .i64 a.at_, .string a.pred, .slice ad a.terms.length ac, .slice (some ⟨bg, 0, none⟩) body.length bc] 222 (0, 0))) := jr
  have HJX : Hid (w0.heap[w.heap.size + 1]? = some (.cells (bArr n X Y) 369 (0, 0))) := jx
  have HCS : Hid (∀ k (hk : k < cs.length), ∃ (hq : fr + k < s.found.length), cs[k] = s.found[fr + k]) := hcg
  have HHF : Hid (s.found.length + (cs.flatMap G).length ≤ 999990) := hF
  have HHC : Hid (∀ f, s.count f + (cs.flatMap G).length ≤ 1000000000000) := hC
  have HFN : Hid (∀ j u, (factCells s.found)[j]? = some u → w.cell? ⟨fb, j, none⟩ = some u) := hfcs
  have HPZ : Hid (s.found.take (newest + 1) = P ++ [z]) := hPz
  clear hbcs hfcs hcg hF hC h hr jb jr jx hPz hne hnei r3 hblk
  go_upto_region 9 with fail
  have hcl2 : tn - fr ≤ cs.length := by omega
  have hcl3 : cs.length ≤ tn - fr := by omega
  go_loopw [45] (fun iv wr => ∃ k : Nat, k ≤ cs.length ∧ iv = .int .i64 k ∧ SOn w0 wr sb mb rv (some ⟨fb, 0, none⟩) fc T s (En.holds s ((cs.take k).flatMap G))) (fun iv _ => cs.length - (intOf iv).toNat)
  case atStart => exact ⟨0, Nat.zero_le _, rfl, SOn.refl H0.out⟩
  case round =>
   obtain ⟨k, hk, rfl, hson⟩ := hrel
   have HS : Hid (SOn w0 wr sb mb rv (some ⟨fb, 0, none⟩) fc T s (En.holds s ((cs.take k).flatMap G))) := hson
   clear hson
   have hsz1 : w0.heap.size ≤ wr.heap.size := HS.out.kept.size
   have hjr : wr.heap[w.heap.size]? = some (.cells #[.int .i64 a.at_, .string a.pred, .slice ad a.terms.length ac, .slice (some ⟨bg, 0, none⟩) body.length bc] 222 (0, 0)) := HS.out.kept.heap HJR.out (fun hc => by have := sfoot_lt HH.out hc; omega)
   have hjx : wr.heap[w.heap.size + 1]? = some (.cells (bArr n X Y) 369 (0, 0)) := HS.out.kept.heap HJX.out (fun hc => by have := sfoot_lt HH.out hc; omega)
   by_cases hlt : k < cs.length
   · obtain ⟨hq, hck⟩ := HCS.out k hlt
     obtain ⟨p, x, y, zz, hfp⟩ := fct_parts (HH.out.three _ (List.getElem_mem hq))
     have hck2 : Hid (cs[k] = (p, [x, y, zz])) := by rw [hck, hfp]; rfl
     obtain ⟨c0, c1, c2, c3⟩ := fcell_get HH.out.three hq hfp
     have hmv : ∀ j u, j < s.found.length * 4 → (factCells s.found)[j]? = some u → wr.cell? ⟨fb, j, none⟩ = some u := by
      intro j u hj hu
      rw [(HS.out.cells fb rfl).2 j hj, HJB.out.cell (by exact hfb)]
      exact HFN.out j u hu
     have f0 : wr.cell? ⟨fb, fr * 4 + k * 4, none⟩ = some (.string p) := hmv _ _ (by omega) (by rw [show fr * 4 + k * 4 = (fr + k) * 4 by omega]; exact c0)
     have f1 : wr.cell? ⟨fb, fr * 4 + k * 4 + 1, none⟩ = some (.string x) := hmv _ _ (by omega) (by rw [show fr * 4 + k * 4 + 1 = (fr + k) * 4 + 1 by omega]; exact c1)
     have f2 : wr.cell? ⟨fb, fr * 4 + k * 4 + 2, none⟩ = some (.string y) := hmv _ _ (by omega) (by rw [show fr * 4 + k * 4 + 2 = (fr + k) * 4 + 2 by omega]; exact c2)
     have f3 : wr.cell? ⟨fb, fr * 4 + k * 4 + 3, none⟩ = some (.string zz) := hmv _ _ (by omega) (by rw [show fr * 4 + k * 4 + 3 = (fr + k) * 4 + 3 by omega]; exact c3)
     have hfbr : fb < wr.heap.size := by have := HJB.out.size; omega
     have hra : RAtW wr a ad ac (some ⟨bg, 0, none⟩) bc body := (HRR.out.below HJB.out).search H0.out HS.out
     have HRA : Hid (RAtW wr a ad ac (some ⟨bg, 0, none⟩) bc body) := hra
     obtain ⟨bg', eb, hbg', hbc', hbcs'⟩ := row_cells hra.mr.2.1 (by show 0 < body.length; omega)
     simp only [Option.some.injEq, Addr.mk.injEq, and_true] at eb
     subst eb
     obtain ⟨a0, a1, a2⟩ := atomCells_get body i hi
     rw [hma] at a0 a1 a2
     rw [hsh] at a2
     have m0 := hbcs' _ _ a0
     have m1 := hbcs' _ _ a1
     have m2 := hbcs' _ _ a2
     have hmok : MA.ok wr (ma.1, .slice xd ma.1.terms.length xc) := by
      have := hra.mr.2.2 ma hmem
      rw [← hsh]
      exact this
     have r0 : wr.cell? ⟨w.heap.size, 0, none⟩ = some (.int .i64 a.at_) := by rw [cell_of_row _ _ _ _ _ _ hjr]; rfl
     have r1 : wr.cell? ⟨w.heap.size, 1, none⟩ = some (.string a.pred) := by rw [cell_of_row _ _ _ _ _ _ hjr]; rfl
     have r2 : wr.cell? ⟨w.heap.size, 2, none⟩ = some (.slice ad a.terms.length ac) := by rw [cell_of_row _ _ _ _ _ _ hjr]; rfl
     have r3 : wr.cell? ⟨w.heap.size, 3, none⟩ = some (.slice (some ⟨bg, 0, none⟩) body.length bc) := by rw [cell_of_row _ _ _ _ _ _ hjr]; rfl
     have q0 : wr.cell? ⟨w.heap.size + 1, 0, none⟩ = some (.int .i64 n) := by rw [cell_of_row _ _ _ _ _ _ hjx]; rfl
     have q1 : wr.cell? ⟨w.heap.size + 1, 1, none⟩ = some (.string (X 0)) := by rw [cell_of_row _ _ _ _ _ _ hjx]; rfl
     have q2 : wr.cell? ⟨w.heap.size + 1, 2, none⟩ = some (.string (Y 0)) := by rw [cell_of_row _ _ _ _ _ _ hjx]; rfl
     have q3 : wr.cell? ⟨w.heap.size + 1, 3, none⟩ = some (.string (X 1)) := by rw [cell_of_row _ _ _ _ _ _ hjx]; rfl
     have q4 : wr.cell? ⟨w.heap.size + 1, 4, none⟩ = some (.string (Y 1)) := by rw [cell_of_row _ _ _ _ _ _ hjx]; rfl
     have q5 : wr.cell? ⟨w.heap.size + 1, 5, none⟩ = some (.string (X 2)) := by rw [cell_of_row _ _ _ _ _ _ hjx]; rfl
     have q6 : wr.cell? ⟨w.heap.size + 1, 6, none⟩ = some (.string (Y 2)) := by rw [cell_of_row _ _ _ _ _ _ hjx]; rfl
     have q7 : wr.cell? ⟨w.heap.size + 1, 7, none⟩ = some (.string (X 3)) := by rw [cell_of_row _ _ _ _ _ _ hjx]; rfl
     have q8 : wr.cell? ⟨w.heap.size + 1, 8, none⟩ = some (.string (Y 3)) := by rw [cell_of_row _ _ _ _ _ _ hjx]; rfl
     have q9 : wr.cell? ⟨w.heap.size + 1, 9, none⟩ = some (.string (X 4)) := by rw [cell_of_row _ _ _ _ _ _ hjx]; rfl
     have q10 : wr.cell? ⟨w.heap.size + 1, 10, none⟩ = some (.string (Y 4)) := by rw [cell_of_row _ _ _ _ _ _ hjx]; rfl
     have q11 : wr.cell? ⟨w.heap.size + 1, 11, none⟩ = some (.string (X 5)) := by rw [cell_of_row _ _ _ _ _ _ hjx]; rfl
     have q12 : wr.cell? ⟨w.heap.size + 1, 12, none⟩ = some (.string (Y 5)) := by rw [cell_of_row _ _ _ _ _ _ hjx]; rfl
     have v1 : w.heap.size < wr.heap.size := by omega
     have v2 : w.heap.size + 1 < wr.heap.size := by omega
     obtain ⟨w1, hw1⟩ : ∃ w1, w1 = wr.alloc (.cells #[.string p, .string x, .string y, .string zz] 325) := ⟨_, rfl⟩
     have hbw1 : Below wr.heap.size wr w1 := by rw [hw1]; exact (Below.refl _ _).alloc (Nat.le_refl _) _
     have hs1 : w1.heap.size = wr.heap.size + 1 := by rw [hw1]; simp
     have hfx : w1.heap[wr.heap.size]? = some (.cells #[.string p, .string x, .string y, .string zz] 325 (0, 0)) := by rw [hw1]; exact heap_alloc_new wr _
     have hmat : Hid (∀ W : World, Below w1.heap.size w1 W → Calls Tryz.prog 266 #[.agg (bArr n X Y), .agg #[.int .i64 ma.1.at_, .string ma.1.pred, .slice xd ma.1.terms.length xc], .agg #[.string p, .string x, .string y, .string zz]] W fun e w' => ∃ n1 X1 Y1 ok, e = .returned (.tuple #[.agg (bArr n1 X1 Y1), .bool ok]) ∧ Below W.heap.size W w' ∧ Below w1.heap.size w1 w' ∧
      Hid ((ok = false ∧ En.amatch ma.1 (p, [x, y, zz]) b = none) ∨ (ok = true ∧ ∃ b1, En.amatch ma.1 (p, [x, y, zz]) b = some b1 ∧ BIs b1 n1 X1 Y1 ∧ n1 ≤ n + ma.1.terms.length))) := by
      intro W hW
      have hW2 : Below wr.heap.size wr W := hbw1.trans (hW.mono hbw1.size)
      refine (matchJ W b n X Y hb ma.1 xd xc p x y zz (ownsRow_below hmok hW2) hao (by have := hao.three; omega)).mono ?_
      rintro e w' ⟨n1, X1, Y1, ok, h1, h2, h3⟩
      exact ⟨n1, X1, Y1, ok, h1, h2, hW.trans (h2.mono hW.size), h3⟩
     clear hmv c0 c1 c2 c3 a0 a1 a2 hbcs' hra hmok hjr hjx hck hfp s2 hfb
     have hArr : ∀ n X Y, bArr n X Y = #[.int .i64 n, .string (X 0), .string (Y 0), .string (X 1), .string (Y 1), .string (X 2), .string (Y 2), .string (X 3), .string (Y 3), .string (X 4), .string (Y 4), .string (X 5), .string (Y 5)] := fun _ _ _ => rfl
     simp only [hArr] at hmat
     clear hArr
     go_upto_region 11 with fail
     rw [← hw1]
     have k0 : w1.cell? ⟨w.heap.size, 3, none⟩ = some (.slice (some ⟨bg, 0, none⟩) body.length bc) := by rw [hbw1.cell (World.block_lt_of_cell? wr _ r3)]; exact r3
     have k1 : w1.cell? ⟨w.heap.size + 1, 0, none⟩ = some (.int .i64 n) := by rw [hbw1.cell (World.block_lt_of_cell? wr _ q0)]; exact q0
     have k2 : w1.cell? ⟨w.heap.size + 1, 1, none⟩ = some (.string (X 0)) := by rw [hbw1.cell (World.block_lt_of_cell? wr _ q1)]; exact q1
     have k3 : w1.cell? ⟨w.heap.size + 1, 2, none⟩ = some (.string (Y 0)) := by rw [hbw1.cell (World.block_lt_of_cell? wr _ q2)]; exact q2
     have k4 : w1.cell? ⟨w.heap.size + 1, 3, none⟩ = some (.string (X 1)) := by rw [hbw1.cell (World.block_lt_of_cell? wr _ q3)]; exact q3
     have k5 : w1.cell? ⟨w.heap.size + 1, 4, none⟩ = some (.string (Y 1)) := by rw [hbw1.cell (World.block_lt_of_cell? wr _ q4)]; exact q4
     have k6 : w1.cell? ⟨w.heap.size + 1, 5, none⟩ = some (.string (X 2)) := by rw [hbw1.cell (World.block_lt_of_cell? wr _ q5)]; exact q5
     have k7 : w1.cell? ⟨w.heap.size + 1, 6, none⟩ = some (.string (Y 2)) := by rw [hbw1.cell (World.block_lt_of_cell? wr _ q6)]; exact q6
     have k8 : w1.cell? ⟨w.heap.size + 1, 7, none⟩ = some (.string (X 3)) := by rw [hbw1.cell (World.block_lt_of_cell? wr _ q7)]; exact q7
     have k9 : w1.cell? ⟨w.heap.size + 1, 8, none⟩ = some (.string (Y 3)) := by rw [hbw1.cell (World.block_lt_of_cell? wr _ q8)]; exact q8
     have k10 : w1.cell? ⟨w.heap.size + 1, 9, none⟩ = some (.string (X 4)) := by rw [hbw1.cell (World.block_lt_of_cell? wr _ q9)]; exact q9
     have k11 : w1.cell? ⟨w.heap.size + 1, 10, none⟩ = some (.string (Y 4)) := by rw [hbw1.cell (World.block_lt_of_cell? wr _ q10)]; exact q10
     have k12 : w1.cell? ⟨w.heap.size + 1, 11, none⟩ = some (.string (X 5)) := by rw [hbw1.cell (World.block_lt_of_cell? wr _ q11)]; exact q11
     have k13 : w1.cell? ⟨w.heap.size + 1, 12, none⟩ = some (.string (Y 5)) := by rw [hbw1.cell (World.block_lt_of_cell? wr _ q12)]; exact q12
     have k14 : w1.cell? ⟨bg, i * 3, none⟩ = some (.int .i64 ma.1.at_) := by rw [hbw1.cell (World.block_lt_of_cell? wr _ m0)]; exact m0
     have k15 : w1.cell? ⟨bg, i * 3 + 1, none⟩ = some (.string ma.1.pred) := by rw [hbw1.cell (World.block_lt_of_cell? wr _ m1)]; exact m1
     have k16 : w1.cell? ⟨bg, i * 3 + 2, none⟩ = some (.slice xd ma.1.terms.length xc) := by rw [hbw1.cell (World.block_lt_of_cell? wr _ m2)]; exact m2
     have k17 : w1.cell? ⟨wr.heap.size, 0, none⟩ = some (.string p) := by rw [cell_of_row _ _ _ _ _ _ hfx]; rfl
     have k18 : w1.cell? ⟨wr.heap.size, 1, none⟩ = some (.string x) := by rw [cell_of_row _ _ _ _ _ _ hfx]; rfl
     have k19 : w1.cell? ⟨wr.heap.size, 2, none⟩ = some (.string y) := by rw [cell_of_row _ _ _ _ _ _ hfx]; rfl
     have k20 : w1.cell? ⟨wr.heap.size, 3, none⟩ = some (.string zz) := by rw [cell_of_row _ _ _ _ _ _ hfx]; rfl
     have v3 : wr.heap.size < w1.heap.size := by omega
     have v4 : w.heap.size < w1.heap.size := by omega
     have v5 : w.heap.size + 1 < w1.heap.size := by omega
     have v6 : bg < w1.heap.size := by omega
     have HS1 : Hid (w1.heap.size = wr.heap.size + 1) := hs1
     clear hs1 hw1 r0 r1 r2 r3 q0 q1 q2 q3 q4 q5 q6 q7 q8 q9 q10 q11 q12 m0 m1 m2 f0 f1 f2 f3 v1 v2 hfx
     go_cut [16, 17, 45] from 45 to 69 (fun nv ov kv wx => kv = .int .i64 k ∧ ∃ g n1 X1 Y1 ok, nv = .pointer (some ⟨g, 0, none⟩) ∧ ov = .bool ok ∧ wx.heap[g]? = some (.cells (bArr n1 X1 Y1) 369 (0, 0)) ∧ Below w1.heap.size w1 wx ∧ Hid ((ok = false ∧ En.amatch ma.1 (p, [x, y, zz]) b = none) ∨ (ok = true ∧ ∃ b1, En.amatch ma.1 (p, [x, y, zz]) b = some b1 ∧ BIs b1 n1 X1 Y1 ∧ n1 ≤ n + ma.1.terms.length)))
     case first =>
      have nn0 := World.new_ne w1 _ k0
      have nn1 := World.new_ne w1 _ k1
      have nn2 := World.new_ne w1 _ k2
      have nn3 := World.new_ne w1 _ k3
      have nn4 := World.new_ne w1 _ k4
      have nn5 := World.new_ne w1 _ k5
      have nn6 := World.new_ne w1 _ k6
      have nn7 := World.new_ne w1 _ k7
      have nn8 := World.new_ne w1 _ k8
      have nn9 := World.new_ne w1 _ k9
      have nn10 := World.new_ne w1 _ k10
      have nn11 := World.new_ne w1 _ k11
      have nn12 := World.new_ne w1 _ k12
      have nn13 := World.new_ne w1 _ k13
      have nn14 := World.new_ne w1 _ k14
      have nn15 := World.new_ne w1 _ k15
      have nn16 := World.new_ne w1 _ k16
      have nn17 := World.new_ne w1 _ k17
      have nn18 := World.new_ne w1 _ k18
      have nn19 := World.new_ne w1 _ k19
      have nn20 := World.new_ne w1 _ k20
      go_region_held3 (fun w' => w'.cell? ⟨w.heap.size, 3, none⟩ = some (.slice (some ⟨bg, 0, none⟩) body.length bc) ∧ w'.cell? ⟨w.heap.size + 1, 0, none⟩ = some (.int .i64 n) ∧ w'.cell? ⟨w.heap.size + 1, 1, none⟩ = some (.string (X 0)) ∧ w'.cell? ⟨w.heap.size + 1, 2, none⟩ = some (.string (Y 0)) ∧ w'.cell? ⟨w.heap.size + 1, 3, none⟩ = some (.string (X 1)) ∧ w'.cell? ⟨w.heap.size + 1, 4, none⟩ = some (.string (Y 1)) ∧ w'.cell? ⟨w.heap.size + 1, 5, none⟩ = some (.string (X 2)) ∧ w'.cell? ⟨w.heap.size + 1, 6, none⟩ = some (.string (Y 2)) ∧ w'.cell? ⟨w.heap.size + 1, 7, none⟩ = some (.string (X 3)) ∧ w'.cell? ⟨w.heap.size + 1, 8, none⟩ = some (.string (Y 3)) ∧ w'.cell? ⟨w.heap.size + 1, 9, none⟩ = some (.string (X 4)) ∧ w'.cell? ⟨w.heap.size + 1, 10, none⟩ = some (.string (Y 4)) ∧ w'.cell? ⟨w.heap.size + 1, 11, none⟩ = some (.string (X 5)) ∧ w'.cell? ⟨w.heap.size + 1, 12, none⟩ = some (.string (Y 5)) ∧ w'.cell? ⟨bg, i * 3, none⟩ = some (.int .i64 ma.1.at_) ∧ w'.cell? ⟨bg, i * 3 + 1, none⟩ = some (.string ma.1.pred) ∧ w'.cell? ⟨bg, i * 3 + 2, none⟩ = some (.slice xd ma.1.terms.length xc) ∧ w'.cell? ⟨wr.heap.size, 0, none⟩ = some (.string p) ∧ w'.cell? ⟨wr.heap.size, 1, none⟩ = some (.string x) ∧ w'.cell? ⟨wr.heap.size, 2, none⟩ = some (.string y) ∧ w'.cell? ⟨wr.heap.size, 3, none⟩ = some (.string zz)) (go_keep) (first | (go_at_call 266; refine (hmat.out _ (by first | exact (Below.refl _ _).drew | exact (((Below.refl _ _).drew).alloc (Nat.le_refl _) _) | exact (((Below.refl _ _).alloc (Nat.le_refl _) _).drew))).mono ?_; rintro e w5 ⟨n1, X1, Y1, ok, rfl, hb5, hb6, hres5⟩; have y0 : w5.cell? ⟨w.heap.size, 3, none⟩ = some (.slice (some ⟨bg, 0, none⟩) body.length bc) := (by rw [hb6.cell (World.block_lt_of_cell? w1 _ k0)]; exact k0); have y1 : w5.cell? ⟨w.heap.size + 1, 0, none⟩ = some (.int .i64 n) := (by rw [hb6.cell (World.block_lt_of_cell? w1 _ k1)]; exact k1); have y2 : w5.cell? ⟨w.heap.size + 1, 1, none⟩ = some (.string (X 0)) := (by rw [hb6.cell (World.block_lt_of_cell? w1 _ k2)]; exact k2); have y3 : w5.cell? ⟨w.heap.size + 1, 2, none⟩ = some (.string (Y 0)) := (by rw [hb6.cell (World.block_lt_of_cell? w1 _ k3)]; exact k3); have y4 : w5.cell? ⟨w.heap.size + 1, 3, none⟩ = some (.string (X 1)) := (by rw [hb6.cell (World.block_lt_of_cell? w1 _ k4)]; exact k4); have y5 : w5.cell? ⟨w.heap.size + 1, 4, none⟩ = some (.string (Y 1)) := (by rw [hb6.cell (World.block_lt_of_cell? w1 _ k5)]; exact k5); have y6 : w5.cell? ⟨w.heap.size + 1, 5, none⟩ = some (.string (X 2)) := (by rw [hb6.cell (World.block_lt_of_cell? w1 _ k6)]; exact k6); have y7 : w5.cell? ⟨w.heap.size + 1, 6, none⟩ = some (.string (Y 2)) := (by rw [hb6.cell (World.block_lt_of_cell? w1 _ k7)]; exact k7); have y8 : w5.cell? ⟨w.heap.size + 1, 7, none⟩ = some (.string (X 3)) := (by rw [hb6.cell (World.block_lt_of_cell? w1 _ k8)]; exact k8); have y9 : w5.cell? ⟨w.heap.size + 1, 8, none⟩ = some (.string (Y 3)) := (by rw [hb6.cell (World.block_lt_of_cell? w1 _ k9)]; exact k9); have y10 : w5.cell? ⟨w.heap.size + 1, 9, none⟩ = some (.string (X 4)) := (by rw [hb6.cell (World.block_lt_of_cell? w1 _ k10)]; exact k10); have y11 : w5.cell? ⟨w.heap.size + 1, 10, none⟩ = some (.string (Y 4)) := (by rw [hb6.cell (World.block_lt_of_cell? w1 _ k11)]; exact k11); have y12 : w5.cell? ⟨w.heap.size + 1, 11, none⟩ = some (.string (X 5)) := (by rw [hb6.cell (World.block_lt_of_cell? w1 _ k12)]; exact k12); have y13 : w5.cell? ⟨w.heap.size + 1, 12, none⟩ = some (.string (Y 5)) := (by rw [hb6.cell (World.block_lt_of_cell? w1 _ k13)]; exact k13); have y14 : w5.cell? ⟨bg, i * 3, none⟩ = some (.int .i64 ma.1.at_) := (by rw [hb6.cell (World.block_lt_of_cell? w1 _ k14)]; exact k14); have y15 : w5.cell? ⟨bg, i * 3 + 1, none⟩ = some (.string ma.1.pred) := (by rw [hb6.cell (World.block_lt_of_cell? w1 _ k15)]; exact k15); have y16 : w5.cell? ⟨bg, i * 3 + 2, none⟩ = some (.slice xd ma.1.terms.length xc) := (by rw [hb6.cell (World.block_lt_of_cell? w1 _ k16)]; exact k16); have y17 : w5.cell? ⟨wr.heap.size, 0, none⟩ = some (.string p) := (by rw [hb6.cell (World.block_lt_of_cell? w1 _ k17)]; exact k17); have y18 : w5.cell? ⟨wr.heap.size, 1, none⟩ = some (.string x) := (by rw [hb6.cell (World.block_lt_of_cell? w1 _ k18)]; exact k18); have y19 : w5.cell? ⟨wr.heap.size, 2, none⟩ = some (.string y) := (by rw [hb6.cell (World.block_lt_of_cell? w1 _ k19)]; exact k19); have y20 : w5.cell? ⟨wr.heap.size, 3, none⟩ = some (.string zz) := (by rw [hb6.cell (World.block_lt_of_cell? w1 _ k20)]; exact k20); (try (have hz : w5.heap[w1.heap.size]? = some (.cells (bArr 0 (fun _ => ⟨#[]⟩) (fun _ => ⟨#[]⟩)) 369 (0, 0)) := (by rw [hb5.block _ (by simp)]; first | exact heap_alloc_new w1 _ | exact heap_alloc_new w1.drew _); have z0 : w5.cell? ⟨w1.heap.size, 0, none⟩ = some (.int .i64 0) := (by rw [cell_of_row _ _ _ _ _ _ hz]; rfl); have z1 : w5.cell? ⟨w1.heap.size, 1, none⟩ = some (.string ⟨#[]⟩) := (by rw [cell_of_row _ _ _ _ _ _ hz]; rfl); have z2 : w5.cell? ⟨w1.heap.size, 2, none⟩ = some (.string ⟨#[]⟩) := (by rw [cell_of_row _ _ _ _ _ _ hz]; rfl); have z3 : w5.cell? ⟨w1.heap.size, 3, none⟩ = some (.string ⟨#[]⟩) := (by rw [cell_of_row _ _ _ _ _ _ hz]; rfl); have z4 : w5.cell? ⟨w1.heap.size, 4, none⟩ = some (.string ⟨#[]⟩) := (by rw [cell_of_row _ _ _ _ _ _ hz]; rfl); have z5 : w5.cell? ⟨w1.heap.size, 5, none⟩ = some (.string ⟨#[]⟩) := (by rw [cell_of_row _ _ _ _ _ _ hz]; rfl); have z6 : w5.cell? ⟨w1.heap.size, 6, none⟩ = some (.string ⟨#[]⟩) := (by rw [cell_of_row _ _ _ _ _ _ hz]; rfl); have z7 : w5.cell? ⟨w1.heap.size, 7, none⟩ = some (.string ⟨#[]⟩) := (by rw [cell_of_row _ _ _ _ _ _ hz]; rfl); have z8 : w5.cell? ⟨w1.heap.size, 8, none⟩ = some (.string ⟨#[]⟩) := (by rw [cell_of_row _ _ _ _ _ _ hz]; rfl); have z9 : w5.cell? ⟨w1.heap.size, 9, none⟩ = some (.string ⟨#[]⟩) := (by rw [cell_of_row _ _ _ _ _ _ hz]; rfl); have z10 : w5.cell? ⟨w1.heap.size, 10, none⟩ = some (.string ⟨#[]⟩) := (by rw [cell_of_row _ _ _ _ _ _ hz]; rfl); have z11 : w5.cell? ⟨w1.heap.size, 11, none⟩ = some (.string ⟨#[]⟩) := (by rw [cell_of_row _ _ _ _ _ _ hz]; rfl); have z12 : w5.cell? ⟨w1.heap.size, 12, none⟩ = some (.string ⟨#[]⟩) := (by rw [cell_of_row _ _ _ _ _ _ hz]; rfl); have zf : ∀ o, w5.frozen? ⟨w1.heap.size, o, none⟩ = false := (fun o => by simp [World.frozen?, hz]); have zl : w1.heap.size < w5.heap.size := (lt_of_heap hz); have HZ : Hid (w5.heap[w1.heap.size]? = some (.cells (bArr 0 (fun _ => ⟨#[]⟩) (fun _ => ⟨#[]⟩)) 369 (0, 0))) := hz; clear hz))))
      · go_wp2_with fail
        go_meet
        case rel =>
         refine ⟨rfl, w5.heap.size, n1, X1, Y1, ok, rfl, rfl, ?_, hb6.alloc hb6.size _, hres5⟩
         exact heap_alloc_new w5 _
      · go_wp2_with fail
        go_meet
        case rel =>
         obtain ⟨hu, hku⟩ := bput_spec (n := n1) (X := X1) (Y := Y1) HZ.out
         refine ⟨rfl, w1.heap.size, n1, X1, Y1, ok, rfl, rfl, ?_, ?_, hres5⟩
         · exact hu
         · exact hku.to_below hb6 hb6.size (fun q hq => by simp at hq; omega)
     case rest =>
      obtain ⟨rfl, g, n1, X1, Y1, ok, rfl, rfl, hgb, hbx, hres⟩ := hcut
      have hbc : Below wr.heap.size wr wc := hbw1.trans (hbx.mono hbw1.size)
      have HBC : Hid (Below wr.heap.size wr wc) := hbc
      have hszc := hbc.size
      have hGk : Hid (G cs[k] = En.jone P z turn a i ma.1 ((body.drop (i + 1)).map Prod.fst) b (p, [x, y, zz])) := by rw [hck2.out, ← HG.out]; rfl
      have hstep := take_flat G cs hlt
      have HST : Hid ((cs.take (k + 1)).flatMap G = (cs.take k).flatMap G ++ G cs[k]) := hstep
      clear hstep hbx hbc
      cases ok with
      | false =>
       have hno : Hid (G cs[k] = []) := by
        rcases hres.out with ⟨_, e⟩ | ⟨e, _⟩
        · rw [hGk.out]; unfold En.jone; rw [e]; rfl
        · cases e
       have hnext : Hid (SOn w0 wc sb mb rv (some ⟨fb, 0, none⟩) fc T s (En.holds s ((cs.take (k + 1)).flatMap G))) := by
        rw [HST.out, hno.out, List.append_nil]
        exact HS.out.post HBC.out
       clear hgb hres k0 k1 k2 k3 k4 k5 k6 k7 k8 k9 k10 k11 k12 k13 k14 k15 k16 k17 k18 k19 k20
       go_wp2_with fail
       go_roundw
       case rel => exact ⟨k + 1, by omega, by go_num, hnext.out⟩
       case measure => simp [intOf]; omega
      | true =>
       obtain ⟨b1, hb1, hbi1, hn1⟩ : ∃ b1, En.amatch ma.1 (p, [x, y, zz]) b = some b1 ∧ BIs b1 n1 X1 Y1 ∧ n1 ≤ n + ma.1.terms.length := by
        rcases hres.out with ⟨e, _⟩ | ⟨_, e⟩
        · cases e
        · exact e
       have hyes : Hid (G cs[k] = En.jn P z turn a (i + 1) ((body.drop (i + 1)).map Prod.fst) b1) := by
        rw [hGk.out]; unfold En.jone; rw [hb1]; rfl
       obtain ⟨fd1, fc1, T1, hs1', hkey1, hft1⟩ := HS.out.on
       have hlen1 := En.holds_len ((cs.take k).flatMap G) s
       have hle1 := take_flat_le G cs (k + 1)
       rw [HST.out, List.length_append] at hle1
       have hF1 := HHF.out
       have hC1 := HHC.out
       have hrec := IH wc fd1 fc1 T1 (En.holds s ((cs.take k).flatMap G)) b1 n1 X1 Y1 (hs1'.below HBC.out) (HRA.out.below HBC.out) hbi1 (by have := hao.three; omega) (by rw [nm_of_key hkey1]; exact hp) (by omega) (by rw [En.holds_take _ _ (by omega)]; exact HPZ.out) (by rw [← hyes.out]; omega) (fun f => by have h1 := En.holds_count_le ((cs.take k).flatMap G) s f; have h2 := hC1 f; rw [← hyes.out]; omega)
       have hcall : Hid (Calls Tryz.prog 232 #[.pointer (some ⟨sb, 0, none⟩), .agg #[.int .i64 a.at_, .string a.pred, .slice ad a.terms.length ac, .slice (some ⟨bg, 0, none⟩) body.length bc], .int .i64 ((i : Int) + 1), .int .i64 turn, .int .i64 newest, .agg #[.int .i64 n1, .string (X1 0), .string (Y1 0), .string (X1 1), .string (Y1 1), .string (X1 2), .string (Y1 2), .string (X1 3), .string (Y1 3), .string (X1 4), .string (Y1 4), .string (X1 5), .string (Y1 5)]] wc fun e w' => e = .returned (.tuple #[]) ∧ SOn w0 w' sb mb rv (some ⟨fb, 0, none⟩) fc T s (En.holds s ((cs.take (k + 1)).flatMap G))) := by
        have hcast : ((i + 1 : Nat) : Int) = (i : Int) + 1 := by omega
        rw [hcast] at hrec
        refine hrec.mono ?_
        rintro e w' ⟨rfl, hson⟩
        refine ⟨rfl, ?_⟩
        rw [HST.out, En.holds_append, hyes.out]
        exact SOn.trans H0.out (hs1'.below HBC.out) hkey1 hft1 (HS.out.kept.below HBC.out) (HS.out.post HBC.out).cells hlen1.1 hson
       have hjr2 : wc.heap[w.heap.size]? = some (.cells #[.int .i64 a.at_, .string a.pred, .slice ad a.terms.length ac, .slice (some ⟨bg, 0, none⟩) body.length bc] 222 (0, 0)) := (HS.out.post HBC.out).kept.heap HJR.out (fun hc => by have := sfoot_lt HH.out hc; omega)
       have r0 : wc.cell? ⟨w.heap.size, 0, none⟩ = some (.int .i64 a.at_) := by rw [cell_of_row _ _ _ _ _ _ hjr2]; rfl
       have r1 : wc.cell? ⟨w.heap.size, 1, none⟩ = some (.string a.pred) := by rw [cell_of_row _ _ _ _ _ _ hjr2]; rfl
       have r2 : wc.cell? ⟨w.heap.size, 2, none⟩ = some (.slice ad a.terms.length ac) := by rw [cell_of_row _ _ _ _ _ _ hjr2]; rfl
       have r3 : wc.cell? ⟨w.heap.size, 3, none⟩ = some (.slice (some ⟨bg, 0, none⟩) body.length bc) := by rw [cell_of_row _ _ _ _ _ _ hjr2]; rfl
       have q0 : wc.cell? ⟨g, 0, none⟩ = some (.int .i64 n1) := by rw [cell_of_row _ _ _ _ _ _ hgb]; rfl
       have q1 : wc.cell? ⟨g, 1, none⟩ = some (.string (X1 0)) := by rw [cell_of_row _ _ _ _ _ _ hgb]; rfl
       have q2 : wc.cell? ⟨g, 2, none⟩ = some (.string (Y1 0)) := by rw [cell_of_row _ _ _ _ _ _ hgb]; rfl
       have q3 : wc.cell? ⟨g, 3, none⟩ = some (.string (X1 1)) := by rw [cell_of_row _ _ _ _ _ _ hgb]; rfl
       have q4 : wc.cell? ⟨g, 4, none⟩ = some (.string (Y1 1)) := by rw [cell_of_row _ _ _ _ _ _ hgb]; rfl
       have q5 : wc.cell? ⟨g, 5, none⟩ = some (.string (X1 2)) := by rw [cell_of_row _ _ _ _ _ _ hgb]; rfl
       have q6 : wc.cell? ⟨g, 6, none⟩ = some (.string (Y1 2)) := by rw [cell_of_row _ _ _ _ _ _ hgb]; rfl
       have q7 : wc.cell? ⟨g, 7, none⟩ = some (.string (X1 3)) := by rw [cell_of_row _ _ _ _ _ _ hgb]; rfl
       have q8 : wc.cell? ⟨g, 8, none⟩ = some (.string (Y1 3)) := by rw [cell_of_row _ _ _ _ _ _ hgb]; rfl
       have q9 : wc.cell? ⟨g, 9, none⟩ = some (.string (X1 4)) := by rw [cell_of_row _ _ _ _ _ _ hgb]; rfl
       have q10 : wc.cell? ⟨g, 10, none⟩ = some (.string (Y1 4)) := by rw [cell_of_row _ _ _ _ _ _ hgb]; rfl
       have q11 : wc.cell? ⟨g, 11, none⟩ = some (.string (X1 5)) := by rw [cell_of_row _ _ _ _ _ _ hgb]; rfl
       have q12 : wc.cell? ⟨g, 12, none⟩ = some (.string (Y1 5)) := by rw [cell_of_row _ _ _ _ _ _ hgb]; rfl
       have u1 : w.heap.size < wc.heap.size := lt_of_heap hjr2
       have u2 : g < wc.heap.size := lt_of_heap hgb
       clear hgb hres hjr2 hrec hs1' hkey1 hft1 hlen1 hle1 hF1 hC1 hb1 hbi1 hn1 k0 k1 k2 k3 k4 k5 k6 k7 k8 k9 k10 k11 k12 k13 k14 k15 k16 k17 k18 k19 k20
       go_wp2_with (go_at_call 232; refine hcall.out.mono ?_; rintro e w6 ⟨rfl, hson6⟩; have HS6 : Hid (SOn w0 w6 sb mb rv (some ⟨fb, 0, none⟩) fc T s (En.holds s ((cs.take (k + 1)).flatMap G))) := hson6; clear hson6)
       go_roundw
       case rel => exact ⟨k + 1, by omega, by go_num, HS6.out⟩
       case measure => simp [intOf]; omega
   · have hkc : k = cs.length := by omega
     have hfin : Hid (SOn w wr sb mb rv (some ⟨fb, 0, none⟩) fc T s (En.holds s (cs.flatMap G))) := by
      have := HS.out.pre HJB.out HH.out
      rw [hkc, List.take_length] at this
      exact this
     clear hkc hjr hjx
     go_wp2_with fail
     go_end0
     exact ⟨rfl, hfin.out⟩
end Go.Proofs.YtdmicblafmhflaaGreatDoor
