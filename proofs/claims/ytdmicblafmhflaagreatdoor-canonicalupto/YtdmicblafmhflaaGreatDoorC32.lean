/- Package follow: Model, walked. -/
import Derived.Test.YtdmicblafmhflaaGreatDoorC31
import Derived.Test.YtdmicblafmhflaaGreatDoorC14
import Derived.Laws.IdiomStrings
import Derived.Test.YtdmicblafmhflaaGreatDoorC18
import Derived.Laws.Closers25b
import Derived.BigQuiet
import Derived.Deep.QuietTactic
import Derived.Deep.CutRange
set_option linter.unusedSimpArgs false
set_option linter.unusedVariables false
namespace Go.Proofs.YtdmicblafmhflaaGreatDoor
open Go.RowKit Go.Maps Go.WideMaps Go.WideElems
open Go.Sort (grow)
set_option maxRecDepth 100000 in
set_option maxHeartbeats 4000000 in
theorem model_any (w : World) (pl : ByteArray) (rd : Option Addr) (rc : Nat) (l : List MR) (hl : RulesS w rd rc l) (hl8 : l.length ≤ 8) (h1 : Pd.One (prsOf (l.map MR.rule))) (hne : l ≠ []) (hsz : ∀ p, p ∈ prsOf (l.map MR.rule) → p.1.size ≤ 1000000)
 (gm : Nat) (G : List GT) (hG : GAt w gm G) (hGn : ∀ p, p ∈ prsOf (l.map MR.rule) → p.1 ∈ G.map GT.nm) (hGt : ∀ t, t ∈ G → t.L.length ≤ 1000) :
 Calls Tryz.prog 111 #[.agg #[.string pl, .slice rd l.length rc], .map (some gm)] w fun e w' => ∃ Q, Hid (Pd.Srt Q ∧ ∀ p, p ∈ Q ↔ p ∈ prsOf (l.map MR.rule)) ∧ MdPost w (l.map MR.rule) Q G e w' := by
 obtain ⟨w0, hw0⟩ : ∃ w0, w0 = w.alloc (.cells #[.string pl, .slice rd l.length rc] 101) := ⟨_, rfl⟩
 have hb0 : Below w.heap.size w w0 := by rw [hw0]; exact (Below.refl _ _).alloc (Nat.le_refl _) _
 have hbx : w0.heap[w.heap.size]? = some (.cells #[.string pl, .slice rd l.length rc] 101 (0, 0)) := by rw [hw0]; exact heap_alloc_new w _
 have x0 : w0.cell? ⟨w.heap.size, 0, none⟩ = some (.string pl) := by rw [cell_of_row _ _ 0 _ _ _ hbx]; rfl
 have x1 : w0.cell? ⟨w.heap.size, 1, none⟩ = some (.slice rd l.length rc) := by rw [cell_of_row _ _ 1 _ _ _ hbx]; rfl
 have hpr : Hid (Calls Tryz.prog 59 #[.agg #[.string pl, .slice rd l.length rc]] w0 fun e w1 => ∃ qd qc Q, e = .returned (.slice qd (List.length Q) qc) ∧ w1.cell? ⟨w.heap.size, 1, none⟩ = some (.slice rd l.length rc) ∧ w.heap.size < w1.heap.size ∧ Hid (w1.ownsRow 0 112 2 (.slice qd Q.length qc) Q.length (predCells Q) ∧ Below w.heap.size w w1 ∧ Pd.Srt Q ∧ ∀ p, p ∈ Q ↔ p ∈ prsOf (l.map MR.rule))) := by
  refine (preds_any w0 pl rd rc l (hl.inn.below hb0) (by omega) h1 hne).mono ?_
  rintro e w1 ⟨qd, qc, Q, rfl, q1, q2, q3⟩
  have hlt := lt_of_heap hbx
  exact ⟨qd, qc, Q, rfl, by rw [q2.cell hlt]; exact x1, Nat.lt_of_lt_of_le hlt q2.size, ownsRow_base q1 (Nat.zero_le _), hb0.trans (q2.mono hb0.size), q3.out.1, q3.out.2⟩
 have HSZ : Hid (∀ p, p ∈ prsOf (l.map MR.rule) → p.1.size ≤ 1000000) := hsz
 have HGN : Hid (∀ p, p ∈ prsOf (l.map MR.rule) → p.1 ∈ G.map GT.nm) := hGn
 have HGT : Hid (∀ t, t ∈ G → t.L.length ≤ 1000) := hGt
 have HL : Hid (RulesS w rd rc l) := hl
 have HG : Hid (GAt w gm G) := hG
 have hle := ownsRow_le hl.inn.1
 have H3 : Hid ((prsOf (l.map MR.rule)).length ≤ 24) := by have := prsOf_len3 hl.two; exact (by omega : (prsOf (l.map MR.rule)).length ≤ 24)
 clear h1 hne hsz hGn hGt hl hG hbx
 go_enter Tryz.func111, Tryz.ntmps111
 go_upto_region 1 with fail
 rw [← hw0]
 clear hw0
 go_upto_region 2 with (go_at_call 59; refine hpr.out.mono ?_; rintro e w1 ⟨qd, qc, Q, rfl, y1, hlt1, HQ⟩)
 have hQl : Q.length ≤ 24 := Nat.le_trans (short_of' _ _ (srt_nodup HQ.out.2.2.1) (fun p hp => (HQ.out.2.2.2 p).1 hp)) H3.out
 have hnh : Hid (∀ W : World, Below w1.heap.size w1 W → Calls Tryz.prog 186 #[.slice qd Q.length qc] W fun e w2 => ∃ T, e = .returned (.map (some W.heap.size)) ∧ Hid (NewHTs W w2 W.heap.size Q.length Q T) ∧ w2.cell? ⟨w.heap.size, 1, none⟩ = some (.slice rd l.length rc) ∧ w.heap.size < w2.heap.size ∧ Below W.heap.size W w2) := by
  intro W hW
  refine (noneHolds_any W 0 qd qc Q (ownsRow_below HQ.out.1 hW) (by omega) (fun p hp => HSZ.out p ((HQ.out.2.2.2 p).1 hp))).mono ?_
  rintro e w2 ⟨T, rfl, hT⟩
  have hbb := hT.bel
  refine ⟨T, rfl, hT, ?_, Nat.lt_of_lt_of_le hlt1 (Nat.le_trans hW.size hbb.size), hbb⟩
  rw [hbb.cell (Nat.lt_of_lt_of_le hlt1 hW.size), hW.cell hlt1]
  exact y1
 go_cut [7] from 15 (fun v wx => Hid (MCut w1 (.slice rd l.length rc) Q v wx))
 case first =>
  go_region_with (go_at_call 186; refine (hnh.out _ (by first | exact (Below.refl _ _).drew | exact ((Below.refl _ _).drew).alloc (Nat.le_refl _) _)).mono ?_; rintro e w2 ⟨T, rfl, HT, y2, hlt2, hb2⟩; try (have hzz := zero_search (w1 := w1) (by exact rfl) hb2; obtain ⟨hz, z0, z1, z2, f0, f1, f2, hzl⟩ := hzz))
  all_goals
   (go_wp2_with fail
    go_meet
    first
    | exact mcut_a HT.out rfl ((Below.refl _ _).drew) (srt_names HQ.out.2.2.1) (fun p hp => HSZ.out p ((HQ.out.2.2.2 p).1 hp)) (by omega)
    | exact mcut_b HT.out (by simp) (((Below.refl _ _).alloc (Nat.le_refl _) _).drew) hz (srt_names HQ.out.2.2.1) (fun p hp => HSZ.out p ((HQ.out.2.2.2 p).1 hp)) (by omega)
    | exact mcut_b HT.out (by simp) (((Below.refl _ _).drew).alloc (Nat.le_refl _) _) hz (srt_names HQ.out.2.2.1) (fun p hp => HSZ.out p ((HQ.out.2.2.2 p).1 hp)) (by omega))
 case rest =>
  obtain ⟨sb, mb, T0, rfl, hs0, hprs, hmb, hft0, hb1⟩ := hcut.out.out
  have HB1 : Hid (Below w.heap.size w w1) := HQ.out.2.1
  have HPRS : Hid (T0.map prHT = Q.reverse) := hprs
  have HM0 : Hid (MRel w1 wc sb mb (.slice rd l.length rc) (T0.map HT.key) En.seaNil) := ⟨⟨none, 0, T0, hs0, rfl, hft0⟩, hb1⟩
  have HQR : Hid (w1.ownsRow 0 112 2 (.slice qd Q.length qc) Q.length (predCells Q)) := HQ.out.1
  have hgl : Hid ((glOf Q G).length ≤ 24000) := by have := glOf_len (Q := Q) HGT.out; exact (by omega : (glOf Q G).length ≤ 24000)
  have hle2 := ownsRow_le HQ.out.1
  clear hcut hs0 hprs hft0 hb1 hnh x0 x1 y1
  go_wp2_with fail
  go_loopw [22] (fun i wr => ∃ k : Nat, k ≤ Q.length ∧ i = .int .i64 k ∧ MRel w1 wr sb mb (.slice rd l.length rc) (T0.map HT.key) (En.held0 En.seaNil (glOf (Q.take k) G))) (fun i _ => Q.length - (intOf i).toNat)
  case atStart => exact ⟨0, Nat.zero_le _, rfl, HM0.out⟩
  case round =>
   obtain ⟨k, hk, rfl, hm⟩ := hrel
   have HM : Hid (MRel w1 wr sb mb (.slice rd l.length rc) (T0.map HT.key) (En.held0 En.seaNil (glOf (Q.take k) G))) := hm
   clear hm HM0
   obtain ⟨wA, rfl⟩ : ∃ x, x = wr := ⟨_, rfl⟩
   by_cases hlt : k < Q.length
   · have HROW : Hid (wA.ownsRow 0 112 2 (.slice qd Q.length qc) Q.length (predCells Q)) := ownsRow_below HQR.out HM.out.bel
     obtain ⟨g, rfl, hg, hc, hcs⟩ := row_cells HROW.out (by omega)
     have c0 := hcs _ _ (predCells_get Q k hlt).1
     have c1 := hcs _ _ (predCells_get Q k hlt).2
     have HBW : Hid (Below w.heap.size w wA) := HB1.out.trans (HM.out.bel.mono HB1.out.size)
     obtain ⟨t, htG, htn⟩ : ∃ t, t ∈ G ∧ t.nm = (Q[k]).1 := by
      obtain ⟨t, ht, e⟩ := List.mem_map.1 (HGN.out Q[k] ((HQ.out.2.2.2 _).1 (List.getElem_mem hlt)))
      exact ⟨t, ht, e⟩
     have HSU : Hid (glOf (Q.take (k + 1)) G = glOf (Q.take k) G ++ t.L.map fun r => (t.nm, r)) := by
      have e := glOf_succ hlt G
      rw [← htn, rowsOf_mem HG.out.names htG] at e
      exact e
     have HTM : Hid (t.nm ∈ T0.map HT.nm) := by
      have e : T0.map HT.nm = (T0.map prHT).map Prod.fst := by rw [List.map_map]; rfl
      rw [e, HPRS.out, htn]
      exact List.mem_map.2 ⟨Q[k], by simp, rfl⟩
     have HTL : Hid (t.L.length ≤ 1000) := HGT.out t htG
     have HFB : Hid ((En.held0 (En.seaNil (F := En.Fct)) (glOf (Q.take k) G)).found.length ≤ 24000) := by
      have h1 := En.held0_len (glOf (Q.take k) G) (En.seaNil (F := En.Fct))
      have h2 := glOf_take_len Q k G
      have h3 := hgl.out
      have h4 : (En.seaNil (F := En.Fct)).found.length = 0 := rfl
      have h5 : (En.held0 (En.seaNil (F := En.Fct)) (glOf (Q.take k) G)).found.length ≤ 24000 := by omega
      exact h5
     have H3L : Hid (Three t.L) := (TabAt.rows (HG.out.tabs t htG)).three
     rw [← htn] at c0
     have hlk : ∀ W : World, Below wA.heap.size wA W → (Instr.lookup 102 (.map (some gm)) (.string t.nm) false).run Tryz.prog W = .ok (.pointer (some ⟨t.g, 0, none⟩)) W := fun W hW => ((HG.out.below HBW.out).below hW).map.look (glook_key HG.out.names htG) (HG.out.short t htG) Tryz.underlying102 (Tryz.zeroGivenPtr W)
     have hl1 := hlk (wA.alloc (.cells #[.string t.nm, .int .i64 (Q[k]).2] 112)) ((Below.refl _ _).alloc (Nat.le_refl _) _)
     have hrows : Hid (∀ W, Below wA.heap.size wA W → Calls Tryz.prog 133 #[.pointer (some ⟨t.g, 0, none⟩)] W fun e w2 => ∃ rd' rc', e = .returned (.slice rd' t.L.length rc') ∧ w2.ownsRow W.heap.size 119 3 (.slice rd' t.L.length rc') t.L.length (rowCells t.L) ∧ Below W.heap.size W w2) := fun W hW => rows_any W t.g _ t.nm t.pl t.rd t.rc t.L [] (((HG.out.below HBW.out).below hW).tabs t htG) (by have := HTL.out; omega)
     generalize (Q[k]).2 = pp at c1 hl1
     clear hcs hlk htn htG
     go_wp2_with (go_at_call 133; refine (hrows.out _ (by exact (Below.refl _ _).alloc (Nat.le_refl _) _)).mono ?_; rintro e w2 ⟨rd', rc', rfl, hrow2, hb2⟩)
     have hbA2 : Below wA.heap.size wA w2 := ((Below.refl _ _).alloc (Nat.le_refl _) _).trans (hb2.mono (by simp))
     have HP2 : Hid (w2.heap[wA.heap.size]? = some (.cells #[.string t.nm, .int .i64 pp] 112 (0, 0))) := by
      rw [hb2.block _ (by simp)]
      exact heap_alloc_new _ _
     obtain ⟨fd, fc, T, hsA, hkeyA, hftA⟩ := HM.out.at_
     have HS2 : Hid (SAt w2 sb mb (.slice rd l.length rc) fd fc T (En.held0 En.seaNil (glOf (Q.take k) G))) := hsA.below hbA2
     have HNF : Hid (∀ b, b ∈ sfoot sb fd fc (En.held0 (En.seaNil (F := En.Fct)) (glOf (Q.take k) G)).found.length T → b < wA.heap.size) := fun b hb => by
      obtain ⟨cur, U, e, _⟩ := sfoot_types hsA hb
      exact lt_of_heap e
     have HK : Hid (T.map HT.key = T0.map HT.key) := hkeyA
     have HF : Hid (∀ b, b ∈ sfoot sb fd fc (En.held0 (En.seaNil (F := En.Fct)) (glOf (Q.take k) G)).found.length T → w1.heap.size ≤ b) := hftA
     have HBel2 : Hid (Below w1.heap.size w1 w2) := HM.out.bel.trans (hbA2.mono HM.out.bel.size)
     have HROW2 : Hid (w2.ownsRow (wA.heap.size + 1) 119 3 (.slice rd' t.L.length rc') t.L.length (rowCells t.L)) := by
      have := hrow2
      rw [World.size_alloc] at this
      exact this
     have hleR := ownsRow_le hrow2
     have HC0 : Hid (∀ f, (En.held0 (En.seaNil (F := En.Fct)) (glOf (Q.take k) G)).count f = 0) := fun f => by rw [En.held0_count]; rfl
     have HGS : Hid (En.held0 (En.held0 En.seaNil (glOf (Q.take k) G)) (t.L.map fun r => (t.nm, r)) = En.held0 En.seaNil (glOf (Q.take (k + 1)) G)) := by
      have h9 : En.held0 (En.held0 En.seaNil (glOf (Q.take k) G)) (t.L.map fun r => (t.nm, r)) = En.held0 En.seaNil (glOf (Q.take (k + 1)) G) := by rw [HSU.out, En.held0_append]
      exact h9
     generalize En.held0 (En.seaNil (F := En.Fct)) (glOf (Q.take k) G) = s at HS2 HNF HF HFB HC0 HGS
     clear hsA hkeyA hftA hrow2 hb2 hbA2 c0 c1 hl1 hrows HM HROW
     go_loopw [34] (fun i wr => ∃ j : Nat, j ≤ t.L.length ∧ i = .int .i64 j ∧ SOn w2 wr sb mb (.slice rd l.length rc) fd fc T s (En.held0 s ((t.L.take j).map fun r => (t.nm, r)))) (fun i _ => t.L.length - (intOf i).toNat)
     case atStart => exact ⟨0, Nat.zero_le _, rfl, SOn.refl HS2.out⟩
     case round =>
      obtain ⟨j, hj, rfl, hon⟩ := hrel
      have HON : Hid (SOn w2 wr sb mb (.slice rd l.length rc) fd fc T s (En.held0 s ((t.L.take j).map fun r => (t.nm, r)))) := hon
      clear hon
      by_cases hlj : j < t.L.length
      · have hrw : wr.ownsRow (wA.heap.size + 1) 119 3 (.slice rd' t.L.length rc') t.L.length (rowCells t.L) := by
         refine HON.out.kept.row HROW2.out ?_
         intro b hb hm
         have h1 := HNF.out b hm
         have h2 := (HROW2.out.lt b hb).1
         omega
        obtain ⟨g3, rfl, hg3, hc3, hcs3⟩ := row_cells hrw (by omega)
        obtain ⟨a, b, c, eabc⟩ := three_of (H3L.out _ (List.getElem_mem hlj))
        obtain ⟨r0, r1, r2⟩ := rowCells_get H3L.out hlj eabc
        have r0 := hcs3 _ _ r0
        have r1 := hcs3 _ _ r1
        have r2 := hcs3 _ _ r2
        have hpb : wr.heap[wA.heap.size]? = some (.cells #[.string t.nm, .int .i64 pp] 112 (0, 0)) := by
         refine HON.out.kept.heap HP2.out ?_
         intro hm
         have := HNF.out _ hm
         omega
        have p0 : wr.cell? ⟨wA.heap.size, 0, none⟩ = some (.string t.nm) := by rw [cell_of_row _ _ _ _ _ _ hpb]; rfl
        have hpl := lt_of_heap hpb
        have hnext : Hid (En.held0 s ((t.L.take (j + 1)).map fun r => (t.nm, r)) = En.hold (En.held0 s ((t.L.take j).map fun r => (t.nm, r))) (t.nm, [a, b, c]) 0) := by
         have e0 : t.L.take (j + 1) = t.L.take j ++ [t.L[j]] := by rw [List.take_add_one, List.getElem?_eq_getElem hlj]; rfl
         rw [e0, List.map_append, eabc]
         exact En.held0_snoc _ _ _
        have hhold : Hid (∀ W : World, Below wr.heap.size wr W → Calls Tryz.prog 187 #[.pointer (some ⟨sb, 0, none⟩), .agg #[.string t.nm, .string a, .string b, .string c], .int .i64 0] W fun e w' => e = .returned (.tuple #[]) ∧ Hid (SOn w2 w' sb mb (.slice rd l.length rc) fd fc T s (En.held0 s ((t.L.take (j + 1)).map fun r => (t.nm, r))))) := by
         intro W hW
         obtain ⟨fd1, fc1, T1, hs1, hkey1, hft1⟩ := HON.out.on
         obtain ⟨A, t', B, hT1, hpn⟩ := mem_split_nm (T := T1) (p := t.nm) (by rw [nm_of_key (hkey1.trans HK.out)]; exact HTM.out)
         subst hT1
         have hlen1 := En.held0_ge ((t.L.take j).map fun r => (t.nm, r)) s
         have hlen2 := En.held0_len ((t.L.take j).map fun r => (t.nm, r)) s
         have hlj2 : ((t.L.take j).map fun r => (t.nm, r)).length ≤ 1000 := by
          have := HTL.out
          simp; omega
         have hfb := HFB.out
         have hcall := shold_any W sb mb _ fd1 fc1 A B t' _ (hs1.below hW) a b c 0 (by decide) (by omega) (fun f => by rw [En.held0_count, HC0.out f]; decide)
         rw [← hpn] at hcall
         refine hcall.mono ?_
         rintro e w' ⟨rfl, hson⟩
         refine ⟨rfl, ?_⟩
         rw [hnext.out]
         exact SOn.trans HS2.out (hs1.below hW) hkey1 hft1 (HON.out.kept.below hW) (HON.out.post hW).cells hlen1 hson
        clear hrw hcs3 hpb eabc
        go_wp2_with (go_at_call 187; refine (hhold.out _ (by exact (Below.refl _ _).alloc (Nat.le_refl _) _)).mono ?_; rintro e w6 ⟨rfl, HS6⟩)
        go_roundw
        case rel => exact ⟨j + 1, by omega, by go_num, HS6.out⟩
        case measure => simp [intOf]; omega
      · have hje : j = t.L.length := by omega
        have HNX : Hid (MRel w1 wr sb mb (.slice rd l.length rc) (T0.map HT.key) (En.held0 En.seaNil (glOf (Q.take (k + 1)) G))) := by
         have h1 := HON.out
         rw [hje, List.take_length, HGS.out] at h1
         exact MRel.on HBel2.out HK.out HF.out h1
        clear hje
        go_wp2_with fail
        go_roundw
        case rel => exact ⟨k + 1, by omega, by go_num, HNX.out⟩
        case measure => simp [intOf]; omega
   · have hke : k = Q.length := by omega
     have HMQ : Hid (MRel w1 wA sb mb (.slice rd l.length rc) (T0.map HT.key) (En.held0 En.seaNil (glOf Q G))) := by
      have := HM.out
      rw [hke, List.take_length] at this
      exact this
     clear HM hke
     have HRW : Hid (∀ W : World, Below w1.heap.size w1 W → RulesS W rd rc l) := fun W hW => (HL.out.below HB1.out).below hW
     have HTN : Hid (∀ T : List HT, T.map HT.key = T0.map HT.key → ∀ r, r ∈ l → r.head.1.pred ∈ T.map HT.nm) := by
      intro T hT r hr
      have e : T0.map HT.nm = (T0.map prHT).map Prod.fst := by rw [List.map_map]; rfl
      rw [nm_of_key hT, e, HPRS.out]
      have hm : prOf r.head.1 ∈ prsOf (l.map MR.rule) := by
       unfold prsOf
       refine List.mem_map.2 ⟨r.head.1, List.mem_flatMap.2 ⟨r.rule, List.mem_map.2 ⟨r, hr, rfl⟩, ?_⟩, rfl⟩
       simp [Ax.Rule.atoms, MR.rule]
      have hq := (HQ.out.2.2.2 _).2 hm
      exact List.mem_map.2 ⟨prOf r.head.1, by simpa using hq, rfl⟩
     have hbd := mstart_bounds hl8 hgl.out
     have hbl : Hid (Calls Tryz.prog 188 #[.pointer (some ⟨sb, 0, none⟩)] wA fun e w3 => e = .returned (.tuple #[]) ∧ Hid (MRel w1 w3 sb mb (.slice rd l.length rc) (T0.map HT.key) (mstart (l.map MR.rule) (glOf Q G)))) := by
      obtain ⟨fd, fc, T, hsA, hkeyA, hftA⟩ := HMQ.out.at_
      have h1 := En.held0_len (glOf Q G) (En.seaNil (F := En.Fct))
      have h4 : (En.seaNil (F := En.Fct)).found.length = 0 := rfl
      have h5 := hgl.out
      refine (bodiless_any wA sb mb rd rc l fd fc T _ hsA (HRW.out _ HMQ.out.bel) (HTN.out T hkeyA) (by omega) (by omega) (fun f => by rw [En.held0_count]; have : (En.seaNil (F := En.Fct)).count f = 0 := rfl; omega)).mono ?_
      rintro e w3 ⟨rfl, hson⟩
      exact ⟨rfl, MRel.on HMQ.out.bel hkeyA hftA hson⟩
     have HRES : Hid (msearch (l.map MR.rule) (glOf Q G) = En.search ((l.map MR.rule).map En.srule) 200 (202 - 0) 0 (mstart (l.map MR.rule) (glOf Q G))) := (rfl : msearch (l.map MR.rule) (glOf Q G) = _)
     generalize hms : msearch (l.map MR.rule) (glOf Q G) = RES at HRES
     have HMS : Hid (msearch (l.map MR.rule) (glOf Q G) = RES) := hms
     clear hms
     clear HMQ
     go_wp2_with (go_at_call 188; refine hbl.out.mono ?_; rintro e w3 ⟨rfl, HM3⟩)
     have HL0 : Hid (MLoop w1 w3 sb mb (.slice rd l.length rc) (T0.map HT.key) ((l.map MR.rule).map En.srule) 0 (mstart (l.map MR.rule) (glOf Q G)) RES) := ⟨HM3.out, HRES.out.symm, by omega, hbd.1, fun f => by have := hbd.2 f; omega⟩
     clear hbd HM3 hbl HRES
     go_loopw [12] (fun i wr => ∃ (n : Nat) (s : En.Sea En.Fct), i = .int .i64 n ∧ MLoop w1 wr sb mb (.slice rd l.length rc) (T0.map HT.key) ((l.map MR.rule).map En.srule) n s RES) (fun i _ => 202 - (intOf i).toNat)
     case atStart => exact ⟨0, _, rfl, HL0.out⟩
     case round =>
      obtain ⟨n, s, rfl, hml⟩ := hrel
      have HML : Hid (MLoop w1 wr sb mb (.slice rd l.length rc) (T0.map HT.key) ((l.map MR.rule).map En.srule) n s RES) := hml
      obtain ⟨fd, fc, T, hsA, hkeyA, hftA⟩ := hml.rel.at_
      have hn200 := hml.le
      have hf3 := hml.found
      have HSA : Hid (SAt wr sb mb (.slice rd l.length rc) fd fc T s) := hsA
      have HKA : Hid (T.map HT.key = T0.map HT.key) := hkeyA
      have HFA : Hid (∀ b, b ∈ sfoot sb fd fc s.found.length T → w1.heap.size ≤ b) := hftA
      have s2 : wr.cell? ⟨sb, 2, none⟩ = some (.slice fd s.found.length fc) := by rw [cell_of_row _ _ 2 _ _ _ hsA.blk]; rfl
      have s1 : wr.cell? ⟨sb, 1, none⟩ = some (.map (some mb)) := by rw [cell_of_row _ _ 1 _ _ _ hsA.blk]; rfl
      have hsb := lt_of_heap hsA.blk
      have HBE : Hid (Below w.heap.size w wr) := HB1.out.trans (hml.rel.bel.mono HB1.out.size)
      clear hml hsA hkeyA hftA HL0
      by_cases hlt2 : n < s.found.length
      · by_cases hfull : 200 < s.found.length
        · have HEND : Hid (RES = none) := by
           have h1 := HML.out.res
           rw [show 202 - n = (201 - n) + 1 by omega, En.search_full hlt2 hfull] at h1
           exact h1.symm
          go_wp2_with fail
          go_ret2
          exact ⟨Q, ⟨HQ.out.2.2.1, HQ.out.2.2.2⟩, ⟨HBE.out, .inr ⟨rfl, by rw [HMS.out, HEND.out]⟩⟩⟩
        · obtain ⟨m1, m2, m3, m4⟩ := mloop_on hl8 HL.out.two hlt2 (by omega) HML.out.count
          have HRN : Hid (En.search ((l.map MR.rule).map En.srule) 200 (202 - (n + 1)) (n + 1) (En.meet ((l.map MR.rule).map En.srule) s n) = RES) := by
           have h1 := HML.out.res
           rw [show 202 - n = (202 - (n + 1)) + 1 by omega, En.search_on hlt2 (by omega)] at h1
           exact h1
          have hmt : Hid (Calls Tryz.prog 189 #[.pointer (some ⟨sb, 0, none⟩), .int .i64 n] wr fun e w5 => e = .returned (.tuple #[]) ∧ Hid (MLoop w1 w5 sb mb (.slice rd l.length rc) (T0.map HT.key) ((l.map MR.rule).map En.srule) (n + 1) (En.meet ((l.map MR.rule).map En.srule) s n) RES)) := by
           have hpz : s.found.take (n + 1) = s.found.take n ++ [s.found[n]] := by rw [List.take_add_one, List.getElem?_eq_getElem hlt2]; rfl
           refine (meet_any wr sb mb rd rc l fd fc T s HSA.out (HRW.out _ HML.out.rel.bel) (HTN.out T HKA.out) (by omega) (s.found.take n) s.found[n] n (by simp; omega) hlt2 hpz (by omega) (fun f => by have := HML.out.count f; omega)).mono ?_
           rintro e w5 ⟨rfl, hson⟩
           rw [m2] at hson
           exact ⟨rfl, MRel.on HML.out.rel.bel HKA.out HFA.out hson, HRN.out, by omega, m3, m4⟩
          clear m1 m2 m3 m4
          go_wp2_with (go_at_call 189; refine hmt.out.mono ?_; rintro e w5 ⟨rfl, HM5⟩)
          go_roundw
          case rel => exact ⟨n + 1, _, by go_num, HM5.out⟩
          case measure => simp [intOf]; omega
      · have HEND : Hid (RES = some s) := by
         have h1 := HML.out.res
         rw [show 202 - n = (201 - n) + 1 by omega, En.search_end hlt2] at h1
         exact h1.symm
        go_wp2_with fail
        go_ret2
        exact ⟨Q, ⟨HQ.out.2.2.1, HQ.out.2.2.2⟩, ⟨HBE.out, .inl ⟨mb, T, s, rfl, by rw [HMS.out, HEND.out], HSA.out.toH, by rw [key_prs HKA.out]; exact HPRS.out, fun b hb => Nat.le_trans HB1.out.size (foot_hall hmb HFA.out b hb)⟩⟩⟩
end Go.Proofs.YtdmicblafmhflaaGreatDoor
/- Package record: Content. -/
namespace Go.Proofs.YtdmicblafmhflaaGreatDoor
open Go.RowKit
theorem back_bytes {w : World} {B : Nat} {v : Value} {n : Nat} {l : List UInt8} (h : w.ownsRow B 5 1 v n (Rc.u8s l)) (hl : l ≠ []) : (convert 63 9 v).run Tryz.prog w = .ok (.string ⟨l.toArray⟩) w := by
 have hn : l.length = n := by have := h.1; rw [Rc.u8s_len] at this; omega
 have hp : 0 < l.length := List.length_pos_iff.2 hl
 obtain ⟨vd, vc, rfl⟩ := ownsRow_shape h
 obtain ⟨g, rfl, hg, hc, hcs⟩ := row_cells h (by omega)
 subst hn
 refine run_convert_bytes_back w 63 9 5 ⟨g, 0, none⟩ vc l Tryz.underlying63 Tryz.underlying5 Tryz.underlying9 ?_
 intro j hj
 have hadd : (⟨g, 0, none⟩ : Addr).add j = ⟨g, j, none⟩ := by unfold Addr.add; split <;> simp_all
 rw [hadd]
 refine hcs j _ ?_
 rw [Rc.u8s, List.getElem?_map, List.getElem?_eq_getElem hj]
 rfl
theorem Rc.factsB_ne (l : List FI) : Rc.factsB l ≠ [] := by
 unfold Rc.factsB Rc.numB
 split <;> simp
set_option maxRecDepth 100000 in
set_option maxHeartbeats 1000000 in
theorem content_any (w : World) (cd : Option Addr) (cc : Nat) (come : List FI) (gd : Option Addr) (gc : Nat) (gone : List FI) (hc : FactsIn w cd cc come) (hg : FactsIn w gd gc gone) (h1 : FSmall come) (h2 : FSmall gone) :
 Calls Tryz.prog 69 #[.slice cd come.length cc, .slice gd gone.length gc] w fun e w' => e = .returned (.string ⟨(Rc.contentB come gone).toArray⟩) ∧ Below w.heap.size w w' := by
 have hf1 := appendFacts_any w.heap.size w (.slice none 0 0) 0 [] cd cc come hc h1 (World.ownsRow_nil _ _ _ _) (Nat.le_refl _) (by omega)
 have HF2 : Hid (∀ w1 v1 n1, BOn w.heap.size w w1 v1 n1 ([] ++ Rc.u8s (Rc.factsB come)) → Calls Tryz.prog 129 #[v1, .slice gd gone.length gc] w1 fun e w2 => ∃ v2, e = .returned v2 ∧ (convert 63 9 v2).run Tryz.prog w2 = .ok (.string ⟨(Rc.contentB come gone).toArray⟩) w2 ∧ Hid (Below w.heap.size w w2)) := by
  intro w1 v1 n1 hon
  have hl1 : n1 ≤ 10000000000 := by
   have h3 := hon.len
   have h4 := h1.facts come.length
   have h5 := Rc.numB_10 come.length (by have := h1.few; omega)
   rw [List.take_length] at h4
   rw [List.nil_append, Rc.u8s_len, Rc.factsB, List.length_append] at h3
   omega
  refine (appendFacts_any w.heap.size w1 v1 n1 _ gd gc gone (hg.below hon.bel) h2 hon.own hon.bel.size hl1).mono ?_
  rintro e w2 ⟨v2, n2, rfl, hon2⟩
  refine ⟨v2, rfl, ?_, hon.bel.trans hon2.bel⟩
  refine back_bytes (B := w.heap.size) (n := n2) ?_ ?_
  · have := hon2.own
    rw [List.nil_append, ← Rc.u8s_app] at this
    exact this
  · have := Rc.factsB_ne come
    unfold Rc.contentB
    simp [this]
 clear hc hg h1 h2
 generalize Rc.contentB come gone = cb at HF2
 have HF1 : Hid (Calls Tryz.prog 129 #[.slice none 0 0, .slice cd come.length cc] w fun e w1 => ∃ v1, e = .returned v1 ∧ Calls Tryz.prog 129 #[v1, .slice gd gone.length gc] w1 fun e w2 => ∃ v2, e = .returned v2 ∧ (convert 63 9 v2).run Tryz.prog w2 = .ok (.string ⟨cb.toArray⟩) w2 ∧ Hid (Below w.heap.size w w2)) := by
  refine hf1.mono ?_
  rintro e w1 ⟨v1, n1, rfl, hon1⟩
  exact ⟨v1, rfl, HF2.out w1 v1 n1 hon1⟩
 clear hf1 HF2
 go_enter Tryz.func69, Tryz.ntmps69
 go_wp2_with (go_at_call 129; first | (refine HF1.out.mono ?_; rintro e w1 ⟨v1, rfl, hf2⟩; clear HF1) | (refine hf2.mono ?_; rintro e w2 ⟨v2, rfl, hcv, hb2⟩))
 go_ret
 exact ⟨rfl, hb2.out⟩
end Go.Proofs.YtdmicblafmhflaaGreatDoor
/- Package digest: words turned; a round. -/
namespace Go.Proofs.YtdmicblafmhflaaGreatDoor
open Go.RowKit
namespace Dg
def shutN {α : Type} (f : α) (n : Nat) : α := if n = 0 then f else shutN f (n / 2)
def shut {α : Type} (f : α) : α := shutN f 0
theorem shut_eq {α : Type} (f : α) : shut f = f := by unfold shut shutN; rw [if_pos rfl]
def sh (k : Int) : Int := bits .and .u64 (IntKind.u64.wrap k) 31
def rotF (x k : Int) : Int := bits .or .u32 (IntKind.u32.wrap (x * 2 ^ min (sh k).toNat IntKind.u32.bits)) (x / 2 ^ min (IntKind.u64.wrap (32 - sh k)).toNat IntKind.u32.bits)
def rot : Int → Int → Int := shut rotF
def turn : Int → Int → Int := shut fun x b => rot x (wrap64 (-b))
def arr8 (s : Nat → Int) : Array Value := #[.int .u32 (s 0), .int .u32 (s 1), .int .u32 (s 2), .int .u32 (s 3), .int .u32 (s 4), .int .u32 (s 5), .int .u32 (s 6), .int .u32 (s 7)]
def t1 (s : Nat → Int) (word : Int) : Int := s 7 + bits .xor .u32 (bits .xor .u32 (turn (s 4) 6) (turn (s 4) 11)) (turn (s 4) 25) + bits .xor .u32 (bits .and .u32 (s 4) (s 5)) (bits .and .u32 (bits .xor .u32 IntKind.u32.max (s 4)) (s 6)) + word
def t2 (s : Nat → Int) : Int := bits .xor .u32 (bits .xor .u32 (turn (s 0) 2) (turn (s 0) 13)) (turn (s 0) 22) + bits .xor .u32 (bits .xor .u32 (bits .and .u32 (s 0) (s 1)) (bits .and .u32 (s 0) (s 2))) (bits .and .u32 (s 1) (s 2))
def rndF (s : Nat → Int) (word : Int) (i : Nat) : Int := match i with
 | 0 => (t1 s word + t2 s) % 4294967296
 | 1 => s 0
 | 2 => s 1
 | 3 => s 2
 | 4 => (s 3 + t1 s word) % 4294967296
 | 5 => s 4
 | 6 => s 5
 | _ => s 6
def rnd : (Nat → Int) → Int → Nat → Int := shut rndF
end Dg
theorem stores8 {w2 : World} {k : Nat} {T : TypeId} {a0 a1 a2 a3 a4 a5 a6 a7 : Value} (r : w2.heap[k]? = some (.cells #[a0, a1, a2, a3, a4, a5, a6, a7] T (0, 0))) (v0 v1 v2 v3 v4 v5 v6 v7 : Value) :
 ((((((((w2.setCell ⟨k, 0, none⟩ v0).setCell ⟨k, 1, none⟩ v1).setCell ⟨k, 2, none⟩ v2).setCell ⟨k, 3, none⟩ v3).setCell ⟨k, 4, none⟩ v4).setCell ⟨k, 5, none⟩ v5).setCell ⟨k, 6, none⟩ v6).setCell ⟨k, 7, none⟩ v7).heap[k]? = some (.cells #[v0, v1, v2, v3, v4, v5, v6, v7] T (0, 0)) ∧
 Kb [k] w2 ((((((((w2.setCell ⟨k, 0, none⟩ v0).setCell ⟨k, 1, none⟩ v1).setCell ⟨k, 2, none⟩ v2).setCell ⟨k, 3, none⟩ v3).setCell ⟨k, 4, none⟩ v4).setCell ⟨k, 5, none⟩ v5).setCell ⟨k, 6, none⟩ v6).setCell ⟨k, 7, none⟩ v7) := by
 refine ⟨?_, (((((((Kb.setCell w2 ⟨k, 0, none⟩ v0).trans (Kb.setCell _ ⟨k, 1, none⟩ v1)).trans (Kb.setCell _ ⟨k, 2, none⟩ v2)).trans (Kb.setCell _ ⟨k, 3, none⟩ v3)).trans (Kb.setCell _ ⟨k, 4, none⟩ v4)).trans (Kb.setCell _ ⟨k, 5, none⟩ v5)).trans (Kb.setCell _ ⟨k, 6, none⟩ v6)).trans (Kb.setCell _ ⟨k, 7, none⟩ v7)⟩
 have h0 : (w2.setCell ⟨k, 0, none⟩ v0).heap[k]? = some (.cells #[v0, a1, a2, a3, a4, a5, a6, a7] T (0, 0)) := setCell_heap w2 r 0 v0
 generalize w2.setCell ⟨k, 0, none⟩ v0 = x0 at h0 ⊢
 have h1 : (x0.setCell ⟨k, 1, none⟩ v1).heap[k]? = some (.cells #[v0, v1, a2, a3, a4, a5, a6, a7] T (0, 0)) := setCell_heap x0 h0 1 v1
 generalize x0.setCell ⟨k, 1, none⟩ v1 = x1 at h1 ⊢
 have h2 : (x1.setCell ⟨k, 2, none⟩ v2).heap[k]? = some (.cells #[v0, v1, v2, a3, a4, a5, a6, a7] T (0, 0)) := setCell_heap x1 h1 2 v2
 generalize x1.setCell ⟨k, 2, none⟩ v2 = x2 at h2 ⊢
 have h3 : (x2.setCell ⟨k, 3, none⟩ v3).heap[k]? = some (.cells #[v0, v1, v2, v3, a4, a5, a6, a7] T (0, 0)) := setCell_heap x2 h2 3 v3
 generalize x2.setCell ⟨k, 3, none⟩ v3 = x3 at h3 ⊢
 have h4 : (x3.setCell ⟨k, 4, none⟩ v4).heap[k]? = some (.cells #[v0, v1, v2, v3, v4, a5, a6, a7] T (0, 0)) := setCell_heap x3 h3 4 v4
 generalize x3.setCell ⟨k, 4, none⟩ v4 = x4 at h4 ⊢
 have h5 : (x4.setCell ⟨k, 5, none⟩ v5).heap[k]? = some (.cells #[v0, v1, v2, v3, v4, v5, a6, a7] T (0, 0)) := setCell_heap x4 h4 5 v5
 generalize x4.setCell ⟨k, 5, none⟩ v5 = x5 at h5 ⊢
 have h6 : (x5.setCell ⟨k, 6, none⟩ v6).heap[k]? = some (.cells #[v0, v1, v2, v3, v4, v5, v6, a7] T (0, 0)) := setCell_heap x5 h5 6 v6
 generalize x5.setCell ⟨k, 6, none⟩ v6 = x6 at h6 ⊢
 exact setCell_heap x6 h6 7 v7
set_option maxHeartbeats 1000000 in
theorem rot_any (x k : Int) (w : World) : Calls Tryz.prog 244 #[.int .u32 x, .int .i64 k] w fun e w' => e = .returned (.int .u32 (Dg.rot x k)) ∧ w' = w := by
 have h0 : 0 ≤ bits BinOp.and IntKind.u64 (IntKind.u64.wrap k) 31 := bits_lo_u64 _ _ _
 have e : Dg.rot x k = Dg.rotF x k := by unfold Dg.rot; rw [Dg.shut_eq]
 have HE : Hid (Dg.rot x k = Dg.rotF x k) := e
 clear e
 go_enter Tryz.func244, Tryz.ntmps244
 go_wp2_with fail
 go_ret
 exact ⟨by rw [HE.out]; rfl, rfl⟩
set_option maxHeartbeats 1000000 in
theorem turn_any (x b : Int) (w : World) : Calls Tryz.prog 195 #[.int .u32 x, .int .i64 b] w fun e w' => e = .returned (.int .u32 (Dg.turn x b)) ∧ w' = w := by
 have e : Dg.turn x b = Dg.rot x (wrap64 (-b)) := by unfold Dg.turn; rw [Dg.shut_eq]
 rw [e]
 clear e
 go_enter Tryz.func195, Tryz.ntmps195
 go_wp2_with (go_at_call 244; refine (rot_any _ _ _).mono ?_; rintro e w' ⟨rfl, rfl⟩)
 go_ret
 exact ⟨rfl, rfl⟩
set_option maxRecDepth 100000 in
set_option maxHeartbeats 4000000 in
theorem round_any (s : Nat → Int) (word : Int) (w : World) : Calls Tryz.prog 193 #[.agg (Dg.arr8 s), .int .u32 word] w fun e w' => e = .returned (.agg (Dg.arr8 (Dg.rnd s word))) ∧ Below w.heap.size w w' := by
 have hc := fun x b w => turn_any x b w
 have HE : Hid (Dg.rnd s word = Dg.rndF s word) := by
  have : Dg.rnd s word = Dg.rndF s word := by unfold Dg.rnd; rw [Dg.shut_eq]
  exact this
 unfold Dg.arr8
 go_enter Tryz.func193, Tryz.ntmps193
 go_upto_region 1 with fail
 go_quiet (fail)
 go_wp2_with (go_at_call 195; refine (hc _ _ _).mono ?_; rintro e w' ⟨rfl, rfl⟩)
 have hz : (((w.alloc (.cells #[.int .u32 (s 0), .int .u32 (s 1), .int .u32 (s 2), .int .u32 (s 3), .int .u32 (s 4), .int .u32 (s 5), .int .u32 (s 6), .int .u32 (s 7)] 230)).alloc (.cells #[.int .u32 0, .int .u32 0, .int .u32 0, .int .u32 0, .int .u32 0, .int .u32 0, .int .u32 0, .int .u32 0] 230)).drewN nq).heap[w.heap.size + 1]? = some (.cells #[.int .u32 0, .int .u32 0, .int .u32 0, .int .u32 0, .int .u32 0, .int .u32 0, .int .u32 0, .int .u32 0] 230 (0, 0)) := new2 w _ _
 have hbz : Below w.heap.size w (((w.alloc (.cells #[.int .u32 (s 0), .int .u32 (s 1), .int .u32 (s 2), .int .u32 (s 3), .int .u32 (s 4), .int .u32 (s 5), .int .u32 (s 6), .int .u32 (s 7)] 230)).alloc (.cells #[.int .u32 0, .int .u32 0, .int .u32 0, .int .u32 0, .int .u32 0, .int .u32 0, .int .u32 0, .int .u32 0] 230)).drewN nq) := (((Below.refl _ _).alloc (Nat.le_refl _) _).alloc (by simp) _).trans ⟨rfl, rfl, rfl, Nat.le_refl _, fun _ _ => rfl⟩
 have hzs : w.heap.size ≤ (((w.alloc (.cells #[.int .u32 (s 0), .int .u32 (s 1), .int .u32 (s 2), .int .u32 (s 3), .int .u32 (s 4), .int .u32 (s 5), .int .u32 (s 6), .int .u32 (s 7)] 230)).alloc (.cells #[.int .u32 0, .int .u32 0, .int .u32 0, .int .u32 0, .int .u32 0, .int .u32 0, .int .u32 0, .int .u32 0] 230)).drewN nq).heap.size := hbz.size
 generalize (((w.alloc (.cells #[.int .u32 (s 0), .int .u32 (s 1), .int .u32 (s 2), .int .u32 (s 3), .int .u32 (s 4), .int .u32 (s 5), .int .u32 (s 6), .int .u32 (s 7)] 230)).alloc (.cells #[.int .u32 0, .int .u32 0, .int .u32 0, .int .u32 0, .int .u32 0, .int .u32 0, .int .u32 0, .int .u32 0] 230)).drewN nq) = wz at hz hbz hzs ⊢
 obtain ⟨k1, k2⟩ := stores8 hz (.int .u32 (Dg.rndF s word 0)) (.int .u32 (s 0)) (.int .u32 (s 1)) (.int .u32 (s 2)) (.int .u32 (Dg.rndF s word 4)) (.int .u32 (s 4)) (.int .u32 (s 5)) (.int .u32 (s 6))
 have hld := run_loadVar_row (P := Tryz.prog) _ _ _ 230 _ _ _ k1 Tryz.underlying230 rfl (by kernel_rfl)
 refine bodyPost_ret (v := .agg #[.int .u32 (Dg.rndF s word 0), .int .u32 (s 0), .int .u32 (s 1), .int .u32 (s 2), .int .u32 (Dg.rndF s word 4), .int .u32 (s 4), .int .u32 (s 5), .int .u32 (s 6)]) ?_ rfl ⟨?_, ?_⟩
 · simp only [results, Tryz.results193]
   simp [asAddr]
   exact hld
 · rw [HE.out]; rfl
 · exact k2.to_below hbz hzs (by simp)
end Go.Proofs.YtdmicblafmhflaaGreatDoor
