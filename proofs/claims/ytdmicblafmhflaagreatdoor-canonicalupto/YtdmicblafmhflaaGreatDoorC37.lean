/- New at axiomkeep's text, walked. -/
import Derived.Test.YtdmicblafmhflaaGreatDoorC36
import Derived.OwnWalk
set_option linter.unusedSimpArgs false
set_option linter.unusedVariables false
namespace Go.Proofs.YtdmicblafmhflaaGreatDoor
open Go.RowKit Go.Maps
theorem egZ_arr (cs Z : Array Value) (h : cs.size = 36) (hz : Z.size = 37) : Array.foldl (fun c x => c.setIfInBounds x.snd x.fst) Z cs.zipIdx 0 36 = (cs.toList ++ Z.toList.drop 36).toArray := by
 have e2 : Array.foldl (fun c (x : Value × Nat) => c.setIfInBounds x.snd x.fst) Z cs.zipIdx 0 36 = (cs.toList.zipIdx).foldl (fun c x => c.setIfInBounds (0 + x.snd) x.fst) Z := by
  have e1 : 36 = cs.zipIdx.size := by simp [h]
  rw [e1, ← Array.foldl_toList, Array.toList_zipIdx]
  simp
 rw [e2]
 exact egZ_lay (by rw [Array.length_toList]; exact h) hz
theorem egCells_new (pl : ByteArray) (rv : Value) (gm hm : Nat) (hd : List UInt8) : ((stCells pl rv gm hm hd).toList ++ [Value.slice none 0 0]).toArray = egCells pl rv gm hm hd (.slice none 0 0) := by simp [stCells, egCells]
theorem eng_new {w1 wc : World} {kl : List Ax.KRule} {rd : Option Addr} {rc gm hm : Nat} {l : List MR} {G : List GT} {T : List HT} {s : En.Sea En.Fct} {hd : List UInt8} (hin : RulesIn w1 rd rc l) (he : (l.map MR.rule).map Ax.erR = Ax.gR kl) (hd32 : hd.length = 32)
 (h : GAt wc gm G ∧ GRel G (fun _ => false) ∧ HAt wc hm T s ∧ En.Inv (En.sR (En.nRules kl)) (En.gF (fun _ => false)) s s.found.length ∧ (∀ p, p ∈ T.map prHT ↔ p ∈ gPr) ∧ Below w1.heap.size w1 wc) {B : Nat} (hB : B ≤ wc.heap.size) :
 Eng (wc.alloc (.cells (egCells (Ax.gtext kl) (.slice rd l.length rc) gm hm hd (.slice none 0 0)) 109)) B wc.heap.size kl (fun _ => false) 0 := by
 obtain ⟨h1, h2, h3, h4, h5, h6⟩ := h
 have hb : Below wc.heap.size wc (wc.alloc (.cells (egCells (Ax.gtext kl) (.slice rd l.length rc) gm hm hd (.slice none 0 0)) 109)) := (Below.refl _ _).alloc (Nat.le_refl _) _
 exact ⟨⟨_, rd, rc, l, gm, G, hm, T, s, hd, .slice none 0 0, 0, [], heap_alloc_new _ _, (hin.below h6).below hb, he, h1.below hb, h2, h3.below hb, h4, h5, hd32, World.ownsRow_nil _ _ _ _, Nat.zero_le _, rfl⟩, hB⟩
set_option maxRecDepth 100000 in
set_option maxHeartbeats 4000000 in
theorem new_any (kl : List Ax.KRule) (K : Nat → Int) (w : World) (hK : Dg.Tab w K) : Calls Tryz.prog 34 #[.string (Ax.gtext kl)] w fun e w' => ∃ eg, e = .returned (.tuple #[.pointer (some ⟨eg, 0, none⟩), .int .i64 0, .int .i64 0]) ∧ Eng w' w.heap.size eg kl (fun _ => false) 0 ∧ Below w.heap.size w w' := by
 have HRD : Hid (Calls Tryz.prog 56 #[.string (Ax.gtext kl)] w fun e w' => ∃ rd rc l, e = .returned (.tuple #[.agg #[.string (Ax.gtext kl), .slice rd (List.length l) rc], .int .i64 0, .int .i64 0]) ∧ Hid ((l.map MR.rule).map Ax.erR = Ax.gR kl ∧ RulesIn w' rd rc l ∧ Below w.heap.size w w')) := (read_gen kl w).mono (fun e w' ⟨rd, rc, l, a, b⟩ => ⟨rd, rc, l, a, b⟩)
 have hpz := Ax.gtext_sz kl
 go_enter Tryz.func34, Tryz.ntmps34
 go_upto_region 4 with (go_at_call 56; refine HRD.out.mono ?_; rintro e w0 ⟨rd, rc, l, rfl, HRU⟩)
 obtain ⟨w1, hw1⟩ : ∃ w1, w1 = w0.alloc (.cells #[.string (Ax.gtext kl), .slice rd l.length rc] 101) := ⟨_, rfl⟩
 rw [← hw1]
 obtain ⟨he, hin, hb0⟩ := HRU.out
 have hb01 : Below w0.heap.size w0 w1 := by rw [hw1]; exact (Below.refl _ _).alloc (Nat.le_refl _) _
 have hb1 : Below w.heap.size w w1 := hb0.trans (hb01.mono hb0.size)
 have hg1 : w1.heap[w0.heap.size]? = some (.cells #[.string (Ax.gtext kl), .slice rd l.length rc] 101 (0, 0)) := by rw [hw1]; exact heap_alloc_new w0 _
 have hin1 : RulesIn w1 rd rc l := hin.below hb01
 obtain ⟨hrs, _, hl8⟩ := rulesS_gen hin1 he
 have hne : l ≠ [] := by
  rintro rfl
  simp [Ax.gR, Ax.gbase] at he
 have x0 : w1.cell? ⟨w0.heap.size, 0, none⟩ = some (.string (Ax.gtext kl)) := by rw [cell_of_row _ _ 0 _ _ _ hg1]; rfl
 have x1 : w1.cell? ⟨w0.heap.size, 1, none⟩ = some (.slice rd l.length rc) := by rw [cell_of_row _ _ 1 _ _ _ hg1]; rfl
 have hgl := lt_of_heap hg1
 have hN1 : NI w1 w0.heap.size (Ax.gtext kl) (.slice rd l.length rc) (prsOf (l.map MR.rule)) none none none w1 := ⟨Below.refl _ _, hgl, x0, x1, (fun x h => by cases h), (fun _ _ _ h => by cases h), (fun _ _ h => by cases h)⟩
 obtain ⟨hd, hhd⟩ : ∃ hd, hd = Dg.shaB K (Ax.gtext kl) := ⟨_, rfl⟩
 have hd32 : hd.length = 32 := by rw [hhd]; exact Dg.shaB_len _ _
 have HPR : Hid (∀ b W, NI w1 w0.heap.size (Ax.gtext kl) (.slice rd l.length rc) (prsOf (l.map MR.rule)) b none none W → Calls Tryz.prog 59 #[.agg #[.string (Ax.gtext kl), .slice rd l.length rc]] W fun e w' => ∃ qd qc Q, e = .returned (.slice qd (List.length Q) qc) ∧ NI w1 w0.heap.size (Ax.gtext kl) (.slice rd l.length rc) (prsOf (l.map MR.rule)) b (some (qd, Q, qc)) none w') := by
  intro b W hW
  refine (preds_any W _ rd rc l (hin1.below hW.bel) (by omega) (prs_one he) hne).mono ?_
  rintro e w' ⟨qd, qc, Q, rfl, q1, q2, q3⟩
  have h2 := hW.below q2
  refine ⟨qd, qc, Q, rfl, h2.bel, h2.gl, h2.c0, h2.c1, h2.blk, ?_, fun _ _ h => by cases h⟩
  intro qd' Q' qc' h
  simp only [Option.some.injEq, Prod.mk.injEq] at h
  obtain ⟨rfl, rfl, rfl⟩ := h
  exact ⟨ownsRow_base q1 (Nat.zero_le _), q3.out⟩
 have HNG : Hid (∀ b qd Q qc W, NI w1 w0.heap.size (Ax.gtext kl) (.slice rd l.length rc) (prsOf (l.map MR.rule)) b (some (qd, Q, qc)) none W → Calls Tryz.prog 58 #[.slice qd (List.length Q) qc] W fun e w' => ∃ gm G, e = .returned (.map (some gm)) ∧ NI w1 w0.heap.size (Ax.gtext kl) (.slice rd l.length rc) (prsOf (l.map MR.rule)) b (some (qd, Q, qc)) (some (gm, G)) w') := by
  intro b qd Q qc W hW
  obtain ⟨r1, r2, r3⟩ := hW.row qd Q qc rfl
  have hQ : ∀ p, p ∈ Q ↔ p ∈ gPr := fun p => (r3 p).trans (prs_gen he p)
  have hql : Q.length ≤ 3 := List.Nodup.length_le_of_subset (srt_nodup r2) (fun p hp => (hQ p).1 hp)
  refine (noneGiven_any W 0 qd qc Q r1 (by omega) (fun p hp => Nat.le_trans (gPr_short p ((hQ p).1 hp)) (by decide))).mono ?_
  rintro e w' ⟨T, rfl, hT⟩
  have h2 := hW.below hT.bel
  refine ⟨_, T, rfl, h2.bel, h2.gl, h2.c0, h2.c1, h2.blk, h2.row, ?_⟩
  intro gm' G' h
  simp only [Option.some.injEq, Prod.mk.injEq] at h
  obtain ⟨rfl, rfl⟩ := h
  exact newG_rel hT hQ r2
 have HOF : Hid (∀ b q m W, NI w1 w0.heap.size (Ax.gtext kl) (.slice rd l.length rc) (prsOf (l.map MR.rule)) b q m W → Calls Tryz.prog 60 #[.string (Ax.gtext kl)] W fun e w' => e = .returned (.agg (Rc.u8s hd).toArray) ∧ NI w1 w0.heap.size (Ax.gtext kl) (.slice rd l.length rc) (prsOf (l.map MR.rule)) b q m w') := by
  intro b q m W hW
  rw [hhd]
  refine (of_bytes K (Ax.gtext kl) W (hK.below (hb1.trans (hW.bel.mono hb1.size))) (by omega)).mono ?_
  rintro e w' ⟨rfl, hb⟩
  exact ⟨rfl, hW.below hb⟩
 have HMK : Hid (∀ b q gm G W, NI w1 w0.heap.size (Ax.gtext kl) (.slice rd l.length rc) (prsOf (l.map MR.rule)) b q (some (gm, G)) W → Calls Tryz.prog 57 #[.agg #[.string (Ax.gtext kl), .slice rd l.length rc], .map (some gm), .agg (Rc.u8s hd).toArray] W fun e w' => ∃ hm, e = .returned (.tuple #[.agg (stCells (Ax.gtext kl) (.slice rd l.length rc) gm hm hd), .bool true]) ∧ StEq (stCells (Ax.gtext kl) (.slice rd l.length rc) gm hm hd) b w' ∧ NE w1 w0.heap.size kl (.slice rd l.length rc) (prsOf (l.map MR.rule)) b q gm hm G w') := by
  intro b q gm G W hW
  obtain ⟨g1, g2⟩ := hW.giv gm G rfl
  have hok : ∀ Q, Pd.Srt Q → (∀ p, p ∈ Q ↔ p ∈ prsOf (l.map MR.rule)) → ∃ s, msearch (l.map MR.rule) (glOf Q G) = some s ∧ En.Inv (En.sR (En.nRules kl)) (En.gF (fun _ => false)) s s.found.length := fun Q _ hQ => msearch_gen he g2 g1.names hQ
  refine (make_any W _ rd rc l (hrs.below hW.bel) hl8 (prs_one he) hne (fun p hp => Nat.le_trans (gPr_short p ((prs_gen he p).1 hp)) (by decide)) gm G g1 ?_ (Nat.le_trans (g2.sum g1.names (fun t ht => TabAt.ord (g1.tabs t ht))) (by decide)) hd hd32 ?_).mono ?_
  · intro p hp
    obtain ⟨t, ht, e, _⟩ := g2.has (p := p.1) (n := p.2) ((prs_gen he p).1 hp)
    rw [← e]
    exact List.mem_map_of_mem ht
  · intro Q h1 h2
    obtain ⟨s, e, _⟩ := hok Q h1 h2
    rw [e]
    rfl
  · rintro e w' ⟨hm, T, s, Q, rfl, m1, m2, m3, m4, m5, m6, m7⟩
    have h2 := hW.below m7
    obtain ⟨s', e1, e2⟩ := hok Q m1 m2
    have hs : s' = s := by
     rw [m3] at e1
     exact (Option.some.inj e1).symm
    subst hs
    refine ⟨hm, rfl, stEq_of h2 (stCells_size _ _ _ _ hd32) (stCells_one _ _ _ _ _ _ _), h2, T, s', m4, e2, ?_, ?_⟩
    · intro p
      rw [m5, List.mem_reverse, m2]
      exact prs_gen he p
    · intro x hx y hy
      obtain ⟨_, Z, k2, _⟩ := hW.blk x hx
      have k3 := lt_of_heap k2
      have := m6 y hy
      omega
 have HIN : Hid (RulesIn w1 rd rc l) := hin1
 have HB1 : Hid (Below w.heap.size w w1) := hb1
 have HE : Hid ((l.map MR.rule).map Ax.erR = Ax.gR kl) := he
 generalize prsOf (l.map MR.rule) = prs at *
 clear hrs hin1 hb1 hb01 hb0 hin he HRU hw1 hg1 hK HRD hne hhd hl8
 go_cut [8, 9] from 20 (fun v8 v9 wx => Hid (NCut w1 kl (.slice rd l.length rc) hd v8 v9 wx))
 case first =>
  go_region_held3 (fun w' => w'.cell? ⟨w0.heap.size, 0, none⟩ = some (.string (Ax.gtext kl)) ∧ w'.cell? ⟨w0.heap.size, 1, none⟩ = some (.slice rd l.length rc)) (first | (exact NI.cells (by assumption)) | (exact NI.cells (NI.drew (by assumption))) | (exact NI.cells (NI.alloc (by assumption) rfl)) | (exact NI.cells (NI.alloc (NI.drew (by assumption)) rfl)) | (exact NI.cells (NE.ni (by assumption))) | (exact NI.cells (NE.ni (NE.alloc (by assumption) rfl))) | (exact NI.cells (NI.stored (NE.ni (by assumption)) (stCells_size _ _ _ _ hd32))) | (exact NI.cells (NI.stored (NE.ni (NE.alloc (by assumption) rfl)) (stCells_size _ _ _ _ hd32)))) (first | (go_at_call 59; refine (HPR.out _ _ (by first | assumption | exact NI.drew (by assumption) | exact NI.alloc (by assumption) rfl | exact NI.alloc (NI.drew (by assumption)) rfl)).mono ?_; rintro e wn ⟨qd, qc, Q, rfl, hN⟩) | (go_at_call 58; refine (HNG.out _ _ _ _ _ (by first | assumption | exact NI.drew (by assumption) | exact NI.alloc (by assumption) rfl | exact NI.alloc (NI.drew (by assumption)) rfl)).mono ?_; rintro e wn ⟨gm, G, rfl, hN⟩) | (go_at_call 60; refine (HOF.out _ _ _ _ (by first | assumption | exact NI.drew (by assumption) | exact NI.alloc (by assumption) rfl | exact NI.alloc (NI.drew (by assumption)) rfl)).mono ?_; rintro e wn ⟨rfl, hN⟩) | (go_at_call 57; refine (HMK.out _ _ _ _ _ (by first | assumption | exact NI.drew (by assumption) | exact NI.alloc (by assumption) rfl | exact NI.alloc (NI.drew (by assumption)) rfl)).mono ?_; rintro e wn ⟨hm, rfl, hst, hE⟩; unfold StEq at hst; dsimp only at hst; (try simp only [World.size_drew] at hst); have hsz := stCells_size (Ax.gtext kl) (.slice rd l.length rc) gm hm hd32))
  all_goals
   (go_wp2_with fail
    go_meet
    first
    | exact NE.cut (by assumption) hd32
    | exact NE.cut (NE.alloc (by assumption) rfl) hd32)
 case rest =>
  obtain ⟨hv9, x, gm, hm, G, T, s, hv8, hx, HQ⟩ := hcut.out
  subst hv9
  subst hv8
  have HQ' : Hid _ := HQ
  have hsz := stCells_size (Ax.gtext kl) (.slice rd l.length rc) gm hm hd32
  clear hcut HQ
  go_wp2_with (refine wpList_load_row rfl _ _ rfl x rfl _ _ _ _ hx Tryz.underlying107 rfl (by rw [stCells_size _ _ _ _ hd32]; kernel_rfl) ?_)
  rw [egZ_arr _ _ (stCells_size _ _ _ _ hd32) rfl]
  have e9 : ((stCells (Ax.gtext kl) (.slice rd l.length rc) gm hm hd).toList ++ [Value.slice none 0 0]).toArray = egCells (Ax.gtext kl) (.slice rd l.length rc) gm hm hd (.slice none 0 0) := egCells_new _ _ _ _ _
  have hbc := HQ'.out.2.2.2.2.2
  have hb9 : Below w.heap.size w wc := HB1.out.trans (hbc.mono HB1.out.size)
  go_ret3
  refine ⟨wc.heap.size, rfl, ?_, hb9.alloc hb9.size _⟩
  exact eng_new HIN.out HE.out hd32 HQ'.out hb9.size
end Go.Proofs.YtdmicblafmhflaaGreatDoor
/- Engine.changed: the tables as facts come and go. -/
namespace Go.Proofs.YtdmicblafmhflaaGreatDoor
open Go.RowKit Go.Maps
theorem GAt.update {w w' : World} {gm : Nat} {A B : List GT} {t t' : GT} (h : GAt w gm (A ++ t :: B)) (hk : Kb t.foot w w') (ht : t'.ok w') (hn : t'.nm = t.nm) (hg : t'.g = t.g) (hf : ∀ b, b ∈ t'.foot → b ∈ t.foot ∨ w.heap.size ≤ b) : GAt w' gm (A ++ t' :: B) := by
 have htm : t ∈ A ++ t :: B := by simp
 have hkey : (A ++ t' :: B).map GT.key = (A ++ t :: B).map GT.key := by simp [GT.key, hn, hg]
 have hnm : (A ++ t' :: B).map GT.nm = (A ++ t :: B).map GT.nm := by simp [hn]
 have hap := h.apart
 rw [List.pairwise_append, List.pairwise_cons] at hap
 obtain ⟨p1, ⟨p2, p3⟩, p4⟩ := hap
 have hlt : ∀ u, u ∈ A ++ t :: B → ∀ b, b ∈ u.foot → b < w.heap.size := fun u hu b hb => (h.tabs u hu).lt hb
 have hA : ∀ a, a ∈ A → ∀ x, x ∈ a.foot → ¬ x ∈ t.foot := fun a ha => p4 a ha t (by simp)
 have hB : ∀ a, a ∈ B → ∀ x, x ∈ a.foot → ¬ x ∈ t.foot := fun a ha x hx h2 => p2 a ha x h2 hx
 refine ⟨?_, ?_, ?_, by rw [hnm]; exact h.names, ?_⟩
 · rw [hkey]
   refine h.map.kept hk ?_
   intro hb
   obtain ⟨cur, T, e, _⟩ := (h.tabs t htm).types hb
   obtain ⟨es, ck, e2⟩ := h.map.block
   rw [e2] at e
   cases e
 · intro u hu
   rcases List.mem_append.1 hu with hu | hu
   · exact (h.tabs u (by simp [hu])).kept hk (hA u hu)
   · rcases List.mem_cons.1 hu with rfl | hu
     · exact ht
     · exact (h.tabs u (by simp [hu])).kept hk (hB u hu)
 · rw [List.pairwise_append, List.pairwise_cons]
   refine ⟨p1, ⟨?_, p3⟩, ?_⟩
   · intro a ha x hx h2
     rcases hf x hx with h3 | h3
     · exact p2 a ha x h3 h2
     · have := hlt a (by simp [ha]) x h2; omega
   · intro a ha b hb x hx h2
     rcases List.mem_cons.1 hb with rfl | hb
     · rcases hf x h2 with h3 | h3
       · exact hA a ha x hx h3
       · have := hlt a (by simp [ha]) x hx; omega
     · exact p4 a ha b (by simp [hb]) x hx h2
 · intro u hu
   rcases List.mem_append.1 hu with hu | hu
   · exact h.short u (by simp [hu])
   · rcases List.mem_cons.1 hu with rfl | hu
     · rw [hn]; exact h.short t htm
     · exact h.short u (by simp [hu])
theorem GRel.update {A B : List GT} {t t' : GT} {gv : Nat → Bool} (h : GRel (A ++ t :: B) gv) (hnd : ((A ++ t :: B).map GT.nm).Nodup) (hn : t'.nm = t.nm) (hp : t'.pl = t.pl) {i : Nat} (hi : i < 36) {r0 : List ByteArray} (hu : En.uF i = (t.nm, r0)) (b : Bool) (hr : ∀ r, r ∈ t'.L ↔ if r = r0 then b = true else r ∈ t.L) : GRel (A ++ t' :: B) (setG gv i b) := by
 have hpr : (A ++ t' :: B).map prGT = (A ++ t :: B).map prGT := by simp [prGT, hn, hp]
 refine ⟨by rw [hpr]; exact h.prs, ?_⟩
 have hu0 := hu
 have hoth : ∀ u, u ∈ A ++ t :: B → u.nm ≠ t.nm → ∀ r, r ∈ u.L ↔ ∃ j, j < 36 ∧ setG gv i b j = true ∧ En.uF j = (u.nm, r) := by
  intro u hu hne r
  rw [h.rows u hu r]
  constructor
  · rintro ⟨j, hj, hg, e⟩
    refine ⟨j, hj, ?_, e⟩
    unfold setG
    rw [if_neg ?_]
    · exact hg
    · rintro rfl
      rw [hu0] at e
      exact hne (congrArg Prod.fst e).symm
  · rintro ⟨j, hj, hg, e⟩
    refine ⟨j, hj, ?_, e⟩
    unfold setG at hg
    rw [if_neg ?_] at hg
    · exact hg
    · rintro rfl
      rw [hu0] at e
      exact hne (congrArg Prod.fst e).symm
 rw [List.map_append, List.map_cons, List.nodup_append, List.nodup_cons] at hnd
 intro u hu2 r
 rcases List.mem_append.1 hu2 with hu2 | hu2
 · refine hoth u (by simp [hu2]) ?_ r
   intro e
   exact hnd.2.2 u.nm (List.mem_map_of_mem hu2) t.nm (by simp) e
 · rcases List.mem_cons.1 hu2 with rfl | hu2
   · rw [hr r, hn]
     by_cases hrr : r = r0
     · rw [if_pos hrr]
       subst hrr
       constructor
       · intro hb
         exact ⟨i, hi, by simp [setG, hb], hu⟩
       · rintro ⟨j, hj, hg, e⟩
         rw [← hu] at e
         have := En.uF_inj hj hi e
         subst this
         simpa [setG] using hg
     · rw [if_neg hrr, h.rows t (by simp) r]
       have hji : ∀ j, En.uF j = (t.nm, r) → ¬ j = i := by
        rintro j e rfl
        rw [hu] at e
        exact hrr (congrArg Prod.snd e).symm
       constructor
       · rintro ⟨j, hj, hg, e⟩
         exact ⟨j, hj, by unfold setG; rw [if_neg (hji j e)]; exact hg, e⟩
       · rintro ⟨j, hj, hg, e⟩
         unfold setG at hg
         rw [if_neg (hji j e)] at hg
         exact ⟨j, hj, hg, e⟩
   · refine hoth u (by simp [hu2]) ?_ r
     intro e
     exact hnd.2.1.1 (by rw [← e]; exact List.mem_map_of_mem hu2)
structure ChW (w wr : World) (gm : Nat) (gv : Nat → Bool) : Prop where
 at_ : ∃ N, GAt wr gm N ∧ GRel N gv ∧ ∀ b, b ∈ gfoot gm N → w.heap.size ≤ b
 bel : Below w.heap.size w wr
theorem ChW.below {w wr w' : World} {gm : Nat} {gv : Nat → Bool} (h : ChW w wr gm gv) (hb : Below wr.heap.size wr w') : ChW w w' gm gv := by
 obtain ⟨N, h1, h2, h3⟩ := h.at_
 exact ⟨⟨N, h1.below hb, h2, h3⟩, h.bel.trans (hb.mono h.bel.size)⟩
theorem ChW.set {w wr w' : World} {gm : Nat} {gv : Nat → Bool} {A B : List GT} {t t' : GT} (hb : Below w.heap.size w wr) (h1 : GAt wr gm (A ++ t :: B)) (h2 : GRel (A ++ t :: B) gv) (h3 : ∀ b, b ∈ gfoot gm (A ++ t :: B) → w.heap.size ≤ b)
 (hk : Kb t.foot wr w') (ht : t'.ok w') (hn : t'.nm = t.nm) (hg : t'.g = t.g) (hp : t'.pl = t.pl) (hf : ∀ b, b ∈ t'.foot → b ∈ t.foot ∨ wr.heap.size ≤ b) {i : Nat} (hi : i < 36) {r0 : List ByteArray} (hu : En.uF i = (t.nm, r0)) (b : Bool) (hr : ∀ r, r ∈ t'.L ↔ if r = r0 then b = true else r ∈ t.L) : ChW w w' gm (setG gv i b) := by
 have hft : ∀ x, x ∈ t.foot → w.heap.size ≤ x := fun x hx => h3 x (by unfold gfoot; simp [hx])
 refine ⟨⟨A ++ t' :: B, h1.update hk ht hn hg hf, h2.update h1.names hn hp hi hu b hr, ?_⟩, hk.to_below hb hb.size hft⟩
 intro x hx
 unfold gfoot at hx
 rw [List.mem_cons, List.mem_flatMap] at hx
 rcases hx with rfl | ⟨u, hu2, hx⟩
 · exact h3 x (by simp [gfoot])
 · rcases List.mem_append.1 hu2 with hu2 | hu2
   · exact h3 x (by unfold gfoot; rw [List.mem_cons, List.mem_flatMap]; exact .inr ⟨u, by simp [hu2], hx⟩)
   · rcases List.mem_cons.1 hu2 with rfl | hu2
     · rcases hf x hx with h4 | h4
       · exact hft x h4
       · have := hb.size; omega
     · exact h3 x (by unfold gfoot; rw [List.mem_cons, List.mem_flatMap]; exact .inr ⟨u, by simp [hu2], hx⟩)
def setAllG (gv : Nat → Bool) (is : List Nat) (b : Bool) : Nat → Bool := is.foldl (fun g i => setG g i b) gv
theorem setAllG_snoc (gv : Nat → Bool) (is : List Nat) (i : Nat) (b : Bool) : setAllG gv (is ++ [i]) b = setG (setAllG gv is b) i b := by simp [setAllG]
end Go.Proofs.YtdmicblafmhflaaGreatDoor
/- Engine.changed, walked. -/
namespace Go.Proofs.YtdmicblafmhflaaGreatDoor
open Go.RowKit Go.Maps
theorem ownBlock_len (rd : Option Addr) (n m rc : Nat) : (Value.slice rd n rc).ownBlock = (Value.slice rd m rc).ownBlock := by cases rd <;> rfl
def FIdx (l : List FI) (is : List Nat) : Prop := l.map (fun f => (f.pred, f.args)) = is.map dat ∧ ∀ i, i ∈ is → i < 36
theorem FIdx.len {l : List FI} {is : List Nat} (h : FIdx l is) : is.length = l.length := by
 have := congrArg List.length h.1
 simpa using this.symm
theorem FIdx.at_ {l : List FI} {is : List Nat} (h : FIdx l is) {k : Nat} (hk : k < l.length) : ∃ i, is.take (k + 1) = is.take k ++ [i] ∧ i < 36 ∧ (l[k]).pred = (dat i).1 ∧ (l[k]).args = (dat i).2 := by
 have hki : k < is.length := by rw [h.len]; exact hk
 refine ⟨is[k], by rw [List.take_add_one, List.getElem?_eq_getElem hki]; rfl, h.2 _ (List.getElem_mem hki), ?_⟩
 have e := congrArg (fun x => x[k]?) h.1
 simp only [List.getElem?_map, List.getElem?_eq_getElem hk, List.getElem?_eq_getElem hki, Option.map_some, Option.some.injEq] at e
 exact ⟨congrArg Prod.fst e, congrArg Prod.snd e⟩
theorem gPr_pl {p : ByteArray} {a b : Nat} (h1 : (p, a) ∈ gPr) (h2 : (p, b) ∈ gPr) : a = b := congrArg Prod.snd (gPr_one _ h1 _ h2 rfl)
structure ChR (w wr : World) (eg gm : Nat) (gv : Nat → Bool) (p : ByteArray) (av : Value) (names : List ByteArray) (i tg : Nat) : Prop where
 row : ∀ W, Below wr.heap.size wr W → Calls Tryz.prog 41 #[.pointer (some ⟨eg, 0, none⟩), .agg #[.string p, av]] W fun e w' => e = .returned (.tuple #[.agg (Tb.row3V names), .bool true]) ∧ Below W.heap.size W w'
 look : ∀ W, Below wr.heap.size wr W → (Instr.lookup 102 (.map (some gm)) (.string p) false).run Tryz.prog W = .ok (.pointer (some ⟨tg, 0, none⟩)) W
 come : ∀ W, Below wr.heap.size wr W → Calls Tryz.prog 127 #[.pointer (some ⟨tg, 0, none⟩), .agg (Tb.row3V names)] W fun e w' => e = .returned (.tuple #[]) ∧ ChW w w' gm (setG gv i true)
 leave : ∀ W, Below wr.heap.size wr W → Calls Tryz.prog 128 #[.pointer (some ⟨tg, 0, none⟩), .agg (Tb.row3V names)] W fun e w' => e = .returned (.tuple #[]) ∧ ChW w w' gm (setG gv i false)
theorem chR_of {w wr : World} {eg gm hm : Nat} {gv : Nat → Bool} {T : List HT} {s : En.Sea En.Fct} (hc3 : w.cell? ⟨eg, 3, none⟩ = some (.map (some hm))) (hH : HAt w hm T s) (hT : ∀ p, p ∈ T.map prHT ↔ p ∈ gPr) (hU : UTabs w) (h : ChW w wr gm gv) {i : Nat} (hi : i < 36) {av : Value} (hav : wr.ownsRow 0 9 1 av (dat i).2.length (strCells (dat i).2)) :
 ∃ tg, ChR w wr eg gm gv (dat i).1 av (dat i).2 i tg := by
 obtain ⟨N, hG, hR, hf⟩ := h.at_
 have hpr := dat_pr hi
 obtain ⟨t, ht, hnm, hpl⟩ := hR.has hpr
 obtain ⟨u, hu, hu2⟩ := List.mem_map.1 ((hT _).2 hpr)
 simp only [prHT, Prod.mk.injEq] at hu2
 have hps : (dat i).1.size ≤ 1000000 := Nat.le_trans (gPr_short _ hpr) (by decide)
 have hlL : t.L.length ≤ 36 := Nat.le_trans (gsum_mem ht) (hR.sum hG.names (fun t ht => TabAt.ord (hG.tabs t ht)))
 obtain ⟨A, B, hAB⟩ := List.append_of_mem ht
 subst hAB
 refine ⟨t.g, ⟨?_, ?_, ?_, ?_⟩⟩
 · intro W hW
   have hbW : Below w.heap.size w W := h.bel.trans (hW.mono h.bel.size)
   have h3 : (dat i).2.length ≤ 3 := by
    have : ∀ p, p ∈ gPr → p.2 ≤ 3 := by unfold gPr; decide
    exact this _ hpr
   refine erow_any W eg hm u.g (dat i).2.length (T.map HT.pk) (dat i).1 (dat i).2 av (by rw [hbW.cell (block_lt_of_cell hc3)]; exact hc3) (hH.map.below hbW) (by rw [← hu2.1]; exact look_key hH.names hu) hps ?_ (ownsRow_below hav hW) rfl h3 (fun a ha => (dat_names i a ha).1) (fun a ha => Nat.le_trans (dat_names i a ha).2 (by decide)) (Utf8Tabs_below hU hbW)
   have := (((hH.tabs u hu).below hbW).tab).cell2.2.2.1
   rw [hu2.2] at this
   exact this
 · intro W hW
   exact (hG.below hW).map.look (by rw [← hnm]; exact glook_key hG.names (by simp)) hps Tryz.underlying102 (Tryz.zeroValue122 W)
 · intro W hW
   refine (come_any W t.g t.nm t.pl t.rd t.rc t.L _ _ _ ((hG.below hW).tabs t (by simp)) (by omega)).mono ?_
   rintro e w' ⟨rd', rc', rfl, q1, q2, q3⟩
   refine ⟨rfl, ?_⟩
   refine ChW.set (t' := ⟨t.nm, t.pl, t.g, rd', rc', Tb.put t.L (Tb.row3 (dat i).2)⟩) (h.bel.trans (hW.mono h.bel.size)) (hG.below hW) hR hf q2 q1 rfl rfl rfl ?_ hi (r0 := Tb.row3 (dat i).2) (by rw [uF_dat, hnm]) true ?_
   · intro b hb
     unfold GT.foot at hb
     rcases List.mem_cons.1 hb with rfl | hb
     · exact .inl (by simp [GT.foot])
     · rw [Option.mem_toList] at hb
       rcases q3 b hb with h5 | h5
       · exact .inl (by unfold GT.foot; rw [List.mem_cons, Option.mem_toList]; exact .inr h5)
       · exact .inr h5
   · intro r
     show r ∈ Tb.put t.L (Tb.row3 (dat i).2) ↔ _
     rw [Tb.mem_put]
     by_cases e : r = Tb.row3 (dat i).2
     · simp [e]
     · simp [e]
 · intro W hW
   refine (leave_any W t.g t.nm t.pl t.rd t.rc t.L _ _ _ ((hG.below hW).tabs t (by simp)) (by omega)).mono ?_
   rintro e w' ⟨rfl, q1, q2⟩
   refine ⟨rfl, ?_⟩
   have hord : Tb.Ord t.L := TabAt.ord (hG.tabs t (by simp))
   refine ChW.set (t' := ⟨t.nm, t.pl, t.g, t.rd, t.rc, Tb.leave t.L (Tb.row3 (dat i).2)⟩) (h.bel.trans (hW.mono h.bel.size)) (hG.below hW) hR hf q2 q1 rfl rfl rfl ?_ hi (r0 := Tb.row3 (dat i).2) (by rw [uF_dat, hnm]) false ?_
   · intro b hb
     refine .inl ?_
     unfold GT.foot at hb ⊢
     rcases List.mem_cons.1 hb with rfl | hb
     · simp
     · rw [Option.mem_toList] at hb
       rw [List.mem_cons, Option.mem_toList]
       exact .inr ((ownBlock_len _ _ _ _).trans hb)
   · intro r
     show r ∈ Tb.leave t.L (Tb.row3 (dat i).2) ↔ _
     rw [Tb.mem_leave hord]
     by_cases e : r = Tb.row3 (dat i).2
     · simp [e]
     · simp [e]
end Go.Proofs.YtdmicblafmhflaaGreatDoor
/- Engine.changed, its loops. -/
namespace Go.Proofs.YtdmicblafmhflaaGreatDoor
open Go.RowKit Go.Maps
set_option maxRecDepth 100000 in
set_option maxHeartbeats 4000000 in
theorem changed_any (w : World) (eg gm hm : Nat) (G : List GT) (gv : Nat → Bool) (T : List HT) (s : En.Sea En.Fct) (hc2 : w.cell? ⟨eg, 2, none⟩ = some (.map (some gm))) (hc3 : w.cell? ⟨eg, 3, none⟩ = some (.map (some hm))) (hG : GAt w gm G) (hR : GRel G gv) (hH : HAt w hm T s) (hT : ∀ p, p ∈ T.map prHT ↔ p ∈ gPr) (hU : UTabs w)
 (cd : Option Addr) (cc : Nat) (come : List FI) (gd : Option Addr) (gc : Nat) (gone : List FI) (hcf : FactsIn w cd cc come) (hgf : FactsIn w gd gc gone) (ci gi : List Nat) (hci : FIdx come ci) (hgi : FIdx gone gi) (hcl : come.length ≤ 1000) (hgl : gone.length ≤ 1000) :
 Calls Tryz.prog 68 #[.pointer (some ⟨eg, 0, none⟩), .slice cd come.length cc, .slice gd gone.length gc] w fun e w' => ∃ gm', e = .returned (.tuple #[.map (some gm'), .bool true]) ∧ ChW w w' gm' (setAllG (setAllG gv ci true) gi false) := by
 have hG3 := hR.len hG.names
 have hGs := hR.sum hG.names (fun t ht => TabAt.ord (hG.tabs t ht))
 have HCG : Hid (Calls Tryz.prog 126 #[.map (some gm)] w fun e w' => e = .returned (.map (some w.heap.size)) ∧ Hid (ChW w w' w.heap.size gv)) := by
  refine (copyGiven_any w gm G hG (fun t ht => by have := gsum_mem ht; omega) (by omega)).mono ?_
  rintro e w' ⟨N, rfl, hN⟩
  obtain ⟨g1, g2⟩ := hN.toG hG.short hG.names (by omega)
  refine ⟨rfl, ⟨⟨N, g1, hR.perm g2, ?_⟩, hN.bel⟩⟩
  intro b hb
  unfold gfoot at hb
  rw [List.mem_cons, List.mem_flatMap] at hb
  rcases hb with rfl | ⟨t, ht, hb⟩
  · exact Nat.le_refl _
  · have := (hN.tabs t ht).2 b hb
    omega
 have HCH : Hid (∀ wr gv' i av, ChW w wr w.heap.size gv' → i < 36 → wr.ownsRow 0 9 1 av (dat i).2.length (strCells (dat i).2) → ∃ tg, ChR w wr eg w.heap.size gv' (dat i).1 av (dat i).2 i tg) := fun wr gv' i av h hi hav => chR_of hc3 hH hT hU h hi hav
 have HCF : Hid (FactsIn w cd cc come) := hcf
 have HGF : Hid (FactsIn w gd gc gone) := hgf
 have HCI : Hid (FIdx come ci) := hci
 have HGI : Hid (FIdx gone gi) := hgi
 have hcap1 := ownsRow_le hcf.row
 have hcap2 := ownsRow_le hgf.row
 have hegl := block_lt_of_cell hc2
 clear hG hR hH hT hU hcf hgf hci hgi hc3  hG3 hGs
 go_enter Tryz.func68, Tryz.ntmps68
 go_wp2_with (go_at_call 126; refine HCG.out.mono ?_; rintro e w0 ⟨rfl, HW0⟩)
 go_loopw [25] (fun i wr => ∃ k : Nat, k ≤ come.length ∧ i = .int .i64 k ∧ ChW w wr w.heap.size (setAllG gv (ci.take k) true)) (fun i _ => come.length - (intOf i).toNat)
 case atStart => exact ⟨0, Nat.zero_le _, rfl, HW0.out⟩
 case round =>
  obtain ⟨k, hk, rfl, hW⟩ := hrel
  have HW : Hid (ChW w wr w.heap.size (setAllG gv (ci.take k) true)) := hW
  clear HW0 hW
  by_cases hlt : k < come.length
  · skip
    have hrow := (HCF.out.below HW.out.bel).row
    obtain ⟨g, rfl, hg, hcc, hcs⟩ := row_cells hrow (by omega)
    have c0 := hcs _ _ (fiCells_get come k hlt).1
    have c1 := hcs _ _ (fiCells_get come k hlt).2
    obtain ⟨i, e1, hi, e2, e3⟩ := HCI.out.at_ hlt
    have hav : wr.ownsRow 0 9 1 (come[k]).av (dat i).2.length (strCells (dat i).2) := by
     have h9 := (HCF.out.below HW.out.bel).each _ (List.getElem_mem hlt)
     unfold FI.ok at h9
     rw [e3] at h9
     exact h9
    obtain ⟨ad, ac, hav'⟩ := ownsRow_shape hav
    obtain ⟨tg, hch⟩ := HCH.out wr _ i _ HW.out hi hav
    rw [e2] at c0
    rw [hav'] at c1 hch
    obtain ⟨hr, hl, hco, hle⟩ := hch
    rw [row3_agg] at hr hco hle
    have HRO : Hid _ := hr
    have HLO : Hid _ := hl
    have HCO : Hid _ := hco
    have HNX : Hid (setAllG gv (ci.take (k + 1)) true = setG (setAllG gv (ci.take k) true) i true) := by
     rw [e1, setAllG_snoc]
     exact rfl
    clear hr hl hco hle hav hav' hcs hrow e1 e2 e3 HCH
    generalize Tb.at0 (dat i).2 0 = x0 at *
    generalize Tb.at0 (dat i).2 1 = x1 at *
    generalize Tb.at0 (dat i).2 2 = x2 at *
    generalize (dat i).2.length = nl at *
    generalize (dat i).1 = p at *
    go_wp2_with (first | (go_at_call 41; refine (HRO.out _ (by exact (Below.refl _ _).alloc (Nat.le_refl _) _)).mono ?_; rintro e w5 ⟨rfl, hb5⟩; obtain ⟨bx5, hb5w, hl5⟩ := box_world hb5; have t5 : w5.cell? ⟨wr.heap.size, 0, none⟩ = some (.string p) := (by rw [cell_of_row _ _ 0 _ _ _ bx5]; rfl); have l5 := HLO.out (w5.alloc (.cells #[.string x0, .string x1, .string x2] 119)) (hb5w.alloc hb5w.size _); have hlt5 : wr.heap.size < w5.heap.size := (by omega); have HB5 : Hid (Below wr.heap.size wr w5) := hb5w; clear hb5 bx5 hb5w hl5) | (go_at_call 127; refine (HCO.out _ (by exact HB5.out.alloc HB5.out.size _)).mono ?_; rintro e w7 ⟨rfl, hW7⟩; have HW7 : Hid _ := hW7; clear hW7))
    go_roundw
    case rel => exact ⟨k + 1, hlt, by go_num, by rw [HNX.out]; exact HW7.out⟩
    case measure => simp [intOf]; omega
  · have HW1 : Hid (ChW w wr w.heap.size (setAllG gv ci true)) := by
     have h9 := HW.out
     rw [List.take_of_length_le (by rw [HCI.out.len]; omega)] at h9
     exact h9
    clear HW
    go_wp2_with fail
    go_loopw [46] (fun i wr => ∃ k : Nat, k ≤ gone.length ∧ i = .int .i64 k ∧ ChW w wr w.heap.size (setAllG (setAllG gv ci true) (gi.take k) false)) (fun i _ => gone.length - (intOf i).toNat)
    case atStart => exact ⟨0, Nat.zero_le _, rfl, HW1.out⟩
    case round =>
     obtain ⟨k, hk, rfl, hW⟩ := hrel
     have HW : Hid (ChW w wr w.heap.size (setAllG (setAllG gv ci true) (gi.take k) false)) := hW
     clear HW1 hW
     by_cases hlt : k < gone.length
     · skip
       have hrow := (HGF.out.below HW.out.bel).row
       obtain ⟨g, rfl, hg, hcc, hcs⟩ := row_cells hrow (by omega)
       have c0 := hcs _ _ (fiCells_get gone k hlt).1
       have c1 := hcs _ _ (fiCells_get gone k hlt).2
       obtain ⟨i, e1, hi, e2, e3⟩ := HGI.out.at_ hlt
       have hav : wr.ownsRow 0 9 1 (gone[k]).av (dat i).2.length (strCells (dat i).2) := by
        have h9 := (HGF.out.below HW.out.bel).each _ (List.getElem_mem hlt)
        unfold FI.ok at h9
        rw [e3] at h9
        exact h9
       obtain ⟨ad, ac, hav'⟩ := ownsRow_shape hav
       obtain ⟨tg, hch⟩ := HCH.out wr _ i _ HW.out hi hav
       rw [e2] at c0
       rw [hav'] at c1 hch
       obtain ⟨hr, hl, hco, hle⟩ := hch
       rw [row3_agg] at hr hco hle
       have HRO : Hid _ := hr
       have HLO : Hid _ := hl
       have HCO : Hid _ := hle
       have HNX : Hid (setAllG (setAllG gv ci true) (gi.take (k + 1)) false = setG (setAllG (setAllG gv ci true) (gi.take k) false) i false) := by
        rw [e1, setAllG_snoc]
        exact rfl
       clear hr hl hco hle hav hav' hcs hrow e1 e2 e3 HCH
       generalize Tb.at0 (dat i).2 0 = x0 at *
       generalize Tb.at0 (dat i).2 1 = x1 at *
       generalize Tb.at0 (dat i).2 2 = x2 at *
       generalize (dat i).2.length = nl at *
       generalize (dat i).1 = p at *
       go_wp2_with (first | (go_at_call 41; refine (HRO.out _ (by exact (Below.refl _ _).alloc (Nat.le_refl _) _)).mono ?_; rintro e w5 ⟨rfl, hb5⟩; obtain ⟨bx5, hb5w, hl5⟩ := box_world hb5; have t5 : w5.cell? ⟨wr.heap.size, 0, none⟩ = some (.string p) := (by rw [cell_of_row _ _ 0 _ _ _ bx5]; rfl); have l5 := HLO.out (w5.alloc (.cells #[.string x0, .string x1, .string x2] 119)) (hb5w.alloc hb5w.size _); have hlt5 : wr.heap.size < w5.heap.size := (by omega); have HB5 : Hid (Below wr.heap.size wr w5) := hb5w; clear hb5 bx5 hb5w hl5) | (go_at_call 128; refine (HCO.out _ (by exact HB5.out.alloc HB5.out.size _)).mono ?_; rintro e w7 ⟨rfl, hW7⟩; have HW7 : Hid _ := hW7; clear hW7))
       go_roundw
       case rel => exact ⟨k + 1, hlt, by go_num, by rw [HNX.out]; exact HW7.out⟩
       case measure => simp [intOf]; omega
     · have HWE : Hid (ChW w wr w.heap.size (setAllG (setAllG gv ci true) gi false)) := by
        have h9 := HW.out
        rw [List.take_of_length_le (by rw [HGI.out.len]; omega)] at h9
        exact h9
       clear HW
       go_wp2_with fail
       go_ret2
       exact ⟨_, rfl, HWE.out⟩
end Go.Proofs.YtdmicblafmhflaaGreatDoor
