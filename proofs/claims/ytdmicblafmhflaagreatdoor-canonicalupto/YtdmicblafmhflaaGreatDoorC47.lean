/- Canonical, walked. -/
import Derived.Test.YtdmicblafmhflaaGreatDoorC46
set_option linter.unusedSimpArgs false
set_option linter.unusedVariables false
namespace Go.Proofs.YtdmicblafmhflaaGreatDoor
open Go.RowKit Go.Maps
structure HalfOk (w : World) (sy : Nat) (a : Option Addr) (n c : Nat) (l : List Nat) : Prop where
 at_ : ∀ W, IK w W → IntsA W a n c (ints l)
 ne : ∀ g o, a = some ⟨g, o, none⟩ → g ≠ sy
theorem half_nil (w : World) (sy : Nat) : HalfOk w sy none 0 0 [] := ⟨fun W _ => intsA_nil W, fun g o h => by cases h⟩
theorem half_none {w : World} {sy n c : Nat} {l : List Nat} (hn : n = 0) (hc : c = 0) (hl : l = []) : HalfOk w sy none n c l := by
 subst hn
 subst hc
 subst hl
 exact half_nil w sy
theorem half_lo {w : World} {g c : Nat} {l : List Nat} (h : IntB w g l) (h36 : ∀ x, x ∈ l → x < 36) (hc : l.length ≤ c) (hx : c ≤ maxLen) {sy : Nat} {Z : Array Value} {t : TypeId} {f : Nat × Nat} (hs : w.heap[sy]? = some (.cells Z t f)) (ht : 3 ≠ t) {k : Nat} (hk : k ≤ l.length) : HalfOk w sy (some ⟨g, 0, none⟩) k c (l.take k) := by
 refine ⟨fun W hW => ?_, fun g' o e => ?_⟩
 · have := intsA_of (h.ik hW) h36 (o := 0) (m := k) (c := c) (by omega) (by omega) hx
   simpa using this
 · simp only [Option.some.injEq, Addr.mk.injEq] at e
   obtain ⟨rfl, _⟩ := e
   obtain ⟨cur, h1, _⟩ := h
   exact blk_ne h1 hs ht
theorem half_hi {w : World} {g c : Nat} {l : List Nat} (h : IntB w g l) (h36 : ∀ x, x ∈ l → x < 36) (hc : l.length ≤ c) (hx : c ≤ maxLen) {sy : Nat} {Z : Array Value} {t : TypeId} {f : Nat × Nat} (hs : w.heap[sy]? = some (.cells Z t f)) (ht : 3 ≠ t) {k : Nat} (hk : k ≤ l.length) : HalfOk w sy (some ⟨g, k, none⟩) (l.length - k) (c - k) (l.drop k) := by
 refine ⟨fun W hW => ?_, fun g' o e => ?_⟩
 · have := intsA_of (h.ik hW) h36 (o := k) (m := l.length - k) (c := c - k) (by omega) (by omega) (by omega)
   rw [List.take_of_length_le (by simp)] at this
   exact this
 · simp only [Option.some.injEq, Addr.mk.injEq] at e
   obtain ⟨rfl, _⟩ := e
   obtain ⟨cur, h1, _⟩ := h
   exact blk_ne h1 hs ht
theorem cut_same (a b c : List UInt8) : (⟨(a ++ b).toArray⟩ : ByteArray).extract 0 a.length = (⟨(a ++ c).toArray⟩ : ByteArray).extract 0 a.length := by
 apply ByteArray.ext
 simp [ByteArray.data_extract]
theorem StepsA.below {w w' : World} {sd : Option Addr} {sn sc : Nat} {sl : List (List Int × List Int)} (h : StepsA w sd sn sc sl) (hb : Below w.heap.size w w') : StepsA w' sd sn sc sl := by
 refine ⟨h.len, h.cap, h.max, fun k hk => ?_⟩
 obtain ⟨g, o, e, a1, n1, c1, a2, n2, c2, q1, q2, i1, i2⟩ := h.at_ k hk
 exact ⟨g, o, e, a1, n1, c1, a2, n2, c2, cell_below hb q1, cell_below hb q2, i1.below hb, i2.below hb⟩
set_option maxRecDepth 100000 in
set_option maxHeartbeats 4000000 in
theorem canonical_walk (K : Nat → Int) (w : World) (ad : Option Addr) (m c : Nat) (kl : List Ax.KRule) (hR : RulesAt w ad m c kl) (sd : Option Addr) (sn sc : Nat) (sl : List (List Int × List Int)) (hS : StepsA w sd sn sc sl) (hs : sl.length ≤ 1900000) (td : Option Addr) (tn tc : Nat) (tl : List (List Int × List Int)) (hT : StepsA w td tn tc tl) (ht : tl.length ≤ 1900000) (hK : Dg.Tab w K) (hU : UTabs w) :
 Calls Tryz.prog 8 #[.slice ad m c, .slice sd sn sc, .slice td tn tc] w fun e w' => e = .returned (.bool true) ∧ Below w.heap.size w w' := by
 obtain ⟨i0, hi0, hz0, hz1, hz2⟩ := info_parts Tryz.infoIntV
 have HI : Hid (Tryz.prog.info? 3 = some i0) := hi0
 have H0 : Hid (i0.zero = some (.int .i64 0)) := hz0
 have H1 : Hid (i0.size = 1) := hz1
 have H2 : Hid (i0.bytes = 8) := hz2
 clear hi0 hz0 hz1 hz2
 obtain ⟨X, hX⟩ : ∃ X, X = gvAll sl := ⟨_, rfl⟩
 obtain ⟨Y, hY⟩ : ∃ Y, Y = gvAll tl := ⟨_, rfl⟩
 have HGX : Hid (GvOk X) := by rw [hX]; exact gvAll_ok sl
 have HGY : Hid (GvOk Y) := by rw [hY]; exact gvAll_ok tl
 have HRX : Hid (Calls Tryz.prog 22 #[.slice ad m c, .slice sd sn sc] w fun e w1 => ∃ sb eg, e = .returned (.pointer (some ⟨sb, 0, none⟩)) ∧ Hid (ShW w.heap.size w1 sb eg (.slice ad (min m 6) c) kl X X sl.length ∧ Below w.heap.size w w1)) := by
  rw [hX]
  exact (run_any K w ad m c kl hR sd sn sc sl hS (by omega) hK hU).mono (fun e w' ⟨a, b, d, f⟩ => ⟨a, b, d, f⟩)
 have HRY : Hid (∀ W, Below w.heap.size w W → Calls Tryz.prog 22 #[.slice ad m c, .slice td tn tc] W fun e w2 => ∃ sb eg, e = .returned (.pointer (some ⟨sb, 0, none⟩)) ∧ Hid (ShW W.heap.size w2 sb eg (.slice ad (min m 6) c) kl Y Y tl.length ∧ Below W.heap.size W w2)) := by
  intro W hW
  rw [hY]
  exact (run_any K W ad m c kl (hR.below hW) td tn tc tl (hT.below hW) (by omega) (hK.below hW) (Utf8Tabs_below hU hW)).mono (fun e w' ⟨a, b, d, f⟩ => ⟨a, b, d, f⟩)
 have HKU : Hid (∀ W, Below w.heap.size w W → Dg.Tab W K ∧ UTabs W) := fun W hW => ⟨hK.below hW, Utf8Tabs_below hU hW⟩
 clear hR hS hT hK hU hX hY
 go_enter Tryz.func8, Tryz.ntmps8
 go_wp2_with (go_at_call 22; first | (refine HRX.out.mono ?_; rintro e w1 ⟨sx, ex, rfl, HX1⟩; clear HRX) | (refine (HRY.out w1 HX1.out.2).mono ?_; rintro e w2 ⟨sy, ey, rfl, HY2⟩))
 have HXC : Hid (∀ W, Below w2.heap.size w2 W → (∀ i, i < 36 → W.cell? ⟨sx, 2 + i, none⟩ = some (.bool (X i)) ∧ W.cell? ⟨sy, 2 + i, none⟩ = some (.bool (Y i))) ∧ sx < W.heap.size ∧ sy < W.heap.size) := by
  intro W hW
  have h1 := (HX1.out.1.below HY2.out.2).below hW
  have h2 := HY2.out.1.below hW
  exact ⟨fun i hi => ⟨(h1.cell hi).1, (h2.cell hi).1⟩, (h1.cell (i := 0) (by omega)).2.2, (h2.cell (i := 0) (by omega)).2.2⟩
 clear HRY
 go_loopw [9, 10, 11] (fun cv gv i wr => ∃ (k : Nat), k ≤ 36 ∧ i = .int .i64 k ∧ CgW w2 wr cv gv (cmL X Y k) (gnL X Y k)) (fun _ _ i _ => 36 - (intOf i).toNat)
 case atStart => exact ⟨0, Nat.zero_le _, rfl, World.ownsRow_nil _ _ _ _, World.ownsRow_nil _ _ _ _, fun _ => rfl, fun _ => rfl, (fun b hb => nomatch hb), Below.refl _ _⟩
 case round =>
  obtain ⟨k, hk, rfl, hC⟩ := hrel
  obtain ⟨cd, cc, hc0⟩ := ownsRow_shape hC.co
  obtain ⟨gd, gc, hg0⟩ := ownsRow_shape hC.gn
  subst hc0
  subst hg0
  have hcl := cmL_len X Y k
  have hgl := gnL_len X Y k
  have HC : Hid (CgW w2 wr (.slice cd (cmL X Y k).length cc) (.slice gd (gnL X Y k).length gc) (cmL X Y k) (gnL X Y k)) := hC
  by_cases hlt : k < 36
  · have hdk : decide ((k : Int) < 36) = true := decide_eq_true (by omega)
    obtain ⟨hcs, hsx, hsy⟩ := HXC.out wr hC.bel
    obtain ⟨q1, q2⟩ := hcs k hlt
    have hb0 : (0 : Int) ≤ (k : Int) := by omega
    have hb1 : (k : Int) < 36 := by omega
    have hco := hC.co
    have hgn := hC.gn
    have hsz := hC.bel.size
    have HN1 : Hid (cmL X Y (k + 1) = if (X k && !Y k) = true then cmL X Y k ++ [k] else cmL X Y k) := cmL_succ X Y k
    have HN2 : Hid (gnL X Y (k + 1) = if (!X k && Y k) = true then gnL X Y k ++ [k] else gnL X Y k) := gnL_succ X Y k
    have HQ : Hid (∀ W, Below w2.heap.size w2 W → W.cell? ⟨sx, 2 + k, none⟩ = some (.bool (X k)) ∧ W.cell? ⟨sy, 2 + k, none⟩ = some (.bool (Y k)) ∧ sx < W.heap.size ∧ sy < W.heap.size) := fun W hW => ⟨((HXC.out W hW).1 k hlt).1, ((HXC.out W hW).1 k hlt).2, (HXC.out W hW).2⟩
    clear hC hcs HXC HX1 HY2
    cases hx : X k <;> cases hy : Y k
    · rw [hx] at q1 HQ
      rw [hy] at q2 HQ
      have HNX : Hid (CgW w2 wr (.slice cd (cmL X Y k).length cc) (.slice gd (gnL X Y k).length gc) (cmL X Y (k + 1)) (gnL X Y (k + 1))) := by
       rw [HN1.out, HN2.out, hx, hy]
       exact HC.out
      clear HC HN1 HN2 hx hy hco hgn
      generalize (cmL X Y k).length = n1 at *
      generalize (gnL X Y k).length = n2 at *
      go_wp2_with fail
      go_roundw
      case rel => exact ⟨k + 1, hlt, by go_num, HNX.out⟩
      case measure => simp [intOf]; omega
    · rw [hx] at q1 HQ
      rw [hy] at q2 HQ
      generalize hl1 : cmL X Y k = l1 at *
      generalize hl2 : gnL X Y k = l2 at *
      have HNX : Hid (∀ x5 cap5 w5 (o : Obj), w5.ownsRow w2.heap.size 3 1 (.slice (some ⟨x5, 0, none⟩) (l2.length + 1) cap5) (l2.length + 1) (natCells l2 ++ [.int .i64 (k : Nat)]) → (wr.alloc o).grownBy w5 (Value.slice gd l2.length gc).ownBlock → ((Value.slice gd l2.length gc).ownBlock = some x5 ∨ x5 = wr.heap.size + 1) → CgW w2 w5 (.slice cd l1.length cc) (.slice (some ⟨x5, 0, none⟩) (l2.length + 1) cap5) (cmL X Y (k + 1)) (gnL X Y (k + 1))) := by
       rw [HN1.out, HN2.out, hx, hy]
       exact fun x5 cap5 w5 o h1 h2 h3 => (HC.out.swap.come h1 h2 h3).swap
      clear HN1 HN2 hx hy hl1 hl2
      have hnl1 : l1.length ≤ 36 := by omega
      have hnl2 : l2.length ≤ 36 := by omega
      go_wp2_with (at_builtin; refine wpList_append_lies _ rfl (.tmp 67) (.tmp 69) 31 rfl w2.heap.size 3 i0 _ 1 8 Tryz.underlying31 HI.out H0.out H1.out H2.out rfl (by decide) _ _ _ rfl (hgn.alloc _) ⟨wr.heap.size, 0, none⟩ 1 1 [.int .i64 (k : Nat)] rfl rfl (World.news_of_block (heap_alloc_new _ _)) (by simp [Value.oneCell']) (by decide) (by unfold maxLen; omega) (by omega) (by simp; omega) (wr.heap.size + 1) (by simp) ?_; intro x5 cap5 w5 hown5 hgrow5 hat5 _; have hN5 := HNX.out x5 cap5 w5 _ hown5 hgrow5 hat5; obtain ⟨q3, q4, q5, q6⟩ := HQ.out w5 hN5.bel)
      go_roundw
      case rel => exact ⟨k + 1, hlt, by go_num, hN5⟩
      case measure => simp [intOf]; omega
    · rw [hx] at q1 HQ
      rw [hy] at q2 HQ
      generalize hl1 : cmL X Y k = l1 at *
      generalize hl2 : gnL X Y k = l2 at *
      have HNX : Hid (∀ x5 cap5 w5 (o : Obj), w5.ownsRow w2.heap.size 3 1 (.slice (some ⟨x5, 0, none⟩) (l1.length + 1) cap5) (l1.length + 1) (natCells l1 ++ [.int .i64 (k : Nat)]) → (wr.alloc o).grownBy w5 (Value.slice cd l1.length cc).ownBlock → ((Value.slice cd l1.length cc).ownBlock = some x5 ∨ x5 = wr.heap.size + 1) → CgW w2 w5 (.slice (some ⟨x5, 0, none⟩) (l1.length + 1) cap5) (.slice gd l2.length gc) (cmL X Y (k + 1)) (gnL X Y (k + 1))) := by
       rw [HN1.out, HN2.out, hx, hy]
       exact fun x5 cap5 w5 o h1 h2 h3 => HC.out.come h1 h2 h3
      clear HN1 HN2 hx hy hl1 hl2
      have hnl1 : l1.length ≤ 36 := by omega
      have hnl2 : l2.length ≤ 36 := by omega
      go_wp2_with (at_builtin; refine wpList_append_lies _ rfl (.tmp 48) (.tmp 50) 31 rfl w2.heap.size 3 i0 _ 1 8 Tryz.underlying31 HI.out H0.out H1.out H2.out rfl (by decide) _ _ _ rfl (hco.alloc _) ⟨wr.heap.size, 0, none⟩ 1 1 [.int .i64 (k : Nat)] rfl rfl (World.news_of_block (heap_alloc_new _ _)) (by simp [Value.oneCell']) (by decide) (by unfold maxLen; omega) (by omega) (by simp; omega) (wr.heap.size + 1) (by simp) ?_; intro x5 cap5 w5 hown5 hgrow5 hat5 _; have hN5 := HNX.out x5 cap5 w5 _ hown5 hgrow5 hat5; obtain ⟨q3, q4, q5, q6⟩ := HQ.out w5 hN5.bel)
      go_roundw
      case rel => exact ⟨k + 1, hlt, by go_num, hN5⟩
      case measure => simp [intOf]; omega
    · rw [hx] at q1 HQ
      rw [hy] at q2 HQ
      have HNX : Hid (CgW w2 wr (.slice cd (cmL X Y k).length cc) (.slice gd (gnL X Y k).length gc) (cmL X Y (k + 1)) (gnL X Y (k + 1))) := by
       rw [HN1.out, HN2.out, hx, hy]
       exact HC.out
      clear HC HN1 HN2 hx hy hco hgn
      generalize (cmL X Y k).length = n1 at *
      generalize (gnL X Y k).length = n2 at *
      go_wp2_with fail
      go_roundw
      case rel => exact ⟨k + 1, hlt, by go_num, HNX.out⟩
      case measure => simp [intOf]; omega
  · have hdk : decide ((k : Int) < 36) = false := decide_eq_false (by omega)
    have hke : k = 36 := by omega
    have HL1 : Hid (LsW wr (.slice cd (cmL X Y 36).length cc) (cmL X Y 36)) := by
     have h9 := lsW_of hC.co hC.c0
     rw [hke] at h9
     exact h9
    have HL2 : Hid (LsW wr (.slice gd (gnL X Y 36).length gc) (gnL X Y 36)) := by
     have h9 := lsW_of hC.gn hC.g0
     rw [hke] at h9
     exact h9
    have e1 : cmL X Y k = cmL X Y 36 := by rw [hke]
    have e2 : gnL X Y k = gnL X Y 36 := by rw [hke]
    rw [e1, e2]
    have HYr : Hid (ShW w1.heap.size wr sy ey (.slice ad (min m 6) c) kl Y Y tl.length ∧ Below w1.heap.size w1 wr) := ⟨HY2.out.1.below hC.bel, HY2.out.2.trans (hC.bel.mono HY2.out.2.size)⟩
    have HAP : Hid (∀ W G n a1 n1 c1 L1 a2 n2 c2 L2, ShW w1.heap.size W sy ey (.slice ad (min m 6) c) kl G G n → n ≤ 2000000 → Below w1.heap.size w1 W → HalfOk W sy a1 n1 c1 L1 → HalfOk W sy a2 n2 c2 L2 → Calls Tryz.prog 15 #[.pointer (some ⟨sy, 0, none⟩), .agg #[.slice a1 n1 c1, .slice a2 n2 c2]] W fun e w' => e = .returned (.bool true) ∧ Hid (ShW w1.heap.size w' sy ey (.slice ad (min m 6) c) kl (setAllG (setAllG G (idxs (ints L1)) true) (idxs (ints L2)) false) (setAllG (setAllG G (idxs (ints L1)) true) (idxs (ints L2)) false) (n + 1) ∧ Below w1.heap.size w1 w' ∧ IK W w')) := by
     intro W G n a1 n1 c1 L1 a2 n2 c2 L2 h hn hb h1 h2
     refine (kapply_any K w1.heap.size W sy ey _ kl G n h hn (fun W' hW' => HKU.out W' (HX1.out.2.trans ((hb.trans hW').mono HX1.out.2.size))) a1 n1 c1 _ (fun W' _ hik => h1.at_ W' hik) (fun g o e _ => h1.ne g o e) a2 n2 c2 _ (fun W' _ hik => h2.at_ W' hik) (fun g o e _ => h2.ne g o e)).mono ?_
     rintro e w' ⟨rfl, r1, r2, r3⟩
     exact ⟨rfl, r1, hb.trans r2, r3⟩
    have h136 : (cmL X Y 36).length ≤ 36 := cmL_len X Y 36
    have h236 : (gnL X Y 36).length ≤ 36 := gnL_len X Y 36
    have HM1 : Hid (∀ x, x ∈ cmL X Y 36 → x < 36) := fun x hx => by simp [cmL] at hx; exact hx.1
    have HM2 : Hid (∀ x, x ∈ gnL X Y 36 → x < 36) := fun x hx => by simp [gnL] at hx; exact hx.1
    have HEND : Hid (∀ a b, setAllG (setAllG (setAllG (setAllG Y ((cmL X Y 36).take a) true) ((gnL X Y 36).take b) false) ((cmL X Y 36).drop a) true) ((gnL X Y 36).drop b) false = X) := fun a b => same_end HGX.out HGY.out a b
    clear hC HC HXC hcl hgl e1 e2 hke hlt
    generalize cmL X Y 36 = l1 at *
    generalize gnL X Y 36 = l2 at *
    have HSB : Hid (∀ W G n, ShW w1.heap.size W sy ey (.slice ad (min m 6) c) kl G G n → ∃ Z, W.heap[sy]? = some (.cells Z 43 (0, 0))) := fun W G n h => ⟨_, h.shop⟩
    obtain ⟨h1, hh1⟩ : ∃ h1, h1 = l1.length / 2 := ⟨_, rfl⟩
    obtain ⟨h2, hh2⟩ : ∃ h2, h2 = l2.length / 2 := ⟨_, rfl⟩
    have hq1 : IntKind.i64.wrap ((l1.length : Int) / 2) = (h1 : Int) := by
     rw [IntKind.wrap_i64]
     omega
    have hq2 : IntKind.i64.wrap ((l2.length : Int) / 2) = (h2 : Int) := by
     rw [IntKind.wrap_i64]
     omega
    have hhl1 : h1 ≤ l1.length := by omega
    have hhl2 : h2 ≤ l2.length := by omega
    have HI1 : Hid (idxs (ints (l1.take h1)) = l1.take h1) := idxs_ints (by rw [List.length_take]; omega) (fun x hx => HM1.out x (List.mem_of_mem_take hx))
    have HI2 : Hid (idxs (ints (l2.take h2)) = l2.take h2) := idxs_ints (by rw [List.length_take]; omega) (fun x hx => HM2.out x (List.mem_of_mem_take hx))
    have HJ1 : Hid (idxs (ints (l1.drop h1)) = l1.drop h1) := idxs_ints (by rw [List.length_drop]; omega) (fun x hx => HM1.out x (List.mem_of_mem_drop hx))
    have HJ2 : Hid (idxs (ints (l2.drop h2)) = l2.drop h2) := idxs_ints (by rw [List.length_drop]; omega) (fun x hx => HM2.out x (List.mem_of_mem_drop hx))
    have hlt1 : 0 < l1.length → h1 < l1.length := by omega
    have hlt2 : 0 < l2.length → h2 < l2.length := by omega
    clear hh1 hh2
    obtain ⟨G1, hG1⟩ : ∃ G1, G1 = setAllG (setAllG Y (l1.take h1) true) (l2.take h2) false := ⟨_, rfl⟩
    have HG1 : Hid (setAllG (setAllG G1 (l1.drop h1) true) (l2.drop h2) false = X) := by rw [hG1]; exact HEND.out h1 h2
    have HA0 : Hid (∀ W a1 n1 c1 a2 n2 c2, ShW w1.heap.size W sy ey (.slice ad (min m 6) c) kl Y Y tl.length → Below w1.heap.size w1 W → HalfOk W sy a1 n1 c1 (l1.take h1) → HalfOk W sy a2 n2 c2 (l2.take h2) → Calls Tryz.prog 15 #[.pointer (some ⟨sy, 0, none⟩), .agg #[.slice a1 n1 c1, .slice a2 n2 c2]] W fun e w' => e = .returned (.bool true) ∧ Hid (ShW w1.heap.size w' sy ey (.slice ad (min m 6) c) kl G1 G1 (tl.length + 1) ∧ Below w1.heap.size w1 w' ∧ IK W w')) := by
     intro W a1 n1 c1 a2 n2 c2 hsh hb k1 k2
     have h9 := HAP.out W Y tl.length a1 n1 c1 _ a2 n2 c2 _ hsh (by omega) hb k1 k2
     rw [HI1.out, HI2.out, ← hG1] at h9
     exact h9
    have HB0 : Hid (∀ W a1 n1 c1 a2 n2 c2, ShW w1.heap.size W sy ey (.slice ad (min m 6) c) kl G1 G1 (tl.length + 1) → Below w1.heap.size w1 W → HalfOk W sy a1 n1 c1 (l1.drop h1) → HalfOk W sy a2 n2 c2 (l2.drop h2) → Calls Tryz.prog 15 #[.pointer (some ⟨sy, 0, none⟩), .agg #[.slice a1 n1 c1, .slice a2 n2 c2]] W fun e w' => e = .returned (.bool true) ∧ Hid (ShW w1.heap.size w' sy ey (.slice ad (min m 6) c) kl X X (tl.length + 2) ∧ Below w1.heap.size w1 w')) := by
     intro W a1 n1 c1 a2 n2 c2 hsh hb k1 k2
     have h9 := HAP.out W G1 (tl.length + 1) a1 n1 c1 _ a2 n2 c2 _ hsh (by omega) hb k1 k2
     rw [HJ1.out, HJ2.out, HG1.out] at h9
     exact h9.mono (fun e w' ⟨a, b⟩ => ⟨a, b.out.1, b.out.2.1⟩)
    have HIK : Hid (IK wr wr.drew) := fun _ _ _ h => h
    have HYd : Hid (ShW w1.heap.size wr.drew sy ey (.slice ad (min m 6) c) kl Y Y tl.length ∧ Below w1.heap.size w1 wr.drew) := ⟨HYr.out.1.below ((Below.refl _ _).drew), HYr.out.2.drew⟩
    clear hG1 HAP HI1 HI2 HJ1 HJ2 HEND
    go_upto_region 13 with fail
    go_cut [12] from 71 (fun v12 wx => v12 = .bool true ∧ Hid (ShW w1.heap.size wx sy ey (.slice ad (min m 6) c) kl G1 G1 (tl.length + 1) ∧ Below w1.heap.size w1 wx ∧ IK wr wx))
    case first =>
     have HL3 : Hid (LsW wr.drew (.slice cd l1.length cc) l1) := HL1.out.ik HIK.out
     have HL4 : Hid (LsW wr.drew (.slice gd l2.length gc) l2) := HL2.out.ik HIK.out
     obtain ⟨Z, hZ⟩ := HSB.out _ _ _ HYd.out.1
     rcases HL3.out with ⟨e1, e2⟩ | ⟨g1, c1, e1, p1, q1, r1, b1⟩ <;> rcases HL4.out with ⟨f1, f2⟩ | ⟨g2, c2, f1, p2, q2, r2, b2⟩
     · simp only [Value.slice.injEq] at e1 f1
       obtain ⟨rfl, hn1, hc1⟩ := e1
       have HA1 : Hid (HalfOk wr.drew sy none h1 cc (l1.take h1)) := half_none (by omega) (by omega) (by rw [List.eq_nil_of_length_eq_zero hn1, List.take_nil])
       have z1 : (0 : Int) ≤ (h1 : Int) := by omega
       have z2 : (h1 : Int) ≤ (cc : Int) := by omega
       clear hn1 hc1 e2
       obtain ⟨rfl, hn2, hc2⟩ := f1
       have HA2 : Hid (HalfOk wr.drew sy none h2 gc (l2.take h2)) := half_none (by omega) (by omega) (by rw [List.eq_nil_of_length_eq_zero hn2, List.take_nil])
       have z3 : (0 : Int) ≤ (h2 : Int) := by omega
       have z4 : (h2 : Int) ≤ (gc : Int) := by omega
       clear hn2 hc2 f2
       clear hZ
       go_region_held3 (fun W => True) (trivial) ((go_at_call 15; refine (HA0.out _ _ _ _ _ _ _ HYd.out.1 HYd.out.2 HA1.out HA2.out).mono ?_; rintro e w5 ⟨rfl, H5⟩))
       all_goals
        (go_wp2_with fail
         go_meet
         exact ⟨rfl, H5.out.1, H5.out.2.1, HIK.out.trans H5.out.2.2⟩)
     · simp only [Value.slice.injEq] at e1 f1
       obtain ⟨rfl, hn1, hc1⟩ := e1
       have HA1 : Hid (HalfOk wr.drew sy none h1 cc (l1.take h1)) := half_none (by omega) (by omega) (by rw [List.eq_nil_of_length_eq_zero hn1, List.take_nil])
       have z1 : (0 : Int) ≤ (h1 : Int) := by omega
       have z2 : (h1 : Int) ≤ (cc : Int) := by omega
       clear hn1 hc1 e2
       obtain ⟨rfl, _, rfl⟩ := f1
       have HA2 : Hid (HalfOk wr.drew sy (some ⟨g2, 0, none⟩) h2 gc (l2.take h2)) := half_lo b2 HM2.out q2 r2 hZ (by decide) hhl2
       have z3 : (0 : Int) ≤ (h2 : Int) := by omega
       have z4 : (h2 : Int) ≤ (gc : Int) := by omega
       clear hZ b2
       go_region_held3 (fun W => True) (trivial) ((go_at_call 15; refine (HA0.out _ _ _ _ _ _ _ HYd.out.1 HYd.out.2 HA1.out HA2.out).mono ?_; rintro e w5 ⟨rfl, H5⟩))
       all_goals
        (go_wp2_with fail
         go_meet
         exact ⟨rfl, H5.out.1, H5.out.2.1, HIK.out.trans H5.out.2.2⟩)
     · simp only [Value.slice.injEq] at e1 f1
       obtain ⟨rfl, _, rfl⟩ := e1
       have HA1 : Hid (HalfOk wr.drew sy (some ⟨g1, 0, none⟩) h1 cc (l1.take h1)) := half_lo b1 HM1.out q1 r1 hZ (by decide) hhl1
       have z1 : (0 : Int) ≤ (h1 : Int) := by omega
       have z2 : (h1 : Int) ≤ (cc : Int) := by omega
       obtain ⟨rfl, hn2, hc2⟩ := f1
       have HA2 : Hid (HalfOk wr.drew sy none h2 gc (l2.take h2)) := half_none (by omega) (by omega) (by rw [List.eq_nil_of_length_eq_zero hn2, List.take_nil])
       have z3 : (0 : Int) ≤ (h2 : Int) := by omega
       have z4 : (h2 : Int) ≤ (gc : Int) := by omega
       clear hn2 hc2 f2
       clear hZ b1
       go_region_held3 (fun W => True) (trivial) ((go_at_call 15; refine (HA0.out _ _ _ _ _ _ _ HYd.out.1 HYd.out.2 HA1.out HA2.out).mono ?_; rintro e w5 ⟨rfl, H5⟩))
       all_goals
        (go_wp2_with fail
         go_meet
         exact ⟨rfl, H5.out.1, H5.out.2.1, HIK.out.trans H5.out.2.2⟩)
     · simp only [Value.slice.injEq] at e1 f1
       obtain ⟨rfl, _, rfl⟩ := e1
       have HA1 : Hid (HalfOk wr.drew sy (some ⟨g1, 0, none⟩) h1 cc (l1.take h1)) := half_lo b1 HM1.out q1 r1 hZ (by decide) hhl1
       have z1 : (0 : Int) ≤ (h1 : Int) := by omega
       have z2 : (h1 : Int) ≤ (cc : Int) := by omega
       obtain ⟨rfl, _, rfl⟩ := f1
       have HA2 : Hid (HalfOk wr.drew sy (some ⟨g2, 0, none⟩) h2 gc (l2.take h2)) := half_lo b2 HM2.out q2 r2 hZ (by decide) hhl2
       have z3 : (0 : Int) ≤ (h2 : Int) := by omega
       have z4 : (h2 : Int) ≤ (gc : Int) := by omega
       clear hZ b1 b2
       go_region_held3 (fun W => True) (trivial) ((go_at_call 15; refine (HA0.out _ _ _ _ _ _ _ HYd.out.1 HYd.out.2 HA1.out HA2.out).mono ?_; rintro e w5 ⟨rfl, H5⟩))
       all_goals
        (go_wp2_with fail
         go_meet
         exact ⟨rfl, H5.out.1, H5.out.2.1, HIK.out.trans H5.out.2.2⟩)
    case rest =>
     obtain ⟨hv, H13⟩ := hcut
     subst hv
     go_upto_region 14 with fail
     have HYe : Hid (ShW w1.heap.size wc.drew sy ey (.slice ad (min m 6) c) kl G1 G1 (tl.length + 1) ∧ Below w1.heap.size w1 wc.drew) := ⟨H13.out.1.below ((Below.refl _ _).drew), H13.out.2.1.drew⟩
     have HIE : Hid (IK wr wc.drew) := fun b cur fz h => H13.out.2.2 b cur fz h
     clear HA0 HYd
     go_cut [13] from 84 (fun v13 wx => v13 = .bool true ∧ Hid (ShW w1.heap.size wx sy ey (.slice ad (min m 6) c) kl X X (tl.length + 2) ∧ Below w1.heap.size w1 wx))
     case first =>
      have HL3 : Hid (LsW wc.drew (.slice cd l1.length cc) l1) := HL1.out.ik HIE.out
      have HL4 : Hid (LsW wc.drew (.slice gd l2.length gc) l2) := HL2.out.ik HIE.out
      obtain ⟨Z, hZ⟩ := HSB.out _ _ _ HYe.out.1
      rcases HL3.out with ⟨e1, e2⟩ | ⟨g1, c1, e1, p1, q1, r1, b1⟩ <;> rcases HL4.out with ⟨f1, f2⟩ | ⟨g2, c2, f1, p2, q2, r2, b2⟩
      · simp only [Value.slice.injEq] at e1 f1
        obtain ⟨rfl, hn1, hc1⟩ := e1
        have HA1 : Hid (HalfOk wc.drew sy none (l1.length - h1) (cc - h1) (l1.drop h1)) := half_none (by omega) (by omega) (by rw [List.eq_nil_of_length_eq_zero hn1, List.drop_nil])
        have z1 : (0 : Int) ≤ (h1 : Int) := by omega
        have z2 : (h1 : Int) ≤ (cc : Int) := by omega
        have z5b : (h1 : Int) ≤ (l1.length : Int) := by omega
        clear hn1 hc1 e2
        obtain ⟨rfl, hn2, hc2⟩ := f1
        have HA2 : Hid (HalfOk wc.drew sy none (l2.length - h2) (gc - h2) (l2.drop h2)) := half_none (by omega) (by omega) (by rw [List.eq_nil_of_length_eq_zero hn2, List.drop_nil])
        have z3 : (0 : Int) ≤ (h2 : Int) := by omega
        have z4 : (h2 : Int) ≤ (gc : Int) := by omega
        have z6b : (h2 : Int) ≤ (l2.length : Int) := by omega
        clear hn2 hc2 f2
        clear hZ
        go_region_held3 (fun W => True) (trivial) ((go_at_call 15; refine (HB0.out _ _ _ _ _ _ _ HYe.out.1 HYe.out.2 HA1.out HA2.out).mono ?_; rintro e w5 ⟨rfl, H5⟩))
        all_goals
         (go_wp2_with fail
          go_meet
          exact ⟨rfl, H5⟩)
      · simp only [Value.slice.injEq] at e1 f1
        obtain ⟨rfl, hn1, hc1⟩ := e1
        have HA1 : Hid (HalfOk wc.drew sy none (l1.length - h1) (cc - h1) (l1.drop h1)) := half_none (by omega) (by omega) (by rw [List.eq_nil_of_length_eq_zero hn1, List.drop_nil])
        have z1 : (0 : Int) ≤ (h1 : Int) := by omega
        have z2 : (h1 : Int) ≤ (cc : Int) := by omega
        have z5b : (h1 : Int) ≤ (l1.length : Int) := by omega
        clear hn1 hc1 e2
        obtain ⟨rfl, _, rfl⟩ := f1
        have HA2 : Hid (HalfOk wc.drew sy (some ⟨g2, h2, none⟩) (l2.length - h2) (gc - h2) (l2.drop h2)) := half_hi b2 HM2.out q2 r2 hZ (by decide) hhl2
        have z3 : (0 : Int) ≤ (h2 : Int) := by omega
        have z4 : (h2 : Int) ≤ (gc : Int) := by omega
        have z6 : ¬ gc = h2 := by have := hlt2 p2; omega
        have z6b : (h2 : Int) ≤ (l2.length : Int) := by omega
        clear hZ b2
        go_region_held3 (fun W => True) (trivial) ((go_at_call 15; refine (HB0.out _ _ _ _ _ _ _ HYe.out.1 HYe.out.2 HA1.out HA2.out).mono ?_; rintro e w5 ⟨rfl, H5⟩))
        all_goals
         (go_wp2_with fail
          go_meet
          exact ⟨rfl, H5⟩)
      · simp only [Value.slice.injEq] at e1 f1
        obtain ⟨rfl, _, rfl⟩ := e1
        have HA1 : Hid (HalfOk wc.drew sy (some ⟨g1, h1, none⟩) (l1.length - h1) (cc - h1) (l1.drop h1)) := half_hi b1 HM1.out q1 r1 hZ (by decide) hhl1
        have z1 : (0 : Int) ≤ (h1 : Int) := by omega
        have z2 : (h1 : Int) ≤ (cc : Int) := by omega
        have z5 : ¬ cc = h1 := by have := hlt1 p1; omega
        have z5b : (h1 : Int) ≤ (l1.length : Int) := by omega
        obtain ⟨rfl, hn2, hc2⟩ := f1
        have HA2 : Hid (HalfOk wc.drew sy none (l2.length - h2) (gc - h2) (l2.drop h2)) := half_none (by omega) (by omega) (by rw [List.eq_nil_of_length_eq_zero hn2, List.drop_nil])
        have z3 : (0 : Int) ≤ (h2 : Int) := by omega
        have z4 : (h2 : Int) ≤ (gc : Int) := by omega
        have z6b : (h2 : Int) ≤ (l2.length : Int) := by omega
        clear hn2 hc2 f2
        clear hZ b1
        go_region_held3 (fun W => True) (trivial) ((go_at_call 15; refine (HB0.out _ _ _ _ _ _ _ HYe.out.1 HYe.out.2 HA1.out HA2.out).mono ?_; rintro e w5 ⟨rfl, H5⟩))
        all_goals
         (go_wp2_with fail
          go_meet
          exact ⟨rfl, H5⟩)
      · simp only [Value.slice.injEq] at e1 f1
        obtain ⟨rfl, _, rfl⟩ := e1
        have HA1 : Hid (HalfOk wc.drew sy (some ⟨g1, h1, none⟩) (l1.length - h1) (cc - h1) (l1.drop h1)) := half_hi b1 HM1.out q1 r1 hZ (by decide) hhl1
        have z1 : (0 : Int) ≤ (h1 : Int) := by omega
        have z2 : (h1 : Int) ≤ (cc : Int) := by omega
        have z5 : ¬ cc = h1 := by have := hlt1 p1; omega
        have z5b : (h1 : Int) ≤ (l1.length : Int) := by omega
        obtain ⟨rfl, _, rfl⟩ := f1
        have HA2 : Hid (HalfOk wc.drew sy (some ⟨g2, h2, none⟩) (l2.length - h2) (gc - h2) (l2.drop h2)) := half_hi b2 HM2.out q2 r2 hZ (by decide) hhl2
        have z3 : (0 : Int) ≤ (h2 : Int) := by omega
        have z4 : (h2 : Int) ≤ (gc : Int) := by omega
        have z6 : ¬ gc = h2 := by have := hlt2 p2; omega
        have z6b : (h2 : Int) ≤ (l2.length : Int) := by omega
        clear hZ b1 b2
        go_region_held3 (fun W => True) (trivial) ((go_at_call 15; refine (HB0.out _ _ _ _ _ _ _ HYe.out.1 HYe.out.2 HA1.out HA2.out).mono ?_; rintro e w5 ⟨rfl, H5⟩))
        all_goals
         (go_wp2_with fail
          go_meet
          exact ⟨rfl, H5⟩)
     case rest =>
      obtain ⟨hv, H14⟩ := hcut
      subst hv
      clear HB0 HL1 HL2 HYe HIE HIK HSB HM1 HM2 hq1 hq2 hlt1 hlt2 HG1 H13 HYr hhl1 hhl2
      obtain ⟨wE, rfl⟩ : ∃ x, x = wc := ⟨_, rfl⟩
      have hXE := HX1.out.1.below H14.out.2
      have hYE := H14.out.1
      have HSX : Hid (ShW w.heap.size wE sx ex (.slice ad (min m 6) c) kl X X sl.length ∧ ShW w1.heap.size wE sy ey (.slice ad (min m 6) c) kl X X (tl.length + 2)) := ⟨hXE, hYE⟩
      obtain ⟨hdx, hdx32, hEx⟩ := export_any hXE.eng HGX.out
      obtain ⟨hdy, hdy32, hEy⟩ := export_any hYE.eng HGX.out
      obtain ⟨S, hSd⟩ : ∃ S : ByteArray, S = ⟨(Ex.body kl X ++ hdx).toArray⟩ := ⟨_, rfl⟩
      obtain ⟨T, hTd⟩ : ∃ T : ByteArray, T = ⟨(Ex.body kl X ++ hdy).toArray⟩ := ⟨_, rfl⟩
      rw [← hSd] at hEx
      rw [← hTd] at hEy
      have HEX : Hid (∀ W, Below wE.heap.size wE W → Calls Tryz.prog 23 #[.pointer (some ⟨ex, 0, none⟩)] W fun e w' => e = .returned (.string S) ∧ Below W.heap.size W w') := hEx
      have HEY : Hid (∀ W, Below wE.heap.size wE W → Calls Tryz.prog 23 #[.pointer (some ⟨ey, 0, none⟩)] W fun e w' => e = .returned (.string T) ∧ Below W.heap.size W w') := hEy
      have HAL : Hid (∀ W, Below wE.heap.size wE W → Calls Tryz.prog 26 #[.pointer (some ⟨sx, 0, none⟩), .pointer (some ⟨sy, 0, none⟩)] W fun e w' => e = .returned (.bool true) ∧ Below W.heap.size W w') := by
       intro W hW
       have a1 := HSX.out.1.below hW
       have a2 := HSX.out.2.below hW
       exact alike_any W _ sx ex _ _ sy ey _ kl X _ _ a1.shop a1.eng a2.shop a2.eng HGX.out (HKU.out W (HX1.out.2.trans ((H14.out.2.trans (hW.mono H14.out.2.size)).mono HX1.out.2.size))).2
      have HCE : Hid (∀ W, Below wE.heap.size wE W → W.cell? ⟨sx, 0, none⟩ = some (.pointer (some ⟨ex, 0, none⟩)) ∧ W.cell? ⟨sy, 0, none⟩ = some (.pointer (some ⟨ey, 0, none⟩)) ∧ sx < W.heap.size ∧ sy < W.heap.size) := by
       intro W hW
       have a1 := HSX.out.1.below hW
       have a2 := HSX.out.2.below hW
       exact ⟨a1.shop.cells.1, a2.shop.cells.1, (a1.cell (i := 0) (by omega)).2.2, (a2.cell (i := 0) (by omega)).2.2⟩
      have HBE : Hid (Below w.heap.size w wE) := HX1.out.2.trans (H14.out.2.mono HX1.out.2.size)
      obtain ⟨c1, c2, c3, c4⟩ := HCE.out wE (Below.refl _ _)
      have hbl := body_le kl X
      have hSs : S.size = (Ex.body kl X).length + 32 := by rw [hSd]; show (Ex.body kl X ++ hdx).toArray.size = _; simp [hdx32]
      have hTs : T.size = (Ex.body kl X).length + 32 := by rw [hTd]; show (Ex.body kl X ++ hdy).toArray.size = _; simp [hdy32]
      have hSL : S.extract 0 (Ex.body kl X).length = T.extract 0 (Ex.body kl X).length := by
       rw [hSd, hTd]
       exact cut_same _ _ _
      obtain ⟨N, hN⟩ : ∃ N, N = (Ex.body kl X).length + 32 := ⟨_, rfl⟩
      rw [← hN] at hSs hTs
      generalize (Ex.body kl X).length = L at hbl hSL hN
      have hn1 : (32 : Int) ≤ (N : Int) := by omega
      have hn2 : IntKind.i64.wrap ((N : Int) - 32) = (L : Int) := by
       rw [IntKind.wrap_i64]
       omega
      have hn3 : (0 : Int) ≤ (L : Int) := by omega
      have hn4 : (L : Int) ≤ (N : Int) := by omega
      clear hN hbl
      clear hXE hYE hEx hEy hSd hTd H14 HX1 HY2 HSX
      go_upto_region 18 with (first | (go_at_call 23; first | (refine (HEX.out wE (Below.refl _ _)).mono ?_; rintro e w5 ⟨rfl, hb5⟩; obtain ⟨d1, d2, d3, d4⟩ := HCE.out w5 hb5; clear HEX) | (refine (HEY.out w5 hb5).mono ?_; rintro e w6 ⟨rfl, hb6⟩; have hb7 : Below wE.heap.size wE w6 := hb5.trans (hb6.mono hb5.size))) | (go_at_call 26; refine (HAL.out w6 hb7).mono ?_; rintro e w8 ⟨rfl, hb8⟩))
      go_quiet (fail)
      have hb0 : Below wE.heap.size wE (w8.drewN nq) := (hb7.trans (hb8.mono hb7.size)).trans (show Below wE.heap.size w8 (w8.drewN nq) from ⟨rfl, rfl, rfl, Nat.le_refl _, fun _ _ => rfl⟩)
      have hb9 : Below w.heap.size w (w8.drewN nq) := HBE.out.trans (hb0.mono HBE.out.size)
      go_wp2_with fail
      go_ret
      exact ⟨rfl, hb9⟩
end Go.Proofs.YtdmicblafmhflaaGreatDoor
