/- axiomkeep.Shop.apply, walked. -/
import Derived.Test.YtdmicblafmhflaaGreatDoorC40
set_option linter.unusedSimpArgs false
set_option linter.unusedVariables false
namespace Go.Proofs.YtdmicblafmhflaaGreatDoor
open Go.RowKit Go.Maps
def IK (w W : World) : Prop := ∀ (b : Nat) (cur : Array Value) (fz : Nat × Nat), w.heap[b]? = some (.cells cur 3 fz) → W.heap[b]? = some (.cells cur 3 fz)
theorem IK.refl (w : World) : IK w w := fun _ _ _ h => h
theorem IK.trans {a b c : World} (h : IK a b) (k : IK b c) : IK a c := fun x cur fz e => k x cur fz (h x cur fz e)
theorem IK.of_below {w W : World} (h : Below w.heap.size w W) : IK w W := fun b cur fz e => by rw [h.block _ (lt_of_heap e)]; exact e
theorem IK.of_ekb {w W : World} (h : EKb w W) : IK w W := fun b cur fz e => h.heap e (offE_cells (by decide) (by decide))
theorem IK.set {w : World} {x : Nat} {Z : Array Value} {t : TypeId} {f : Nat × Nat} (hx : w.heap[x]? = some (.cells Z t f)) (ht : 3 ≠ t) (o : Nat) (v : Value) : IK w (w.setCell ⟨x, o, none⟩ v) := fun b cur fz e => (Kb.setCell w ⟨x, o, none⟩ v).heap e (by simpa using blk_ne e hx ht)
structure ApW (B : Nat) (w wr : World) (sb eg : Nat) (rv : Value) (kl : List Ax.KRule) (gs ge : Nat → Bool) (n : Nat) (sc : Array Value) : Prop where
 sh : ShW B wr sb eg rv kl gs ge n
 bel : Below B w wr
 box : wr.heap[w.heap.size]? = some (.cells sc 33 (0, 0))
 ik : IK w wr
theorem ApW.set {B : Nat} {w wr : World} {sb eg : Nat} {rv : Value} {kl : List Ax.KRule} {gs ge : Nat → Bool} {n : Nat} {sc : Array Value} (h : ApW B w wr sb eg rv kl gs ge n sc) (i : Nat) (b : Bool) : ApW B w (wr.setCell ⟨sb, 2 + i, none⟩ (.bool b)) sb eg rv kl (setG gs i b) ge n sc := by
 obtain ⟨h1, h2⟩ := h.sh.set i b
 have hs := h.sh.shop
 unfold ShopIs at hs
 have hne : w.heap.size ≠ sb := blk_ne h.box hs (by decide)
 refine ⟨h1, h.bel.trans h2, ?_, h.ik.trans (IK.set hs (by decide) _ _)⟩
 exact (Kb.setCell wr ⟨sb, 2 + i, none⟩ (.bool b)).heap h.box (by simpa using hne)
theorem ApW.drew {B : Nat} {w wr : World} {sb eg : Nat} {rv : Value} {kl : List Ax.KRule} {gs ge : Nat → Bool} {n : Nat} {sc : Array Value} (h : ApW B w wr sb eg rv kl gs ge n sc) (hB : B ≤ wr.heap.size) : ApW B w wr.drew sb eg rv kl gs ge n sc := by
 have hb : Below wr.heap.size wr wr.drew := (Below.refl _ _).drew
 exact ⟨h.sh.below hb, h.bel.drew, h.box, h.ik⟩
theorem ApW.scells {B : Nat} {w wr : World} {sb eg : Nat} {rv : Value} {kl : List Ax.KRule} {gs ge : Nat → Bool} {n : Nat} {x y : Value} (h : ApW B w wr sb eg rv kl gs ge n #[x, y]) : wr.cell? ⟨sb, 0, none⟩ = some (.pointer (some ⟨eg, 0, none⟩)) ∧ wr.cell? ⟨w.heap.size, 0, none⟩ = some x ∧ wr.cell? ⟨w.heap.size, 1, none⟩ = some y :=
 ⟨h.sh.shop.cells.1, by rw [cell_of_row _ _ _ _ _ _ h.box]; rfl, by rw [cell_of_row _ _ _ _ _ _ h.box]; rfl⟩
set_option maxRecDepth 100000 in
set_option maxHeartbeats 4000000 in
theorem kapply_any (K : Nat → Int) (B : Nat) (w : World) (sb eg : Nat) (rv : Value) (kl : List Ax.KRule) (gv : Nat → Bool) (n : Nat) (h : ShW B w sb eg rv kl gv gv n) (hn : n ≤ 2000000) (hK : ∀ W, Below B w W → Dg.Tab W K ∧ UTabs W)
 (a1 : Option Addr) (n1 c1 : Nat) (C : List Int) (hC : ∀ W, Below B w W → IK w W → IntsA W a1 n1 c1 C) (hC0 : ∀ g o, a1 = some ⟨g, o, none⟩ → 0 < C.length → g ≠ sb) (a2 : Option Addr) (n2 c2 : Nat) (G : List Int) (hG : ∀ W, Below B w W → IK w W → IntsA W a2 n2 c2 G) (hG0 : ∀ g o, a2 = some ⟨g, o, none⟩ → 0 < G.length → g ≠ sb) :
 Calls Tryz.prog 15 #[.pointer (some ⟨sb, 0, none⟩), .agg #[.slice a1 n1 c1, .slice a2 n2 c2]] w fun e w' => e = .returned (.bool true) ∧ ShW B w' sb eg rv kl (setAllG (setAllG gv (idxs C) true) (idxs G) false) (setAllG (setAllG gv (idxs C) true) (idxs G) false) (n + 1) ∧ Below B w w' ∧ IK w w' := by
 have hsbl := (h.cell (i := 0) (by omega)).2.2
 have hBs : B ≤ w.heap.size := by have := h.le; omega
 have hln1 := (hC w (Below.refl _ _) (IK.refl w)).len
 have hln2 := (hG w (Below.refl _ _) (IK.refl w)).len
 subst hln1
 subst hln2
 have hcap1 := (hC w (Below.refl _ _) (IK.refl w)).cap
 have hcap2 := (hG w (Below.refl _ _) (IK.refl w)).cap
 have hmx1 : c1 ≤ 9223372036854775807 := (hC w (Below.refl _ _) (IK.refl w)).max
 have hmx2 : c2 ≤ 9223372036854775807 := (hG w (Below.refl _ _) (IK.refl w)).max
 obtain ⟨w1, hw1⟩ : ∃ w1, w1 = w.alloc (.cells #[.slice a1 C.length c1, .slice a2 G.length c2] 33) := ⟨_, rfl⟩
 have hb1 : Below w.heap.size w w1 := by rw [hw1]; exact (Below.refl _ _).alloc (Nat.le_refl _) _
 have hbx : w1.heap[w.heap.size]? = some (.cells #[.slice a1 C.length c1, .slice a2 G.length c2] 33 (0, 0)) := by rw [hw1]; exact heap_alloc_new w _
 have hbxl := lt_of_heap hbx
 have hbB : ∀ W, Below w1.heap.size w1 W → Below B w W := fun W hW => (hb1.mono hBs).trans (hW.mono (by have := hb1.size; omega))
 have HCE : Hid (∀ W, Below w1.heap.size w1 W → W.cell? ⟨sb, 0, none⟩ = some (.pointer (some ⟨eg, 0, none⟩)) ∧ W.cell? ⟨w.heap.size, 0, none⟩ = some (.slice a1 C.length c1) ∧ W.cell? ⟨w.heap.size, 1, none⟩ = some (.slice a2 G.length c2)) := by
  intro W hW
  have h9 : W.heap[w.heap.size]? = some (.cells #[.slice a1 C.length c1, .slice a2 G.length c2] 33 (0, 0)) := by rw [hW.block _ hbxl]; exact hbx
  exact ⟨((h.shop.below hb1).below hW).cells.1, by rw [cell_of_row _ _ _ _ _ _ h9]; rfl, by rw [cell_of_row _ _ _ _ _ _ h9]; rfl⟩
 have HIK : Hid (∀ W, Below w1.heap.size w1 W → IK w W) := fun W hW => IK.of_below (hb1.trans (hW.mono hb1.size))
 have HFA : Hid (∀ a m c L W, (∀ W', Below B w W' → IK w W' → IntsA W' a m c L) → Below w1.heap.size w1 W → Calls Tryz.prog 39 #[.slice a m c] W fun e w' => ∃ fd fc l, e = .returned (.slice fd (List.length l) fc) ∧ FOK L fd fc l w' ∧ Below W.heap.size W w' ∧ Below w1.heap.size w1 w') := by
  intro a m c L W hL hW
  refine (kfacts_any W a m c L (hL W (hbB W hW) (HIK.out W hW))).mono ?_
  rintro e w' ⟨v, l, rfl, hF⟩
  obtain ⟨fd, fc, rfl, hf⟩ := fok_of hF
  exact ⟨fd, fc, l, rfl, hf, hF.bel, hW.trans (hF.bel.mono hW.size)⟩
 have HAP : Hid (∀ W fd1 fc1 l1 fd2 fc2 l2, Below w1.heap.size w1 W → FOK C fd1 fc1 l1 W → FOK G fd2 fc2 l2 W → Calls Tryz.prog 38 #[.pointer (some ⟨eg, 0, none⟩), .slice fd1 (List.length l1) fc1, .slice fd2 (List.length l2) fc2] W fun e w' => e = .returned (.int .i64 0) ∧ ApW B w w' sb eg rv kl gv (setAllG (setAllG gv (idxs C) true) (idxs G) false) (n + 1) #[.slice a1 C.length c1, .slice a2 G.length c2]) := by
  intro W fd1 fc1 l1 fd2 fc2 l2 hW h1 h2
  have hWB := hbB W hW
  have hS := (h.below hb1).below hW
  refine (apply_any K W B eg kl gv n hS.eng hn (hK W hWB).1 (hK W hWB).2 fd1 fc1 l1 fd2 fc2 l2 h1.inn h2.inn _ _ h1.idx h2.idx h1.len h2.len).mono ?_
  rintro e w' ⟨rfl, q1, q2, q3⟩
  refine ⟨rfl, ⟨hS.shop.ekb q2, q1, hS.le⟩, hWB.trans q3, ?_, (HIK.out W hW).trans (IK.of_ekb q2)⟩
  exact q2.heap (by rw [hW.block _ hbxl]; exact hbx) (offE_cells (by decide) (by decide))
 have HC : Hid (∀ W, Below B w W → IK w W → IntsA W a1 C.length c1 C) := hC
 have HG : Hid (∀ W, Below B w W → IK w W → IntsA W a2 G.length c2 G) := hG
 have HC0 : Hid (∀ g o, a1 = some ⟨g, o, none⟩ → 0 < C.length → g ≠ sb) := hC0
 have HG0 : Hid (∀ g o, a2 = some ⟨g, o, none⟩ → 0 < G.length → g ≠ sb) := hG0
 have hle := h.le
 have hB1 : Below w1.heap.size w1 w1 := Below.refl _ _
 generalize hge : setAllG (setAllG gv (idxs C) true) (idxs G) false = ge at HAP ⊢
 have HGE : Hid (setAllG (setAllG gv (idxs C) true) (idxs G) false = ge) := hge
 clear h hK hC hG hC0 hG0 hbx hb1 hbB hge HIK
 go_enter Tryz.func15, Tryz.ntmps15
 go_upto_region 1 with fail
 rw [← hw1]
 clear hw1
 go_cut [5] from 8 (fun v5 wx => v5 = .int .i64 0 ∧ Hid (ApW B w wx sb eg rv kl gv ge (n + 1) #[.slice a1 C.length c1, .slice a2 G.length c2]))
 case first =>
  go_region_held3 (fun W => W.cell? ⟨sb, 0, none⟩ = some (.pointer (some ⟨eg, 0, none⟩)) ∧ W.cell? ⟨w.heap.size, 0, none⟩ = some (.slice a1 C.length c1) ∧ W.cell? ⟨w.heap.size, 1, none⟩ = some (.slice a2 G.length c2)) (first | (exact HCE.out _ (by assumption)) | (exact HCE.out _ (Below.drew (by assumption))) | (exact ApW.scells (by assumption))) (first | (go_at_call 39; refine (HFA.out _ _ _ _ _ (by first | exact HC.out | exact HG.out) (by first | assumption | exact Below.drew (by assumption))).mono ?_; rintro e wn ⟨fd, fc, lf, rfl, hF, hBn, hB1n⟩) | (go_at_call 38; refine (HAP.out _ _ _ _ _ _ _ (by assumption) (by first | assumption | exact FOK.below (by assumption) (by assumption)) (by first | assumption | exact FOK.below (by assumption) (by assumption))).mono ?_; rintro e wn ⟨rfl, hAw⟩))
  all_goals
   (go_wp2_with fail
    go_meet
    exact ⟨rfl, by assumption⟩)
 case rest =>
  obtain ⟨hv5, hcw⟩ := hcut
  subst hv5
  have HE0 : Hid (ApW B w wc sb eg rv kl (setAllG gv ((idxs C).take 0) true) ge (n + 1) #[.slice a1 C.length c1, .slice a2 G.length c2]) := hcw.out
  clear hcw HCE HFA HAP hB1 hbxl
  go_wp2_with fail
  go_loopw [6] (fun i wr => ∃ (k : Nat), k ≤ C.length ∧ k ≤ 30 ∧ i = .int .i64 k ∧ ApW B w wr sb eg rv kl (setAllG gv ((idxs C).take k) true) ge (n + 1) #[.slice a1 C.length c1, .slice a2 G.length c2]) (fun i _ => 30 - (intOf i).toNat)
  case atStart => exact ⟨0, Nat.zero_le _, by omega, rfl, HE0.out⟩
  case round =>
   obtain ⟨k, hk, hk30, rfl, hA⟩ := hrel
   obtain ⟨y0, y1, y2⟩ := hA.scells
   have hyl := lt_of_heap hA.box
   have HA : Hid (ApW B w wr sb eg rv kl (setAllG gv ((idxs C).take k) true) ge (n + 1) #[.slice a1 C.length c1, .slice a2 G.length c2]) := hA
   clear HE0
   by_cases hlt : k < C.length
   · have hdk : decide ((k : Int) < (C.length : Int)) = true := decide_eq_true (by omega)
     by_cases h30 : k < 30
     · have hd30 : decide ((k : Int) < 30) = true := decide_eq_true (by omega)
       obtain ⟨g, o, rfl, ca, hfit⟩ := (HC.out wr hA.bel hA.ik).at_ k hlt
       have hne1 : g ≠ sb := HC0.out g o rfl (by omega)
       have hne2 : sb ≠ g := fun e => hne1 e.symm
       have hne3 : w.heap.size ≠ sb := by omega
       have hne4 : sb ≠ w.heap.size := by omega
       have hR36 : Ax.gpick C[k] 36 < 36 := Ax.gpick_lt _ _ (by decide)
       obtain ⟨l1, l2, l3⟩ := hA.sh.cell hR36
       have hwl : B ≤ wr.heap.size := by have := hA.bel.size; omega
       have HX : Hid (ApW B w (wr.drew.setCell ⟨sb, 2 + Ax.gpick C[k] 36, none⟩ (.bool true)) sb eg rv kl (setAllG gv ((idxs C).take (k + 1)) true) ge (n + 1) #[.slice (some ⟨g, o, none⟩) C.length c1, .slice a2 G.length c2]) := by
        rw [idxs_take hlt h30, setAllG_snoc]
        exact (hA.drew hwl).set _ _
       have hpk := fun W => pick_any C[k] 36 W hfit (by decide) (by decide)
       generalize setAllG gv ((idxs C).take k) true (Ax.gpick C[k] 36) = ob at l1
       clear hA hfit HA
       generalize Ax.gpick C[k] 36 = R at *
       generalize C[k] = cv at *
       have hRi0 : (0 : Int) ≤ (R : Int) := by omega
       have hRi : (R : Int) < 36 := by omega
       go_wp2_with fail
       go_region_held3 (fun W => W.cell? ⟨w.heap.size, 0, none⟩ = some (.slice (some ⟨g, o, none⟩) C.length c1) ∧ W.cell? ⟨g, o + k, none⟩ = some (.int .i64 cv)) (go_keep) ((go_at_call 27; refine (hpk _).mono ?_; rintro e w' ⟨rfl, hw⟩; subst hw))
       all_goals
        (go_wp2_with fail
         go_roundw
         case rel => exact ⟨k + 1, hlt, h30, by go_num, HX.out⟩
         case measure => (simp [intOf]; omega))
     · have hd30 : decide ((k : Int) < 30) = false := decide_eq_false (by omega)
       have HE2 : Hid (ApW B w wr sb eg rv kl (setAllG gv (idxs C) true) ge (n + 1) #[.slice a1 C.length c1, .slice a2 G.length c2]) := by
        have h9 := HA.out
        rw [idxs_all (by omega)] at h9
        exact h9
       clear hA HA
       go_wp2_with fail
       have HE3 : Hid (ApW B w wr sb eg rv kl (setAllG (setAllG gv (idxs C) true) ((idxs G).take 0) false) ge (n + 1) #[.slice a1 C.length c1, .slice a2 G.length c2]) := HE2.out
       clear HE2 y0 y1 y2 hyl
       go_loopw [7] (fun i wr => ∃ (k : Nat), k ≤ G.length ∧ k ≤ 30 ∧ i = .int .i64 k ∧ ApW B w wr sb eg rv kl (setAllG (setAllG gv (idxs C) true) ((idxs G).take k) false) ge (n + 1) #[.slice a1 C.length c1, .slice a2 G.length c2]) (fun i _ => 30 - (intOf i).toNat)
       case atStart => exact ⟨0, Nat.zero_le _, by omega, rfl, HE3.out⟩
       case round =>
        obtain ⟨k, hk, hk30, rfl, hA⟩ := hrel
        obtain ⟨y0, y1, y2⟩ := hA.scells
        have hyl := lt_of_heap hA.box
        have HA : Hid (ApW B w wr sb eg rv kl (setAllG (setAllG gv (idxs C) true) ((idxs G).take k) false) ge (n + 1) #[.slice a1 C.length c1, .slice a2 G.length c2]) := hA
        clear HE3
        by_cases hlt : k < G.length
        · have hdk : decide ((k : Int) < (G.length : Int)) = true := decide_eq_true (by omega)
          by_cases h30 : k < 30
          · have hd30 : decide ((k : Int) < 30) = true := decide_eq_true (by omega)
            obtain ⟨g, o, rfl, ca, hfit⟩ := (HG.out wr hA.bel hA.ik).at_ k hlt
            have hne1 : g ≠ sb := HG0.out g o rfl (by omega)
            have hne2 : sb ≠ g := fun e => hne1 e.symm
            have hne3 : w.heap.size ≠ sb := by omega
            have hne4 : sb ≠ w.heap.size := by omega
            have hR36 : Ax.gpick G[k] 36 < 36 := Ax.gpick_lt _ _ (by decide)
            obtain ⟨l1, l2, l3⟩ := hA.sh.cell hR36
            have hwl : B ≤ wr.heap.size := by have := hA.bel.size; omega
            have HX : Hid (ApW B w (wr.drew.setCell ⟨sb, 2 + Ax.gpick G[k] 36, none⟩ (.bool false)) sb eg rv kl (setAllG (setAllG gv (idxs C) true) ((idxs G).take (k + 1)) false) ge (n + 1) #[.slice a1 C.length c1, .slice (some ⟨g, o, none⟩) G.length c2]) := by
             rw [idxs_take hlt h30, setAllG_snoc]
             exact (hA.drew hwl).set _ _
            have hpk := fun W => pick_any G[k] 36 W hfit (by decide) (by decide)
            generalize setAllG (setAllG gv (idxs C) true) ((idxs G).take k) false (Ax.gpick G[k] 36) = ob at l1
            clear hA hfit HA
            generalize Ax.gpick G[k] 36 = R at *
            generalize G[k] = cv at *
            have hRi0 : (0 : Int) ≤ (R : Int) := by omega
            have hRi : (R : Int) < 36 := by omega
            go_wp2_with fail
            go_region_held3 (fun W => W.cell? ⟨w.heap.size, 1, none⟩ = some (.slice (some ⟨g, o, none⟩) G.length c2) ∧ W.cell? ⟨g, o + k, none⟩ = some (.int .i64 cv)) (go_keep) ((go_at_call 27; refine (hpk _).mono ?_; rintro e w' ⟨rfl, hw⟩; subst hw))
            all_goals
             (go_wp2_with fail
              go_roundw
              case rel => exact ⟨k + 1, hlt, h30, by go_num, HX.out⟩
              case measure => (simp [intOf]; omega))
          · have hd30 : decide ((k : Int) < 30) = false := decide_eq_false (by omega)
            have HE2 : Hid (ApW B w wr sb eg rv kl (setAllG (setAllG gv (idxs C) true) (idxs G) false) ge (n + 1) #[.slice a1 C.length c1, .slice a2 G.length c2]) := by
             have h9 := HA.out
             rw [idxs_all (by omega)] at h9
             exact h9
            clear hA HA
            go_wp2_with fail
            go_ret
            refine ⟨rfl, ?_⟩
            have h9 := HE2.out
            rw [HGE.out] at h9
            exact ⟨h9.sh, h9.bel, h9.ik⟩
        · have hdk : decide ((k : Int) < (G.length : Int)) = false := decide_eq_false (by omega)
          have HE2 : Hid (ApW B w wr sb eg rv kl (setAllG (setAllG gv (idxs C) true) (idxs G) false) ge (n + 1) #[.slice a1 C.length c1, .slice a2 G.length c2]) := by
           have h9 := HA.out
           rw [idxs_all (by omega)] at h9
           exact h9
          clear hA HA
          go_wp2_with fail
          go_ret
          refine ⟨rfl, ?_⟩
          have h9 := HE2.out
          rw [HGE.out] at h9
          exact ⟨h9.sh, h9.bel, h9.ik⟩
   · have hdk : decide ((k : Int) < (C.length : Int)) = false := decide_eq_false (by omega)
     have HE2 : Hid (ApW B w wr sb eg rv kl (setAllG gv (idxs C) true) ge (n + 1) #[.slice a1 C.length c1, .slice a2 G.length c2]) := by
      have h9 := HA.out
      rw [idxs_all (by omega)] at h9
      exact h9
     clear hA HA
     go_wp2_with fail
     have HE3 : Hid (ApW B w wr sb eg rv kl (setAllG (setAllG gv (idxs C) true) ((idxs G).take 0) false) ge (n + 1) #[.slice a1 C.length c1, .slice a2 G.length c2]) := HE2.out
     clear HE2 y0 y1 y2 hyl
     go_loopw [7] (fun i wr => ∃ (k : Nat), k ≤ G.length ∧ k ≤ 30 ∧ i = .int .i64 k ∧ ApW B w wr sb eg rv kl (setAllG (setAllG gv (idxs C) true) ((idxs G).take k) false) ge (n + 1) #[.slice a1 C.length c1, .slice a2 G.length c2]) (fun i _ => 30 - (intOf i).toNat)
     case atStart => exact ⟨0, Nat.zero_le _, by omega, rfl, HE3.out⟩
     case round =>
      obtain ⟨k, hk, hk30, rfl, hA⟩ := hrel
      obtain ⟨y0, y1, y2⟩ := hA.scells
      have hyl := lt_of_heap hA.box
      have HA : Hid (ApW B w wr sb eg rv kl (setAllG (setAllG gv (idxs C) true) ((idxs G).take k) false) ge (n + 1) #[.slice a1 C.length c1, .slice a2 G.length c2]) := hA
      clear HE3
      by_cases hlt : k < G.length
      · have hdk : decide ((k : Int) < (G.length : Int)) = true := decide_eq_true (by omega)
        by_cases h30 : k < 30
        · have hd30 : decide ((k : Int) < 30) = true := decide_eq_true (by omega)
          obtain ⟨g, o, rfl, ca, hfit⟩ := (HG.out wr hA.bel hA.ik).at_ k hlt
          have hne1 : g ≠ sb := HG0.out g o rfl (by omega)
          have hne2 : sb ≠ g := fun e => hne1 e.symm
          have hne3 : w.heap.size ≠ sb := by omega
          have hne4 : sb ≠ w.heap.size := by omega
          have hR36 : Ax.gpick G[k] 36 < 36 := Ax.gpick_lt _ _ (by decide)
          obtain ⟨l1, l2, l3⟩ := hA.sh.cell hR36
          have hwl : B ≤ wr.heap.size := by have := hA.bel.size; omega
          have HX : Hid (ApW B w (wr.drew.setCell ⟨sb, 2 + Ax.gpick G[k] 36, none⟩ (.bool false)) sb eg rv kl (setAllG (setAllG gv (idxs C) true) ((idxs G).take (k + 1)) false) ge (n + 1) #[.slice a1 C.length c1, .slice (some ⟨g, o, none⟩) G.length c2]) := by
           rw [idxs_take hlt h30, setAllG_snoc]
           exact (hA.drew hwl).set _ _
          have hpk := fun W => pick_any G[k] 36 W hfit (by decide) (by decide)
          generalize setAllG (setAllG gv (idxs C) true) ((idxs G).take k) false (Ax.gpick G[k] 36) = ob at l1
          clear hA hfit HA
          generalize Ax.gpick G[k] 36 = R at *
          generalize G[k] = cv at *
          have hRi0 : (0 : Int) ≤ (R : Int) := by omega
          have hRi : (R : Int) < 36 := by omega
          go_wp2_with fail
          go_region_held3 (fun W => W.cell? ⟨w.heap.size, 1, none⟩ = some (.slice (some ⟨g, o, none⟩) G.length c2) ∧ W.cell? ⟨g, o + k, none⟩ = some (.int .i64 cv)) (go_keep) ((go_at_call 27; refine (hpk _).mono ?_; rintro e w' ⟨rfl, hw⟩; subst hw))
          all_goals
           (go_wp2_with fail
            go_roundw
            case rel => exact ⟨k + 1, hlt, h30, by go_num, HX.out⟩
            case measure => (simp [intOf]; omega))
        · have hd30 : decide ((k : Int) < 30) = false := decide_eq_false (by omega)
          have HE2 : Hid (ApW B w wr sb eg rv kl (setAllG (setAllG gv (idxs C) true) (idxs G) false) ge (n + 1) #[.slice a1 C.length c1, .slice a2 G.length c2]) := by
           have h9 := HA.out
           rw [idxs_all (by omega)] at h9
           exact h9
          clear hA HA
          go_wp2_with fail
          go_ret
          refine ⟨rfl, ?_⟩
          have h9 := HE2.out
          rw [HGE.out] at h9
          exact ⟨h9.sh, h9.bel, h9.ik⟩
      · have hdk : decide ((k : Int) < (G.length : Int)) = false := decide_eq_false (by omega)
        have HE2 : Hid (ApW B w wr sb eg rv kl (setAllG (setAllG gv (idxs C) true) (idxs G) false) ge (n + 1) #[.slice a1 C.length c1, .slice a2 G.length c2]) := by
         have h9 := HA.out
         rw [idxs_all (by omega)] at h9
         exact h9
        clear hA HA
        go_wp2_with fail
        go_ret
        refine ⟨rfl, ?_⟩
        have h9 := HE2.out
        rw [HGE.out] at h9
        exact ⟨h9.sh, h9.bel, h9.ik⟩
end Go.Proofs.YtdmicblafmhflaaGreatDoor
/- axiomkeep.shop. -/
namespace Go.Proofs.YtdmicblafmhflaaGreatDoor
open Go.RowKit Go.Maps
theorem Eng.lower {w : World} {B B' eg : Nat} {kl : List Ax.KRule} {gv : Nat → Bool} {n : Nat} (h : Eng w B eg kl gv n) (hB : B' ≤ B) : Eng w B' eg kl gv n := by
 obtain ⟨pl, rd, rc, l, gm, G, hm, T, s, hd, lv, ln, lx, eb, hin, he, hG, hR, hH, hI, hT, hd32, hlog, hln, hpl9⟩ := h.at_
 exact ⟨⟨pl, rd, rc, l, gm, G, hm, T, s, hd, lv, ln, lx, eb, hin, he, hG, hR, hH, hI, hT, hd32, ownsRow_base hlog hB, hln, hpl9⟩, Nat.le_trans hB h.ge⟩
theorem shW_new {B : Nat} {w : World} {eg : Nat} {kl : List Ax.KRule} (rv : Value) (h : Eng w B eg kl (fun _ => false) 0) (hB : B ≤ w.heap.size) : ShW B (w.alloc (.cells (shCells eg rv (fun _ => false)) 43)) w.heap.size eg rv kl (fun _ => false) (fun _ => false) 0 :=
 ⟨heap_alloc_new _ _, h.below ((Below.refl _ _).alloc (Nat.le_refl _) _), hB⟩
set_option maxRecDepth 100000 in
set_option maxHeartbeats 4000000 in
theorem shop_any (K : Nat → Int) (w : World) (ad : Option Addr) (m c : Nat) (kl : List Ax.KRule) (hR : RulesAt w ad m c kl) (hK : Dg.Tab w K) :
 Calls Tryz.prog 13 #[.slice ad m c] w fun e w' => ∃ sb eg, e = .returned (.pointer (some ⟨sb, 0, none⟩)) ∧ ShW w.heap.size w' sb eg (.slice ad (min m 6) c) kl (fun _ => false) (fun _ => false) 0 ∧ Below w.heap.size w w' := by
 have HTX : Hid (Calls Tryz.prog 35 #[.slice ad m c] w fun e w' => e = .returned (.string (Ax.gtext kl)) ∧ Hid (Below w.heap.size w w')) := (text_any w ad m c kl hR (Ax.gtext kl) (text_bytes kl)).mono (fun e w' ⟨a, b, _⟩ => ⟨a, b⟩)
 have HNW : Hid (∀ W, Below w.heap.size w W → Calls Tryz.prog 34 #[.string (Ax.gtext kl)] W fun e w' => ∃ eg, e = .returned (.tuple #[.pointer (some ⟨eg, 0, none⟩), .int .i64 0, .int .i64 0]) ∧ Hid (Eng w' W.heap.size eg kl (fun _ => false) 0 ∧ Below W.heap.size W w')) := fun W hW => (new_any kl K W (hK.below hW)).mono (fun e w' ⟨eg, a, b⟩ => ⟨eg, a, b⟩)
 have hmc := hR.cap
 have hcm : c ≤ 9223372036854775807 := hR.max
 have HAD : Hid (6 < m → ∃ g o, ad = some ⟨g, o, none⟩) := fun h6 => by
  obtain ⟨g, o, e, _⟩ := hR.at_ 0 (by rw [hR.len]; omega)
  exact ⟨g, o, e⟩
 clear hR hK
 by_cases h6 : 6 < m
 · obtain ⟨g, o, rfl⟩ := HAD.out h6
   have hd6 : decide ((6 : Int) < (m : Int)) = true := decide_eq_true (by omega)
   rw [Nat.min_eq_right (by omega)]
   clear HAD
   go_enter Tryz.func13, Tryz.ntmps13
   go_wp2_with (first | (go_at_call 35; refine HTX.out.mono ?_; rintro e w1 ⟨rfl, HB1⟩) | (go_at_call 34; refine (HNW.out _ HB1.out).mono ?_; rintro e w2 ⟨eg, rfl, HN⟩))
   have hb2 : Below w.heap.size w w2 := HB1.out.trans (HN.out.2.mono HB1.out.size)
   go_ret
   refine ⟨w2.heap.size, eg, rfl, ?_, hb2.alloc hb2.size _⟩
   have hE : Eng w2 w.heap.size eg kl (fun _ => false) 0 := HN.out.1.lower HB1.out.size
   exact shW_new (.slice (some ⟨g, o, none⟩) 6 c) hE hb2.size
 · have hd6 : decide ((6 : Int) < (m : Int)) = false := decide_eq_false (by omega)
   rw [Nat.min_eq_left (by omega)]
   clear HAD
   go_enter Tryz.func13, Tryz.ntmps13
   go_wp2_with (first | (go_at_call 35; refine HTX.out.mono ?_; rintro e w1 ⟨rfl, HB1⟩) | (go_at_call 34; refine (HNW.out _ HB1.out).mono ?_; rintro e w2 ⟨eg, rfl, HN⟩))
   have hb2 : Below w.heap.size w w2 := HB1.out.trans (HN.out.2.mono HB1.out.size)
   go_ret
   refine ⟨w2.heap.size, eg, rfl, ?_, hb2.alloc hb2.size _⟩
   have hE : Eng w2 w.heap.size eg kl (fun _ => false) 0 := HN.out.1.lower HB1.out.size
   exact shW_new (.slice ad m c) hE hb2.size
end Go.Proofs.YtdmicblafmhflaaGreatDoor
/- axiomkeep.Least, walked. -/
namespace Go.Proofs.YtdmicblafmhflaaGreatDoor
open Go.RowKit Go.Maps
structure StepsA (w : World) (ad : Option Addr) (n c : Nat) (l : List (List Int × List Int)) : Prop where
 len : l.length = n
 cap : n ≤ c
 max : c ≤ maxLen
 at_ : ∀ k (h : k < l.length), ∃ g o, ad = some ⟨g, o, none⟩ ∧ ∃ a1 n1 c1 a2 n2 c2, w.cell? ⟨g, o + k * 2, none⟩ = some (.slice a1 n1 c1) ∧ w.cell? ⟨g, o + k * 2 + 1, none⟩ = some (.slice a2 n2 c2) ∧ IntsA w a1 n1 c1 (l[k]).1 ∧ IntsA w a2 n2 c2 (l[k]).2
theorem IntsA.lt {w : World} {ad : Option Addr} {n c : Nat} {l : List Int} (h : IntsA w ad n c l) : ∀ g o, ad = some ⟨g, o, none⟩ → 0 < l.length → g < w.heap.size := by
 intro g o e hl
 obtain ⟨g', o', e', ca, _⟩ := h.at_ 0 hl
 rw [e] at e'
 simp only [Option.some.injEq, Addr.mk.injEq, and_true] at e'
 obtain ⟨rfl, rfl⟩ := e'
 exact block_lt_of_cell ca
def gvStep (gv : Nat → Bool) (x : List Int × List Int) : Nat → Bool := setAllG (setAllG gv (idxs x.1) true) (idxs x.2) false
def gvAll (l : List (List Int × List Int)) : Nat → Bool := l.foldl gvStep (fun _ => false)
theorem gvAll_snoc (l : List (List Int × List Int)) (x : List Int × List Int) : gvAll (l ++ [x]) = gvStep (gvAll l) x := by simp [gvAll]
theorem gvStep_ok {gv : Nat → Bool} (h : GvOk gv) (x : List Int × List Int) : GvOk (gvStep gv x) := GvOk.setAll _ (GvOk.setAll _ h (idxs_lt _)) (idxs_lt _)
theorem gvFold_ok : ∀ (l : List (List Int × List Int)) {gv : Nat → Bool}, GvOk gv → GvOk (l.foldl gvStep gv)
 | [], _, h => h
 | x :: l, _, h => gvFold_ok l (gvStep_ok h x)
theorem gvAll_ok (l : List (List Int × List Int)) : GvOk (gvAll l) := gvFold_ok l (fun _ _ => rfl)
end Go.Proofs.YtdmicblafmhflaaGreatDoor
