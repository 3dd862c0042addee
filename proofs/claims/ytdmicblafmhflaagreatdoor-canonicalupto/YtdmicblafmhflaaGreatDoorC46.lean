/- state.State.Bytes and Engine.Export, walked. -/
import Derived.Test.YtdmicblafmhflaaGreatDoorC45
set_option linter.unusedSimpArgs false
set_option linter.unusedVariables false
namespace Go.Proofs.YtdmicblafmhflaaGreatDoor
open Go.Shelf Go.RowKit Go.Maps
theorem nm_small (H : Nat → Bool) : ∀ x, x ∈ Ex.nms H → x.size ≤ 1000 := by
 intro x hx
 have h := (Ex.mem_nms H x).1 hx
 unfold Ex.allN at h
 obtain ⟨p, _, h⟩ := List.mem_flatMap.1 h
 obtain ⟨j, _, h⟩ := List.mem_flatMap.1 h
 exact Nat.le_trans (dat_names j x h).2 (by decide)
theorem facts_le (kl : List Ax.KRule) (gv : Nat → Bool) (p : ByteArray) : (Ex.facts kl gv p).length ≤ 10000 := by
 unfold Ex.facts
 have h1 := holdP_le (En.leastN (En.nRules kl) gv) p
 have h2 := flat_le (Ex.fact kl gv) 100 (holdP (En.leastN (En.nRules kl) gv) p) (fun x _ => fact_le kl gv x)
 have h3 : (Rc.numB (holdP (En.leastN (En.nRules kl) gv) p).length).length ≤ 10 := num_le (by omega)
 rw [List.length_append]
 omega
structure ByW (w0 : World) (cs : Array Value) (w' : World) (nd : Option Addr) (nl nc : Nat) (nm : List ByteArray) (v : Value) (n : Nat) (xs : List Value) : Prop where
 own : w'.ownsRow w0.heap.size 5 1 v n xs
 bel : Below w0.heap.size w0 w'
 box : w'.heap[w0.heap.size]? = some (.cells cs 107 (0, 0))
 nam : w'.ownsRow 0 9 1 (.slice nd nl nc) nl (strCells nm)
theorem ByW.below {w0 : World} {cs : Array Value} {w1 W : World} {nd : Option Addr} {nl nc : Nat} {nm : List ByteArray} {v : Value} {n : Nat} {xs : List Value} (h : ByW w0 cs w1 nd nl nc nm v n xs) (hb : Below w1.heap.size w1 W) : ByW w0 cs W nd nl nc nm v n xs :=
 ⟨ownsRow_below h.own hb, h.bel.trans (hb.mono h.bel.size), by rw [hb.block _ (lt_of_heap h.box)]; exact h.box, ownsRow_below h.nam hb⟩
theorem ByW.step {w0 : World} {cs : Array Value} {W w2 : World} {nd : Option Addr} {nl nc : Nat} {nm : List ByteArray} {v v2 : Value} {n n2 : Nat} {xs ys : List Value} (h : ByW w0 cs W nd nl nc nm v n xs) (q1 : w2.ownsRow w0.heap.size 5 1 v2 n2 ys) (q2 : Below w0.heap.size W w2) (q3 : Lib.OthersKept 5 none W w2) : ByW w0 cs w2 nd nl nc nm v2 n2 ys :=
 ⟨q1, h.bel.trans q2, q3 _ _ h.box (by simp) (fun c fz e => by simp at e), ownsRow_others h.nam q3 (by decide)⟩
theorem ByW.len {w0 : World} {cs : Array Value} {w' : World} {nd : Option Addr} {nl nc : Nat} {nm : List ByteArray} {v : Value} {n : Nat} {xs : List Value} (h : ByW w0 cs w' nd nl nc nm v n xs) : xs.length = n := by have := h.own.1; omega
set_option maxRecDepth 100000 in
set_option maxHeartbeats 4000000 in
theorem bytes_any (w : World) (kl : List Ax.KRule) (gv : Nat → Bool) (rd : Option Addr) (rn rc gm hm : Nat) (hd : List UInt8) (hd32 : hd.length = 32) (hpl : (Ax.gtext kl).size ≤ 100000) (hS : StA w kl gv (.slice rd rn rc) gm hm) :
 Calls Tryz.prog 44 #[.agg (stCells (Ax.gtext kl) (.slice rd rn rc) gm hm hd)] w fun e w' => e = .returned (.string ⟨(Ex.body kl gv ++ hd).toArray⟩) ∧ Below w.heap.size w w' := by
 obtain ⟨i0, hi0, hz0, hz1, hz2⟩ := info_parts Tryz.infoByte
 have HI : Hid (Tryz.prog.info? 5 = some i0) := hi0
 have H0 : Hid (i0.zero = some (.int .u8 0)) := hz0
 have H1 : Hid (i0.size = 1) := hz1
 have H2 : Hid (i0.bytes = 1) := hz2
 clear hi0 hz0 hz1 hz2
 have HS : Hid (StA w kl gv (.slice rd rn rc) gm hm) := hS
 obtain ⟨cs, hcs⟩ : ∃ cs, cs = stCells (Ax.gtext kl) (.slice rd rn rc) gm hm hd := ⟨_, rfl⟩
 have hcz : cs.size = 36 := by rw [hcs]; exact stCells_size _ _ _ _ hd32
 obtain ⟨wB, hwB⟩ : ∃ wB, wB = w.alloc (.cells cs 107) := ⟨_, rfl⟩
 have hbB : Below w.heap.size w wB := by rw [hwB]; exact (Below.refl _ _).alloc (Nat.le_refl _) _
 have hgB : wB.heap[w.heap.size]? = some (.cells cs 107 (0, 0)) := by rw [hwB]; exact heap_alloc_new w _
 have HCE : Hid (∀ W : World, W.heap[w.heap.size]? = some (.cells cs 107 (0, 0)) → W.cell? ⟨w.heap.size, 0, none⟩ = some (.string (Ax.gtext kl)) ∧ W.cell? ⟨w.heap.size, 1, none⟩ = some (.slice rd rn rc) ∧ w.heap.size < W.heap.size ∧ ∀ (j : Nat) u, (Rc.u8s hd)[j]? = some u → W.cell? ((⟨w.heap.size, 4, none⟩ : Addr).add j) = some u) := by
  intro W hW
  refine ⟨by rw [cell_of_row _ _ _ _ _ _ hW, hcs]; rfl, by rw [cell_of_row _ _ _ _ _ _ hW, hcs]; rfl, lt_of_heap hW, ?_⟩
  intro j u hu
  rw [Addr.add_mid, cell_of_row _ _ _ _ _ _ hW, hcs]
  unfold stCells
  rw [List.getElem?_toArray, List.getElem?_append_right (by simp)]
  simpa using hu
 generalize hN : Ex.nms (En.leastN (En.nRules kl) gv) = nm
 have hnl9 : nm.length ≤ 324 := by rw [← hN]; exact Ex.nms_len _
 have HSM : Hid (∀ x, x ∈ nm → x.size ≤ 1000) := by rw [← hN]; exact nm_small _
 have HNM : Hid (Calls Tryz.prog 76 #[.agg cs] wB fun e w1 => ∃ nd nc, e = .returned (.slice nd nm.length nc) ∧ Hid (ByW w cs w1 nd nm.length nc nm (.slice none 0 0) 0 [])) := by
  have h9 := names_any wB kl gv rd rn rc gm hm hd (hS.below hbB)
  rw [← hcs, hN] at h9
  refine h9.mono ?_
  rintro e w1 ⟨nd, nc, rfl, q1, q2⟩
  exact ⟨nd, nc, rfl, World.ownsRow_nil _ _ _ _, hbB.trans (q2.mono hbB.size), by rw [q2.block _ (lt_of_heap hgB)]; exact hgB, ownsRow_base q1 (Nat.zero_le _)⟩
 have HTX : Hid (∀ W nd nc v n xs t, ByW w cs W nd nm.length nc nm v n xs → n ≤ 1000000000 → t.size ≤ 100000 → Calls Tryz.prog 77 #[v, .string t] W fun e w' => ∃ v' n', e = .returned v' ∧ Hid (ByW w cs w' nd nm.length nc nm v' n' (xs ++ Rc.u8s (Rc.textB t)) ∧ Lib.OthersKept 5 none W w')) := by
  intro W nd nc v n xs t h hn ht
  refine (appendText_any w.heap.size W v n xs t h.own h.bel.size (by omega) (by omega)).mono ?_
  rintro e w' ⟨v', n', rfl, q1, q2, q3⟩
  exact ⟨v', n', rfl, h.step q1 q2 q3, q3⟩
 have HNU : Hid (∀ W nd nc v n xs k, ByW w cs W nd nm.length nc nm v n xs → n ≤ 1000000000 → k ≤ 100000 → Calls Tryz.prog 78 #[v, .int .i64 (k : Nat)] W fun e w' => ∃ v' n', e = .returned v' ∧ Hid (ByW w cs w' nd nm.length nc nm v' n' (xs ++ Rc.u8s (Rc.numB k)))) := by
  intro W nd nc v n xs k h hn hk
  refine (appendNumber_any w.heap.size W v n xs k h.own h.bel.size (by omega) (by omega)).mono ?_
  rintro e w' ⟨v', n', rfl, q1, q2, q3⟩
  exact ⟨v', n', rfl, h.step q1 q2 q3⟩
 have HPR : Hid (∀ W nd nc v n xs, ByW w cs W nd nm.length nc nm v n xs → Calls Tryz.prog 59 #[.agg #[.string (Ax.gtext kl), .slice rd rn rc]] W fun e w' => ∃ qd qc, e = .returned (.slice qd 3 qc) ∧ Hid (ByW w cs w' nd nm.length nc nm v n xs ∧ w'.ownsRow 0 112 2 (.slice qd 3 qc) 3 (predCells gQ))) := by
  intro W nd nc v n xs h
  refine (hS.preds W h.bel).mono ?_
  rintro e w' ⟨qd, qc, rfl, q1, q2⟩
  exact ⟨qd, qc, rfl, h.below q2, ownsRow_base q1 (Nat.zero_le _)⟩
 have HFA : Hid (∀ W nd nc v n xs pn pp, ByW w cs W nd nm.length nc nm v n xs → n ≤ 1000000000 → (pn, pp) ∈ gQ → Calls Tryz.prog 79 #[.agg cs, v, .agg #[.string pn, .int .i64 (pp : Nat)], .slice nd nm.length nc] W fun e w' => ∃ v' n', e = .returned v' ∧ Hid (ByW w cs w' nd nm.length nc nm v' n' (xs ++ Rc.u8s (Ex.facts kl gv pn)) ∧ Lib.OthersKept 5 none W w')) := by
  intro W nd nc v n xs pn pp h hn hp
  have h9 := sFacts_any w kl gv rd rn rc gm hm hd hS W h.bel v n xs h.own (by omega) pn pp hp nd nm.length nc (by rw [hN]; exact h.nam)
  rw [← hcs] at h9
  refine h9.mono ?_
  rintro e w' ⟨v', n', rfl, q⟩
  exact ⟨v', n', rfl, h.step q.own q.bel q.oth, q.oth⟩
 have HBD : Hid (Ex.body kl gv = Rc.textB (Ax.gtext kl) ++ Rc.numB nm.length ++ nm.flatMap Rc.textB ++ gQ.flatMap fun p => Ex.facts kl gv p.1) := by
  have e : Ex.body kl gv = Rc.textB (Ax.gtext kl) ++ Rc.numB nm.length ++ nm.flatMap Rc.textB ++ gQ.flatMap fun p => Ex.facts kl gv p.1 := by
   unfold Ex.body
   rw [hN]
  exact e
 have HFL : Hid (∀ p, (Ex.facts kl gv p).length ≤ 10000) := facts_le kl gv
 generalize Ex.body kl gv = bd at HBD ⊢
 generalize Ax.gtext kl = pt at *
 obtain ⟨t0, t1, t2, t3⟩ := HCE.out wB hgB
 have hts : (Rc.textB pt).length ≤ 100010 := by
  unfold Rc.textB
  have h9 : (Rc.numB pt.size).length ≤ 10 := Rc.numB_len 10 _ (by
   have : (128 : Nat) ^ 10 = 1180591620717411303424 := by decide
   omega) (by decide)
  rw [List.length_append]
  simp
  omega
 have hnb : (Rc.numB nm.length).length ≤ 10 := num_le (by omega)
 rw [← hcs]
 clear hcs hS hN hbB t3
 go_enter Tryz.func44, Tryz.ntmps44
 go_upto_region 1 with fail
 rw [← hwB]
 clear hwB
 go_wp2_with (first | (refine wpList_load_row rfl _ _ rfl w.heap.size rfl _ _ _ _ hgB Tryz.underlying107 rfl (by rw [hcz]; kernel_rfl) ?_) | (go_at_call 76; refine HNM.out.mono ?_; rintro e w1 ⟨nd, nc, rfl, HW1⟩; obtain ⟨u0, u1, u2, _⟩ := HCE.out w1 HW1.out.box) | (go_at_call 77; refine (HTX.out _ _ _ _ _ _ _ HW1.out (by omega) hpl).mono ?_; rintro e w2 ⟨v2, n2, rfl, HW2⟩; have hn2 : n2 ≤ 1000000 := (by have h9 := HW2.out.1.len; rw [List.nil_append, Rc.u8s_len] at h9; omega)) | (go_at_call 78; refine (HNU.out _ _ _ _ _ _ _ HW2.out.1 (by omega) (by omega)).mono ?_; rintro e w3 ⟨v3, n3, rfl, HW3⟩))
 have HW4 : Hid (ByW w cs w3 nd nm.length nc nm v3 n3 (Rc.u8s (Rc.textB pt ++ Rc.numB nm.length ++ (nm.take 0).flatMap Rc.textB))) := by
  have h9 := HW3.out
  have e : [] ++ Rc.u8s (Rc.textB pt) ++ Rc.u8s (Rc.numB nm.length) = Rc.u8s (Rc.textB pt ++ Rc.numB nm.length ++ (nm.take 0).flatMap Rc.textB) := by simp [Rc.u8s]
  rw [e] at h9
  exact h9
 clear HNM HW1 HW2 HW3 u0 u1 u2 t0 t1 t2 HNU hgB
 have HTL : Hid (∀ k, (Rc.textB pt ++ Rc.numB nm.length ++ (nm.take k).flatMap Rc.textB).length ≤ 10000000) := by
  intro k
  have h1 := Rc.flat_len Rc.textB 1010 (nm.take k) (fun a ha => Rc.textB_len a (HSM.out a (List.mem_of_mem_take ha)))
  have h2 : (nm.take k).length ≤ 324 := by rw [List.length_take]; omega
  rw [List.length_append, List.length_append]
  omega
 go_loopw [4, 21] (fun b i wr => ∃ (k n : Nat), k ≤ nm.length ∧ i = .int .i64 k ∧ ByW w cs wr nd nm.length nc nm b n (Rc.u8s (Rc.textB pt ++ Rc.numB nm.length ++ (nm.take k).flatMap Rc.textB))) (fun _ i _ => nm.length - (intOf i).toNat)
 case atStart => exact ⟨0, n3, Nat.zero_le _, rfl, HW4.out⟩
 case round =>
  obtain ⟨k, n, hk, rfl, hW⟩ := hrel
  obtain ⟨ad, ac, ha0⟩ := ownsRow_shape hW.own
  subst ha0
  clear HW4
  have hn9 : n ≤ 10000000 := by
   have h1 := hW.len
   have h2 := HTL.out k
   rw [Rc.u8s_len] at h1
   omega
  have HW : Hid (ByW w cs wr nd nm.length nc nm (.slice ad n ac) n (Rc.u8s (Rc.textB pt ++ Rc.numB nm.length ++ (nm.take k).flatMap Rc.textB))) := hW
  by_cases hlt : k < nm.length
  · obtain ⟨g, rfl, hg, hc, hcs⟩ := row_cells hW.nam (by omega)
    have ca : wr.cell? ⟨g, k, none⟩ = some (.string nm[k]) := hcs k _ (by rw [strCells, List.getElem?_map, List.getElem?_eq_getElem hlt]; rfl)
    have HNX : Hid (Rc.u8s (Rc.textB pt ++ Rc.numB nm.length ++ (nm.take (k + 1)).flatMap Rc.textB) = Rc.u8s (Rc.textB pt ++ Rc.numB nm.length ++ (nm.take k).flatMap Rc.textB) ++ Rc.u8s (Rc.textB nm[k])) := by
     have e0 : nm.take (k + 1) = nm.take k ++ [nm[k]] := by rw [List.take_add_one, List.getElem?_eq_getElem hlt]; rfl
     have e1 : Rc.u8s (Rc.textB pt ++ Rc.numB nm.length ++ (nm.take (k + 1)).flatMap Rc.textB) = Rc.u8s (Rc.textB pt ++ Rc.numB nm.length ++ (nm.take k).flatMap Rc.textB) ++ Rc.u8s (Rc.textB nm[k]) := by
      rw [e0, List.flatMap_append, ← Rc.u8s_app]
      simp
     exact e1
    have hsz : (nm[k]).size ≤ 100000 := Nat.le_trans (HSM.out _ (List.getElem_mem hlt)) (by decide)
    generalize nm[k] = y at ca HNX hsz
    have HT2 : Hid (Calls Tryz.prog 77 #[.slice ad n ac, .string y] wr fun e w' => ∃ v' n', e = .returned v' ∧ Hid (ByW w cs w' (some ⟨g, 0, none⟩) nm.length nc nm v' n' (Rc.u8s (Rc.textB pt ++ Rc.numB nm.length ++ (nm.take (k + 1)).flatMap Rc.textB)))) := by
     refine (HTX.out wr _ _ _ _ _ y hW (by omega) hsz).mono ?_
     rintro e w' ⟨v', n', rfl, H9⟩
     rw [HNX.out]
     exact ⟨v', n', rfl, H9.out.1⟩
    clear hW hcs HW HTX HFA HPR HNX HCE
    go_wp2_with (go_at_call 77; refine HT2.out.mono ?_; rintro e w5 ⟨v5, n5, rfl, HW5⟩)
    go_roundw
    case rel => exact ⟨k + 1, n5, hlt, by go_num, HW5.out⟩
    case measure => simp [intOf]; omega
  · have HWE : Hid (ByW w cs wr nd nm.length nc nm (.slice ad n ac) n (Rc.u8s (Rc.textB pt ++ Rc.numB nm.length ++ nm.flatMap Rc.textB))) := by
     have e0 : nm.take k = nm := List.take_of_length_le (by omega)
     rw [e0] at hW
     exact hW
    obtain ⟨u0, u1, u2, _⟩ := HCE.out wr hW.box
    obtain ⟨wA, rfl⟩ : ∃ x, x = wr := ⟨_, rfl⟩
    have HP2 : Hid (Calls Tryz.prog 59 #[.agg #[.string pt, .slice rd rn rc]] wA fun e w' => ∃ qd qc, e = .returned (.slice qd 3 qc) ∧ Hid (ByW w cs w' nd nm.length nc nm (.slice ad n ac) n (Rc.u8s (Rc.textB pt ++ Rc.numB nm.length ++ nm.flatMap Rc.textB)) ∧ w'.ownsRow 0 112 2 (.slice qd 3 qc) 3 (predCells gQ))) := HPR.out wA _ _ _ _ _ HWE.out
    generalize hpre : Rc.textB pt ++ Rc.numB nm.length ++ nm.flatMap Rc.textB = pre at HBD HP2
    have hpre9 : pre.length ≤ 10000000 := by
     have h9 := HTL.out nm.length
     rw [List.take_length, hpre] at h9
     exact h9
    clear hW HW HWE HTX HPR HTL hpre
    go_wp2_with (go_at_call 59; refine HP2.out.mono ?_; rintro e w5 ⟨qd, qc, rfl, H5⟩)
    clear u0 u1 u2
    go_loopw [4, 33] (fun b i wr => ∃ (q n : Nat), q ≤ 3 ∧ i = .int .i64 q ∧ ByW w cs wr nd nm.length nc nm b n (Rc.u8s (pre ++ (gQ.take q).flatMap fun p => Ex.facts kl gv p.1)) ∧ Lib.OthersKept 5 none w5 wr) (fun _ i _ => 3 - (intOf i).toNat)
    case atStart => exact ⟨0, n, Nat.zero_le _, rfl, by simpa using H5.out.1, Lib.OthersKept.refl _ _ _⟩
    case round =>
     obtain ⟨q, m, hq, rfl, hW, ho⟩ := hrel
     obtain ⟨bd', bc, hb0⟩ := ownsRow_shape hW.own
     subst hb0
     have hm9 : m ≤ 20000000 := by
      have h1 := hW.len
      have h2 := flat_le (fun p : Pd.Pr => Ex.facts kl gv p.1) 10000 (gQ.take q) (fun p _ => HFL.out p.1)
      have h3 : (gQ.take q).length ≤ 3 := by rw [List.length_take]; exact Nat.min_le_right _ _
      rw [Rc.u8s_len, List.length_append] at h1
      omega
     have HW : Hid (ByW w cs wr nd nm.length nc nm (.slice bd' m bc) m (Rc.u8s (pre ++ (gQ.take q).flatMap fun p => Ex.facts kl gv p.1))) := hW
     have HO : Hid (Lib.OthersKept 5 none w5 wr) := ho
     by_cases hlq : q < 3
     · have hlq2 : q < gQ.length := hlq
       obtain ⟨g2, rfl, hg2, hc2, hcs2⟩ := row_cells (ownsRow_others H5.out.2 ho (by decide)) (by omega)
       have c0 := hcs2 _ _ (predCells_get gQ q hlq2).1
       have c1 := hcs2 _ _ (predCells_get gQ q hlq2).2
       have hpm : ((gQ[q]).1, (gQ[q]).2) ∈ gQ := List.getElem_mem hlq2
       have HNX : Hid (Rc.u8s (pre ++ (gQ.take (q + 1)).flatMap fun p => Ex.facts kl gv p.1) = Rc.u8s (pre ++ (gQ.take q).flatMap fun p => Ex.facts kl gv p.1) ++ Rc.u8s (Ex.facts kl gv (gQ[q]).1)) := by
        have e0 : gQ.take (q + 1) = gQ.take q ++ [gQ[q]] := by rw [List.take_add_one, List.getElem?_eq_getElem hlq2]; rfl
        have e1 : Rc.u8s (pre ++ (gQ.take (q + 1)).flatMap fun p => Ex.facts kl gv p.1) = Rc.u8s (pre ++ (gQ.take q).flatMap fun p => Ex.facts kl gv p.1) ++ Rc.u8s (Ex.facts kl gv (gQ[q]).1) := by
         rw [e0, List.flatMap_append, ← Rc.u8s_app]
         simp
        exact e1
       generalize (gQ[q]).1 = pn at c0 hpm HNX
       generalize (gQ[q]).2 = pp at c1 hpm
       obtain ⟨wP, hwP⟩ : ∃ wP, wP = wr.alloc (.cells #[.string pn, .int .i64 (pp : Nat)] 112) := ⟨_, rfl⟩
       have hbP : Below wr.heap.size wr wP := by rw [hwP]; exact (Below.refl _ _).alloc (Nat.le_refl _) _
       have hgP : wP.heap[wr.heap.size]? = some (.cells #[.string pn, .int .i64 (pp : Nat)] 112 (0, 0)) := by rw [hwP]; exact heap_alloc_new wr _
       have p0 : wP.cell? ⟨wr.heap.size, 0, none⟩ = some (.string pn) := by rw [cell_of_row _ _ _ _ _ _ hgP]; rfl
       have p1 : wP.cell? ⟨wr.heap.size, 1, none⟩ = some (.int .i64 (pp : Nat)) := by rw [cell_of_row _ _ _ _ _ _ hgP]; rfl
       have hWP := hW.below hbP
       have hbx := hWP.box
       have HF2 : Hid (Calls Tryz.prog 79 #[.agg cs, .slice bd' m bc, .agg #[.string pn, .int .i64 (pp : Nat)], .slice nd nm.length nc] wP fun e w' => ∃ v' n', e = .returned v' ∧ Hid (ByW w cs w' nd nm.length nc nm v' n' (Rc.u8s (pre ++ (gQ.take (q + 1)).flatMap fun p => Ex.facts kl gv p.1)) ∧ Lib.OthersKept 5 none w5 w')) := by
        refine (HFA.out wP _ _ _ _ _ pn pp hWP (by omega) hpm).mono ?_
        rintro e w' ⟨v', n', rfl, H9⟩
        rw [HNX.out]
        exact ⟨v', n', rfl, H9.out.1, OthersKept_trans (OthersKept_trans HO.out (others_below hbP)) H9.out.2⟩
       clear hW ho hcs2 HW HO HNX hWP HFA HCE hpm
       go_upto_region 12 with fail
       rw [← hwP]
       clear hwP hgP hbP
       go_wp2_with (first | (refine wpList_load_row rfl _ _ rfl w.heap.size rfl _ _ _ _ hbx Tryz.underlying107 rfl (by rw [hcz]; kernel_rfl) ?_) | (go_at_call 79; refine HF2.out.mono ?_; rintro e w7 ⟨v7, n7, rfl, H7⟩))
       go_roundw
       case rel => exact ⟨q + 1, n7, hlq, by go_num, H7.out.1, H7.out.2⟩
       case measure => simp [intOf]; omega
     · have e0 : gQ.take q = gQ := List.take_of_length_le (by have : gQ.length = 3 := rfl; omega)
       rw [e0, ← HBD.out] at hW
       have HWE : Hid (ByW w cs wr nd nm.length nc nm (.slice bd' m bc) m (Rc.u8s bd)) := hW
       obtain ⟨u0, u1, u2, u3⟩ := HCE.out wr hW.box
       have hsz := hW.bel.size
       have hown := hW.own
       have HU3 : Hid (∀ (j : Nat) u, (Rc.u8s hd)[j]? = some u → wr.cell? ((⟨w.heap.size, 4, none⟩ : Addr).add j) = some u) := u3
       have hul : (Rc.u8s hd).length = 32 * 1 := by rw [Rc.u8s_len, hd32]
       clear hW HW ho HO HFA HCE u0 u1 u3 H5
       go_wp2_with (at_builtin; refine wpList_append_own _ rfl (.tmp 43) (.tmp 45) 63 rfl w.heap.size 5 i0 _ 1 1 Tryz.underlying63 HI.out H0.out H1.out H2.out rfl (by decide) _ _ _ rfl hown ⟨w.heap.size, 4, none⟩ 32 32 (Rc.u8s hd) rfl hul HU3.out (Rc.u8s_one hd) (by unfold maxLen; omega) (by omega) (by omega) ?_; intro v9 w9 hown9 hgrow9 _; rw [← Rc.u8s_app] at hown9; have hcv := back_bytes hown9 (by intro e; have h8 := congrArg List.length e; rw [List.length_append, hd32] at h8; simp at h8))
       have hb9 : Below w.heap.size w w9 := HWE.out.bel.grown hgrow9 hsz (fun k hk => (hown.lt k hk).1)
       go_ret
       exact ⟨rfl, hb9⟩
set_option maxRecDepth 100000 in
set_option maxHeartbeats 2000000 in
theorem export_any {w : World} {B eg : Nat} {kl : List Ax.KRule} {gv : Nat → Bool} {n : Nat} (hE : Eng w B eg kl gv n) (hg : GvOk gv) : ∃ hd : List UInt8, hd.length = 32 ∧ ∀ W, Below w.heap.size w W → Calls Tryz.prog 23 #[.pointer (some ⟨eg, 0, none⟩)] W fun e w' => e = .returned (.string ⟨(Ex.body kl gv ++ hd).toArray⟩) ∧ Below W.heap.size W w' := by
 obtain ⟨rd, rn, rc, gm, hm, hd, lv, eb0, hd32, hS0⟩ := eng_state hE hg
 refine ⟨hd, hd32, fun W hW => ?_⟩
 have eb : W.heap[eg]? = some (.cells (egCells (Ax.gtext kl) (.slice rd rn rc) gm hm hd lv) 109 (0, 0)) := by rw [hW.block _ (lt_of_heap eb0)]; exact eb0
 have hS := hS0.below hW
 have hpl : (Ax.gtext kl).size ≤ 100000 := Nat.le_trans (Ax.gtext_sz kl) (by decide)
 have HB : Hid (Calls Tryz.prog 44 #[.agg (stCells (Ax.gtext kl) (.slice rd rn rc) gm hm hd)] W fun e w' => e = .returned (.string ⟨(Ex.body kl gv ++ hd).toArray⟩) ∧ Below W.heap.size W w') := bytes_any W kl gv rd rn rc gm hm hd hd32 hpl hS
 have hr : W.rangeAt eg 0 ([Value.string (Ax.gtext kl), .slice rd rn rc, .map (some gm), .map (some hm)] ++ Rc.u8s hd) := by
  intro j v hv
  rw [cell_of_row _ _ _ _ _ _ eb, Nat.zero_add]
  unfold egCells
  rw [List.getElem?_toArray, List.getElem?_append_left ?_]
  · exact hv
  · exact (List.getElem?_eq_some_iff.1 hv).1
 have hl : (Tryz.prog.info? 107).map (·.size) = some ([Value.string (Ax.gtext kl), .slice rd rn rc, .map (some gm), .map (some hm)] ++ Rc.u8s hd).length := by
  rw [List.length_append, Rc.u8s_len, hd32]
  kernel_rfl
 have hegl := lt_of_heap eb
 clear hE eb eb0 hS hS0 hW
 go_enter Tryz.func23, Tryz.ntmps23
 go_wp2_with (first | (refine wpList_load_mid rfl _ _ rfl eg 0 rfl _ _ hr Tryz.underlying107 rfl hl ?_) | (go_at_call 44; refine HB.out.mono ?_; rintro e w1 ⟨rfl, hb1⟩))
 go_ret
 exact ⟨rfl, hb1⟩
theorem body_le (kl : List Ax.KRule) (gv : Nat → Bool) : (Ex.body kl gv).length ≤ 10000000 := by
 unfold Ex.body
 have h1 := Rc.flat_len Rc.textB 1010 (Ex.nms (En.leastN (En.nRules kl) gv)) (fun a ha => Rc.textB_len a (nm_small _ a ha))
 have h2 := Ex.nms_len (En.leastN (En.nRules kl) gv)
 have h3 := flat_le (fun p : Pd.Pr => Ex.facts kl gv p.1) 10000 gQ (fun p _ => facts_le kl gv p.1)
 have h4 : gQ.length = 3 := rfl
 have h5 : (Rc.numB (Ex.nms (En.leastN (En.nRules kl) gv)).length).length ≤ 10 := num_le (by omega)
 have h6 := Rc.textB_len (Ax.gtext kl) (Nat.le_trans (Ax.gtext_sz kl) (by decide))
 simp only [List.length_append]
 omega
end Go.Proofs.YtdmicblafmhflaaGreatDoor
/- Canonical: what the two engines are given in the end; lists of numbers of the walk's own. -/
namespace Go.Proofs.YtdmicblafmhflaaGreatDoor
open Go.RowKit Go.Maps
theorem setAllG_iff (gv : Nat → Bool) (b : Bool) : ∀ (l : List Nat) (i : Nat), setAllG gv l b i = if i ∈ l then b else gv i := by
 intro l
 induction l generalizing gv with
 | nil => intro i; simp [setAllG]
 | cons a l ih =>
  intro i
  have e : setAllG gv (a :: l) b = setAllG (setG gv a b) l b := rfl
  rw [e, ih]
  by_cases h1 : i ∈ l
  · simp [h1]
  · by_cases h2 : i = a
    · subst h2
      simp [h1, setG]
    · simp [h1, h2, setG]
def cmL (X Y : Nat → Bool) (k : Nat) : List Nat := (List.range k).filter fun i => X i && !Y i
def gnL (X Y : Nat → Bool) (k : Nat) : List Nat := (List.range k).filter fun i => !X i && Y i
theorem cmL_succ (X Y : Nat → Bool) (k : Nat) : cmL X Y (k + 1) = if (X k && !Y k) = true then cmL X Y k ++ [k] else cmL X Y k := by
 unfold cmL
 rw [List.range_succ, List.filter_append]
 by_cases h : (X k && !Y k) = true
 · rw [if_pos h]; simp [h]
 · rw [if_neg h]; simp at h; simpa using h
theorem gnL_succ (X Y : Nat → Bool) (k : Nat) : gnL X Y (k + 1) = if (!X k && Y k) = true then gnL X Y k ++ [k] else gnL X Y k := by
 unfold gnL
 rw [List.range_succ, List.filter_append]
 by_cases h : (!X k && Y k) = true
 · rw [if_pos h]; simp [h]
 · rw [if_neg h]; simp at h; simpa using h
theorem cmL_len (X Y : Nat → Bool) (k : Nat) : (cmL X Y k).length ≤ k := Nat.le_trans (List.length_filter_le _ _) (by simp)
theorem gnL_len (X Y : Nat → Bool) (k : Nat) : (gnL X Y k).length ≤ k := Nat.le_trans (List.length_filter_le _ _) (by simp)
def ints (l : List Nat) : List Int := l.map fun (n : Nat) => (n : Int)
theorem idxs_ints {l : List Nat} (h : l.length ≤ 30) (h36 : ∀ x, x ∈ l → x < 36) : idxs (ints l) = l := by
 unfold idxs ints
 rw [List.take_of_length_le (by simpa using h), List.map_map]
 have : ∀ x, x ∈ l → ((fun c => Ax.gpick c 36) ∘ fun (n : Nat) => (n : Int)) x = x := fun x hx => gpick_small (h36 x hx)
 rw [List.map_congr_left this]
 simp
theorem same_end {X Y : Nat → Bool} (hX : GvOk X) (hY : GvOk Y) (c g : Nat) : setAllG (setAllG (setAllG (setAllG Y ((cmL X Y 36).take c) true) ((gnL X Y 36).take g) false) ((cmL X Y 36).drop c) true) ((gnL X Y 36).drop g) false = X := by
 funext i
 have hc : i ∈ (cmL X Y 36).take c ∨ i ∈ (cmL X Y 36).drop c ↔ i < 36 ∧ X i = true ∧ Y i = false := by
  rw [← List.mem_append, List.take_append_drop]
  simp [cmL]
 have hg : i ∈ (gnL X Y 36).take g ∨ i ∈ (gnL X Y 36).drop g ↔ i < 36 ∧ X i = false ∧ Y i = true := by
  rw [← List.mem_append, List.take_append_drop]
  simp [gnL]
 rw [setAllG_iff, setAllG_iff, setAllG_iff, setAllG_iff]
 by_cases h36 : i < 36
 · cases hx : X i <;> cases hy : Y i
   all_goals
    simp only [hx, hy, h36] at hc hg
    simp at hc hg
    simp [hc, hg]
   · intro h1
     exact hg.resolve_right h1
   · exact hc.symm
 · have h1 := hX i (by omega)
   have h2 := hY i (by omega)
   simp only [h36, false_and, iff_false, not_or] at hc hg
   simp [hc, hg, h1, h2]
def IntB (w : World) (g : Nat) (l : List Nat) : Prop := ∃ cur : Array Value, w.heap[g]? = some (.cells cur 3 (0, 0)) ∧ ∀ (j : Nat) (u : Value), (natCells l)[j]? = some u → cur[j]? = some u
theorem IntB.ik {w W : World} {g : Nat} {l : List Nat} (h : IntB w g l) (hk : IK w W) : IntB W g l := by
 obtain ⟨cur, h1, h2⟩ := h
 exact ⟨cur, hk _ _ _ h1, h2⟩
theorem intsA_of {w : World} {g : Nat} {l : List Nat} (h : IntB w g l) (h36 : ∀ x, x ∈ l → x < 36) {o m c : Nat} (hm : o + m ≤ l.length) (hc : m ≤ c) (hx : c ≤ maxLen) : IntsA w (some ⟨g, o, none⟩) m c (ints ((l.drop o).take m)) := by
 obtain ⟨cur, h1, h2⟩ := h
 have hl : (ints ((l.drop o).take m)).length = m := by simp [ints]; omega
 refine ⟨hl, hc, hx, ?_⟩
 intro k hk
 have hk' : k < m := by omega
 have hok : o + k < l.length := by omega
 have e : (ints ((l.drop o).take m))[k] = ((l[o + k] : Nat) : Int) := by simp [ints]
 refine ⟨g, o, rfl, ?_, ?_⟩
 · rw [cell_of_row _ _ _ _ _ _ h1, e]
   exact h2 _ _ (by simp [natCells, List.getElem?_eq_getElem hok])
 · rw [e]
   have := h36 _ (List.getElem_mem hok)
   unfold Fit64
   omega
theorem intsA_nil (w : World) : IntsA w none 0 0 (ints []) := ⟨rfl, Nat.le_refl _, by unfold maxLen; omega, fun k hk => by simp [ints] at hk⟩
def LsW (w : World) (v : Value) (l : List Nat) : Prop := (v = .slice none 0 0 ∧ l = []) ∨ ∃ g c, v = .slice (some ⟨g, 0, none⟩) l.length c ∧ 0 < l.length ∧ l.length ≤ c ∧ c ≤ maxLen ∧ IntB w g l
theorem lsW_of {w : World} {B : Nat} {v : Value} {l : List Nat} (h : w.ownsRow B 3 1 v l.length (natCells l)) (hn : l = [] → v = .slice none 0 0) : LsW w v l := by
 by_cases hl : l = []
 · exact .inl ⟨hn hl, hl⟩
 · have hp : 0 < l.length := List.length_pos_iff.2 hl
   rcases h.2 with ⟨_, e2⟩ | ⟨g, cap, cur, e1, _, hg, hc1, hc2, hc3, hc4⟩
   · omega
   · refine .inr ⟨g, cap, e1, hp, hc1, hc2, cur, hg, ?_⟩
     intro j u hu
     have hjl : j < l.length := by
      have := (List.getElem?_eq_some_iff.1 hu).1
      simpa [natCells] using this
     rw [← hc4, List.getElem?_take, if_pos (by omega)] at hu
     simpa using hu
theorem LsW.ik {w W : World} {v : Value} {l : List Nat} (h : LsW w v l) (hk : IK w W) : LsW W v l := by
 rcases h with h | ⟨g, c, h1, h2, h3, h4, h5⟩
 · exact .inl h
 · exact .inr ⟨g, c, h1, h2, h3, h4, h5.ik hk⟩
structure CgW (w2 wr : World) (c g : Value) (cl gl : List Nat) : Prop where
 co : wr.ownsRow w2.heap.size 3 1 c cl.length (natCells cl)
 gn : wr.ownsRow w2.heap.size 3 1 g gl.length (natCells gl)
 c0 : cl = [] → c = .slice none 0 0
 g0 : gl = [] → g = .slice none 0 0
 apart : ∀ b, c.ownBlock = some b → ¬ g.ownBlock = some b
 bel : Below w2.heap.size w2 wr
theorem CgW.swap {w2 wr : World} {c g : Value} {cl gl : List Nat} (h : CgW w2 wr c g cl gl) : CgW w2 wr g c gl cl := ⟨h.gn, h.co, h.g0, h.c0, fun b h1 h2 => h.apart b h2 h1, h.bel⟩
theorem CgW.come {w2 wr w' : World} {c g : Value} {cl gl : List Nat} {o : Obj} {k x cap : Nat} (h : CgW w2 wr c g cl gl) (hown : w'.ownsRow w2.heap.size 3 1 (.slice (some ⟨x, 0, none⟩) (cl.length + 1) cap) (cl.length + 1) (natCells cl ++ [.int .i64 (k : Nat)])) (hgrow : (wr.alloc o).grownBy w' c.ownBlock) (hat : c.ownBlock = some x ∨ x = wr.heap.size + 1) : CgW w2 w' (.slice (some ⟨x, 0, none⟩) (cl.length + 1) cap) g (cl ++ [k]) gl := by
 have hsz := h.bel.size
 have hk : Kb c.ownBlock.toList (wr.alloc o) w' := Kb.of_grown hgrow
 have hgl : ∀ b, g.ownBlock = some b → b < wr.heap.size := fun b hb => (h.gn.lt b hb).2
 refine ⟨?_, hk.row (h.gn.alloc o) ?_, by simp, h.g0, ?_, (h.bel.alloc hsz o).grown hgrow (by simp; omega) (fun k hk => (h.co.lt k hk).1)⟩
 · have e : natCells (cl ++ [k]) = natCells cl ++ [.int .i64 (k : Nat)] := by simp [natCells]
   rw [e, List.length_append]
   exact hown
 · intro b hb hm
   have hm2 : c.ownBlock = some b := by simpa using hm
   exact h.apart b hm2 hb
 · intro b hb hg
   simp only [Value.ownBlock, Option.some.injEq] at hb
   subst hb
   rcases hat with e | e
   · exact h.apart _ e hg
   · have := hgl _ hg
     omega
end Go.Proofs.YtdmicblafmhflaaGreatDoor
