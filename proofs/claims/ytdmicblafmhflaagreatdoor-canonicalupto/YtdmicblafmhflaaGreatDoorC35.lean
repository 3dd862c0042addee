/- Package record: Head. -/
import Derived.Test.YtdmicblafmhflaaGreatDoorC32
import Derived.Test.YtdmicblafmhflaaGreatDoorC34
import Derived.Deep.RegionLaw
import Derived.Deep.RegionHeld3
import Derived.Test.YtdmicblafmhflaaGreatDoorC25
import Derived.Test.YtdmicblafmhflaaGreatDoorC08
import Derived.Test.YtdmicblafmhflaaGreatDoorC10
import Derived.Test.YtdmicblafmhflaaGreatDoorC11
import Derived.Test.YtdmicblafmhflaaGreatDoorC14
import Derived.Test.YtdmicblafmhflaaGreatDoorC24
import Derived.Test.YtdmicblafmhflaaGreatDoorC29
set_option linter.unusedSimpArgs false
set_option linter.unusedVariables false
namespace Go.Proofs.YtdmicblafmhflaaGreatDoor
open Go.RowKit
namespace Dg
theorem byte_rng (word : Int) (k : Nat) : 0 ≤ byte word k ∧ byte word k < 256 := by
 have e : byte word k = word / 2 ^ (24 - 8 * k) % 256 := by unfold byte; rw [shut_eq]; rfl
 rw [e]
 omega
theorem putW_rng {f : Nat → Int} (h : ∀ j, 0 ≤ f j ∧ f j < 256) (o : Nat) (word : Int) (k : Nat) : ∀ j, 0 ≤ putW f o word k j ∧ putW f o word k j < 256 := by
 intro j
 unfold putW
 split
 · exact byte_rng _ _
 · exact h j
theorem digS_rng (h : Nat → Int) : ∀ k j, 0 ≤ digS h k j ∧ digS h k j < 256
 | 0, j => by unfold digS; omega
 | k + 1, j => by
  unfold digS
  exact putW_rng (digS_rng h k) _ _ _ j
theorem sha_rng (K : Nat → Int) (s : ByteArray) (j : Nat) : 0 ≤ sha K s j ∧ sha K s j < 256 := by
 have e : sha K s = digS (hash K s (blocks s)) 8 := by unfold sha; rw [shut_eq]
 rw [e]
 exact digS_rng _ _ _
def shaB (K : Nat → Int) (s : ByteArray) : List UInt8 := (List.range 32).map fun j => UInt8.ofNat (sha K s j).toNat
theorem shaB_len (K : Nat → Int) (s : ByteArray) : (shaB K s).length = 32 := by simp [shaB]
theorem shaB_arr (K : Nat → Int) (s : ByteArray) : arrN 32 .u8 (sha K s) = (Rc.u8s (shaB K s)).toArray := by
 unfold arrN shaB Rc.u8s
 rw [List.map_map]
 congr 1
 refine List.map_congr_left fun j _ => ?_
 obtain ⟨h1, h2⟩ := sha_rng K s j
 have e : (UInt8.ofNat (sha K s j).toNat).toNat = (sha K s j).toNat := by simp; omega
 simp only [Function.comp]
 rw [e]
 congr 1
 omega
end Dg
theorem of_bytes (K : Nat → Int) (s : ByteArray) (w : World) (hK : Dg.Tab w K) (hs : s.size ≤ 100000000000) : Calls Tryz.prog 60 #[.string s] w fun e w' => e = .returned (.agg (Rc.u8s (Dg.shaB K s)).toArray) ∧ Below w.heap.size w w' := by
 rw [← Dg.shaB_arr]
 exact of_any K s w hK hs
def headB (K : Nat → Int) (ahead : List UInt8) (content : ByteArray) : List UInt8 := Dg.shaB K (⟨ahead.toArray⟩ ++ content)
set_option maxRecDepth 100000 in
set_option maxHeartbeats 1000000 in
theorem rcHead_any (K : Nat → Int) (w : World) (ahead : List UInt8) (content : ByteArray) (hK : Dg.Tab w K) (ha : ahead.length = 32) (hs : content.size ≤ 10000000000) :
 Calls Tryz.prog 70 #[.agg (Rc.u8s ahead).toArray, .string content] w fun e w' => e = .returned (.agg (Rc.u8s (headB K ahead content)).toArray) ∧ Below w.heap.size w w' := by
 have hul : (Rc.u8s ahead).length = 32 := by rw [Rc.u8s_len, ha]
 have j0 := heap_alloc2_old w (.cells (Rc.u8s ahead).toArray 105) (.cells (Dg.arrN 32 .u8 (fun _ => 0)) 105)
 have j1 := heap_alloc2_new w (.cells (Rc.u8s ahead).toArray 105) (.cells (Dg.arrN 32 .u8 (fun _ => 0)) 105)
 have jb : Below w.heap.size w ((w.alloc (.cells (Rc.u8s ahead).toArray 105)).alloc (.cells (Dg.arrN 32 .u8 (fun _ => 0)) 105)) := ((Below.refl _ _).alloc (Nat.le_refl _) _).alloc (by simp) _
 obtain ⟨w0, hw0⟩ : ∃ w0, w0 = (w.alloc (.cells (Rc.u8s ahead).toArray 105)).alloc (.cells (Dg.arrN 32 .u8 (fun _ => 0)) 105) := ⟨_, rfl⟩
 rw [← hw0] at j0 j1 jb
 have hcv : (convert 63 9 (.slice (some ⟨w.heap.size, 0, none⟩) 32 32)).run Tryz.prog w0 = .ok (.string ⟨ahead.toArray⟩) w0 := by
  rw [← ha]
  refine run_convert_bytes_back w0 63 9 5 ⟨w.heap.size, 0, none⟩ _ ahead Tryz.underlying63 Tryz.underlying5 Tryz.underlying9 ?_
  intro j hj
  have hadd : (⟨w.heap.size, 0, none⟩ : Addr).add j = ⟨w.heap.size, j, none⟩ := by unfold Addr.add; split <;> simp_all
  rw [hadd, cell_of_row _ _ _ _ _ _ j0, List.getElem?_toArray, Rc.u8s, List.getElem?_map, List.getElem?_eq_getElem hj]
  rfl
 have hsz : (⟨ahead.toArray⟩ : ByteArray).size = 32 := ha
 have hof : Hid (Calls Tryz.prog 60 #[.string (⟨ahead.toArray⟩ ++ content)] w0 fun e w1 => e = .returned (.agg (Rc.u8s (headB K ahead content)).toArray) ∧ w1.heap[w.heap.size + 1]? = some (.cells (Dg.arrN 32 .u8 (fun _ => 0)) 105 (0, 0)) ∧ Hid (Below w.heap.size w w1)) := by
  refine (of_bytes K _ w0 (hK.below jb) ?_).mono ?_
  · rw [ByteArray.size_append, hsz]; omega
  · rintro e w1 ⟨rfl, hb1⟩
    refine ⟨rfl, ?_, jb.trans (hb1.mono jb.size)⟩
    rw [hb1.block _ (lt_of_heap j1)]
    exact j1
 have hhl : (headB K ahead content).length = 32 := Dg.shaB_len _ _
 generalize headB K ahead content = hd at hof hhl
 clear j0 j1 jb hul hsz
 go_enter Tryz.func70, Tryz.ntmps70
 go_upto_region 1 with fail
 rw [← Dg.zero32, ← hw0]
 clear hw0
 go_wp2_with (first | (go_at_call 60; refine hof.out.mono ?_; rintro e w1 ⟨rfl, hz1, hb1⟩) | (refine wpList_store_row rfl 105 (.tmp 4) (.tmp 9) rfl (w.heap.size + 1) rfl (Rc.u8s hd).toArray rfl _ _ hz1 (by rw [Dg.arrN_size]; simp [Rc.u8s_len, hhl]) (by simp only [List.size_toArray, Rc.u8s_len, hhl]; kernel_rfl) (by simpa using Rc.u8s_one hd) ?_))
 have hend := (Kb.setRow w1 (w.heap.size + 1) (Rc.u8s hd).toArray).to_below hb1.out hb1.out.size (by simp)
 refine bodyPost_ret (v := .agg (Rc.u8s hd).toArray) ?_ rfl ⟨rfl, hend⟩
 exact results_cell_row rfl _ _ _ _ _ _ _ rfl (heap_setRow_at w1 _ _ hz1) Tryz.underlying105 rfl (by simp only [List.size_toArray, Rc.u8s_len, hhl]; kernel_rfl)
end Go.Proofs.YtdmicblafmhflaaGreatDoor
/- Package record: Append. -/
namespace Go.Proofs.YtdmicblafmhflaaGreatDoor
open Go.RowKit
set_option maxRecDepth 100000 in
set_option maxHeartbeats 1000000 in
theorem rcAppend_any (B : Nat) (w : World) (v : Value) (n : Nat) (xs : List Value) (content : ByteArray) (hd : List UInt8) (hown : w.ownsRow B 5 1 v n xs) (hB : B ≤ w.heap.size) (hn : n ≤ 50000000000) (hc : content.size ≤ 1000000000) (hl : hd.length = 32) :
 Calls Tryz.prog 71 #[v, .string content, .agg (Rc.u8s hd).toArray] w fun e w' => ∃ v' n', e = .returned v' ∧ BOn B w w' v' n' (xs ++ Rc.u8s (Rc.textB content ++ hd)) := by
 obtain ⟨i0, hi0, hz0, hz1, hz2⟩ := info_parts Tryz.infoByte
 have HI : Hid (Tryz.prog.info? 5 = some i0) := hi0
 have H0 : Hid (i0.zero = some (.int .u8 0)) := hz0
 have H1 : Hid (i0.size = 1) := hz1
 have H2 : Hid (i0.bytes = 1) := hz2
 clear hi0 hz0 hz1 hz2
 obtain ⟨vd, vc, hv0⟩ := ownsRow_shape hown
 subst hv0
 obtain ⟨w0, hw0⟩ : ∃ w0, w0 = w.alloc (.cells (Rc.u8s hd).toArray 105) := ⟨_, rfl⟩
 have hb0 : Below B w w0 := by rw [hw0]; exact (Below.refl _ _).alloc hB _
 have ho0 : Lib.OthersKept 5 none w w0 := by rw [hw0]; exact (Lib.OthersKept.refl _ _ _).alloc _
 have hx0 : w0.heap[w.heap.size]? = some (.cells (Rc.u8s hd).toArray 105 (0, 0)) := by rw [hw0]; exact heap_alloc_new w _
 have hown0 : w0.ownsRow B 5 1 (.slice vd n vc) n xs := by rw [hw0]; exact hown.alloc _
 have hxl : xs.length = n := by have := hown.1; omega
 have hu32 : (Rc.u8s hd).length = 32 := by rw [Rc.u8s_len, hl]
 have hB0 : B ≤ w0.heap.size := Nat.le_trans hB hb0.size
 have htx : Hid (∀ W : World, Below w0.heap.size w0 W → Calls Tryz.prog 77 #[.slice vd n vc, .string content] W fun e w1 => ∃ v1 n1, e = .returned v1 ∧ n1 ≤ 60000000000 ∧ w1.ownsRow B 5 1 v1 n1 (xs ++ Rc.u8s (Rc.textB content)) ∧ B ≤ w1.heap.size ∧ w.heap.size < w1.heap.size ∧ Hid (∀ j u, (Rc.u8s hd)[j]? = some u → w1.cell? ((⟨w.heap.size, 0, none⟩ : Addr).add j) = some u) ∧ Hid (Below B w w1 ∧ Lib.OthersKept 5 none w w1)) := by
  intro W hW
  have hBW : B ≤ W.heap.size := Nat.le_trans hB0 hW.size
  refine (appendText_any B W (.slice vd n vc) n xs content (ownsRow_below hown0 hW) hBW (by omega) (by omega)).mono ?_
  rintro e w1 ⟨v1, n1, rfl, q1, q2, q3⟩
  have hx1 : w1.heap[w.heap.size]? = some (.cells (Rc.u8s hd).toArray 105 (0, 0)) := q3 w.heap.size _ (by rw [hW.block _ (lt_of_heap hx0)]; exact hx0) (by simp) (fun c fz e => by simp at e)
  have hn1 : n1 ≤ 60000000000 := by
   have h1 := q1.1
   have h2 := Rc.numB_10 content.size (by omega)
   rw [List.length_append, Rc.u8s_len, Rc.textB, List.length_append] at h1
   simp at h1
   omega
  refine ⟨v1, n1, rfl, hn1, q1, Nat.le_trans hBW q2.size, lt_of_heap hx1, ?_, ⟨(hb0.trans (hW.mono hB0)).trans q2, OthersKept_trans (OthersKept_trans ho0 (others_below hW)) q3⟩⟩
  exact World.news_of_block hx1
 clear hown hown0 hb0 ho0 hx0
 go_enter Tryz.func71, Tryz.ntmps71
 go_wp2_with fail
 rw [← hw0]
 clear hw0
 go_region_held3 (fun _ => True) (trivial) (first | (go_at_call 77; refine (htx.out _ (by exact (Below.refl _ _).drew)).mono ?_; rintro e w1 ⟨v1, n1, rfl, hn1, hown1, hB1, hlt1, HNW, HW1⟩) | (refine step_append_lies _ rfl (.tmp 9) (.tmp 10) 63 rfl B 5 i0 _ 1 1 Tryz.underlying63 HI.out H0.out H1.out H2.out rfl (by decide) v1 n1 (xs ++ Rc.u8s (Rc.textB content)) (by simp [Act.eval, Act.put]) (by exact hown1) ⟨w.heap.size, 0, none⟩ 32 32 (Rc.u8s hd) (by simp [Act.eval, Act.put]) (by rw [hu32]) (by exact HNW.out) (Rc.u8s_one hd) (by decide) (by unfold maxLen; omega) (by omega) (by exact hB1) w1.heap.size rfl ?_; intro g2 cap2 w2 hown2 hgrow2 _ hlt2))
 all_goals
  (have hb2 : Below B w w2 := HW1.out.1.grown hgrow2 hB1 (fun k hk => (hown1.lt k hk).1)
   have ho2 : Lib.OthersKept 5 none w w2 := HW1.out.2.grown hgrow2 (ownsRow_kind hown1)
   have HON : Hid (BOn B w w2 (.slice (some ⟨g2, 0, none⟩) (n1 + 32) cap2) (n1 + 32) (xs ++ Rc.u8s (Rc.textB content ++ hd))) := ⟨by rw [Rc.u8s_app, ← List.append_assoc]; exact hown2, hb2, ho2⟩
   clear hgrow2 hown2 hb2 ho2
   go_wp2_with fail
   go_ret
   exact ⟨_, _, rfl, HON.out⟩)
end Go.Proofs.YtdmicblafmhflaaGreatDoor
/- state.Make. -/
namespace Go.Proofs.YtdmicblafmhflaaGreatDoor
open Go.RowKit Go.Maps
theorem CopyG.toG {w w' : World} {mb : Nat} {G N : List GT} (h : CopyG w w' mb G [] N) (hs : ∀ t, t ∈ G → t.nm.size ≤ 1000000) (hn : (G.map GT.nm).Nodup) (hl : G.length ≤ 1000) : GAt w' mb N ∧ (N.map gdat).Perm (G.map gdat) := by
 have hp : (N.map gdat).Perm (G.map gdat) := by simpa using h.data
 have hnm : (N.map GT.nm).Perm (G.map GT.nm) := by
  have := hp.map Prod.fst
  simpa [List.map_map, Function.comp_def, gdat] using this
 obtain ⟨D, ho, hD⟩ := h.map
 refine ⟨⟨PMap.of ho (by have := h.few; omega) hD, fun t ht => (h.tabs t ht).1, h.apart, hnm.nodup_iff.2 hn, fun t ht => ?_⟩, hp⟩
 have : t.nm ∈ G.map GT.nm := hnm.mem_iff.1 (List.mem_map_of_mem ht)
 obtain ⟨u, hu, e⟩ := List.mem_map.1 this
 rw [← e]
 exact hs u hu
def stCells (pl : ByteArray) (rv : Value) (gm hm : Nat) (hd : List UInt8) : Array Value := ([Value.string pl, rv, .map (some gm), .map (some hm)] ++ Rc.u8s hd).toArray
theorem fold_lay (o : Nat) : ∀ (U : List Value) (k : Nat) (cur : Array Value), o + k + U.length ≤ cur.size →
 (U.zipIdx k).foldl (fun cs x => cs.setIfInBounds (o + x.snd) x.fst) cur = (cur.toList.take (o + k) ++ U ++ cur.toList.drop (o + k + U.length)).toArray
 | [], k, cur, _ => by simp
 | v :: U, k, cur, hl => by
  rw [List.length_cons] at hl
  rw [List.zipIdx_cons, List.foldl_cons, fold_lay o U (k + 1) _ (by simp; omega)]
  have e1 : (cur.setIfInBounds (o + k) v).toList.take (o + (k + 1)) = cur.toList.take (o + k) ++ [v] := by
   rw [Array.toList_setIfInBounds, ← Nat.add_assoc, List.take_add_one, List.take_set_of_le (Nat.le_refl _), List.getElem?_set_self (by simp; omega)]
   rfl
  have e2 : (cur.setIfInBounds (o + k) v).toList.drop (o + (k + 1) + U.length) = cur.toList.drop (o + k + (v :: U).length) := by
   rw [Array.toList_setIfInBounds, List.drop_set_of_lt (by omega), List.length_cons]
   congr 1
   omega
  simp only [e1, e2]
  simp
def stZ (a b c d : Value) : Array Value := #[a, b, c, d, .int .u8 0, .int .u8 0, .int .u8 0, .int .u8 0, .int .u8 0, .int .u8 0, .int .u8 0, .int .u8 0, .int .u8 0, .int .u8 0, .int .u8 0, .int .u8 0, .int .u8 0, .int .u8 0, .int .u8 0, .int .u8 0, .int .u8 0, .int .u8 0, .int .u8 0, .int .u8 0, .int .u8 0, .int .u8 0, .int .u8 0, .int .u8 0, .int .u8 0, .int .u8 0, .int .u8 0, .int .u8 0, .int .u8 0, .int .u8 0, .int .u8 0, .int .u8 0]
theorem stZ_lay (a b c d : Value) {U : List Value} (h : U.length = 32) : (U.zipIdx).foldl (fun cs x => cs.setIfInBounds (4 + x.snd) x.fst) (stZ a b c d) = ([a, b, c, d] ++ U).toArray := by
 rw [fold_lay 4 U 0 _ (by rw [h]; exact Nat.le_refl 36)]
 have e1 : (stZ a b c d).toList.take (4 + 0) = [a, b, c, d] := rfl
 have e2 : (stZ a b c d).toList.drop (4 + 0 + U.length) = [] := by rw [h]; rfl
 rw [e1, e2, List.append_nil]
structure MkW (w : World) (pl : ByteArray) (rv : Value) (U : List Value) (W : World) : Prop where
 bel : Below w.heap.size w W
 b0 : W.heap[w.heap.size]? = some (.cells #[.string pl, rv] 101 (0, 0))
 b1 : W.heap[w.heap.size + 1]? = some (.cells U.toArray 105 (0, 0))
 b2 : ∃ cur : Array Value, W.heap[w.heap.size + 2]? = some (.cells cur 107 (0, 0)) ∧ cur.size = 36
theorem MkW.init {w : World} {pl : ByteArray} {rv : Value} {U : List Value} {Z : Array Value} (hz : Z.size = 36) : MkW w pl rv U (((w.alloc (.cells #[.string pl, rv] 101)).alloc (.cells U.toArray 105)).alloc (.cells Z 107)) := by
 refine ⟨(((Below.refl _ _).alloc (Nat.le_refl _) _).alloc (by simp) _).alloc (by simp only [World.size_alloc]; omega) _, ?_, ?_, Z, ?_, hz⟩
 · rw [Below.heap_alloc _ _ _ (by simp only [World.size_alloc]; omega), Below.heap_alloc _ _ _ (by simp)]
   exact heap_alloc_new w _
 · rw [Below.heap_alloc _ _ _ (by simp)]
   exact new2 w _ _
 · have := new2 (w.alloc (.cells #[.string pl, rv] 101)) (.cells U.toArray 105) (.cells Z 107)
   simpa using this
theorem MkW.below {w W W' : World} {pl : ByteArray} {rv : Value} {U : List Value} (h : MkW w pl rv U W) (hb : Below W.heap.size W W') : MkW w pl rv U W' := by
 obtain ⟨cur, h2, h3⟩ := h.b2
 exact ⟨h.bel.trans (hb.mono h.bel.size), by rw [hb.block _ (lt_of_heap h.b0)]; exact h.b0, by rw [hb.block _ (lt_of_heap h.b1)]; exact h.b1, cur, by rw [hb.block _ (lt_of_heap h2)]; exact h2, h3⟩
theorem MkW.cells {w W : World} {pl : ByteArray} {rv : Value} {U : List Value} (h : MkW w pl rv U W) : W.cell? ⟨w.heap.size, 0, none⟩ = some (.string pl) ∧ W.cell? ⟨w.heap.size, 1, none⟩ = some rv := ⟨by rw [cell_of_row _ _ _ _ _ _ h.b0]; rfl, by rw [cell_of_row _ _ _ _ _ _ h.b0]; rfl⟩
theorem gsum_mem {G : List GT} {t : GT} (h : t ∈ G) : t.L.length ≤ gsum G := by
 induction G with
 | nil => cases h
 | cons a G ih =>
  unfold gsum at ih ⊢
  rw [List.map_cons, List.sum_cons]
  rcases List.mem_cons.1 h with rfl | h
  · omega
  · have := ih h; omega
set_option maxRecDepth 100000 in
set_option maxHeartbeats 2000000 in
theorem make_any (w : World) (pl : ByteArray) (rd : Option Addr) (rc : Nat) (l : List MR) (hl : RulesS w rd rc l) (hl8 : l.length ≤ 8) (h1 : Pd.One (prsOf (l.map MR.rule))) (hne : l ≠ []) (hsz : ∀ p, p ∈ prsOf (l.map MR.rule) → p.1.size ≤ 1000000)
 (gm : Nat) (G : List GT) (hG : GAt w gm G) (hGn : ∀ p, p ∈ prsOf (l.map MR.rule) → p.1 ∈ G.map GT.nm) (hGt : gsum G ≤ 40) (hd : List UInt8) (hhd : hd.length = 32)
 (hok : ∀ Q, Pd.Srt Q → (∀ p, p ∈ Q ↔ p ∈ prsOf (l.map MR.rule)) → (msearch (l.map MR.rule) (glOf Q G)).isSome = true) :
 Calls Tryz.prog 57 #[.agg #[.string pl, .slice rd l.length rc], .map (some gm), .agg (Rc.u8s hd).toArray] w fun e w' => ∃ hm T s Q, e = .returned (.tuple #[.agg (stCells pl (.slice rd l.length rc) gm hm hd), .bool true]) ∧
  Pd.Srt Q ∧ (∀ p, p ∈ Q ↔ p ∈ prsOf (l.map MR.rule)) ∧ msearch (l.map MR.rule) (glOf Q G) = some s ∧ HAt w' hm T s ∧ T.map prHT = Q.reverse ∧ (∀ b, b ∈ hallfoot hm T → w.heap.size ≤ b) ∧ Below w.heap.size w w' := by
 have hGt1 : ∀ t, t ∈ G → t.L.length ≤ 1000 := fun t ht => Nat.le_trans (gsum_mem ht) (by omega)
 have HTO : Hid (∀ W, MkW w pl (.slice rd l.length rc) (Rc.u8s hd) W → Calls Tryz.prog 110 #[.map (some gm)] W fun e w' => e = .returned (.int .i64 (gsum G : Nat)) ∧ Hid (MkW w pl (.slice rd l.length rc) (Rc.u8s hd) w') ∧ w'.cell? ⟨w.heap.size, 0, none⟩ = some (.string pl) ∧ w'.cell? ⟨w.heap.size, 1, none⟩ = some (.slice rd l.length rc)) := by
  intro W hW
  refine (total_any W gm G (hG.below hW.bel) (by omega)).mono ?_
  rintro e w' ⟨rfl, hb⟩
  exact ⟨rfl, hW.below hb, (hW.below hb).cells.1, (hW.below hb).cells.2⟩
 have HMO : Hid (∀ W, Hid (MkW w pl (.slice rd l.length rc) (Rc.u8s hd) W) → Calls Tryz.prog 111 #[.agg #[.string pl, .slice rd l.length rc], .map (some gm)] W fun e w' => ∃ hm, e = .returned (.tuple #[.map (some hm), .bool true]) ∧ Hid (MkW w pl (.slice rd l.length rc) (Rc.u8s hd) w') ∧ w'.cell? ⟨w.heap.size, 0, none⟩ = some (.string pl) ∧ w'.cell? ⟨w.heap.size, 1, none⟩ = some (.slice rd l.length rc) ∧ Hid (∃ T s Q, Pd.Srt Q ∧ (∀ p, p ∈ Q ↔ p ∈ prsOf (l.map MR.rule)) ∧ msearch (l.map MR.rule) (glOf Q G) = some s ∧ HAt w' hm T s ∧ T.map prHT = Q.reverse ∧ (∀ b, b ∈ hallfoot hm T → w.heap.size + 3 ≤ b))) := by
  intro W hW
  have hW := hW.out
  refine (model_any W pl rd rc l (hl.below hW.bel) hl8 h1 hne hsz gm G (hG.below hW.bel) hGn hGt1).mono ?_
  rintro e w' ⟨Q, hQ, hp⟩
  rcases hp.ans with ⟨hm, T, s, rfl, q1, q2, q3, q4⟩ | ⟨_, q⟩
  · have hlt : w.heap.size + 2 < W.heap.size := by
     obtain ⟨cur, e, _⟩ := hW.b2
     exact lt_of_heap e
    exact ⟨hm, rfl, hW.below hp.bel, (hW.below hp.bel).cells.1, (hW.below hp.bel).cells.2, T, s, Q, hQ.out.1, hQ.out.2, q1, q2, q3, fun b hb => by have := q4 b hb; omega⟩
  · have := hok Q hQ.out.1 hQ.out.2
    rw [q] at this
    cases this
 have hul : (Rc.u8s hd).length = 32 := by rw [Rc.u8s_len, hhd]
 have hu1 := Rc.u8s_one hd
 have hst : stCells pl (.slice rd l.length rc) gm = fun hm hd => ([Value.string pl, .slice rd l.length rc, .map (some gm), .map (some hm)] ++ Rc.u8s hd).toArray := rfl
 rw [hst]
 generalize hU : (Rc.u8s hd) = U at hul hu1 HTO HMO ⊢
 have hcells : (Value.agg U.toArray).cells = U.toArray := rfl
 have hsz36 : ∀ a b c d : Value, ([a, b, c, d] ++ U).toArray.size = 36 := by intros; simp [hul]
 clear hok hl hG hGn hsz h1 hne
 go_enter Tryz.func57, Tryz.ntmps57
 go_wp2_with (first | (go_at_call 110; refine (HTO.out _ (by exact MkW.init rfl)).mono ?_; rintro e w1 ⟨rfl, HM1, c0, c1⟩) | (go_at_call 111; refine (HMO.out _ HM1).mono ?_; rintro e w2 ⟨hm, rfl, HM2, d0, d1, HE⟩) | (refine wpList_load_row rfl _ _ rfl (w.heap.size + 1) rfl _ _ _ _ HM2.out.b1 Tryz.underlying105 rfl (by rw [List.size_toArray, hul]; kernel_rfl) ?_) | (obtain ⟨cur, hb2, hcs⟩ := HM2.out.b2; refine wpList_store_row rfl 107 (.tmp 6) (.tmp 27) rfl (w.heap.size + 1 + 1) rfl ([Value.string pl, .slice rd l.length rc, .map (some gm), .map (some hm)] ++ U).toArray (congrArg Value.agg (stZ_lay _ _ _ _ hul)) _ cur hb2 (by simp [hul, hcs]) ((show (Tryz.prog.info? 107).map (·.size) = some 36 by kernel_rfl).trans (congrArg some (hsz36 _ _ _ _).symm)) (by intro v hv; simp at hv; rcases hv with rfl | rfl | rfl | rfl | hv; rfl; rfl; rfl; rfl; exact hu1 v hv) ?_))
 obtain ⟨T, s, Q, e1, e2, e3, e4, e5, e6⟩ := HE.out
 have hk : Kb [w.heap.size + 1 + 1] w2 (w2.setRow (w.heap.size + 1 + 1) (([Value.string pl, .slice rd l.length rc, .map (some gm), .map (some hm)] ++ U).toArray)) := Kb.setRow _ _ _
 refine bodyPost_ret (v := .tuple #[.agg ([Value.string pl, .slice rd l.length rc, .map (some gm), .map (some hm)] ++ U).toArray, .bool true]) ?_ rfl ⟨hm, T, s, Q, by rw [← hU]; rfl, e1, e2, e3, e4.kept hk (fun b hb => by have := e6 b hb; simp; omega), e5, fun b hb => by have := e6 b hb; omega, hk.to_below HM2.out.bel HM2.out.bel.size (by simp; omega)⟩
 refine Eq.trans (results_cell_row_tmp rfl _ _ _ _ _ _ _ rfl (heap_setRow_at w2 _ _ hb2) Tryz.underlying107 rfl ((show (Tryz.prog.info? 107).map (·.size) = some 36 by kernel_rfl).trans (congrArg some (hsz36 _ _ _ _).symm))) ?_
 rfl
end Go.Proofs.YtdmicblafmhflaaGreatDoor
/- axiomkeep.all: the list as it grows. -/
namespace Go.Proofs.YtdmicblafmhflaaGreatDoor
open Go.RowKit
def fdat (p a b : Nat) : ByteArray × List ByteArray := if p = 0 then (Ax.gpred 0, [Ax.gname a]) else (Ax.gpred p, [Ax.gname a, Ax.gname b])
def dat (i : Nat) : ByteArray × List ByteArray := if i < 4 then fdat 0 i 0 else if i < 20 then fdat 1 ((i - 4) / 4) ((i - 4) % 4) else fdat 2 ((i - 20) / 4) ((i - 20) % 4)
theorem dat_0 {a : Nat} (h : a < 4) (b : Nat) : dat a = fdat 0 a b := by unfold dat; rw [if_pos h]; rfl
theorem dat_1 {p a b : Nat} (hp : p = 1 ∨ p = 2) (ha : a < 4) (hb : b < 4) : dat (4 + 16 * (p - 1) + 4 * a + b) = fdat p a b := by
 unfold dat
 rcases hp with rfl | rfl
 · rw [if_neg (by omega), if_pos (by omega), show (4 + 16 * (1 - 1) + 4 * a + b - 4) / 4 = a by omega, show (4 + 16 * (1 - 1) + 4 * a + b - 4) % 4 = b by omega]
 · rw [if_neg (by omega), if_neg (by omega), show (4 + 16 * (2 - 1) + 4 * a + b - 20) / 4 = a by omega, show (4 + 16 * (2 - 1) + 4 * a + b - 20) % 4 = b by omega]
theorem fiCells_snoc (l : List FI) (f : FI) : fiCells (l ++ [f]) = fiCells l ++ [.string f.pred, f.av] := by simp [fiCells]
structure AllW (w wr : World) (a : Value) (n : Nat) (l : List FI) : Prop where
 row : wr.ownsRow w.heap.size 48 2 a l.length (fiCells l)
 each : ∀ f, f ∈ l → wr.ownsRow w.heap.size 9 1 f.av f.args.length (strCells f.args)
 data : l.map (fun f => (f.pred, f.args)) = (List.range n).map dat
 bel : Below w.heap.size w wr
theorem AllW.len {w wr : World} {a : Value} {n : Nat} {l : List FI} (h : AllW w wr a n l) : l.length = n := by
 have := congrArg List.length h.data
 simpa using this
theorem AllW.below {w wr w' : World} {a : Value} {n : Nat} {l : List FI} (h : AllW w wr a n l) (hb : Below wr.heap.size wr w') : AllW w w' a n l :=
 ⟨ownsRow_below h.row hb, fun f hf => ownsRow_below (h.each f hf) hb, h.data, h.bel.trans (hb.mono h.bel.size)⟩
theorem AllW.nil (w : World) : AllW w w (.slice none 0 0) 0 [] := ⟨World.ownsRow_nil _ _ _ _, by simp, rfl, Below.refl _ _⟩
theorem AllW.step {w wr w2 : World} {a v2 : Value} {n : Nat} {l : List FI} (h : AllW w wr a n l) {pd : ByteArray} {args : List ByteArray} (hd : dat n = (pd, args)) (ha0 : 0 < args.length) (ha9 : args.length ≤ 1000)
 (hown : w2.ownsRow w.heap.size 48 2 v2 (l.length + 1) (fiCells l ++ [.string pd, .slice (some ⟨wr.heap.size, 0, none⟩) args.length args.length]))
 (hg : ((wr.alloc (.cells (strCells args).toArray 9)).alloc (.cells #[.string pd, .slice (some ⟨wr.heap.size, 0, none⟩) args.length args.length] 48)).grownBy w2 a.ownBlock) :
 AllW w w2 v2 (n + 1) (l ++ [⟨pd, args, .slice (some ⟨wr.heap.size, 0, none⟩) args.length args.length⟩]) := by
 have hs := h.bel.size
 have hb2 : Below wr.heap.size wr ((wr.alloc (.cells (strCells args).toArray 9)).alloc (.cells #[.string pd, .slice (some ⟨wr.heap.size, 0, none⟩) args.length args.length] 48)) := ((Below.refl _ _).alloc (Nat.le_refl _) _).alloc (by simp) _
 have hk := Kb.of_grown hg
 have hlt : ∀ q, a.ownBlock = some q → w.heap.size ≤ q ∧ q < wr.heap.size := fun q hq => h.row.lt q hq
 have hnew : ((wr.alloc (.cells (strCells args).toArray 9)).alloc (.cells #[.string pd, .slice (some ⟨wr.heap.size, 0, none⟩) args.length args.length] 48)).ownsRow w.heap.size 9 1 (.slice (some ⟨wr.heap.size, 0, none⟩) args.length args.length) args.length (strCells args) := by
  refine World.ownsRow.alloc ?_ _
  have hl : (strCells args).length = args.length := by simp [strCells]
  exact ownsRow_lits hl ha9 hs
 refine ⟨?_, ?_, ?_, ?_⟩
 · rw [fiCells_snoc, List.length_append]
   exact hown
 · intro f hf
   rcases List.mem_append.1 hf with hf | hf
   · refine hk.row (ownsRow_below (h.each f hf) hb2) (fun b hb hc => ?_)
     rw [Option.mem_toList] at hc
     obtain ⟨c1, e1⟩ := block_type (h.each f hf) hb
     obtain ⟨c2, e2⟩ := block_type h.row hc
     rw [e1] at e2
     simp at e2
   · simp only [List.mem_singleton] at hf
     subst hf
     refine hk.row hnew (fun b hb hc => ?_)
     rw [Option.mem_toList] at hc
     have := (hlt b hc).2
     simp [Value.ownBlock] at hb
     omega
 · rw [List.map_append, h.data, List.range_succ, List.map_append]
   simp [hd]
 · exact hk.to_below (h.bel.trans (hb2.mono hs)) (by simp; omega) (fun q hq => by rw [Option.mem_toList] at hq; exact (hlt q hq).1)
end Go.Proofs.YtdmicblafmhflaaGreatDoor
/- What is given to axiomkeep's engine, told by the 36 facts, and what its search gives. No program here. -/
namespace Go.Proofs.YtdmicblafmhflaaGreatDoor
open Go.RowKit
theorem uF_dat (i : Nat) : En.uF i = ((dat i).1, Tb.row3 (dat i).2) := by
 unfold En.uF dat
 split
 · rfl
 · split <;> rfl
def gPr : List Pd.Pr := [(Ax.gpred 0, 1), (Ax.gpred 1, 2), (Ax.gpred 2, 2)]
theorem gPr_one : Pd.One gPr := by
 unfold Pd.One gPr
 decide
theorem kfit_pr {p : Nat} {ts : List Nat} (h : Ax.KFit p ts) : (Ax.gpred p, ts.length) ∈ gPr := by
 obtain ⟨h1, h2⟩ := h
 rw [h2]
 have : p = 0 ∨ p = 1 ∨ p = 2 := by omega
 rcases this with rfl | rfl | rfl <;> simp [gPr]
def erPrs (R : List Ax.ER) : List Pd.Pr := R.flatMap fun r => (r.1 :: r.2).map fun a => (a.1, a.2.length)
theorem prsOf_er : ∀ rs : List Ax.Rule, prsOf rs = erPrs (rs.map Ax.erR)
 | [] => rfl
 | r :: rs => by
  have ih := prsOf_er rs
  unfold prsOf erPrs at ih ⊢
  rw [List.flatMap_cons, List.map_append, ih, List.map_cons, List.flatMap_cons]
  congr 1
  simp [Ax.Rule.atoms, Ax.erR, Ax.erA, prOf, Function.comp_def]
theorem prs_gen {rs : List Ax.Rule} {kl : List Ax.KRule} (he : rs.map Ax.erR = Ax.gR kl) (p : Pd.Pr) : p ∈ prsOf rs ↔ p ∈ gPr := by
 rw [prsOf_er, he]
 unfold erPrs
 rw [List.mem_flatMap]
 constructor
 · rintro ⟨r, hr, hp⟩
   obtain ⟨a, ha, rfl⟩ := List.mem_map.1 hp
   obtain ⟨⟨q, ts, e, hk⟩, h2, _⟩ := Ax.gR_atoms kl r hr
   have : ∃ q ts, a = Ax.gEA q ts ∧ Ax.KFit q ts := by
    rcases List.mem_cons.1 ha with rfl | ha
    · exact ⟨q, ts, e, hk⟩
    · exact h2 a ha
   obtain ⟨q, ts, rfl, hk⟩ := this
   have := kfit_pr hk
   simpa [Ax.gEA] using this
 · intro hp
   have m0 : (Ax.gEA 0 [0], [Ax.gEA 0 [0], Ax.gEA 1 [0, 0]]) ∈ Ax.gR kl := by simp [Ax.gR, Ax.gbase]
   have m1 : (Ax.gEA 0 [0], [Ax.gEA 0 [0], Ax.gEA 2 [0, 0]]) ∈ Ax.gR kl := by simp [Ax.gR, Ax.gbase]
   simp only [gPr, List.mem_cons, List.not_mem_nil, or_false] at hp
   rcases hp with rfl | rfl | rfl
   · exact ⟨_, m0, by simp [Ax.gEA]⟩
   · exact ⟨_, m0, by simp [Ax.gEA]⟩
   · exact ⟨_, m1, by simp [Ax.gEA]⟩
theorem prs_one {rs : List Ax.Rule} {kl : List Ax.KRule} (he : rs.map Ax.erR = Ax.gR kl) : Pd.One (prsOf rs) := fun a ha b hb e => gPr_one a ((prs_gen he a).1 ha) b ((prs_gen he b).1 hb) e
theorem gPr_short : ∀ p, p ∈ gPr → p.1.size ≤ 3 := by unfold gPr; decide
theorem dat_pr {i : Nat} (h : i < 36) : ((dat i).1, (dat i).2.length) ∈ gPr := by
 unfold dat
 split
 · simp [fdat, gPr]
 · split <;> simp [fdat, gPr]
theorem dat_names (i : Nat) : ∀ a, a ∈ (dat i).2 → Ax.isName a = true ∧ a.size ≤ 2 := by
 have h1 : ∀ n, Ax.isName (Ax.gname n) = true := by
  intro n
  unfold Ax.gname
  split <;> decide
 have key : ∀ p x y, ∀ a, a ∈ (fdat p x y).2 → Ax.isName a = true ∧ a.size ≤ 2 := by
  intro p x y a ha
  unfold fdat at ha
  split at ha
  · simp only [List.mem_cons, List.not_mem_nil, or_false] at ha
    subst ha
    exact ⟨h1 _, Ax.gname_sz _⟩
  · simp only [List.mem_cons, List.not_mem_nil, or_false] at ha
    rcases ha with rfl | rfl
    · exact ⟨h1 _, Ax.gname_sz _⟩
    · exact ⟨h1 _, Ax.gname_sz _⟩
 unfold dat
 split
 · exact key _ _ _
 · split <;> exact key _ _ _
structure GRel (G : List GT) (gv : Nat → Bool) : Prop where
 prs : ∀ p, p ∈ G.map prGT ↔ p ∈ gPr
 rows : ∀ t, t ∈ G → ∀ r, r ∈ t.L ↔ ∃ i, i < 36 ∧ gv i = true ∧ En.uF i = (t.nm, r)
theorem GRel.perm {G N : List GT} {gv : Nat → Bool} (h : GRel G gv) (hp : (N.map gdat).Perm (G.map gdat)) : GRel N gv := by
 have hm : ∀ d, d ∈ N.map gdat ↔ d ∈ G.map gdat := fun d => hp.mem_iff
 refine ⟨?_, ?_⟩
 · intro p
   rw [← h.prs p]
   have e : ∀ X : List GT, X.map prGT = (X.map gdat).map fun d => (d.1, d.2.1) := fun X => by simp [gdat, prGT, Function.comp_def]
   rw [e, e, List.mem_map, List.mem_map]
   constructor
   · rintro ⟨d, hd, rfl⟩; exact ⟨d, (hm d).1 hd, rfl⟩
   · rintro ⟨d, hd, rfl⟩; exact ⟨d, (hm d).2 hd, rfl⟩
 · intro t ht r
   obtain ⟨u, hu, e⟩ := List.mem_map.1 ((hm _).1 (List.mem_map_of_mem ht))
   simp only [gdat, Prod.mk.injEq] at e
   rw [← e.2.2, ← e.1]
   exact h.rows u hu r
theorem GRel.has {G : List GT} {gv : Nat → Bool} (h : GRel G gv) {p : ByteArray} {n : Nat} (hp : (p, n) ∈ gPr) : ∃ t, t ∈ G ∧ t.nm = p ∧ t.pl = n := by
 obtain ⟨t, ht, e⟩ := List.mem_map.1 ((h.prs _).2 hp)
 simp only [prGT, Prod.mk.injEq] at e
 exact ⟨t, ht, e⟩
theorem GRel.len {G : List GT} {gv : Nat → Bool} (h : GRel G gv) (hn : (G.map GT.nm).Nodup) : G.length ≤ 3 := by
 have hs : G.map GT.nm ⊆ gPr.map Prod.fst := by
  intro x hx
  obtain ⟨t, ht, rfl⟩ := List.mem_map.1 hx
  exact List.mem_map.2 ⟨prGT t, (h.prs _).1 (List.mem_map_of_mem ht), rfl⟩
 have := List.Nodup.length_le_of_subset hn hs
 simpa [gPr] using this
theorem ord_nodup {L : List (List ByteArray)} (h : Tb.Ord L) : L.Nodup := List.Pairwise.imp (fun {a b} hab e => by subst e; rw [Tb.rcmp_irr] at hab; omega) h
theorem gsum_flat (G : List GT) : gsum G = (G.flatMap fun t => t.L.map fun r => (t.nm, r)).length := by
 induction G with
 | nil => rfl
 | cons t G ih =>
  unfold gsum at ih ⊢
  rw [List.map_cons, List.sum_cons, List.flatMap_cons, List.length_append, ih, List.length_map]
theorem GRel.sum {G : List GT} {gv : Nat → Bool} (h : GRel G gv) (hn : (G.map GT.nm).Nodup) (ho : ∀ t, t ∈ G → Tb.Ord t.L) : gsum G ≤ 36 := by
 rw [gsum_flat]
 have hnd : (G.flatMap fun t => t.L.map fun r => (t.nm, r)).Nodup := by
  unfold List.Nodup
  rw [List.pairwise_flatMap]
  refine ⟨?_, ?_⟩
  · intro t ht
    have := ord_nodup (ho t ht)
    rw [List.pairwise_map]
    exact List.Pairwise.imp (fun {a b} hab e => hab (by simpa using e)) this
  · have hn2 : G.Pairwise fun a b => a.nm ≠ b.nm := List.pairwise_map.1 hn
    refine List.Pairwise.imp ?_ hn2
    intro a b hab x hx y hy e
    obtain ⟨r, _, rfl⟩ := List.mem_map.1 hx
    obtain ⟨q, _, rfl⟩ := List.mem_map.1 hy
    exact hab (by simpa using (congrArg Prod.fst e))
 have hs : (G.flatMap fun t => t.L.map fun r => (t.nm, r)) ⊆ (List.range 36).map En.uF := by
  intro x hx
  obtain ⟨t, ht, hx⟩ := List.mem_flatMap.1 hx
  obtain ⟨r, hr, rfl⟩ := List.mem_map.1 hx
  obtain ⟨i, hi, _, e⟩ := (h.rows t ht r).1 hr
  exact List.mem_map.2 ⟨i, by simpa using hi, e⟩
 have := List.Nodup.length_le_of_subset hnd hs
 simpa using this
theorem GRel.glOf {G : List GT} {gv : Nat → Bool} (h : GRel G gv) (hn : (G.map GT.nm).Nodup) {Q : List Pd.Pr} (hQ : ∀ p, p ∈ Q ↔ p ∈ gPr) (f : En.Fct) : f ∈ glOf Q G ↔ En.gF gv f := by
 unfold Go.Proofs.YtdmicblafmhflaaGreatDoor.glOf En.gF
 rw [List.mem_flatMap]
 constructor
 · rintro ⟨p, hp, hf⟩
   obtain ⟨r, hr, rfl⟩ := List.mem_map.1 hf
   obtain ⟨t, ht, e, _⟩ := h.has (p := p.1) (n := p.2) ((hQ p).1 hp)
   rw [← e, rowsOf_mem hn ht] at hr
   obtain ⟨i, hi, hg, e2⟩ := (h.rows t ht r).1 hr
   exact ⟨i, hi, hg, by rw [e2, e]⟩
 · rintro ⟨i, hi, hg, rfl⟩
   have hp := dat_pr hi
   obtain ⟨t, ht, e, _⟩ := h.has hp
   refine ⟨_, (hQ _).2 hp, List.mem_map.2 ⟨Tb.row3 (dat i).2, ?_, (uF_dat i).symm⟩⟩
   show Tb.row3 (dat i).2 ∈ rowsOf G (dat i).1
   rw [← e, rowsOf_mem hn ht]
   exact (h.rows t ht _).2 ⟨i, hi, hg, by rw [uF_dat, e]⟩
theorem msearch_gen {rs : List Ax.Rule} {kl : List Ax.KRule} (he : rs.map Ax.erR = Ax.gR kl) {G : List GT} {gv : Nat → Bool} (h : GRel G gv) (hn : (G.map GT.nm).Nodup) {Q : List Pd.Pr} (hQ : ∀ p, p ∈ Q ↔ p ∈ prsOf rs) :
 ∃ s, msearch rs (glOf Q G) = some s ∧ En.Inv (En.sR (En.nRules kl)) (En.gF gv) s s.found.length := by
 have hsr : rs.map En.srule = En.sR (En.nRules kl) := En.srules_gen he
 have hok := En.nRules_ok kl
 have hi := En.start_inv (rs.map En.srule) (by rw [hsr]; exact En.sR_two hok) (Go.Proofs.YtdmicblafmhflaaGreatDoor.glOf Q G)
 have hpr : (fun f => f ∈ Go.Proofs.YtdmicblafmhflaaGreatDoor.glOf Q G) = En.gF gv := funext fun f => propext (h.glOf hn (fun p => (hQ p).trans (prs_gen he p)) f)
 rw [hpr, ← En.bless_bl0, hsr] at hi
 obtain ⟨s, hs⟩ := En.search_done hok hi 202 (by omega)
 refine ⟨s, ?_, En.search_inv (En.sR_two hok) 202 0 _ s hi (Nat.zero_le _) hs⟩
 unfold msearch mstart
 rw [hsr]
 exact hs
def setG (gv : Nat → Bool) (i : Nat) (b : Bool) : Nat → Bool := fun j => if j = i then b else gv j
end Go.Proofs.YtdmicblafmhflaaGreatDoor
