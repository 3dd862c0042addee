/- Package digest: a word written as four bytes. -/
import Derived.Test.YtdmicblafmhflaaGreatDoorC33
import Derived.Test.YtdmicblafmhflaaGreatDoorC13
import Derived.Test.YtdmicblafmhflaaGreatDoorC12
import Derived.Deep.LoopGhost
import Derived.Deep.CutBlock
set_option linter.unusedSimpArgs false
set_option linter.unusedVariables false
namespace Go.Proofs.YtdmicblafmhflaaGreatDoor
open Go.RowKit
namespace Dg
def byteF (word : Int) (k : Nat) : Int := word / 2 ^ (24 - 8 * k) % 256
def byte : Int → Nat → Int := shut byteF
def putW (f : Nat → Int) (o : Nat) (word : Int) (k : Nat) : Nat → Int := fun j => if o ≤ j ∧ j < o + k then byte word (j - o) else f j
theorem putW_zero (f : Nat → Int) (o : Nat) (word : Int) : putW f o word 0 = f := by
 funext j
 unfold putW
 rw [if_neg (by omega)]
theorem putW_succ (f : Nat → Int) (o : Nat) (word : Int) (k : Nat) : putW f o word (k + 1) = upd (putW f o word k) (o + k) (byte word k) := by
 funext j
 unfold putW upd
 by_cases e : j = o + k
 · subst e
   rw [if_pos (by omega), if_pos rfl, show o + k - o = k by omega]
 · have e2 : (o ≤ j ∧ j < o + (k + 1)) ↔ (o ≤ j ∧ j < o + k) := by omega
   simp only [if_neg e, e2]
end Dg
set_option maxRecDepth 100000 in
set_option maxHeartbeats 4000000 in
theorem putWord_any (w : World) (g o n c m : Nat) (T : TypeId) (f : Nat → Int) (word : Int) (hn : 4 ≤ n) (hm : o + 4 ≤ m) (hg : w.heap[g]? = some (.cells (Dg.arrN m .u8 f) T (0, 0))) :
 Calls Tryz.prog 121 #[.slice (some ⟨g, o, none⟩) n c, .int .u32 word] w fun e w' => e = .returned (.tuple #[]) ∧ w'.heap[g]? = some (.cells (Dg.arrN m .u8 (Dg.putW f o word 4)) T (0, 0)) ∧ Kb [g] w w' := by
 have HG : Hid (w.heap[g]? = some (.cells (Dg.arrN m .u8 (Dg.putW f o word 0)) T (0, 0))) := by
  rw [Dg.putW_zero]; exact hg
 clear hg
 go_enter Tryz.func121, Tryz.ntmps121
 go_wp2_with fail
 go_loopw [5] (fun i wr => ∃ k : Nat, k ≤ 4 ∧ i = .int .i64 k ∧ wr.heap[g]? = some (.cells (Dg.arrN m .u8 (Dg.putW f o word k)) T (0, 0)) ∧ Kb [g] w wr) (fun i _ => 4 - (intOf i).toNat)
 case atStart => exact ⟨0, by omega, rfl, HG.out, Kb.refl _ _⟩
 case round =>
  obtain ⟨k, hk, rfl, hv, hkb⟩ := hrel
  have HKB : Hid (Kb [g] w wr) := hkb
  have HV : Hid (wr.heap[g]? = some (.cells (Dg.arrN m .u8 (Dg.putW f o word k)) T (0, 0))) := hv
  have hl := lt_of_heap hv
  by_cases hlt : k < 4
  · have a0 := Dg.cell_arr hv (show o + k < m by omega)
    have a1 := Dg.frozen_arr hv (o + k)
    have h0 : (0 : Int) ≤ 24 - 8 * (k : Int) := by omega
    have HST : Hid ((wr.setCell ⟨g, o + k, none⟩ (.int .u8 (word / 2 ^ (24 - 8 * k) % 256))).heap[g]? = some (.cells (Dg.arrN m .u8 (Dg.putW f o word (k + 1))) T (0, 0)) ∧ Kb [g] w (wr.setCell ⟨g, o + k, none⟩ (.int .u8 (word / 2 ^ (24 - 8 * k) % 256)))) := by
     have e : Dg.byte word k = word / 2 ^ (24 - 8 * k) % 256 := by unfold Dg.byte; rw [Dg.shut_eq]; rfl
     refine ⟨?_, HKB.out.trans (Kb.setCell wr ⟨g, o + k, none⟩ _)⟩
     rw [Dg.store_arr hv (by omega), Dg.putW_succ, e]
    clear hv hkb
    go_wp2_with fail
    go_roundw
    case rel => exact ⟨k + 1, by omega, by go_num, HST.out.1, HST.out.2⟩
    case measure => simp [intOf]; omega
  · have HE : Hid (wr.heap[g]? = some (.cells (Dg.arrN m .u8 (Dg.putW f o word 4)) T (0, 0))) := by
     have hk4 : k = 4 := by omega
     rw [hk4] at hv
     exact hv
    clear hv hkb
    go_wp2_with fail
    go_end0
    exact ⟨rfl, HE.out, HKB.out⟩
end Go.Proofs.YtdmicblafmhflaaGreatDoor
/- Package digest: pad. -/
namespace Go.Proofs.YtdmicblafmhflaaGreatDoor
open Go.RowKit
theorem conv_bytes {w : World} (s : ByteArray) (hs : s.size ≤ maxLen) : BRow (Lib.bytesWorld w 5 s) w.heap.size 5 (.slice (some ⟨w.heap.size, 0, none⟩) s.size (grownCap w s.size 0 5)) s.size (byteCells s) ∧ Below w.heap.size w (Lib.bytesWorld w 5 s) := by
 have hge := grownCap_ge w s.size 0 5
 have hle : grownCap w s.size 0 5 ≤ maxLen := grownCap_le_maxLen w s.size 0 5 hs
 have hsz : (Lib.bytesCells w 5 s).size = grownCap w s.size 0 5 := by
  simp [Lib.bytesCells]
  omega
 refine ⟨⟨by simp [byteCells], w.heap.size, _, _, _, rfl, Nat.le_refl _, Lib.bytesWorld_at_new w 5 s, .inr (Nat.le_refl _), hge, hle, hsz, ?_⟩, ⟨rfl, rfl, rfl, by rw [Lib.bytesWorld_size]; omega, fun k hk => Lib.bytesWorld_at_old w 5 s k hk⟩⟩
 unfold Lib.bytesCells byteCells
 rw [Array.toList_append]
 have h1 : (s.data.map fun b => Value.int .u8 (b.toNat : Int)).toList = s.data.toList.map fun b => Value.int .u8 (b.toNat : Int) := by simp
 rw [h1]
 have h2 : (s.data.toList.map fun b => Value.int .u8 (b.toNat : Int)).length = s.size := by simp
 rw [← h2]
 exact List.take_left
namespace Dg
def zc (n : Nat) : Nat := (119 - n % 64) % 64
def zeros (k : Nat) : List Value := List.replicate k (.int .u8 0)
def lenF (n : Nat) : Nat → Int := putW (putW (fun _ => 0) 0 ((n : Int) * 8 / 4294967296) 4) 4 ((n : Int) * 8 % 4294967296) 4
def padL (s : ByteArray) : List Value := byteCells s ++ [.int .u8 128] ++ zeros (zc s.size) ++ (arrN 8 .u8 (lenF s.size)).toList
theorem zc_spec (n : Nat) : (n + 1 + zc n) % 64 = 56 ∧ ∀ j, j < zc n → (n + 1 + j) % 64 ≠ 56 := by
 unfold zc
 refine ⟨by omega, fun j hj => by omega⟩
theorem zeros_snoc (k : Nat) : zeros (k + 1) = zeros k ++ [.int .u8 0] := by
 unfold zeros
 rw [List.replicate_succ']
end Dg
theorem news_arr {w : World} {g n : Nat} {k : IntKind} {f : Nat → Int} {T : TypeId} (hg : w.heap[g]? = some (.cells (Dg.arrN n k f) T (0, 0))) : ∀ j u, (Dg.arrN n k f).toList[j]? = some u → w.cell? ((⟨g, 0, none⟩ : Addr).add j) = some u := by
 intro j u hj
 have hadd : (⟨g, 0, none⟩ : Addr).add j = ⟨g, j, none⟩ := by unfold Addr.add; split <;> simp_all
 rw [hadd, cell_of_row _ _ _ _ _ _ hg]
 simpa using hj
theorem brow_step {w w1 w2 : World} {v v2 : Value} {n m : Nat} {xs ys : List Value} {o : Obj} (h : BRow w1 w.heap.size 5 v n xs) (hb : Below w.heap.size w w1) (h2 : BRow w2 w.heap.size 5 v2 m ys) (hg : (w1.alloc o).grownBy w2 v.ownBlock) : Below w.heap.size w w2 := by
 refine (hb.alloc hb.size o).grown hg (by have := hb.size; simp; omega) ?_
 intro k hk
 obtain ⟨g, cap, e, hB, _⟩ := h.lt
 rw [e] at hk
 simp only [Value.ownBlock, Option.some.injEq] at hk
 omega
set_option maxRecDepth 100000 in
set_option maxHeartbeats 1000000 in
theorem pad_any (w : World) (s : ByteArray) (hs : s.size ≤ 100000000000) :
 Calls Tryz.prog 118 #[.string s] w fun e w' => ∃ v n, e = .returned v ∧ BRow w' w.heap.size 5 v n (Dg.padL s) ∧ Below w.heap.size w w' := by
 obtain ⟨i0, hi0, hz0, hz1, hz2⟩ := info_parts Tryz.infoByte
 have HI : Hid (Tryz.prog.info? 5 = some i0) := hi0
 have H0 : Hid (i0.zero = some (.int .u8 0)) := hz0
 have H1 : Hid (i0.size = 1) := hz1
 have H2 : Hid (i0.bytes = 1) := hz2
 clear hi0 hz0 hz1 hz2
 have hcv := Lib.run_convert_string_bytes (P := Tryz.prog) w 9 63 5 s Tryz.underlying9 Tryz.underlying63 Tryz.underlying5
 obtain ⟨hr0, hb0⟩ := conv_bytes (w := w) s (by unfold maxLen; omega)
 generalize Lib.bytesWorld w 5 s = w0 at hcv hr0 hb0
 generalize grownCap w s.size 0 5 = c0 at hcv hr0
 have hs0 := hb0.size
 go_enter Tryz.func118, Tryz.ntmps118
 go_wp2_with (at_builtin; go_must (refine wpList_append_brow _ rfl (.tmp 7) (.tmp 8) 63 rfl w.heap.size 5 i0 _ 1 Tryz.underlying63 HI.out H0.out H1.out H2.out rfl _ _ _ rfl (hr0.alloc _) ⟨w0.heap.size, 0, none⟩ 1 1 [.int .u8 128] rfl rfl (World.news_of_block (heap_alloc_new _ _)) (by simp [Value.oneCell']) (by unfold maxLen; omega) (by omega) (by simp; omega) ?_; intro v2 w2 hown2 hgrow2))
 have hb2 := brow_step hr0 hb0 hown2 hgrow2
 have HR2 : Hid (BRow w2 w.heap.size 5 v2 (s.size + 1 + 0) (byteCells s ++ [.int .u8 128] ++ Dg.zeros 0)) := by
  have : byteCells s ++ [Value.int .u8 128] ++ Dg.zeros 0 = byteCells s ++ [.int .u8 128] := by simp [Dg.zeros]
  rw [this]
  exact hown2
 have HB2 : Hid (Below w.heap.size w w2) := hb2
 have hzc : Dg.zc s.size < 64 := by unfold Dg.zc; omega
 obtain ⟨hz1, hz2⟩ := Dg.zc_spec s.size
 have HZ2 : Hid (∀ j, j < Dg.zc s.size → (s.size + 1 + j) % 64 ≠ 56) := hz2
 have HPL : Hid (Dg.padL s = byteCells s ++ [.int .u8 128] ++ Dg.zeros (Dg.zc s.size) ++ (Dg.arrN 8 .u8 (Dg.lenF s.size)).toList) := (rfl : Dg.padL s = _)
 generalize Dg.zc s.size = Z at hzc hz1 HZ2 HPL
 clear hz2 hcv hr0 hb0 hown2 hgrow2 hb2 hs0
 go_loopg [3] Z (fun k v wr => ∃ j : Nat, j + k = Z ∧ BRow wr w.heap.size 5 v (s.size + 1 + j) (byteCells s ++ [.int .u8 128] ++ Dg.zeros j) ∧ Below w.heap.size w wr)
 case atStart => exact ⟨0, by omega, HR2.out, HB2.out⟩
 case round =>
  obtain ⟨j, hj, hown, hbel⟩ := hrel
  have HR : Hid (BRow wr w.heap.size 5 _ (s.size + 1 + j) (byteCells s ++ [.int .u8 128] ++ Dg.zeros j)) := hown
  have HB : Hid (Below w.heap.size w wr) := hbel
  have hsw := hbel.size
  obtain ⟨g, cap, e0, hgB, hgl, hcap, hcells⟩ := hown.lt
  subst e0
  cases gk with
  | succ k =>
   have hne : ((((s.size + 1 + j : Nat) : Int) % 64) != 56) = true := by
    have := HZ2.out j (by omega)
    simp; omega
   clear hcells hbel
   go_wp2_with (at_builtin; go_must (refine wpList_append_brow _ rfl (.tmp 14) (.tmp 15) 63 rfl w.heap.size 5 i0 _ 1 Tryz.underlying63 HI.out H0.out H1.out H2.out rfl _ _ _ rfl (hown.alloc _) ⟨wr.heap.size, 0, none⟩ 1 1 [.int .u8 0] rfl rfl (World.news_of_block (heap_alloc_new _ _)) (by simp [Value.oneCell']) (by unfold maxLen; omega) (by omega) (by simp; omega) ?_; intro v3 w3 hown3 hgrow3))
   have hb3 := brow_step HR.out HB.out hown3 hgrow3
   go_roundg k
   case measure => omega
   case rel =>
    refine ⟨j + 1, by omega, ?_, hb3⟩
    rw [Dg.zeros_snoc, ← List.append_assoc]
    exact hown3
  | zero =>
   have hjz : j = Z := by omega
   have heq : ((((s.size + 1 + j : Nat) : Int) % 64) != 56) = false := by
    rw [hjz]
    simp; omega
   have HRZ : Hid (BRow wr w.heap.size 5 (.slice (some ⟨g, 0, none⟩) (s.size + 1 + j) cap) (s.size + 1 + j) (byteCells s ++ [.int .u8 128] ++ Dg.zeros Z)) := by
    have := HR.out
    rw [hjz] at this ⊢
    exact this
   have hjb : j < 64 := by omega
   clear hcells hbel hown hjz
   have hp1 : Hid (∀ word : Int, Calls Tryz.prog 121 #[.slice (some ⟨wr.heap.size, 0, none⟩) 8 8, .int .u32 word] (wr.alloc (.cells #[.int .u8 0, .int .u8 0, .int .u8 0, .int .u8 0, .int .u8 0, .int .u8 0, .int .u8 0, .int .u8 0] 329)) fun e w4 => e = .returned (.tuple #[]) ∧ Hid (w4.heap[wr.heap.size]? = some (.cells (Dg.arrN 8 .u8 (Dg.putW (fun _ => 0) 0 word 4)) 329 (0, 0)) ∧ Kb [wr.heap.size] (wr.alloc (.cells #[.int .u8 0, .int .u8 0, .int .u8 0, .int .u8 0, .int .u8 0, .int .u8 0, .int .u8 0, .int .u8 0] 329)) w4) ∧ wr.heap.size < w4.heap.size ∧ ∀ word2 : Int, Calls Tryz.prog 121 #[.slice (some ⟨wr.heap.size, 4, none⟩) 4 4, .int .u32 word2] w4 fun e w5 => e = .returned (.tuple #[]) ∧ Hid (w5.heap[wr.heap.size]? = some (.cells (Dg.arrN 8 .u8 (Dg.putW (Dg.putW (fun _ => 0) 0 word 4) 4 word2 4)) 329 (0, 0)) ∧ Kb [wr.heap.size] (wr.alloc (.cells #[.int .u8 0, .int .u8 0, .int .u8 0, .int .u8 0, .int .u8 0, .int .u8 0, .int .u8 0, .int .u8 0] 329)) w5) ∧ wr.heap.size < w5.heap.size) := by
    intro word
    refine (putWord_any _ wr.heap.size 0 8 8 8 329 (fun _ => 0) word (by decide) (by decide) (heap_alloc_new wr _)).mono ?_
    rintro e w4 ⟨rfl, q1, q2⟩
    refine ⟨rfl, ⟨q1, q2⟩, lt_of_heap q1, fun word2 => ?_⟩
    refine (putWord_any w4 wr.heap.size 4 4 4 8 329 _ word2 (by decide) (by decide) q1).mono ?_
    rintro e w5 ⟨rfl, q3, q4⟩
    exact ⟨rfl, ⟨q3, q2.trans q4⟩, lt_of_heap q3⟩
   go_upto_region 6 with fail
   go_upto_region 7 with (go_at_call 121; refine (hp1.out _).mono ?_; rintro e w4 ⟨rfl, Q4, hl4, hp2⟩)
   go_upto_region 8 with (go_at_call 121; refine (hp2 _).mono ?_; rintro e w5 ⟨rfl, Q5, hl5⟩)
   have h5 : w5.heap[wr.heap.size]? = some (.cells (Dg.arrN 8 .u8 (Dg.lenF s.size)) 329 (0, 0)) := Q5.out.1
   have hr5 : BRow w5 w.heap.size 5 (.slice (some ⟨g, 0, none⟩) (s.size + 1 + j) cap) (s.size + 1 + j) (byteCells s ++ [.int .u8 128] ++ Dg.zeros Z) := (HRZ.out.alloc _).kept Q5.out.2 (by intro b hb; simp only [Value.ownBlock, Option.some.injEq] at hb; simp only [List.mem_singleton]; omega)
   have hb5 : Below w.heap.size w w5 := Q5.out.2.to_below (HB.out.alloc hsw _) (by simp; omega) (by simp; omega)
   have hs5 := hb5.size
   have HB5 : Hid (Below w.heap.size w w5) := hb5
   have HGB : Hid (w.heap.size ≤ g) := hgB
   go_wp2_with (at_builtin; go_must (refine wpList_append_brow _ rfl (.tmp 30) (.tmp 31) 63 rfl w.heap.size 5 i0 _ 1 Tryz.underlying63 HI.out H0.out H1.out H2.out rfl _ _ _ rfl hr5 ⟨wr.heap.size, 0, none⟩ 8 8 (Dg.arrN 8 .u8 (Dg.lenF s.size)).toList rfl (by rw [Array.length_toList, Dg.arrN_size]) (news_arr h5) (Dg.arrN_one _ _ _) (by unfold maxLen; omega) (by omega) (by omega) ?_; intro v6 w6 hown6 hgrow6))
   have hb6 : Below w.heap.size w w6 := HB5.out.grown hgrow6 hs5 (fun k hk => by have hk' : some g = some k := hk; simp only [Option.some.injEq] at hk'; have := HGB.out; omega)
   go_ret
   exact ⟨v6, _, rfl, by rw [HPL.out]; exact hown6, hb6⟩
end Go.Proofs.YtdmicblafmhflaaGreatDoor
/- Package digest: Of. -/
namespace Go.Proofs.YtdmicblafmhflaaGreatDoor
open Go.RowKit
namespace Dg
def iv (i : Nat) : Int := match i with | 0 => 1779033703 | 1 => 3144134277 | 2 => 1013904242 | 3 => 2773480762 | 4 => 1359893119 | 5 => 2600822924 | 6 => 528734635 | _ => 1541459225
theorem zero32 : arrN 32 .u8 (fun _ => 0) = #[.int .u8 0, .int .u8 0, .int .u8 0, .int .u8 0, .int .u8 0, .int .u8 0, .int .u8 0, .int .u8 0, .int .u8 0, .int .u8 0, .int .u8 0, .int .u8 0, .int .u8 0, .int .u8 0, .int .u8 0, .int .u8 0, .int .u8 0, .int .u8 0, .int .u8 0, .int .u8 0, .int .u8 0, .int .u8 0, .int .u8 0, .int .u8 0, .int .u8 0, .int .u8 0, .int .u8 0, .int .u8 0, .int .u8 0, .int .u8 0, .int .u8 0, .int .u8 0] := rfl
def intV (u : Value) : Int := match u with | .int _ v => v | _ => 0
def padF (s : ByteArray) (j : Nat) : Int := intV ((padL s).getD j (.int .u8 0))
theorem padL_u8 (s : ByteArray) : ∀ u, u ∈ padL s → ∃ v, u = .int .u8 v := by
 intro u hu
 unfold padL byteCells zeros arrN at hu
 simp only [List.append_assoc, List.mem_append, List.mem_map, List.mem_cons, List.not_mem_nil, or_false, List.toList_toArray] at hu
 rcases hu with ⟨b, _, rfl⟩ | rfl | hu | ⟨i, _, rfl⟩
 · exact ⟨_, rfl⟩
 · exact ⟨_, rfl⟩
 · rw [List.eq_of_mem_replicate hu]; exact ⟨_, rfl⟩
 · exact ⟨_, rfl⟩
theorem padL_get (s : ByteArray) {j : Nat} (h : j < (padL s).length) : (padL s)[j]? = some (.int .u8 (padF s j)) := by
 obtain ⟨v, hv⟩ := padL_u8 s _ (List.getElem_mem h)
 have e : padF s j = v := by
  unfold padF
  rw [List.getD_eq_getElem?_getD, List.getElem?_eq_getElem h, hv]
  rfl
 rw [List.getElem?_eq_getElem h, hv, e]
theorem padL_len (s : ByteArray) : (padL s).length = s.size + 1 + zc s.size + 8 := by
 unfold padL zeros
 simp [byteCells, arrN_size]
 omega
def blocks (s : ByteArray) : Nat := (s.size + 1 + zc s.size + 8) / 64
theorem blocks_len (s : ByteArray) : (padL s).length = 64 * blocks s := by
 rw [padL_len]
 have := (zc_spec s.size).1
 unfold blocks
 omega
def hash (K : Nat → Int) (s : ByteArray) : Nat → Nat → Int
 | 0 => iv
 | n + 1 => behind K (hash K s n) (sched fun j => padF s (64 * n + j))
def digS (h : Nat → Int) : Nat → Nat → Int
 | 0 => fun _ => 0
 | k + 1 => putW (digS h k) (4 * k) (h k) 4
def sha : (Nat → Int) → ByteArray → Nat → Int := shut fun K s => digS (hash K s (blocks s)) 8
end Dg
set_option maxRecDepth 100000 in
set_option maxHeartbeats 1000000 in
theorem start_any (w : World) : Calls Tryz.prog 117 #[] w fun e w' => e = .returned (.agg (Dg.arr8 Dg.iv)) ∧ Below w.heap.size w w' := by
 go_enter Tryz.func117, Tryz.ntmps117
 go_wp2_with fail
 refine bodyPost_ret (v := .agg (Dg.arr8 Dg.iv)) ?_ rfl ⟨rfl, (Below.refl _ _).alloc (Nat.le_refl _) _⟩
 exact results_cell_row rfl _ _ _ _ _ _ _ rfl (heap_alloc_new w _) Tryz.underlying230 rfl (by kernel_rfl)
theorem slice_arr (W : World) (g k : Nat) (h : k < 8) : (Instr.sliceAt 105 (.pointer (some ⟨g, 0, none⟩)) (some (.int .i64 (4 * (k : Int)))) none none).run Tryz.prog W = .ok (.slice (some ⟨g, 4 * k, none⟩) (32 - 4 * k) (32 - 4 * k)) W := by
 have h3 : (0 : Int) ≤ 4 * (k : Int) := by omega
 have e2 : (4 * (k : Int)).toNat = 4 * k := by omega
 have h4 : 4 * (k : Int) ≤ 32 := by omega
 have h5 : ¬ 32 = 4 * k := by omega
 have hadd : (⟨g, 0, none⟩ : Addr).add (4 * k) = ⟨g, 4 * k, none⟩ := by unfold Addr.add; split <;> simp_all
 have hu := run_underlying Tryz.underlying105 W
 have hsz := Tryz.sizeOf5 W
 unfold Instr.sliceAt
 simp [hu, Instr.sureAddr, Instr.sliceBounds, Instr.sliceBound, asIntOf, h3, e2, h4, h5, hsz, hadd]
set_option maxRecDepth 100000 in
set_option maxHeartbeats 2000000 in
theorem of_any (K : Nat → Int) (s : ByteArray) (w : World) (hK : Dg.Tab w K) (hs : s.size ≤ 100000000000) : Calls Tryz.prog 60 #[.string s] w fun e w' => e = .returned (.agg (Dg.arrN 32 .u8 (Dg.sha K s))) ∧ Below w.heap.size w w' := by
 have HE : Hid (Dg.sha K s = Dg.digS (Dg.hash K s (Dg.blocks s)) 8) := by
  have : Dg.sha K s = Dg.digS (Dg.hash K s (Dg.blocks s)) 8 := by unfold Dg.sha; rw [Dg.shut_eq]
  exact this
 have HK : Hid (Dg.Tab w K) := hK
 clear hK
 obtain ⟨w0, hw0⟩ : ∃ w0, w0 = w.alloc (.cells (Dg.arrN 32 .u8 (fun _ => 0)) 105) := ⟨_, rfl⟩
 have hb0 : Below w.heap.size w w0 := by rw [hw0]; exact (Below.refl _ _).alloc (Nat.le_refl _) _
 have hz0 : w0.heap[w.heap.size]? = some (.cells (Dg.arrN 32 .u8 (fun _ => 0)) 105 (0, 0)) := by rw [hw0]; exact heap_alloc_new w _
 have hst := start_any w0
 have e8 : Dg.arr8 Dg.iv = #[.int .u32 (Dg.iv 0), .int .u32 (Dg.iv 1), .int .u32 (Dg.iv 2), .int .u32 (Dg.iv 3), .int .u32 (Dg.iv 4), .int .u32 (Dg.iv 5), .int .u32 (Dg.iv 6), .int .u32 (Dg.iv 7)] := rfl
 rw [e8] at hst
 go_enter Tryz.func60, Tryz.ntmps60
 go_upto_region 1 with fail
 rw [← Dg.zero32, ← hw0]
 clear hw0 e8
 go_upto_region 2 with (go_at_call 117; refine hst.mono ?_; rintro e w1 ⟨rfl, hb1⟩)
 have hpad : Hid (∀ W : World, Calls Tryz.prog 118 #[.string s] W fun e w2 => ∃ g cap, e = .returned (.slice (some ⟨g, 0, none⟩) (64 * Dg.blocks s) cap) ∧ 64 * Dg.blocks s ≤ cap ∧ g < w2.heap.size ∧ Hid (∀ j, j < 64 * Dg.blocks s → w2.cell? ⟨g, j, none⟩ = some (.int .u8 (Dg.padF s j))) ∧ Hid (Below W.heap.size W w2) ∧ W.heap.size ≤ g) := by
  intro W
  refine (pad_any W s hs).mono ?_
  rintro e w2 ⟨v, n, rfl, hrow, hb⟩
  have hn : n = 64 * Dg.blocks s := by rw [← hrow.1, Dg.blocks_len]
  subst hn
  obtain ⟨g, cap, rfl, hB, hgl, hcap, hcells⟩ := hrow.lt
  exact ⟨g, cap, rfl, hcap, hgl, fun j hj => hcells j _ (Dg.padL_get s (by rw [Dg.blocks_len]; exact hj)), hb, hB⟩
 have HB1 : Hid (Below w.heap.size w w1) := hb0.trans (hb1.mono hb0.size)
 have HZ1 : Hid (w1.heap[w.heap.size]? = some (.cells (Dg.arrN 32 .u8 (fun _ => 0)) 105 (0, 0))) := by
  rw [hb1.block _ (lt_of_heap hz0)]
  exact hz0
 have hbl : Dg.blocks s ≤ 10000000000 := by unfold Dg.blocks Dg.zc; omega
 clear hst hb0 hz0 hb1
 go_upto_region 3 with (go_at_call 118; refine (hpad.out _).mono ?_; rintro e w2 ⟨g, cap, rfl, hcap, hgl, HC, HB2, hgB⟩)
 rw [World.size_alloc] at hgB
 have HH : Hid (w2.heap[w1.heap.size]? = some (.cells (Dg.arrN 8 .u32 (Dg.hash K s 0)) 230 (0, 0))) := by
  rw [HB2.out.block _ (by simp)]
  exact heap_alloc_new w1 _
 have HZ2 : Hid (w2.heap[w.heap.size]? = some (.cells (Dg.arrN 32 .u8 (fun _ => 0)) 105 (0, 0))) := by
  have hlt := lt_of_heap HZ1.out
  rw [HB2.out.block _ (by simp; omega), Below.heap_alloc _ _ _ hlt]
  exact HZ1.out
 have HBW : Hid (Below w.heap.size w w2) := (HB1.out.alloc HB1.out.size _).trans (HB2.out.mono (by have := HB1.out.size; simp; omega))
 have hws : w.heap.size ≤ w1.heap.size := HB1.out.size
 have hw1 : w.heap.size ≠ w1.heap.size := by have := lt_of_heap HZ1.out; omega
 generalize hBB : Dg.blocks s = B at hcap HC hbl HE
 clear hBB hpad
 go_wp2_with fail
 go_loopw [5] (fun i wr => ∃ n p : Nat, p = 64 * n ∧ n ≤ B ∧ i = .int .i64 p ∧ wr.heap[w1.heap.size]? = some (.cells (Dg.arrN 8 .u32 (Dg.hash K s n)) 230 (0, 0)) ∧ Kb [w1.heap.size] w2 wr) (fun i _ => 64 * B - (intOf i).toNat)
 case atStart => exact ⟨0, 0, rfl, Nat.zero_le _, rfl, HH.out, Kb.refl _ _⟩
 case round =>
  obtain ⟨n, p, hp, hn, rfl, hv, hkb⟩ := hrel
  have HP : Hid (p = 64 * n) := hp
  have HKB : Hid (Kb [w1.heap.size] w2 wr) := hkb
  have hlv := lt_of_heap hv
  have HBR : Hid (Below w.heap.size w wr) := hkb.to_below HBW.out HBW.out.size (by simp; omega)
  by_cases hlt : n < B
  · have HNX : Hid (Dg.hash K s (n + 1) = Dg.behind K (Dg.hash K s n) (Dg.sched fun j => Dg.padF s (64 * n + j))) := (rfl : Dg.hash K s (n + 1) = _)
    generalize Dg.hash K s n = h at hv HNX
    have c0 : wr.cell? ⟨w1.heap.size, 0, none⟩ = some (.int .u32 (h 0)) := Dg.cell_arr hv (by decide)
    have c1 : wr.cell? ⟨w1.heap.size, 1, none⟩ = some (.int .u32 (h 1)) := Dg.cell_arr hv (by decide)
    have c2 : wr.cell? ⟨w1.heap.size, 2, none⟩ = some (.int .u32 (h 2)) := Dg.cell_arr hv (by decide)
    have c3 : wr.cell? ⟨w1.heap.size, 3, none⟩ = some (.int .u32 (h 3)) := Dg.cell_arr hv (by decide)
    have c4 : wr.cell? ⟨w1.heap.size, 4, none⟩ = some (.int .u32 (h 4)) := Dg.cell_arr hv (by decide)
    have c5 : wr.cell? ⟨w1.heap.size, 5, none⟩ = some (.int .u32 (h 5)) := Dg.cell_arr hv (by decide)
    have c6 : wr.cell? ⟨w1.heap.size, 6, none⟩ = some (.int .u32 (h 6)) := Dg.cell_arr hv (by decide)
    have c7 : wr.cell? ⟨w1.heap.size, 7, none⟩ = some (.int .u32 (h 7)) := Dg.cell_arr hv (by decide)
    have hcb : Hid (∀ (W : World), Below wr.heap.size wr W → Calls Tryz.prog 120 #[.slice (some ⟨g, 64 * n, none⟩) 64 (cap - 64 * n)] W fun e w3 => e = .returned (.agg (Dg.arrN 64 .u32 (Dg.sched fun j => Dg.padF s (64 * n + j)))) ∧ (w3.cell? ⟨w1.heap.size, 0, none⟩ = some (.int .u32 (h 0)) ∧ w3.cell? ⟨w1.heap.size, 1, none⟩ = some (.int .u32 (h 1)) ∧ w3.cell? ⟨w1.heap.size, 2, none⟩ = some (.int .u32 (h 2)) ∧ w3.cell? ⟨w1.heap.size, 3, none⟩ = some (.int .u32 (h 3)) ∧ w3.cell? ⟨w1.heap.size, 4, none⟩ = some (.int .u32 (h 4)) ∧ w3.cell? ⟨w1.heap.size, 5, none⟩ = some (.int .u32 (h 5)) ∧ w3.cell? ⟨w1.heap.size, 6, none⟩ = some (.int .u32 (h 6)) ∧ w3.cell? ⟨w1.heap.size, 7, none⟩ = some (.int .u32 (h 7))) ∧ w1.heap.size < w3.heap.size ∧ Hid (Below wr.heap.size wr w3)) := by
     intro W hW
     have hcl : ∀ j, j < 64 → W.cell? ⟨g, 64 * n + j, none⟩ = some (.int .u8 (Dg.padF s (64 * n + j))) := by
      intro j hj
      have e1 : wr.cell? ⟨g, 64 * n + j, none⟩ = w2.cell? ⟨g, 64 * n + j, none⟩ := World.cell?_of_block (HKB.out.block g hgl (by simp only [List.mem_singleton]; omega))
      rw [hW.cell (show g < wr.heap.size from Nat.lt_of_lt_of_le hgl HKB.out.size), e1]
      exact HC.out _ (by omega)
     refine (sched_any W g (64 * n) (cap - 64 * n) _ (by omega) hcl).mono ?_
     rintro e w3 ⟨rfl, hb⟩
     have hb3 : Below wr.heap.size wr w3 := hW.trans (hb.mono hW.size)
     have hv3 : w3.heap[w1.heap.size]? = some (.cells (Dg.arrN 8 .u32 h) 230 (0, 0)) := by
      rw [hb3.block _ hlv]; exact hv
     exact ⟨rfl, ⟨Dg.cell_arr hv3 (by decide), Dg.cell_arr hv3 (by decide), Dg.cell_arr hv3 (by decide), Dg.cell_arr hv3 (by decide), Dg.cell_arr hv3 (by decide), Dg.cell_arr hv3 (by decide), Dg.cell_arr hv3 (by decide), Dg.cell_arr hv3 (by decide)⟩, lt_of_heap hv3, hb3⟩
    have hbe : Hid (∀ (W : World), Below wr.heap.size wr W → Calls Tryz.prog 119 #[.agg #[.int .u32 (h 0), .int .u32 (h 1), .int .u32 (h 2), .int .u32 (h 3), .int .u32 (h 4), .int .u32 (h 5), .int .u32 (h 6), .int .u32 (h 7)], .agg (Dg.arrN 64 .u32 (Dg.sched fun j => Dg.padF s (64 * n + j)))] W fun e w4 => e = .returned (.agg #[.int .u32 (Dg.behind K h (Dg.sched fun j => Dg.padF s (64 * n + j)) 0), .int .u32 (Dg.behind K h (Dg.sched fun j => Dg.padF s (64 * n + j)) 1), .int .u32 (Dg.behind K h (Dg.sched fun j => Dg.padF s (64 * n + j)) 2), .int .u32 (Dg.behind K h (Dg.sched fun j => Dg.padF s (64 * n + j)) 3), .int .u32 (Dg.behind K h (Dg.sched fun j => Dg.padF s (64 * n + j)) 4), .int .u32 (Dg.behind K h (Dg.sched fun j => Dg.padF s (64 * n + j)) 5), .int .u32 (Dg.behind K h (Dg.sched fun j => Dg.padF s (64 * n + j)) 6), .int .u32 (Dg.behind K h (Dg.sched fun j => Dg.padF s (64 * n + j)) 7)]) ∧ (w4.cell? ⟨w1.heap.size, 0, none⟩ = some (.int .u32 (h 0)) ∧ w4.cell? ⟨w1.heap.size, 1, none⟩ = some (.int .u32 (h 1)) ∧ w4.cell? ⟨w1.heap.size, 2, none⟩ = some (.int .u32 (h 2)) ∧ w4.cell? ⟨w1.heap.size, 3, none⟩ = some (.int .u32 (h 3)) ∧ w4.cell? ⟨w1.heap.size, 4, none⟩ = some (.int .u32 (h 4)) ∧ w4.cell? ⟨w1.heap.size, 5, none⟩ = some (.int .u32 (h 5)) ∧ w4.cell? ⟨w1.heap.size, 6, none⟩ = some (.int .u32 (h 6)) ∧ w4.cell? ⟨w1.heap.size, 7, none⟩ = some (.int .u32 (h 7))) ∧ (w4.frozen? ⟨w1.heap.size, 0, none⟩ = false ∧ w4.frozen? ⟨w1.heap.size, 1, none⟩ = false ∧ w4.frozen? ⟨w1.heap.size, 2, none⟩ = false ∧ w4.frozen? ⟨w1.heap.size, 3, none⟩ = false ∧ w4.frozen? ⟨w1.heap.size, 4, none⟩ = false ∧ w4.frozen? ⟨w1.heap.size, 5, none⟩ = false ∧ w4.frozen? ⟨w1.heap.size, 6, none⟩ = false ∧ w4.frozen? ⟨w1.heap.size, 7, none⟩ = false) ∧ w1.heap.size < w4.heap.size ∧ Hid (w4.heap[w1.heap.size]? = some (.cells #[.int .u32 (h 0), .int .u32 (h 1), .int .u32 (h 2), .int .u32 (h 3), .int .u32 (h 4), .int .u32 (h 5), .int .u32 (h 6), .int .u32 (h 7)] 230 (0, 0)) ∧ Below wr.heap.size wr w4)) := by
     intro W hW
     refine (behind_any K h _ W ((HK.out.below HBR.out).below hW)).mono ?_
     rintro e w4 ⟨rfl, hb⟩
     have hb4 : Below wr.heap.size wr w4 := hW.trans (hb.mono hW.size)
     have hv4 : w4.heap[w1.heap.size]? = some (.cells (Dg.arrN 8 .u32 h) 230 (0, 0)) := by
      rw [hb4.block _ hlv]; exact hv
     exact ⟨rfl, ⟨Dg.cell_arr hv4 (by decide), Dg.cell_arr hv4 (by decide), Dg.cell_arr hv4 (by decide), Dg.cell_arr hv4 (by decide), Dg.cell_arr hv4 (by decide), Dg.cell_arr hv4 (by decide), Dg.cell_arr hv4 (by decide), Dg.cell_arr hv4 (by decide)⟩, ⟨Dg.frozen_arr hv4 _, Dg.frozen_arr hv4 _, Dg.frozen_arr hv4 _, Dg.frozen_arr hv4 _, Dg.frozen_arr hv4 _, Dg.frozen_arr hv4 _, Dg.frozen_arr hv4 _, Dg.frozen_arr hv4 _⟩, lt_of_heap hv4, hv4, hb4⟩
    generalize Dg.behind K h (Dg.sched fun j => Dg.padF s (64 * n + j)) = h' at hbe HNX
    generalize (Dg.sched fun j => Dg.padF s (64 * n + j)) = ws at hcb hbe
    have hpc : p + 64 ≤ cap := by omega
    have hpb : p < 64 * B := by omega
    rw [← hp] at hcb
    have hpl : p ≤ 1000000000000 := by omega
    clear hkb hv hp
    go_upto_block 1 with fail
    go_cut [5] from 12 to 25 (fun v wx => v = .int .i64 p ∧ wx.heap[w1.heap.size]? = some (.cells (Dg.arrN 8 .u32 (Dg.hash K s (n + 1))) 230 (0, 0)) ∧ Kb [w1.heap.size] w2 wx)
    case first =>
     go_upto_region 6 with fail
     have k1 : (0 : Int) ≤ (p : Int) + 64 := by omega
     have k2 : (p : Int) + 64 ≤ (cap : Int) := by omega
     have k4 : ((p : Int) + 64).toNat = p + 64 := by omega
     have k5 : ¬ cap = p := by omega
     have kw : IntKind.i64.wrap ((p : Int) + 64) = (p : Int) + 64 := by simp [IntKind.wrap, IntKind.bits, IntKind.signed]; omega
     have kw2 : wrap64 ((p : Int) + 64) = (p : Int) + 64 := by unfold wrap64; omega
     go_region_with (first | (go_at_call 120; refine (hcb.out _ (by exact (Below.refl _ _).drew)).mono ?_; rintro e w3 ⟨rfl, ⟨d0, d1, d2, d3, d4, d5, d6, d7⟩, hl3, HB3⟩) | (go_at_call 119; refine (hbe.out _ (by exact HB3.out)).mono ?_; rintro e w4 ⟨rfl, ⟨a0, a1, a2, a3, a4, a5, a6, a7⟩, ⟨f0, f1, f2, f3, f4, f5, f6, f7⟩, hl4, HV4⟩))
     all_goals
      (obtain ⟨q1, q2⟩ := stores8 HV4.out.1 (.int .u32 (h' 0)) (.int .u32 (h' 1)) (.int .u32 (h' 2)) (.int .u32 (h' 3)) (.int .u32 (h' 4)) (.int .u32 (h' 5)) (.int .u32 (h' 6)) (.int .u32 (h' 7))
       have HQ : Hid (Kb [w1.heap.size] w2 w4) := HKB.out.below HV4.out.2
       go_wp2_with fail
       go_meet
       exact ⟨rfl, by rw [HNX.out]; exact q1, HQ.out.trans q2⟩)
    case rest =>
     obtain ⟨rfl, hv5, hk5⟩ := hcut
     have HV5 : Hid (wc.heap[w1.heap.size]? = some (.cells (Dg.arrN 8 .u32 (Dg.hash K s (n + 1))) 230 (0, 0))) := hv5
     have HK5 : Hid (Kb [w1.heap.size] w2 wc) := hk5
     clear hv5 hk5
     go_wp2_with fail
     go_roundw
     case rel => exact ⟨n + 1, p + 64, by have := HP.out; omega, by omega, by go_num, HV5.out, HK5.out⟩
     case measure => simp [intOf]; omega
  · have HF : Hid (wr.heap[w1.heap.size]? = some (.cells (Dg.arrN 8 .u32 (Dg.hash K s B)) 230 (0, 0))) := by
     have hnB : n = B := by omega
     rw [hnB] at hv
     exact hv
    have HZR : Hid (wr.heap[w.heap.size]? = some (.cells (Dg.arrN 32 .u8 (fun _ => 0)) 105 (0, 0))) := HKB.out.heap HZ2.out (by simp only [List.mem_singleton]; omega)
    have hpge : ¬ p < 64 * B := by omega
    generalize Dg.hash K s B = h at HF HE
    clear hv hkb hp
    obtain ⟨wA, rfl⟩ : ∃ x, x = wr := ⟨_, rfl⟩
    go_upto_region 8 with fail
    rw [← Dg.zero32]
    obtain ⟨w3, hw3⟩ : ∃ w3, w3 = wA.alloc (.cells (Dg.arrN 32 .u8 (fun _ => 0)) 105) := ⟨_, rfl⟩
    have hb3 : Below wA.heap.size wA w3 := by rw [hw3]; exact (Below.refl _ _).alloc (Nat.le_refl _) _
    have hd3 : w3.heap[wA.heap.size]? = some (.cells (Dg.arrN 32 .u8 (Dg.digS h 0)) 105 (0, 0)) := by rw [hw3]; exact heap_alloc_new wA _
    have hh3 : w3.heap[w1.heap.size]? = some (.cells (Dg.arrN 8 .u32 h) 230 (0, 0)) := by rw [hb3.block _ (lt_of_heap HF.out)]; exact HF.out
    have HZ3 : Hid (w3.heap[w.heap.size]? = some (.cells (Dg.arrN 32 .u8 (fun _ => 0)) 105 (0, 0))) := by rw [hb3.block _ (lt_of_heap HZR.out)]; exact HZR.out
    rw [← hw3]
    clear hw3
    have HD3 : Hid (w3.heap[wA.heap.size]? = some (.cells (Dg.arrN 32 .u8 (Dg.digS h 0)) 105 (0, 0))) := hd3
    have hzl := lt_of_heap HZR.out
    have HB3 : Hid (Below w.heap.size w w3) := HBR.out.trans (hb3.mono HBR.out.size)
    clear hd3 hb3
    have hix : ∀ (W : World) (i : Nat), i < 8 → (Instr.index 230 (.agg (Dg.arrN 8 .u32 h)) (.int .i64 i)).run Tryz.prog W = .ok (.int .u32 (h i)) W := fun W i hi => index_arr Tryz.underlying230 W hi
    go_wp2_with (refine wpList_load_row rfl 230 (.tmp 3) rfl w1.heap.size rfl _ _ _ _ hh3 Tryz.underlying230 rfl (by rw [Dg.arrN_size]; kernel_rfl) ?_)
    go_loopw [27] (fun i wr => ∃ k : Nat, k ≤ 8 ∧ i = .int .i64 k ∧ wr.heap[wA.heap.size]? = some (.cells (Dg.arrN 32 .u8 (Dg.digS h k)) 105 (0, 0)) ∧ Kb [wA.heap.size] w3 wr) (fun i _ => 8 - (intOf i).toNat)
    case atStart => exact ⟨0, by omega, rfl, HD3.out, Kb.refl _ _⟩
    case round =>
     obtain ⟨k, hk, rfl, hv, hkb⟩ := hrel
     have HKR : Hid (Kb [wA.heap.size] w3 wr) := hkb
     have hlv := lt_of_heap hv
     by_cases hlt8 : k < 8
     · have hi := hix wr k hlt8
       have hsl := slice_arr wr wA.heap.size k hlt8
       have hpw : Hid (Calls Tryz.prog 121 #[.slice (some ⟨wA.heap.size, 4 * k, none⟩) (32 - 4 * k) (32 - 4 * k), .int .u32 (h k)] wr fun e w5 => e = .returned (.tuple #[]) ∧ Hid (w5.heap[wA.heap.size]? = some (.cells (Dg.arrN 32 .u8 (Dg.digS h (k + 1))) 105 (0, 0)) ∧ Kb [wA.heap.size] w3 w5)) := by
        refine (putWord_any wr wA.heap.size (4 * k) (32 - 4 * k) (32 - 4 * k) 32 105 (Dg.digS h k) (h k) (by omega) (by omega) hv).mono ?_
        rintro e w5 ⟨rfl, q1, q2⟩
        exact ⟨rfl, q1, HKR.out.trans q2⟩
       clear hv hkb
       go_wp2_with (go_at_call 121; refine hpw.out.mono ?_; rintro e w5 ⟨rfl, Q5⟩)
       go_roundw
       case rel => exact ⟨k + 1, by omega, by go_num, Q5.out.1, Q5.out.2⟩
       case measure => simp [intOf]; omega
     · have hv' : wr.heap[wA.heap.size]? = some (.cells (Dg.arrN 32 .u8 (Dg.digS h 8)) 105 (0, 0)) := by
        have hk8 : k = 8 := by omega
        rw [hk8] at hv
        exact hv
       have hz : wr.heap[w.heap.size]? = some (.cells (Dg.arrN 32 .u8 (fun _ => 0)) 105 (0, 0)) := HKR.out.heap HZ3.out (by simp only [List.mem_singleton]; omega)
       have hbe : Below w.heap.size w wr := HKR.out.to_below HB3.out HB3.out.size (by simp; omega)
       have hend : Hid (Below w.heap.size w (wr.setRow w.heap.size (Dg.arrN 32 .u8 (Dg.digS h 8)))) := (Kb.setRow wr w.heap.size _).to_below hbe hbe.size (by simp)
       have hrow : Hid ((wr.setRow w.heap.size (Dg.arrN 32 .u8 (Dg.digS h 8))).heap[w.heap.size]? = some (.cells (Dg.arrN 32 .u8 (Dg.digS h 8)) 105 (0, 0))) := heap_setRow_at wr w.heap.size _ hz
       generalize Dg.digS h 8 = f at hv' HE hend hrow
       clear hv hkb hbe
       go_wp2_with (first | (refine wpList_load_row rfl 105 (.tmp 6) rfl wA.heap.size rfl _ _ _ _ hv' Tryz.underlying105 rfl (by rw [Dg.arrN_size]; kernel_rfl) ?_) | (refine wpList_store_row rfl 105 (.tmp 2) (.tmp 37) rfl w.heap.size rfl (Dg.arrN 32 .u8 f) rfl _ _ hz (by rw [Dg.arrN_size, Dg.arrN_size]) (by rw [Dg.arrN_size]; kernel_rfl) (Dg.arrN_one _ _ _) ?_))
       refine bodyPost_ret (v := .agg (Dg.arrN 32 .u8 f)) ?_ rfl ⟨by rw [HE.out], hend.out⟩
       exact results_cell_row rfl _ _ _ _ _ _ _ rfl hrow.out Tryz.underlying105 rfl (by rw [Dg.arrN_size]; kernel_rfl)
end Go.Proofs.YtdmicblafmhflaaGreatDoor
