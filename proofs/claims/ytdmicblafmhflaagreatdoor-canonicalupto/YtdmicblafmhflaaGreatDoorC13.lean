/- Rows of bytes whose mark lies behind them. No program here. -/
import Derived.Test.YtdmicblafmhflaaGreatDoorC12
import Derived.Lib.ConvBytes
import Derived.Deep.AppendLies
import Derived.Test.YtdmicblafmhflaaGreatDoorC08
set_option linter.unusedSimpArgs false
set_option linter.unusedVariables false
namespace Go.Proofs.YtdmicblafmhflaaGreatDoor
open Go.RowKit
def Harm (fz : Nat × Nat) (n : Nat) : Prop := fz = (0, 0) ∨ n ≤ fz.1
theorem frozen_harm {w : World} {g : Nat} {cur : Array Value} {t : TypeId} {fz : Nat × Nat} (hg : w.heap[g]? = some (.cells cur t fz)) (hz : Harm fz cur.size) {j : Nat} (hj : j < cur.size) : w.frozen? ⟨g, j, none⟩ = false := by
 rcases hz with rfl | h
 · simp [World.frozen?, hg]
 · simp [World.frozen?, hg]
   omega
theorem run_storeCells_harm (P : Program) (g o : Nat) (t : TypeId) (fz : Nat × Nat) : ∀ (vs : List Value) (i : Nat) (cur : Array Value) (w : World), w.heap[g]? = some (.cells cur t fz) → Harm fz cur.size → o + i + vs.length ≤ cur.size → (∀ v ∈ vs, v.oneCell' = true) →
 (storeCells ⟨g, o, none⟩ vs i).run P w = .ok () (w.setRow g (cur.toList.take (o + i) ++ vs ++ cur.toList.drop (o + i + vs.length)).toArray)
 | [], i, cur, w, hg, _, _, _ => by
  simp only [storeCells, List.append_nil, List.length_nil, Nat.add_zero, List.take_append_drop, Array.toArray_toList]
  rw [setRow_self w g cur t fz hg]
  rfl
 | v :: rest, i, cur, w, hg, hz, hl, h1 => by
  have hi : o + i < cur.size := by simp at hl; omega
  have hadd : (⟨g, o, none⟩ : Addr).add i = ⟨g, o + i, none⟩ := by unfold Addr.add; split <;> simp_all
  have hcell : w.cell? ⟨g, o + i, none⟩ = some cur[o + i] := by simp [World.cell?, hg, hi]
  have hfro : w.frozen? ⟨g, o + i, none⟩ = false := frozen_harm hg hz hi
  have hst : (store ((⟨g, o, none⟩ : Addr).add i) v).run P w = .ok () (w.setRow g (cur.setIfInBounds (o + i) v)) := by
   rw [hadd, run_store P w _ v _ (h1 v (by simp)), hcell]
   simp [hfro, setCell_eq_setRow w g (o + i) cur t fz v hg]
  have ih := run_storeCells_harm P g o t fz rest (i + 1) (cur.setIfInBounds (o + i) v) (w.setRow g (cur.setIfInBounds (o + i) v)) (setRow_heap w g cur _ t _ hg) (by simpa using hz) (by simp at hl ⊢; omega) (fun x hx => h1 x (by simp [hx]))
  simp only [storeCells, Sem.run_bind, hst, Result.andThen_ok, ih, setRow_setRow]
  congr 3
  have e := list_seg_step cur.toList (o + i) v rest (by simp at hl ⊢; omega)
  simpa [Array.toList_setIfInBounds, Nat.add_assoc] using e
def BRow (w : World) (base : Nat) (e : TypeId) (v : Value) (n : Nat) (xs : List Value) : Prop :=
 xs.length = n ∧ ∃ g cap cur fz, v = .slice (some ⟨g, 0, none⟩) n cap ∧ base ≤ g ∧ w.heap[g]? = some (.cells cur e fz) ∧ Harm fz cur.size ∧ n ≤ cap ∧ cap ≤ maxLen ∧ cur.size = cap ∧ cur.toList.take n = xs
theorem BRow.lt {w : World} {base : Nat} {e : TypeId} {v : Value} {n : Nat} {xs : List Value} (h : BRow w base e v n xs) : ∃ g cap, v = .slice (some ⟨g, 0, none⟩) n cap ∧ base ≤ g ∧ g < w.heap.size ∧ n ≤ cap ∧ ∀ j u, xs[j]? = some u → w.cell? ⟨g, j, none⟩ = some u := by
 obtain ⟨h1, g, cap, cur, fz, rfl, hb, hg, hz, hn, hm, hs, ht⟩ := h
 refine ⟨g, cap, rfl, hb, (Array.getElem?_eq_some_iff.1 hg).1, hn, fun j u hj => ?_⟩
 rw [cell_of_row w g j cur e fz hg]
 rw [← ht, List.getElem?_take] at hj
 split at hj
 · simpa using hj
 · cases hj
theorem BRow.alloc {w : World} {base : Nat} {e : TypeId} {v : Value} {n : Nat} {xs : List Value} (h : BRow w base e v n xs) (o : Obj) : BRow (w.alloc o) base e v n xs := by
 obtain ⟨h1, g, cap, cur, fz, rfl, hb, hg, rest⟩ := h
 exact ⟨h1, g, cap, cur, fz, rfl, hb, by rw [Below.heap_alloc _ _ _ (Array.getElem?_eq_some_iff.1 hg).1]; exact hg, rest⟩
theorem BRow.kept {w w' : World} {S : List Nat} {base : Nat} {e : TypeId} {v : Value} {n : Nat} {xs : List Value} (h : BRow w base e v n xs) (hk : Kb S w w') (hS : ∀ b, v.ownBlock = some b → ¬ b ∈ S) : BRow w' base e v n xs := by
 obtain ⟨h1, g, cap, cur, fz, rfl, hb, hg, rest⟩ := h
 exact ⟨h1, g, cap, cur, fz, rfl, hb, hk.heap hg (hS g rfl), rest⟩
theorem run_append_brow {P : Program} (w : World) (base : Nat) (t ty e : TypeId) (i : TypeInfo) (z : Value) (bytes : Nat) (ht : P.underlying t = some (.slice e)) (hi : P.info? e = some i) (hz : i.zero = some z) (hsize : i.size = 1) (hby : i.bytes = bytes) (hzs : z.cells.size = 1)
 (v : Value) (n : Nat) (xs : List Value) (hown : BRow w base e v n xs) (a : Addr) (m c : Nat) (news : List Value) (hl : news.length = m) (hnews : ∀ j u, news[j]? = some u → w.cell? (a.add j) = some u) (h1 : ∀ u ∈ news, u.oneCell' = true)
 (h63 : n + m ≤ maxLen) (hbytes : (n + m) * bytes ≤ 140737488355328) (hbase : base ≤ w.heap.size) :
 ∃ v' w', (Builtin.append_ #[t, t] ty #[v, .slice (some a) m c]).run P w = .ok v' w' ∧ BRow w' base e v' (n + m) (xs ++ news) ∧ w.grownBy w' v.ownBlock := by
 subst hby
 have hsmall : n + m ≤ 9223372036854775807 := by simp only [maxLen] at h63; omega
 have hlen : (xs ++ news).length = n + m := by rw [List.length_append, hown.1, hl]
 obtain ⟨_, g, cap, cur, fz, rfl, hbg, hg, hfz, hnc, hcm, hcs, htake⟩ := hown
 have hxl : xs.length = n := by rw [← htake, List.length_take]; simp; omega
 by_cases hroom : n + m ≤ cap
 · have hf := run_firstCells_some (P := P) w i.size m a m c news (by rw [hsize, hl]; omega) hnews
   have hst := run_storeCells_harm P g n e fz news 0 cur w hg hfz (by simp; omega) h1
   simp only [Nat.add_zero] at hst
   refine ⟨.slice (some ⟨g, 0, none⟩) (n + m) cap, w.setRow g (cur.toList.take n ++ news ++ cur.toList.drop (n + news.length)).toArray, ?_, ⟨hlen, g, cap, (cur.toList.take n ++ news ++ cur.toList.drop (n + news.length)).toArray, fz, rfl, hbg, setRow_heap w g cur _ e _ hg, ?_, hroom, hcm, ?_, ?_⟩, ⟨rfl, rfl, rfl, by simp, fun k _ hk => setRow_other w g k _ (fun e => hk (by simp [Value.ownBlock, e]))⟩⟩
   · rw [hsize] at hf
     simp [Builtin.append_, run_underlying ht, sizeOf, typeInfo, hi, Builtin.lenOf, hroom, hf, Addr.add_lit, hst, hsize]
   · have : (cur.toList.take n ++ news ++ cur.toList.drop (n + news.length)).toArray.size = cur.size := by
      simp only [List.size_toArray, List.length_append, List.length_take, List.length_drop, Array.length_toList]
      omega
     rw [this]
     exact hfz
   · simp only [List.size_toArray, List.length_append, List.length_take, List.length_drop, Array.length_toList]
     omega
   · rw [htake, ← hlen]
     exact List.take_left
 · have holds : ∀ j u, xs[j]? = some u → w.cell? ((⟨g, 0, none⟩ : Addr).add j) = some u := by
    intro j u hj
    have hadd : (⟨g, 0, none⟩ : Addr).add j = ⟨g, j, none⟩ := by unfold Addr.add; split <;> simp_all
    rw [hadd, cell_of_row w g j cur e fz hg]
    rw [← htake, List.getElem?_take] at hj
    split at hj
    · simpa using hj
    · cases hj
   have hr := run_append_grow (P := P) w t ty e i z ht hi hz ⟨g, 0, none⟩ n cap xs (by rw [hsize, hxl]; omega) holds a m c news (by rw [hsize, hl]; omega) hnews (by omega) (by omega) (growslice_fits (by omega) hbytes)
   have hge := grownCap_ge w (n + m) cap e
   have hcm2 : grownCap w (n + m) cap e ≤ maxLen := grownCap_le_maxLen w (n + m) cap e h63
   refine ⟨_, _, hr, ⟨hlen, w.heap.size, _, _, (0, 0), rfl, hbase, heap_alloc_new w.drew _, .inl rfl, hge, hcm2, ?_, ?_⟩, ⟨rfl, rfl, rfl, by simp, fun k hk _ => heap_alloc_old w.drew _ hk⟩⟩
   · simp only [Array.size_append, List.size_toArray, size_zeroCells, hzs, hxl, hl]
     omega
   · simp only [Array.toList_append, List.append_assoc]
     rw [← List.append_assoc, ← hlen]
     exact List.take_left
theorem wpList_append_brow {P : Program} (w : World) {ops : Array Oper} {rest : List Oper} {o : Oper} {a : Act} {Q : Exit → Act → World → Prop} (hgd : o.guard = none) (s x : Operand) (t : TypeId)
 (ho : o.op = .call { callee := .builtin .append, args := #[s, x], argTypes := #[t, t] })
 (base : Nat) (e : TypeId) (i : TypeInfo) (z : Value) (bytes : Nat) (ht : P.underlying t = some (.slice e)) (hi : P.info? e = some i) (hz : i.zero = some z) (hsize : i.size = 1) (hby : i.bytes = bytes) (hzs : z.cells.size = 1)
 (v : Value) (n : Nat) (xs : List Value) (hs : a.eval s = v) (hown : BRow w base e v n xs)
 (ad : Addr) (m c : Nat) (news : List Value) (hx : a.eval x = .slice (some ad) m c) (hl : news.length = m) (hnews : ∀ j u, news[j]? = some u → w.cell? (ad.add j) = some u) (h1 : ∀ u ∈ news, u.oneCell' = true)
 (h63 : n + m ≤ maxLen) (hbytes : (n + m) * bytes ≤ 140737488355328) (hbase : base ≤ w.heap.size)
 (h : ∀ v' w', BRow w' base e v' (n + m) (xs ++ news) → w.grownBy w' v.ownBlock → wpList P ops Q rest (a.put o.dst v') w') : wpList P ops Q (o :: rest) a w := by
 refine wpList_plain hgd fun _ hK => ?_
 obtain ⟨v', w', hr, h2, h3⟩ := run_append_brow (P := P) w base t o.type e i z bytes ht hi hz hsize hby hzs v n xs hown ad m c news hl hnews h1 h63 hbytes hbase
 unfold Oper.wp execOp
 simp only [ho, resolve, invoke, builtin, Sem.run_bind, Sem.run_pure, Result.andThen_ok, List.map_toArray, List.map_cons, List.map_nil, hs, hx, hr]
 exact hK _ _ (h v' w' h2 h3)
def byteCells (s : ByteArray) : List Value := s.data.toList.map fun b => .int .u8 (b.toNat : Int)
end Go.Proofs.YtdmicblafmhflaaGreatDoor
/- Package encode: numbers and texts as bytes. -/
namespace Go.Proofs.YtdmicblafmhflaaGreatDoor
open Go.RowKit
namespace Rc
def numB (n : Nat) : List UInt8 := if n ≤ 127 then [UInt8.ofNat n] else UInt8.ofNat (n % 128 + 128) :: numB (n / 128)
def u8s (l : List UInt8) : List Value := l.map fun b => .int .u8 (b.toNat : Int)
theorem u8s_app (a b : List UInt8) : u8s (a ++ b) = u8s a ++ u8s b := by simp [u8s]
theorem u8s_len (l : List UInt8) : (u8s l).length = l.length := by simp [u8s]
theorem u8s_one (l : List UInt8) : ∀ u ∈ u8s l, u.oneCell' = true := by
 intro u hu
 obtain ⟨b, _, rfl⟩ := List.mem_map.1 hu
 rfl
theorem numB_small {n : Nat} (h : n ≤ 127) : numB n = [UInt8.ofNat n] := by rw [numB, if_pos h]
theorem numB_big {n : Nat} (h : ¬ n ≤ 127) : numB n = UInt8.ofNat (n % 128 + 128) :: numB (n / 128) := by rw [numB, if_neg h]
theorem numB_len : ∀ (k n : Nat), n < 128 ^ k → 0 < k → (numB n).length ≤ k
 | 0, n, _, h => by omega
 | k + 1, n, hn, _ => by
  by_cases h : n ≤ 127
  · rw [numB_small h]; simp
  · rw [numB_big h, List.length_cons]
    cases k with
    | zero => simp at hn; omega
    | succ k =>
     have := numB_len (k + 1) (n / 128) (by rw [Nat.pow_succ] at hn; exact Nat.div_lt_of_lt_mul (by rw [Nat.mul_comm]; exact hn)) (by omega)
     omega
def textB (t : ByteArray) : List UInt8 := numB t.size ++ t.data.toList
theorem or128 : ∀ x : Fin 128, bits .or .u8 ((x.1 : Nat) : Int) 128 = ((x.1 + 128 : Nat) : Int) := by decide
theorem and127 (m : Nat) (h : m < 4611686018427387904) : bits .and .i64 (m : Int) 127 = ((m % 128 : Nat) : Int) := by
 have e : (BitVec.ofInt 64 (m : Int) &&& BitVec.ofInt 64 127).toNat = m % 128 := by
  rw [BitVec.toNat_and]
  have h1 : (BitVec.ofInt 64 (m : Int)).toNat = m := by
   rw [BitVec.ofInt_natCast, BitVec.toNat_ofNat]
   omega
  have h2 : (BitVec.ofInt 64 127).toNat = 2 ^ 7 - 1 := by decide
  rw [h1, h2, Nat.and_two_pow_sub_one_eq_mod]
 show IntKind.i64.wrap (((BitVec.ofInt 64 (m : Int) &&& BitVec.ofInt 64 127).toNat : Nat) : Int) = _
 rw [e]
 simp [IntKind.wrap, IntKind.bits, IntKind.signed]
 omega
end Rc
theorem u8_world {B : Nat} {w w1 w2 : World} {v : Value} {n : Nat} {xs : List Value} {o : Obj} (hB : B ≤ w1.heap.size) (hown : w1.ownsRow B 5 1 v n xs) (hbel : Below B w w1) (ho : Lib.OthersKept 5 none w w1) (hgrow : (w1.alloc o).grownBy w2 v.ownBlock) : Below B w w2 ∧ Lib.OthersKept 5 none w w2 :=
 ⟨(hbel.alloc hB o).grown hgrow (by simp; omega) (fun k hk => (hown.lt k hk).1), (ho.alloc o).grown hgrow (ownsRow_kind (hown.alloc o))⟩
set_option maxRecDepth 100000 in
set_option maxHeartbeats 1000000 in
theorem appendNumber_any (B : Nat) (w : World) (v : Value) (n : Nat) (xs : List Value) (k : Nat) (hown : w.ownsRow B 5 1 v n xs) (hB : B ≤ w.heap.size) (hn : n ≤ 100000000000) (hk : k ≤ 1000000000000) :
 Calls Tryz.prog 78 #[v, .int .i64 k] w fun e w' => ∃ v' n', e = .returned v' ∧ w'.ownsRow B 5 1 v' n' (xs ++ Rc.u8s (Rc.numB k)) ∧ Below B w w' ∧ Lib.OthersKept 5 none w w' := by
 obtain ⟨i0, hi0, hz0, hz1, hz2⟩ := info_parts Tryz.infoByte
 have HI : Hid (Tryz.prog.info? 5 = some i0) := hi0
 have H0 : Hid (i0.zero = some (.int .u8 0)) := hz0
 have H1 : Hid (i0.size = 1) := hz1
 have H2 : Hid (i0.bytes = 1) := hz2
 clear hi0 hz0 hz1 hz2
 obtain ⟨vd, vc, hv0⟩ := ownsRow_shape hown
 subst hv0
 have HR : Hid (xs ++ Rc.u8s (Rc.numB k) = xs ++ Rc.u8s (Rc.numB k)) := (rfl : xs ++ Rc.u8s (Rc.numB k) = _)
 go_enter Tryz.func78, Tryz.ntmps78
 go_wp2_with fail
 go_loopw [0, 1] (fun a i wr => ∃ (m l : Nat) (ys : List Value), i = .int .i64 m ∧ m ≤ k ∧ l + m ≤ n + k ∧ wr.ownsRow B 5 1 a l ys ∧ ys ++ Rc.u8s (Rc.numB m) = xs ++ Rc.u8s (Rc.numB k) ∧ Below B w wr ∧ B ≤ wr.heap.size ∧ Lib.OthersKept 5 none w wr) (fun _ i _ => (intOf i).toNat)
 case atStart => exact ⟨k, n, xs, rfl, Nat.le_refl _, Nat.le_refl _, hown, rfl, Below.refl _ _, hB, Lib.OthersKept.refl _ _ _⟩
 case round =>
  obtain ⟨m, l, ys, rfl, hm, hl, hrow, hys, hbel, hBw, hoth⟩ := hrel
  obtain ⟨ad, ac, ha0⟩ := ownsRow_shape hrow
  subst ha0
  have HYS : Hid (ys ++ Rc.u8s (Rc.numB m) = xs ++ Rc.u8s (Rc.numB k)) := hys
  have HB : Hid (Below B w wr) := hbel
  have HO : Hid (Lib.OthersKept 5 none w wr) := hoth
  have HROW : Hid (wr.ownsRow B 5 1 (.slice ad l ac) l ys) := hrow
  clear hys hbel hoth HR hown
  by_cases hbig : m ≤ 127
  · go_wp2_with (at_builtin; go_must (refine wpList_append_own _ rfl (.tmp 16) (.tmp 19) 63 rfl B 5 i0 _ 1 1 Tryz.underlying63 HI.out H0.out H1.out H2.out rfl (by decide) _ _ _ rfl (hrow.alloc _) ⟨wr.heap.size, 0, none⟩ 1 1 [.int .u8 (m : Int)] rfl rfl (World.news_of_block (heap_alloc_new _ _)) (by simp [Value.oneCell']) (by unfold maxLen; omega) (by omega) (by simp; omega) ?_; intro v2 w2 hown2 hgrow2 _; obtain ⟨hb2, ho2⟩ := u8_world hBw HROW.out HB.out HO.out hgrow2))
    go_ret
    refine ⟨v2, l + 1, rfl, ?_, hb2, ho2⟩
    rw [← HYS.out, Rc.numB_small hbig]
    have e : (UInt8.ofNat m).toNat = m := by simp; omega
    simpa [Rc.u8s, e] using hown2
  · have HNX : Hid (ys ++ [.int .u8 ((m % 128 + 128 : Nat) : Int)] ++ Rc.u8s (Rc.numB (m / 128)) = xs ++ Rc.u8s (Rc.numB k)) := by
     have h1 := HYS.out
     rw [Rc.numB_big hbig] at h1
     have e : (UInt8.ofNat (m % 128 + 128)).toNat = m % 128 + 128 := by simp; omega
     have h2 : Rc.u8s (UInt8.ofNat (m % 128 + 128) :: Rc.numB (m / 128)) = .int .u8 ((m % 128 + 128 : Nat) : Int) :: Rc.u8s (Rc.numB (m / 128)) := by
      simp only [Rc.u8s, List.map_cons, e]
     rw [h2] at h1
     have h3 : ys ++ [Value.int .u8 ((m % 128 + 128 : Nat) : Int)] ++ Rc.u8s (Rc.numB (m / 128)) = xs ++ Rc.u8s (Rc.numB k) := by
      rw [← h1]; simp
     exact h3
    have ha : bits BinOp.and IntKind.i64 (m : Int) 127 = ((m % 128 : Nat) : Int) := Rc.and127 m (by omega)
    have HOR : Hid (bits BinOp.or IntKind.u8 ((m : Int) % 128) 128 = ((m % 128 + 128 : Nat) : Int)) := by
     have h1 := Rc.or128 ⟨m % 128, by omega⟩
     have h2 : bits BinOp.or IntKind.u8 ((m : Int) % 128) 128 = ((m % 128 + 128 : Nat) : Int) := by
      rw [← h1]; simp
     exact h2
    go_wp2_with (at_builtin; go_must (refine wpList_append_own _ rfl (.tmp 9) (.tmp 14) 63 rfl B 5 i0 _ 1 1 Tryz.underlying63 HI.out H0.out H1.out H2.out rfl (by decide) _ _ _ rfl (hrow.alloc _) ⟨wr.heap.size, 0, none⟩ 1 1 [.int .u8 (bits BinOp.or IntKind.u8 ((m : Int) % 128) 128)] rfl rfl (World.news_of_block (heap_alloc_new _ _)) (by simp [Value.oneCell']) (by unfold maxLen; omega) (by omega) (by simp; omega) ?_; intro v2 w2 hown2 hgrow2 _; obtain ⟨hb2, ho2⟩ := u8_world hBw HROW.out HB.out HO.out hgrow2; have hs2 := hgrow2.size))
    rw [HOR.out] at hown2
    go_roundw
    case rel =>
     refine ⟨m / 128, l + 1, _, by go_num, by omega, by omega, hown2, HNX.out, hb2, ?_, ho2⟩
     simp at hs2; omega
    case measure => simp [intOf]; omega
set_option maxRecDepth 100000 in
set_option maxHeartbeats 1000000 in
theorem appendText_any (B : Nat) (w : World) (v : Value) (n : Nat) (xs : List Value) (t : ByteArray) (hown : w.ownsRow B 5 1 v n xs) (hB : B ≤ w.heap.size) (hn : n ≤ 100000000000) (hk : t.size ≤ 1000000000) :
 Calls Tryz.prog 77 #[v, .string t] w fun e w' => ∃ v' n', e = .returned v' ∧ w'.ownsRow B 5 1 v' n' (xs ++ Rc.u8s (Rc.textB t)) ∧ Below B w w' ∧ Lib.OthersKept 5 none w w' := by
 have hnum := appendNumber_any B w v n xs t.size hown hB hn (by omega)
 obtain ⟨vd, vc, hv0⟩ := ownsRow_shape hown
 subst hv0
 have hpw : (128 : Nat) ^ 10 = 1180591620717411303424 := by decide
 have hnl : (Rc.numB t.size).length ≤ 10 := Rc.numB_len 10 t.size (by omega) (by decide)
 clear hpw
 have hxl : xs.length = n := by have := hown.1; omega
 clear hown
 go_enter Tryz.func77, Tryz.ntmps77
 go_wp2_with (first | (go_at_call 78; refine hnum.mono ?_; rintro e w1 ⟨v1, n1, rfl, hown1, hb1, ho1⟩; have hl1 := hown1.1; rw [List.length_append, Rc.u8s_len] at hl1; have hB1 : B ≤ w1.heap.size := Nat.le_trans hB hb1.size) | (at_builtin; obtain ⟨i0, hi, hz0, hz1, hz2⟩ := info_parts Tryz.infoByte; refine Lib.wpList_append_own_string _ rfl _ _ 63 9 rfl B 5 i0 Tryz.underlying63 Tryz.underlying9 hi hz0 hz1 hz2 _ _ _ rfl hown1 t rfl (by unfold maxLen; omega) (by omega) hB1 ?_; intro v2 w2 hown2 hgrow2 _))
 have hg2 : w1.grownBy w2 v1.ownBlock := hgrow2
 have hb2 : Below B w w2 := hb1.grown hg2 hB1 (fun k hk => (hown1.lt k hk).1)
 have ho2 : Lib.OthersKept 5 none w w2 := ho1.grown hg2 (ownsRow_kind hown1)
 go_ret
 refine ⟨v2, n1 + t.size, rfl, ?_, hb2, ho2⟩
 have e : xs ++ Rc.u8s (Rc.textB t) = xs ++ Rc.u8s (Rc.numB t.size) ++ Lib.strCells t := by
  unfold Rc.textB
  rw [Rc.u8s_app, List.append_assoc]
  rfl
 rw [e]
 exact hown2
end Go.Proofs.YtdmicblafmhflaaGreatDoor
/- addPreds. -/
namespace Go.Proofs.YtdmicblafmhflaaGreatDoor
open Go.RowKit
theorem ownsRow_others {w w' : World} {b : Nat} {e e' : TypeId} {size : Nat} {v : Value} {n : Nat} {xs : List Value} (h : w.ownsRow b e size v n xs) (ho : Lib.OthersKept e' none w w') (hne : e ≠ e') : w'.ownsRow b e size v n xs := by
 refine ⟨h.1, ?_⟩
 rcases h.2 with hn | ⟨g, cap, cur, hv, hg, hh, r⟩
 · exact .inl hn
 · refine .inr ⟨g, cap, cur, hv, hg, ho g _ hh (by simp) (fun c fz e1 => ?_), r⟩
   simp at e1
   exact hne e1.2.1
theorem others_below {w w' : World} {e : TypeId} (h : Below w.heap.size w w') : Lib.OthersKept e none w w' := fun k o hk _ _ => (h.block k (lt_of_heap hk)).trans hk
theorem oks_others {w w' : World} {l : List MA} {e' : TypeId} (h : oks w l) (ho : Lib.OthersKept e' none w w') (hne : 310 ≠ e') : oks w' l := fun x hx => ownsRow_others (h x hx) ho hne
theorem MR.others {w w' : World} {r : MR} {e' : TypeId} (h : MR.ok w r) (ho : Lib.OthersKept e' none w w') (h1 : 310 ≠ e') (h2 : 219 ≠ e') : MR.ok w' r :=
 ⟨ownsRow_others h.1 ho h1, ownsRow_others h.2.1 ho h2, oks_others h.2.2 ho h1⟩
theorem strCells_snoc (l : List ByteArray) (s : ByteArray) : strCells (l ++ [s]) = strCells l ++ [.string s] := by simp [strCells]
theorem Tryz.infoStr : (Tryz.prog.info? 9).map (fun i => (i.zero, i.size, i.bytes)) = some (some (.string ByteArray.empty), 1, 16) := by kernel_rfl
theorem preds_world {B : Nat} {w w1 w2 : World} {v : Value} {n : Nat} {xs : List Value} {o : Obj} (hB : B ≤ w1.heap.size) (hown : w1.ownsRow B 9 1 v n xs) (hbel : Below B w w1) (ho : Lib.OthersKept 9 none w w1) (hgrow : (w1.alloc o).grownBy w2 v.ownBlock) :
 Below B w w2 ∧ Lib.OthersKept 9 none w w2 :=
 ⟨(hbel.alloc hB o).grown hgrow (by simp; omega) (fun k hk => (hown.lt k hk).1), (ho.alloc o).grown hgrow (ownsRow_kind (hown.alloc o))⟩
def PredsRel (B : Nat) (w wr : World) (v : Value) (ps : List ByteArray) (k : Nat) (L : List Ax.Atom) (n : Nat) (R : List ByteArray) : Prop :=
 wr.ownsRow B 9 1 v ps.length (strCells ps) ∧ Below B w wr ∧ B ≤ wr.heap.size ∧ Lib.OthersKept 9 none w wr ∧ ps.length ≤ n + k ∧ Ax.addPreds ps (L.drop k) = R
set_option maxHeartbeats 2000000 in
theorem addPreds_any (B : Nat) (w : World) (pd : Option Addr) (pc : Nat) (ps : List ByteArray) (a : Ax.Atom) (ad : Option Addr) (c : Nat) (bd : Option Addr) (d : Nat) (l : List MA) (h : MR.ok w ⟨(a, .slice ad a.terms.length c), .slice bd l.length d, l⟩) (hl : l.length ≤ 1000)
 (hB : B ≤ w.heap.size) (hps : w.ownsRow B 9 1 (.slice pd ps.length pc) ps.length (strCells ps)) (hpl : ps.length ≤ 1000) :
 Calls Tryz.prog 180 #[.slice pd ps.length pc, .agg #[.int .i64 a.at_, .string a.pred, .slice ad a.terms.length c, .slice bd l.length d]] w fun e w' => ∃ pd' pc' ps', e = .returned (.slice pd' (List.length ps') pc') ∧ Hid (ps' = Ax.addPreds ps (a :: l.map Prod.fst)) ∧ w'.ownsRow B 9 1 (.slice pd' ps'.length pc') ps'.length (strCells ps') ∧ Below B w w' ∧ Lib.OthersKept 9 none w w' ∧ ps'.length ≤ ps.length + l.length + 1 := by
 generalize hR : Ax.addPreds ps (a :: l.map Prod.fst) = R
 have HR : Hid (Ax.addPreds ps (a :: l.map Prod.fst) = R) := hR
 clear hR
 go_enter Tryz.func180, Tryz.ntmps180
 go_wp2_with (go_at_call 112; refine (atomsOf_any _ _ _ _ _ _ _ (MR.below h ((Below.refl _ _).alloc (Nat.le_refl _) _)) hl).mono ?_; rintro e w1 ⟨ad', c', rfl, hats, hoks, hb1⟩)
 have hb0 : Below w.heap.size w w1 := ((Below.refl _ _).alloc (Nat.le_refl _) _).trans (hb1.mono (by simp))
 have hs1 := hb0.size
 clear hb1 h
 generalize hL : (a, Value.slice ad a.terms.length c) :: l = L at hats hoks
 have hLl : L.length = l.length + 1 := by rw [← hL]; rfl
 have hLm : L.map Prod.fst = a :: l.map Prod.fst := by rw [← hL]; rfl
 rw [← hLm] at HR
 clear hL hLm
 have hLa : L.length ≤ l.length + 1 := by omega
 have hLb : l.length + 1 ≤ L.length := by omega
 clear hLl
 go_loopw [0, 10] (fun v i wr => ∃ (k : Nat) (qs : List ByteArray), k ≤ L.length ∧ i = .int .i64 k ∧ PredsRel B w wr v qs k (L.map Prod.fst) ps.length R ∧ Lib.OthersKept 9 none w1 wr) (fun _ i _ => L.length - (intOf i).toNat)
 case atStart => exact ⟨0, ps, Nat.zero_le _, rfl, ⟨ownsRow_below hps hb0, hb0.mono hB, by omega, others_below hb0, by omega, HR.out⟩, Lib.OthersKept.refl _ _ _⟩
 case round =>
  obtain ⟨k, qs, hk, rfl, ⟨hown, hbel, hBw, hoth, hql, hr⟩, ho1⟩ := hrel
  have HRk : Hid (Ax.addPreds qs ((L.map Prod.fst).drop k) = R) := hr
  clear hr HR
  obtain ⟨qd, qc, hq0⟩ := ownsRow_shape hown
  subst hq0
  by_cases hlt : k < L.length
  · have hrow := ownsRow_others hats ho1 (by decide)
    obtain ⟨g, rfl, hg, hc, hcs⟩ := row_cells hrow (by omega)
    have hcell0 := hcs _ _ (atomCells_get L k hlt).1
    have hcell1 := hcs _ _ (atomCells_get L k hlt).2.1
    have hcell2 := hcs _ _ (atomCells_get L k hlt).2.2
    have hxk : MA.ok wr L[k] := oks_others hoks ho1 (by decide) _ (List.getElem_mem hlt)
    obtain ⟨xd, xc, hsh⟩ := ownsRow_shape hxk
    rw [hsh] at hcell2
    have hdrop : (L.map Prod.fst).drop k = (L[k]).1 :: (L.map Prod.fst).drop (k + 1) := by
     rw [List.drop_eq_getElem_cons (by simpa using hlt)]; simp
    rw [hdrop] at HRk
    generalize (L[k]).1 = x at hcell0 hcell1 hcell2 HRk
    clear hsh hcs hrow hdrop hxk hats
    cases hv : Ax.has qs x.pred
    case true =>
     have HN : Hid (Ax.addPreds qs ((L.map Prod.fst).drop (k + 1)) = R) := by
      have := HRk.out
      simp only [Ax.addPreds, hv, if_true] at this
      exact this
     go_wp2_with (go_at_call 225; refine (containsStr_any _ _ _ _ _ _ (hown.alloc _)).mono ?_; rintro e w2 ⟨rfl, rfl⟩)
     go_roundw
     case rel =>
      refine ⟨k + 1, qs, by omega, by go_num, ⟨hown.alloc _, hbel.alloc hBw _, by simp; omega, hoth.alloc _, by omega, HN.out⟩, ho1.alloc _⟩
     case measure => simp [intOf]; omega
    case false =>
     have HN : Hid (Ax.addPreds (qs ++ [x.pred]) ((L.map Prod.fst).drop (k + 1)) = R) := by
      have := HRk.out
      simp only [Ax.addPreds, hv, Bool.false_eq_true, if_false] at this
      exact this
     go_wp2_with (first | (go_at_call 225; refine (containsStr_any _ _ _ _ _ _ (hown.alloc _)).mono ?_; rintro e w2 ⟨rfl, rfl⟩) | (at_builtin; go_must (obtain ⟨i0, hi, hz0, hz1, hz2⟩ := info_parts Tryz.infoStr; refine wpList_append_own _ rfl (.tmp 19) (.tmp 22) 46 rfl B 9 i0 _ 1 16 Tryz.underlying46 hi hz0 hz1 hz2 rfl (by decide) _ _ _ rfl ((hown.alloc _).alloc _) ⟨wr.heap.size + 1, 0, none⟩ 1 1 [.string x.pred] rfl rfl (new_cells2 _ _ _ _) (by simp [Value.oneCell']) (by unfold maxLen; omega) (by omega) (by simp; omega) ?_; intro v2 w2 hown2 hgrow _; clear hi hz0 hz1 hz2; obtain ⟨hbel2, hoth2⟩ := preds_world (by simp; omega) (hown.alloc _) (hbel.alloc hBw _) (hoth.alloc _) hgrow; have hoth1 := ((ho1.alloc _).alloc _).grown hgrow (ownsRow_kind ((hown.alloc _).alloc _)))))
     go_roundw
     case rel =>
      refine ⟨k + 1, qs ++ [x.pred], by omega, by go_num, ⟨?_, hbel2, ?_, hoth2, by simp; omega, HN.out⟩, hoth1⟩
      · rw [strCells_snoc]; simpa using hown2
      · have := hgrow.size; simp at this; omega
     case measure => simp [intOf]; omega
  · have A1 : Hid (Lib.OthersKept 9 none w wr) := hoth
    clear hoth ho1 hoks hats
    go_wp2_with fail
    go_ret
    rw [List.drop_eq_nil_of_le (by simp; omega)] at HRk
    exact ⟨qd, qc, qs, rfl, HRk.out, hown, hbel, A1, by omega⟩
end Go.Proofs.YtdmicblafmhflaaGreatDoor
