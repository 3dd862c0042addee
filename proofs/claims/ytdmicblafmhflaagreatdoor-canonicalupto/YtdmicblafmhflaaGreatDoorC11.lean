/- axiomkeep: head. -/
import Derived.Test.YtdmicblafmhflaaGreatDoorC10
import Derived.Deep.AppendLies
import Derived.Test.YtdmicblafmhflaaGreatDoorC03
set_option linter.unusedSimpArgs false
set_option linter.unusedVariables false
namespace Go.Proofs.YtdmicblafmhflaaGreatDoor
open Go.RowKit
theorem Tryz.infoIntV : (Tryz.prog.info? 3).map (fun i => (i.zero, i.size, i.bytes)) = some (some (.int .i64 0), 1, 8) := by kernel_rfl
structure AtomAt (w : World) (g o : Nat) (a : Ax.KAtom) : Prop where
 c0 : w.cell? ⟨g, o, none⟩ = some (.int .i64 a.pred)
 c1 : w.cell? ⟨g, o + 1, none⟩ = some (.int .i64 a.a)
 c2 : w.cell? ⟨g, o + 2, none⟩ = some (.int .i64 a.b)
 f0 : Fit64 a.pred
 f1 : Fit64 a.a
 f2 : Fit64 a.b
structure BodyAt (w : World) (ad : Option Addr) (n c : Nat) (l : List Ax.KAtom) : Prop where
 len : l.length = n
 cap : n ≤ c
 max : c ≤ maxLen
 none_ : ad = none → n = 0
 at_ : ∀ k (h : k < l.length), ∃ g o, ad = some ⟨g, o, none⟩ ∧ AtomAt w g (o + k * 3) l[k]
theorem cell_below {w w' : World} (hb : Below w.heap.size w w') {p : Addr} {v : Value} (h : w.cell? p = some v) : w'.cell? p = some v := by
 rw [hb.cell (World.block_lt_of_cell? _ _ h), h]
theorem AtomAt.below {w w' : World} {g o : Nat} {a : Ax.KAtom} (h : AtomAt w g o a) (hb : Below w.heap.size w w') : AtomAt w' g o a :=
 ⟨cell_below hb h.c0, cell_below hb h.c1, cell_below hb h.c2, h.f0, h.f1, h.f2⟩
theorem BodyAt.below {w w' : World} {ad : Option Addr} {n c : Nat} {l : List Ax.KAtom} (h : BodyAt w ad n c l) (hb : Below w.heap.size w w') : BodyAt w' ad n c l :=
 ⟨h.len, h.cap, h.max, h.none_, fun k hk => let ⟨g, o, e, ha⟩ := h.at_ k hk; ⟨g, o, e, ha.below hb⟩⟩
theorem BodyAt.two {w : World} {ad : Option Addr} {n c : Nat} {r : Ax.KRule} (h : BodyAt w ad n c r.body) : BodyAt w ad (min n 2) c (Ax.gbody r) := by
 refine ⟨?_, ?_, h.max, ?_, ?_⟩
 · unfold Ax.gbody; rw [List.length_take, h.len]; omega
 · have := h.cap; omega
 · intro e; have := h.none_ e; omega
 · intro k hk
   unfold Ax.gbody at hk ⊢
   rw [List.length_take] at hk
   obtain ⟨g, o, e, ha⟩ := h.at_ k (by omega)
   exact ⟨g, o, e, by rw [List.getElem_take]; exact ha⟩
theorem body_val {w : World} {ad : Option Addr} {n c : Nat} {l : List Ax.KAtom} (h : BodyAt w ad n c l) (p a b : Int) : ∀ w1, Calls Tryz.prog 63 #[.agg #[.int .i64 p, .int .i64 a, .int .i64 b, .slice ad n c]] w1 fun e w' => e = .returned (.slice ad (min n 2) c) ∧ Below w1.heap.size w1 w' := by
 intro w1
 cases ad with
 | none =>
  have hn := h.none_ rfl
  subst hn
  exact body_none w1 p a b c
 | some ad => exact body_any w1 p a b ad n c h.cap h.max
def fv (L : List Nat) (h : Nat) : Nat := if h < 3 ∧ ¬ h ∈ L then h + 3 else h
def hx (T L : List Nat) (i : Nat) : List Nat := (T.take i).map (fv L) ++ T.drop i
theorem hx_length (T L : List Nat) (i : Nat) : (hx T L i).length = T.length := by simp [hx]; omega
theorem hx_zero (T L : List Nat) : hx T L 0 = T := by simp [hx]
theorem hx_all (T L : List Nat) : hx T L T.length = T.map (fv L) := by simp [hx]
theorem hx_get {T : List Nat} (L : List Nat) {i : Nat} (h : i < T.length) : (natCells (hx T L i))[i]? = some (.int .i64 T[i]) := by
 have e : (hx T L i)[i]? = some T[i] := by
  unfold hx
  rw [List.getElem?_append_right (by simp; omega)]
  simp [Nat.min_eq_left (Nat.le_of_lt h)]
 simp [natCells, e]
theorem hx_next {T : List Nat} (L : List Nat) {i : Nat} (h : i < T.length) : (hx T L i).set i (fv L T[i]) = hx T L (i + 1) := by
 unfold hx
 rw [List.drop_eq_getElem_cons h, List.take_succ_eq_append_getElem h]
 have hl : ((T.take i).map (fv L)).length = i := by simp; omega
 rw [List.set_append_right _ _ (by omega), hl, Nat.sub_self, List.set_cons_zero, List.map_append, List.map_cons, List.map_nil, List.append_assoc]
 rfl
theorem hx_keep {T : List Nat} (L : List Nat) {i : Nat} (h : i < T.length) (e : fv L T[i] = T[i]) : hx T L (i + 1) = hx T L i := by
 rw [← hx_next L h, e]
 have e1 : (hx T L i)[i]? = some T[i] := by
  unfold hx
  rw [List.getElem?_append_right (by simp; omega)]
  simp [Nat.min_eq_left (Nat.le_of_lt h)]
 apply List.ext_getElem?
 intro k
 by_cases hk : i = k
 · subst hk
   rw [List.getElem?_set_self (by rw [hx_length]; exact h), e1]
 · rw [List.getElem?_set_ne hk]
theorem natCells_set (l : List Nat) (i x : Nat) : (natCells l).set i (.int .i64 (x : Int)) = natCells (l.set i x) := by
 simp [natCells, List.map_set]
theorem ownsRow_set1 {w : World} {b : Nat} {e : TypeId} {size g n cap : Nat} {xs : List Value} (h : w.ownsRow b e size (.slice (some ⟨g, 0, none⟩) n cap) n xs) (j : Nat) (v : Value) :
 (w.setCell ⟨g, j, none⟩ v).ownsRow b e size (.slice (some ⟨g, 0, none⟩) n cap) n (xs.set j v) := by
 refine ⟨by rw [List.length_set]; exact h.1, ?_⟩
 rcases h.2 with ⟨e1, _⟩ | ⟨g', cap', cur, hv, hg, hh, h1, h2, h3, h4⟩
 · simp at e1
 · simp only [Value.slice.injEq, Option.some.injEq, Addr.mk.injEq] at hv
   obtain ⟨⟨rfl, _⟩, _, rfl⟩ := hv
   refine .inr ⟨g, cap, cur.setIfInBounds j v, rfl, hg, heap_setCell_same hh v, h1, h2, by simpa using h3, ?_⟩
   rw [Array.toList_setIfInBounds, List.take_set, h4]
theorem hx_own {w : World} {b g n cap : Nat} {T L : List Nat} {i : Nat} (hi : i < T.length) {x : Nat} (hx0 : fv L T[i] = x) (h : w.ownsRow b 3 1 (.slice (some ⟨g, 0, none⟩) n cap) n (natCells (hx T L i))) :
 (w.setCell ⟨g, i, none⟩ (.int .i64 (x : Int))).ownsRow b 3 1 (.slice (some ⟨g, 0, none⟩) n cap) n (natCells (hx T L (i + 1))) := by
 have := ownsRow_set1 h i (.int .i64 (x : Int))
 rw [natCells_set, ← hx0, hx_next L hi] at this
 rw [← hx0]
 exact this
theorem natCells_append (l m : List Nat) : natCells l ++ natCells m = natCells (l ++ m) := by simp [natCells]
theorem natCells_length (l : List Nat) : (natCells l).length = l.length := by simp [natCells]
theorem natCells_oneV (l : List Nat) : ∀ u, u ∈ natCells l → u.oneCell' = true := by
 intro u hu
 obtain ⟨n, _, rfl⟩ := List.mem_map.1 hu
 rfl
theorem vars_next (gb : List Ax.KAtom) {i : Nat} (h : i < gb.length) : (gb.take (i + 1)).flatMap Ax.gterms = (gb.take i).flatMap Ax.gterms ++ Ax.gterms gb[i] := by
 rw [List.take_succ_eq_append_getElem h, List.flatMap_append, List.flatMap_cons, List.flatMap_nil, List.append_nil]
theorem gterms_two (a : Ax.KAtom) : 0 < (Ax.gterms a).length ∧ (Ax.gterms a).length ≤ 2 := by
 unfold Ax.gterms
 split <;> simp
end Go.Proofs.YtdmicblafmhflaaGreatDoor
/- axiomkeep: head, walked. -/
namespace Go.Proofs.YtdmicblafmhflaaGreatDoor
open Go.RowKit
theorem box_world {w w1 : World} {o : Obj} (hb : Below (w.alloc o).heap.size (w.alloc o) w1) : w1.heap[w.heap.size]? = some o ∧ Below w.heap.size w w1 ∧ w.heap.size + 1 ≤ w1.heap.size := by
 have hs := hb.size
 simp only [World.size_alloc] at hs
 exact ⟨(hb.block _ (by simp)).trans (heap_alloc_new _ _), ((Below.refl _ _).alloc (Nat.le_refl _) _).trans (hb.mono (by simp)), by omega⟩
theorem box_below {w wr w1 : World} {o : Obj} (r : wr.heap[w.heap.size]? = some o) (hb : Below w.heap.size w wr) (h1 : Below wr.heap.size wr w1) : w1.heap[w.heap.size]? = some o ∧ Below w.heap.size w w1 :=
 ⟨(h1.block _ (lt_of_heap r)).trans r, hb.trans (h1.mono hb.size)⟩
theorem box_grown {w w1 w2 : World} {o : Obj} {row : Option Nat} (r : w1.heap[w.heap.size]? = some o) (hb : Below w.heap.size w w1) (hg : w1.grownBy w2 row) (hr : ∀ k, row = some k → w.heap.size + 1 ≤ k) : w2.heap[w.heap.size]? = some o ∧ Below w.heap.size w w2 := by
 refine ⟨?_, hb.grown hg hb.size (fun k hk => by have := hr k hk; omega)⟩
 rw [hg.block _ (lt_of_heap r) (fun e => by have := hr _ e.symm; omega)]
 exact r
set_option maxRecDepth 100000 in
set_option maxHeartbeats 4000000 in
theorem head_any (w : World) (r : Ax.KRule) (ad : Option Addr) (n c : Nat) (hB : BodyAt w ad n c r.body) (h0 : Fit64 r.head.pred) (h1 : Fit64 r.head.a) (h2 : Fit64 r.head.b) :
 Calls Tryz.prog 62 #[.agg #[.int .i64 r.head.pred, .int .i64 r.head.a, .int .i64 r.head.b, .slice ad n c]] w fun e w' => ∃ d c', e = .returned (.slice d (Ax.ghead r).length c') ∧ w'.ownsRow w.heap.size 3 1 (.slice d (Ax.ghead r).length c') (Ax.ghead r).length (natCells (Ax.ghead r)) ∧ Below w.heap.size w w' := by
 have hbody := body_val hB r.head.pred r.head.a r.head.b
 have hB2 := hB.two
 have hcm : c ≤ 9223372036854775807 := hB.max
 obtain ⟨m, hm⟩ : ∃ m, min n 2 = m := ⟨_, rfl⟩
 have hm2 : m ≤ 2 := by omega
 rw [hm] at hbody hB2
 clear hm hB
 have htm := fun w => terms_any' w r.head h0 h1 h2
 have hgh : Ax.ghead r = (Ax.gterms r.head).map (fv ((Ax.gbody r).flatMap Ax.gterms)) := rfl
 have hT2 := gterms_two r.head
 rw [hgh]
 clear hgh
 generalize Ax.gbody r = gb at *
 generalize Ax.gterms r.head = T at *
 rcases r with ⟨⟨p, a, b⟩, bd⟩
 simp only at *
 clear h0 h1 h2 bd
 obtain ⟨R, hR⟩ : ∃ R, gb.flatMap Ax.gterms = R := ⟨_, rfl⟩
 rw [hR]
 have HR : Hid (gb.flatMap Ax.gterms = R) := hR
 clear hR
 rw [List.length_map]
 obtain ⟨i0, hi, hz0, hz1, hz2⟩ := info_parts Tryz.infoIntV
 have HI : Hid (Tryz.prog.info? 3 = some i0) := hi
 have HZ0 : Hid (i0.zero = some (.int .i64 0)) := hz0
 have HZ1 : Hid (i0.size = 1) := hz1
 have HZ2 : Hid (i0.bytes = 8) := hz2
 clear hi hz0 hz1 hz2
 go_enter Tryz.func62, Tryz.ntmps62
 go_wp2_with (go_at_call 63; refine (hbody _).mono ?_; rintro e w1 ⟨rfl, hb1⟩)
 obtain ⟨r1, bw1, sz1⟩ := box_world hb1
 clear hb1
 go_loopw [3, 5] (fun lv iv wr => ∃ (i : Nat) (ld : Option Addr) (lc : Nat) (L : List Nat), i ≤ m ∧ lv = .slice ld L.length lc ∧ iv = .int .i64 i ∧ L.length ≤ 2 * i ∧ (gb.take i).flatMap Ax.gterms = L ∧ wr.heap[w.heap.size]? = some (.cells #[.int .i64 p, .int .i64 a, .int .i64 b, .slice ad n c] 94 (0, 0)) ∧ Below w.heap.size w wr ∧ w.heap.size + 1 ≤ wr.heap.size ∧ wr.ownsRow (w.heap.size + 1) 3 1 (.slice ld L.length lc) L.length (natCells L)) (fun _ iv _ => m - (intOf iv).toNat)
 case atStart => exact ⟨0, none, 0, [], Nat.zero_le _, rfl, rfl, Nat.zero_le _, rfl, r1, bw1, sz1, ⟨by simp [natCells], .inl ⟨rfl, rfl⟩⟩⟩
 case round =>
  obtain ⟨i, ld, lc, L, hi, rfl, rfl, hL2, hL, hbox, hbel, hsz, hown⟩ := hrel
  have HL : Hid ((gb.take i).flatMap Ax.gterms = L) := hL
  clear hL r1 bw1 sz1
  have hbs := hbel.size
  by_cases hlt : i < m
  · have hlen := hB2.len
    obtain ⟨g, o, had, ha⟩ := hB2.at_ i (by omega)
    subst had
    have ha := ha.below hbel
    have HN : Hid ((gb.take (i + 1)).flatMap Ax.gterms = L ++ Ax.gterms gb[i]) := by
     show _ = _
     rw [vars_next gb (by omega), HL.out]
    generalize gb[i] = x at *
    obtain ⟨e0, e1, e2, f0, f1, f2⟩ := ha
    have hta := fun w => terms_any' w x f0 f1 f2
    obtain ⟨hx1, hx2⟩ := gterms_two x
    generalize Ax.gterms x = X at *
    rcases x with ⟨xp, xa, xb⟩
    simp only at e0 e1 e2 hta
    clear f0 f1 f2 hB2 hbody htm hlen
    go_wp2_with (first | (go_at_call 64; refine (hta _).mono ?_; rintro e w2 ⟨d2, c2, rfl, hown2, hb2⟩; obtain ⟨g2, rfl, hg2, hc2, hcs2⟩ := row_cells hown2 hx1; have hownL := ownsRow_below hown hb2; have hbs2 := hb2.size) | (at_builtin; refine wpList_append_lies _ rfl (.tmp 23) (.tmp 24) 31 rfl (w.heap.size + 1) 3 i0 _ 1 8 Tryz.underlying31 HI.out HZ0.out HZ1.out HZ2.out rfl (by decide) _ _ _ rfl hownL ⟨g2, 0, none⟩ X.length c2 (natCells X) rfl (by rw [natCells_length, Nat.mul_one]) (fun j u hu => by rw [Addr.add_lit, Nat.zero_add]; exact hcs2 j u hu) (natCells_oneV X) hx1 (by unfold maxLen; omega) (by omega) (by omega) _ rfl ?_; intro g3 cap3 w3 hown3 hgrow3 _ hlt3))
    obtain ⟨r2, bw2⟩ := box_below hbox hbel hb2
    obtain ⟨r3, bw3⟩ := box_grown r2 bw2 hgrow3 (fun k hk => (hownL.lt k hk).1)
    go_roundw
    case rel =>
     refine ⟨i + 1, some ⟨g3, 0, none⟩, cap3, L ++ X, by omega, by rw [List.length_append], by go_num, by rw [List.length_append]; omega, HN.out, r3, bw3, by have := hgrow3.size; omega, ?_⟩
     rw [List.length_append, ← natCells_append]
     exact hown3
    case measure => simp [intOf]; omega
  · obtain ⟨wA, rfl⟩ : ∃ x, x = wr := ⟨wr, rfl⟩
    have hlen := hB2.len
    have hLR : L = R := by rw [← HL.out, ← HR.out, List.take_of_length_le (by omega)]
    subst hLR
    clear HL HR hB2 hbody
    have k0 := cell_at hbox 0
    have k1 := cell_at hbox 1
    have k2 := cell_at hbox 2
    have k3 := cell_at hbox 3
    simp only [List.getElem?_toArray, List.getElem?_cons_zero, List.getElem?_cons_succ] at k0 k1 k2 k3
    go_wp2_with (go_at_call 64; refine (htm _).mono ?_; rintro e w2 ⟨d2, c2, rfl, hown2, hb2⟩; obtain ⟨g2, rfl, hg2, hc2, hcs2⟩ := row_cells hown2 hT2.1; have hbs2 := hb2.size)
    clear k0 k1 k2 k3 hcs2 htm
    go_loopw [8] (fun iv wx => ∃ (j : Nat), j ≤ T.length ∧ iv = .int .i64 j ∧ Below wA.heap.size wA wx ∧ wx.ownsRow wA.heap.size 3 1 (.slice (some ⟨g2, 0, none⟩) T.length c2) T.length (natCells (hx T L j))) (fun iv _ => T.length - (intOf iv).toNat)
    case atStart => exact ⟨0, Nat.zero_le _, rfl, hb2, by rw [hx_zero]; exact hown2⟩
    case round =>
     obtain ⟨j, hj, rfl, hbx, hownx⟩ := hrel
     have hbsx := hbx.size
     by_cases hjl : j < T.length
     · have e0 := World.ownsRow.cells hownx (g := g2) rfl j _ (hx_get L hjl)
       rw [Addr.add_lit, Nat.zero_add] at e0
       have fz := hownx.frozenAt j
       have hin := in_any wr _ ld lc L (ownsRow_below hown hbx)
       have HK : Hid (fv L T[j] = T[j] → hx T L (j + 1) = hx T L j) := hx_keep L hjl
       have HO : Hid (∀ x : Nat, fv L T[j] = x → (wr.setCell ⟨g2, j, none⟩ (.int .i64 (x : Int))).ownsRow wA.heap.size 3 1 (.slice (some ⟨g2, 0, none⟩) T.length c2) T.length (natCells (hx T L (j + 1)))) := fun x hx0 => hx_own hjl hx0 hownx
       generalize T[j] = x at *
       have hin := hin x
       by_cases hx3 : x < 3
       · have hb3 : decide ((x : Int) < 3) = true := by simp; omega
         by_cases hm : x ∈ L
         · have hd : decide (x ∈ L) = true := by simpa using hm
           rw [hd] at hin
           have hf : fv L x = x := by simp [fv, hm]
           have HE := HK.out hf
           go_wp2_with (go_at_call 123; refine hin.mono ?_; rintro e w3 ⟨rfl, rfl⟩)
           go_roundw
           case rel => exact ⟨j + 1, by omega, by go_num, hbx, by rw [HE]; exact hownx⟩
           case measure => simp [intOf]; omega
         · have hd : decide (x ∈ L) = false := by simpa using hm
           rw [hd] at hin
           have hf : fv L x = x + 3 := by simp [fv, hm, hx3]
           have HE : Hid _ := HO.out _ hf
           clear HK HO
           go_wp2_with (go_at_call 123; refine hin.mono ?_; rintro e w3 ⟨rfl, rfl⟩)
           go_roundw
           case rel =>
            refine ⟨j + 1, by omega, by go_num, hbx.setCell (p := ⟨g2, j, none⟩) (hownx.lt g2 rfl).1 _, ?_⟩
            exact HE.out
           case measure => simp [intOf]; omega
       · have hb3 : decide ((x : Int) < 3) = false := by simp; omega
         have hf : fv L x = x := by simp [fv, hx3]
         have HE := HK.out hf
         generalize decide (x ∈ L) = B at hin
         go_wp2_with (go_at_call 123; refine hin.mono ?_; rintro e w3 ⟨rfl, rfl⟩)
         go_roundw
         case rel => exact ⟨j + 1, by omega, by go_num, hbx, by rw [HE]; exact hownx⟩
         case measure => simp [intOf]; omega
     · have hjT : j = T.length := by omega
       subst hjT
       rw [hx_all] at hownx
       go_wp2_with fail
       go_ret
       exact ⟨_, _, rfl, ownsRow_base hownx hbel.size, hbel.trans (hbx.mono hbel.size)⟩
end Go.Proofs.YtdmicblafmhflaaGreatDoor
/- The blanks that Plain lays between the tokens. No program here. -/
namespace Go.Proofs.YtdmicblafmhflaaGreatDoor.Ax
def blk (c : Int) : List UInt8 := [32, 32, 10, 32].take (gpick c 4)
end Go.Proofs.YtdmicblafmhflaaGreatDoor.Ax
/- What the search finds is what axiomkeep's least works out, and as often. No program here. -/
namespace Go.Proofs.YtdmicblafmhflaaGreatDoor.En
open Ax (gname gpred gvar gterm KFit)
def b0 : NRule := ⟨(0, [0]), [(0, [0]), (1, [0, 0])]⟩
def b1 : NRule := ⟨(0, [0]), [(0, [0]), (2, [0, 0])]⟩
theorem b0_ok : NOk b0 where
 head := ⟨⟨by decide, rfl⟩, by decide⟩
 body := by
  intro b hb
  simp [b0] at hb
  rcases hb with rfl | rfl
  · exact ⟨⟨by decide, rfl⟩, by decide⟩
  · exact ⟨⟨by decide, rfl⟩, by decide⟩
 two := by decide
 safe := fun n hn _ => ⟨(0, [0]), by simp [b0], hn⟩
theorem b1_ok : NOk b1 where
 head := ⟨⟨by decide, rfl⟩, by decide⟩
 body := by
  intro b hb
  simp [b1] at hb
  rcases hb with rfl | rfl
  · exact ⟨⟨by decide, rfl⟩, by decide⟩
  · exact ⟨⟨by decide, rfl⟩, by decide⟩
 two := by decide
 safe := fun n hn _ => ⟨(0, [0]), by simp [b1], hn⟩
def eR (R : List NRule) : List NRule := b0 :: b1 :: R
def sR (R : List NRule) : List (SRule Fct) := (eR R).map fun r => srule (toRule r)
theorem eR_ok {R : List NRule} (h : ∀ r, r ∈ R → NOk r) : ∀ r, r ∈ eR R → NOk r := by
 intro r hr
 rcases List.mem_cons.1 hr with rfl | hr
 · exact b0_ok
 · rcases List.mem_cons.1 hr with rfl | hr
   · exact b1_ok
   · exact h r hr
theorem k_toRule (r : NRule) : (srule (toRule r)).k = r.body.length := by simp [srule, toRule]
theorem sR_two {R : List NRule} (h : ∀ r, r ∈ R → NOk r) : ∀ r, r ∈ sR R → r.k ≤ 2 := by
 intro r hr
 obtain ⟨q, hq, rfl⟩ := List.mem_map.1 hr
 rw [k_toRule]
 exact (eR_ok h q hq).two
theorem inst_lt {R : List NRule} {r : NRule} (hr : NOk r) {H : Nat → Bool} {i : Nat} (hi : i ∈ instN r H) : i < 36 := by
 obtain ⟨n, hn, rfl⟩ := List.mem_map.1 hi
 unfold okH at hn
 exact atN_lt (fun j _ => vOf_lt (mem_vs.1 (List.mem_filter.1 hn).1).1 j) hr.head
theorem oneRound_out : ∀ (R : List NRule), (∀ r, r ∈ R → NOk r) → ∀ (H : Nat → Bool) (i : Nat), 36 ≤ i → H i = false → oneRound R H i = false
 | [], _, _, _, _, h => h
 | r :: R, hR, H, i, hi, h => by
  show oneRound R (setAll H (instN r H)) i = false
  refine oneRound_out R (fun q hq => hR q (by simp [hq])) _ i hi ?_
  simp only [setAll, h, Bool.false_or, decide_eq_false_iff_not]
  intro hc
  have := inst_lt (R := R) (hR r (by simp)) hc
  omega
def leastN (R : List NRule) (G : Nat → Bool) : Nat → Bool := rounds R 37 G
theorem least_closed {R : List NRule} (hR : ∀ r, r ∈ R → NOk r) {G : Nat → Bool} (hG : ∀ i, 36 ≤ i → G i = false) : ClosedN R (fun i => leastN R G i = true) := by
 intro r hr n hn hb
 have hs := rounds_stop (oneRound_out R hR) 37 G hG (by omega)
 show rounds R 37 G _ = true
 rw [← hs]
 refine oneRound_has R _ r hr _ (List.mem_map.2 ⟨n, ?_, rfl⟩)
 unfold okH
 rw [List.mem_filter, List.all_eq_true]
 exact ⟨hn, hb⟩
theorem least_closed_e {R : List NRule} (hR : ∀ r, r ∈ R → NOk r) {G : Nat → Bool} (hG : ∀ i, 36 ≤ i → G i = false) : ClosedN (eR R) (fun i => leastN R G i = true) := by
 intro r hr n hn hb
 rcases List.mem_cons.1 hr with rfl | hr
 · exact hb (0, [0]) (by simp [b0])
 · rcases List.mem_cons.1 hr with rfl | hr
   · exact hb (0, [0]) (by simp [b1])
   · exact least_closed hR hG r hr n hn hb
def gF (G : Nat → Bool) (f : Fct) : Prop := ∃ i, i < 36 ∧ G i = true ∧ f = uF i
def XF (X : Nat → Prop) (f : Fct) : Prop := ∃ i, i < 36 ∧ X i ∧ f = uF i
theorem closed_XF {E : List NRule} (hE : ∀ r, r ∈ E → NOk r) {X : Nat → Prop} (hX : ClosedN E X) : Closed (E.map fun r => srule (toRule r)) (XF X) := by
 intro r' hr' fs hl hfs h hi
 obtain ⟨r, hr, rfl⟩ := List.mem_map.1 hr'
 have hok := hE r hr
 have hcan : ∀ f, f ∈ fs → Can f := by
  intro f hf
  obtain ⟨i, hi, _, rfl⟩ := hfs f hf
  exact uF_can hi
 obtain ⟨n, hn, e⟩ := tup_of hok hcan hi
 have h64 := (mem_vs.1 hn).1
 have hv : ∀ j, j < 3 → vOf n j < 4 := fun j _ => vOf_lt h64 j
 have hh : h = subst (vOf n) r.head := by
  have h1 : rinst (toRule r) fs = some h := hi
  rw [← e, inst_tup hok h64] at h1
  exact (Option.some.inj h1).symm
 refine ⟨atN (vOf n) r.head, atN_lt hv hok.head, ?_, by rw [hh, uF_atN hv hok.head]⟩
 apply hX r hr n hn
 intro b hb
 have hm : subst (vOf n) b ∈ fs := by rw [← e]; exact List.mem_map.2 ⟨b, hb, rfl⟩
 obtain ⟨i, hi36, hXi, ei⟩ := hfs _ hm
 rw [← uF_atN hv (hok.body b hb)] at ei
 rw [uF_inj (atN_lt hv (hok.body b hb)) hi36 ei]
 exact hXi
theorem found_can {R : List NRule} (hR : ∀ r, r ∈ R → NOk r) {G : Nat → Bool} {s : Sea Fct} {n : Nat} (hs : Inv (sR R) (gF G) s n) : ∀ f, f ∈ s.found → Can f := by
 intro f hf
 have hX : ClosedN (eR R) (fun i => i < 36) := fun r hr n hn _ => atN_lt (fun j _ => vOf_lt (mem_vs.1 hn).1 j) (eR_ok hR r hr).head
 obtain ⟨i, hi, _, rfl⟩ := hs.least (XF fun i => i < 36) (closed_XF (eR_ok hR) hX) (fun f ⟨i, hi, _, e⟩ => ⟨i, hi, hi, e⟩) f hf
 exact uF_can hi
theorem found_iff {R : List NRule} (hR : ∀ r, r ∈ R → NOk r) {G : Nat → Bool} (hG : ∀ i, 36 ≤ i → G i = false) {s : Sea Fct} (hs : Inv (sR R) (gF G) s s.found.length) {i : Nat} (hi : i < 36) : uF i ∈ s.found ↔ leastN R G i = true := by
 constructor
 · intro hm
   obtain ⟨j, hj, hX, e⟩ := hs.least (XF fun i => leastN R G i = true) (closed_XF (eR_ok hR) (least_closed_e hR hG)) (fun f ⟨i, hi, hg, e⟩ => ⟨i, hi, rounds_ge 37 G i hg, e⟩) _ hm
   rw [uF_inj hi hj e]
   exact hX
 · intro hl
   refine rounds_least (R := R) (X := fun i => i < 36 → uF i ∈ s.found) ?_ 37 G ?_ i hl hi
   · intro r hr n hn hb _
     have hok := hR r hr
     have h64 := (mem_vs.1 hn).1
     have hv : ∀ j, j < 3 → vOf n j < 4 := fun j _ => vOf_lt h64 j
     have hmem : srule (toRule r) ∈ sR R := List.mem_map.2 ⟨r, by simp [eR, hr], rfl⟩
     rw [uF_atN hv hok.head]
     refine hs.done _ hmem (tup r n) ?_ _ (inst_tup hok h64)
     rw [List.take_length, mem_allT (sR_two hR _ hmem), k_toRule]
     refine ⟨by simp [tup], ?_⟩
     intro f hf
     obtain ⟨b, hb', rfl⟩ := List.mem_map.1 hf
     rw [← uF_atN hv (hok.body b hb')]
     exact hb b hb' (atN_lt hv (hok.body b hb'))
   · intro j hj hj36
     exact hs.given _ ⟨j, hj36, hj, rfl⟩
def countN (l : List Nat) (i : Nat) : Nat := l.count i
theorem lcount_map {α : Type} {f : α → Nat} : ∀ (l : List α), (∀ x, x ∈ l → f x < 36) → ∀ {i : Nat}, i < 36 → lcount (l.map fun x => uF (f x)) (uF i) = countN (l.map f) i
 | [], _, _, _ => rfl
 | x :: l, h, i, hi => by
  have ih := lcount_map l (fun y hy => h y (by simp [hy])) hi
  rw [List.map_cons, List.map_cons, lcount_cons, ih]
  unfold countN
  rw [List.count_cons]
  by_cases e : f x = i
  · subst e; simp
  · have e2 : ¬ uF (f x) = uF i := fun hc => e (uF_inj (h x (by simp)) hi hc)
    simp [e, e2]
theorem okL_okH {R : List NRule} (hR : ∀ r, r ∈ R → NOk r) {G : Nat → Bool} (hG : ∀ i, 36 ≤ i → G i = false) {s : Sea Fct} (hs : Inv (sR R) (gF G) s s.found.length) {r : NRule} (hr : NOk r) : okL r s.found = okH r (leastN R G) := by
 unfold okL okH
 apply List.filter_congr
 intro n hn
 have h64 := (mem_vs.1 hn).1
 have hv : ∀ j, j < 3 → vOf n j < 4 := fun j _ => vOf_lt h64 j
 unfold tup
 rw [List.all_map]
 apply Bool.eq_iff_iff.2
 rw [List.all_eq_true, List.all_eq_true]
 have key : ∀ b, b ∈ r.body → (hasB s.found (subst (vOf n) b) = true ↔ leastN R G (atN (vOf n) b) = true) := by
  intro b hb
  rw [hasB_iff, ← uF_atN hv (hr.body b hb)]
  exact found_iff hR hG hs (atN_lt hv (hr.body b hb))
 constructor
 · intro h b hb
   exact (key b hb).1 (h b hb)
 · intro h b hb
   exact (key b hb).2 (h b hb)
theorem cnt_instN {R : List NRule} (hR : ∀ r, r ∈ R → NOk r) {G : Nat → Bool} (hG : ∀ i, 36 ≤ i → G i = false) {s : Sea Fct} (hs : Inv (sR R) (gF G) s s.found.length) {r : NRule} (hr : NOk r) {i : Nat} (hi : i < 36) :
 cnt (srule (toRule r)) (allT (srule (toRule r)).k s.found) (uF i) = countN (instN r (leastN R G)) i := by
 rw [k_toRule, cnt_vs hr hs.nodup (found_can hR hs), okL_okH hR hG hs hr]
 have e : ((okH r (leastN R G)).map fun n => subst (vOf n) r.head) = (okH r (leastN R G)).map fun n => uF (atN (vOf n) r.head) := by
  apply List.map_congr_left
  intro n hn
  unfold okH at hn
  exact (uF_atN (fun j _ => vOf_lt (mem_vs.1 (List.mem_filter.1 hn).1).1 j) hr.head).symm
 rw [e]
 exact lcount_map _ (fun n hn => by
  unfold okH at hn
  exact atN_lt (fun j _ => vOf_lt (mem_vs.1 (List.mem_filter.1 hn).1).1 j) hr.head) hi
theorem found_count {R : List NRule} (hR : ∀ r, r ∈ R → NOk r) {G : Nat → Bool} (hG : ∀ i, 36 ≤ i → G i = false) {s : Sea Fct} (hs : Inv (sR R) (gF G) s s.found.length) {i : Nat} (hi : i < 36) :
 s.count (uF i) = countN (instN b0 (leastN R G)) i + (countN (instN b1 (leastN R G)) i + (R.map fun r => countN (instN r (leastN R G)) i).sum) := by
 rw [hs.counts, List.take_length]
 unfold total sR eR
 simp only [List.map_cons, List.sum_cons, List.map_map]
 rw [cnt_instN hR hG hs b0_ok hi, cnt_instN hR hG hs b1_ok hi]
 congr 3
 apply List.map_congr_left
 intro r hr
 exact cnt_instN hR hG hs (hR r hr) hi
theorem vs_b0 : vs b0 = [0, 1, 2, 3] := by decide
theorem vs_b1 : vs b1 = [0, 1, 2, 3] := by decide
theorem four {n : Nat} (h : n ∈ [0, 1, 2, 3]) : n = 0 ∨ n = 1 ∨ n = 2 ∨ n = 3 := by simpa using h
theorem instN_b0 (H : Nat → Bool) : instN b0 H = [0, 1, 2, 3].filter fun x => H x && H (4 + 5 * x) := by
 unfold instN okH
 rw [vs_b0]
 have e1 : ([0, 1, 2, 3].filter fun n => b0.body.all fun b => H (atN (vOf n) b)) = [0, 1, 2, 3].filter fun x => H x && H (4 + 5 * x) := by
  apply List.filter_congr
  intro n hn
  rcases four hn with rfl | rfl | rfl | rfl <;> simp [b0, atN, idxN, tvN, vOf]
 rw [e1]
 have e2 : ∀ n, n ∈ [0, 1, 2, 3].filter (fun x => H x && H (4 + 5 * x)) → atN (vOf n) b0.head = id n := by
  intro n hn
  rcases four (List.mem_filter.1 hn).1 with rfl | rfl | rfl | rfl <;> rfl
 rw [List.map_congr_left e2, List.map_id]
theorem instN_b1 (H : Nat → Bool) : instN b1 H = [0, 1, 2, 3].filter fun x => H x && H (20 + 5 * x) := by
 unfold instN okH
 rw [vs_b1]
 have e1 : ([0, 1, 2, 3].filter fun n => b1.body.all fun b => H (atN (vOf n) b)) = [0, 1, 2, 3].filter fun x => H x && H (20 + 5 * x) := by
  apply List.filter_congr
  intro n hn
  rcases four hn with rfl | rfl | rfl | rfl <;> simp [b1, atN, idxN, tvN, vOf]
 rw [e1]
 have e2 : ∀ n, n ∈ [0, 1, 2, 3].filter (fun x => H x && H (20 + 5 * x)) → atN (vOf n) b1.head = id n := by
  intro n hn
  rcases four (List.mem_filter.1 hn).1 with rfl | rfl | rfl | rfl <;> rfl
 rw [List.map_congr_left e2, List.map_id]
theorem count_four (p : Nat → Bool) (i : Nat) : countN ([0, 1, 2, 3].filter p) i = if i < 4 ∧ p i = true then 1 else 0 := by
 unfold countN
 by_cases hp : p i = true
 · rw [List.count_filter hp]
   by_cases hi : i < 4
   · rw [if_pos ⟨hi, hp⟩]
     have : i = 0 ∨ i = 1 ∨ i = 2 ∨ i = 3 := by omega
     rcases this with rfl | rfl | rfl | rfl <;> rfl
   · rw [if_neg (fun h => hi h.1)]
     rw [List.count_eq_zero]
     simp
     omega
 · rw [if_neg (fun h => hp h.2), List.count_eq_zero]
   intro hc
   exact hp (List.mem_filter.1 hc).2
theorem found_count' {R : List NRule} (hR : ∀ r, r ∈ R → NOk r) {G : Nat → Bool} (hG : ∀ i, 36 ≤ i → G i = false) {s : Sea Fct} (hs : Inv (sR R) (gF G) s s.found.length) {i : Nat} (hi : i < 36) :
 s.count (uF i) = (if i < 4 ∧ (leastN R G i && leastN R G (4 + 5 * i)) = true then 1 else 0) + ((if i < 4 ∧ (leastN R G i && leastN R G (20 + 5 * i)) = true then 1 else 0) + (R.map fun r => countN (instN r (leastN R G)) i).sum) := by
 rw [found_count hR hG hs hi, instN_b0, instN_b1, count_four, count_four]
theorem search_done {R : List NRule} (hR : ∀ r, r ∈ R → NOk r) {G : Nat → Bool} {s : Sea Fct} (hs : Inv (sR R) (gF G) s 0) (fuel : Nat) (hf : 200 < fuel) : ∃ s', search (sR R) 200 fuel 0 s = some s' := by
 have hX : ClosedN (eR R) (fun i => i < 36) := fun r hr n hn _ => atN_lt (fun j _ => vOf_lt (mem_vs.1 hn).1 j) (eR_ok hR r hr).head
 have hU : ∀ f, f ∈ (List.range 36).map uF ↔ XF (fun i => i < 36) f := by
  intro f
  rw [List.mem_map]
  constructor
  · rintro ⟨i, hi, rfl⟩
    exact ⟨i, by simpa using hi, by simpa using hi, rfl⟩
  · rintro ⟨i, hi, _, rfl⟩
    exact ⟨i, by simpa using hi, rfl⟩
 have hc : Closed (sR R) (· ∈ (List.range 36).map uF) := by
  intro r hr fs hl hfs h hi
  exact (hU h).2 (closed_XF (eR_ok hR) hX r hr fs hl (fun f hf => (hU f).1 (hfs f hf)) h hi)
 exact search_ends (sR_two hR) ((List.range 36).map uF) (by simp) hc (fun f ⟨i, hi, _, e⟩ => (hU f).2 ⟨i, hi, hi, e⟩) fuel 0 s hs (Nat.zero_le _) (by omega)
end Go.Proofs.YtdmicblafmhflaaGreatDoor.En
