/- facts.Table.Row: a row of names, each cloned. -/
import Derived.Test.YtdmicblafmhflaaGreatDoorC12
import Derived.Test.YtdmicblafmhflaaGreatDoorC14
import Derived.Test.YtdmicblafmhflaaGreatDoorC17
import Derived.Laws.ResultCell
import Derived.Laws.Rows
import Derived.Test.YtdmicblafmhflaaGreatDoorC08
set_option linter.unusedSimpArgs false
set_option linter.unusedVariables false
namespace Go.Proofs.YtdmicblafmhflaaGreatDoor
open Go.RowKit
namespace Tb
def at0 (l : List ByteArray) (k : Nat) : ByteArray := l.getD k ⟨#[]⟩
def row3 (l : List ByteArray) : List ByteArray := [at0 l 0, at0 l 1, at0 l 2]
def row3V (l : List ByteArray) : Array Value := #[.string (at0 l 0), .string (at0 l 1), .string (at0 l 2)]
theorem at0_take {l : List ByteArray} {k j : Nat} : at0 (l.take k) j = if j < k then at0 l j else ⟨#[]⟩ := by
 unfold at0
 simp only [List.getD_eq_getElem?_getD, List.getElem?_take]
 split <;> rfl
theorem row3V_succ {l : List ByteArray} {k : Nat} (hk : k < l.length) (h3 : l.length ≤ 3) : (row3V (l.take k)).setIfInBounds k (.string l[k]) = row3V (l.take (k + 1)) := by
 have e : at0 l k = l[k] := by simp [at0, List.getD_eq_getElem?_getD, hk]
 rw [← e]
 have hk3 : k < 3 := by omega
 unfold row3V
 simp only [at0_take]
 match k, hk3 with
 | 0, _ => simp [Array.setIfInBounds]
 | 1, _ => simp [Array.setIfInBounds]
 | 2, _ => simp [Array.setIfInBounds]
end Tb
theorem Tb.row3V_get (l : List ByteArray) {k : Nat} (h : k < 3) : (Tb.row3V l)[k]? = some (.string (Tb.at0 l k)) := by
 match k, h with
 | 0, _ => rfl
 | 1, _ => rfl
 | 2, _ => rfl
theorem results_cell_row_tmp {P : Program} {fn : Func} {p u : Tmp} {ty : TypeId} (h : fn.results = #[.cell p ty, .tmp u]) (tmps : Array Value) (w : World) (g : Nat) (t : TypeId) (cs : Array Value) (fr : Nat × Nat) (d : TypeDesc)
 (hp : tmps.getD p undef = .pointer (some ⟨g, 0, none⟩)) (hg : w.heap[g]? = some (.cells cs t fr))
 (hu : P.underlying ty = some d) (hd : (match d with | .struct _ | .array _ _ => true | _ => false) = true) (hi : (P.info? ty).map (·.size) = some cs.size) :
 (results fn tmps).run P w = .ok (.tuple #[.agg cs, tmps.getD u undef]) w := by
 rw [results_cell_tmp h, hp]
 simp only [asAddr, Sem.run_pure, Result.andThen_ok, run_loadVar_row w g t ty cs fr d hg hu hd hi]
theorem stores3 {w : World} {g : Nat} {x y z : Value} {T : TypeId} {fr : Nat × Nat} (h : w.heap[g]? = some (.cells #[x, y, z] T fr)) (a b c : Value) :
 (((w.setCell ⟨g, 0, none⟩ a).setCell ⟨g, 1, none⟩ b).setCell ⟨g, 2, none⟩ c).heap[g]? = some (.cells #[a, b, c] T fr) := by
 have h1 := setCell_heap w h 0 a
 have h2 := setCell_heap _ h1 1 b
 have h3 := setCell_heap _ h2 2 c
 simpa [Array.setIfInBounds] using h3
structure RowW (w wr : World) (l : List ByteArray) : Prop where
 bel : Below w.heap.size w wr
 res : wr.heap[w.heap.size]? = some (.cells #[.string ⟨#[]⟩, .string ⟨#[]⟩, .string ⟨#[]⟩] 119 (0, 0))
 row : wr.heap[w.heap.size + 1]? = some (.cells (Tb.row3V l) 119 (0, 0))
theorem RowW.size {w wr : World} {l : List ByteArray} (h : RowW w wr l) : wr.heap.size ≥ w.heap.size + 2 := lt_of_heap h.row
theorem RowW.below {w wr w' : World} {l : List ByteArray} (h : RowW w wr l) (hb : Below wr.heap.size wr w') : RowW w w' l :=
 ⟨h.bel.trans (hb.mono h.bel.size), by rw [hb.block _ (lt_of_heap h.res)]; exact h.res, by rw [hb.block _ (lt_of_heap h.row)]; exact h.row⟩
theorem RowW.set {w wr : World} {l : List ByteArray} (h : RowW w wr l) (k : Nat) (q : ByteArray) : Below w.heap.size w (wr.setCell ⟨w.heap.size + 1, k, none⟩ (.string q)) ∧ (wr.setCell ⟨w.heap.size + 1, k, none⟩ (.string q)).heap[w.heap.size]? = some (.cells #[.string ⟨#[]⟩, .string ⟨#[]⟩, .string ⟨#[]⟩] 119 (0, 0)) ∧ (wr.setCell ⟨w.heap.size + 1, k, none⟩ (.string q)).heap[w.heap.size + 1]? = some (.cells ((Tb.row3V l).setIfInBounds k (.string q)) 119 (0, 0)) :=
 ⟨h.bel.setCell (p := ⟨w.heap.size + 1, k, none⟩) (by simp) _, (Below.heap_setCell _ _ _ _ (by simp)).trans h.res, setCell_heap _ h.row _ _⟩
set_option maxRecDepth 100000 in
set_option maxHeartbeats 1000000 in
theorem row_any (w : World) (g pl : Nat) (names : List ByteArray) (v : Value) (hc : w.cell? ⟨g, 1, none⟩ = some (.int .i64 pl)) (hv : w.ownsRow 0 9 1 v names.length (strCells names)) (hl : names.length = pl) (h3 : names.length ≤ 3)
 (hn : ∀ a, a ∈ names → Ax.isName a = true) (hs : ∀ a, a ∈ names → a.size ≤ 1000) (hT : UTabs w) :
 Calls Tryz.prog 74 #[.pointer (some ⟨g, 0, none⟩), v] w fun e w' => e = .returned (.tuple #[.agg (Tb.row3V names), .bool true]) ∧ Below w.heap.size w w' := by
 subst hl
 obtain ⟨ad, ac, ha0⟩ := ownsRow_shape hv
 subst ha0
 have HT : Hid (UTabs w) := hT
 have HV : Hid (w.ownsRow 0 9 1 (.slice ad names.length ac) names.length (strCells names)) := hv
 have HN : Hid (∀ a, a ∈ names → Ax.isName a = true ∧ a.size ≤ 1000) := fun a ha => ⟨hn a ha, hs a ha⟩
 have hgw := block_lt_of_cell hc
 clear hT hv hn hs
 have HS : Hid (RowW w ((w.alloc (.cells #[.string ⟨#[]⟩, .string ⟨#[]⟩, .string ⟨#[]⟩] 119)).alloc (.cells #[.string ⟨#[]⟩, .string ⟨#[]⟩, .string ⟨#[]⟩] 119)) (names.take 0)) :=
  ⟨((Below.refl _ _).alloc (Nat.le_refl _) _).alloc (by simp) _, by rw [Below.heap_alloc _ _ _ (by simp)]; exact heap_alloc_new w _, by
   have := new2 w (.cells #[.string ⟨#[]⟩, .string ⟨#[]⟩, .string ⟨#[]⟩] 119) (.cells #[.string ⟨#[]⟩, .string ⟨#[]⟩, .string ⟨#[]⟩] 119)
   simpa [Tb.row3V, Tb.at0] using this⟩
 go_enter Tryz.func74, Tryz.ntmps74
 go_wp2_with fail
 go_loopw [20] (fun i wr => ∃ (k : Nat), k ≤ names.length ∧ i = .int .i64 k ∧ RowW w wr (names.take k)) (fun i _ => names.length - (intOf i).toNat)
 case atStart => exact ⟨0, Nat.zero_le _, rfl, HS.out⟩
 case round =>
  obtain ⟨k, hk, rfl, hr⟩ := hrel
  have HR : Hid (RowW w wr (names.take k)) := hr
  by_cases hlt : k < names.length
  · have hrow := ownsRow_below HV.out hr.bel
    obtain ⟨g3, rfl, hg3, hc3, hcs3⟩ := row_cells hrow (by omega)
    have ca : wr.cell? ⟨g3, k, none⟩ = some (.string names[k]) := hcs3 k _ (by rw [strCells, List.getElem?_map, List.getElem?_eq_getElem hlt]; rfl)
    have HQ : Hid (Ax.isName names[k] = true ∧ names[k].size ≤ 1000) := HN.out _ (List.getElem_mem hlt)
    have HNX : Hid ((Tb.row3V (names.take k)).setIfInBounds k (.string names[k]) = Tb.row3V (names.take (k + 1))) := Tb.row3V_succ hlt h3
    have HLT : Hid (k < names.length) := hlt
    have hk3 : k < 3 := by omega
    generalize names[k] = q at ca HQ HNX
    have hin : Hid (Calls Tryz.prog 130 #[.string q] wr fun e w5 => e = .returned (.bool true) ∧ Hid (RowW w w5 (names.take k)) ∧ w5.heap.size ≥ w.heap.size + 2) := by
     refine (isName_any q wr (Utf8Tabs_below HT.out HR.out.bel) (by have := HQ.out.2; unfold maxLen; omega)).mono ?_
     rintro e w5 ⟨rfl, hb⟩
     rw [HQ.out.1]
     have h5 := HR.out.below hb
     exact ⟨rfl, h5, h5.size⟩
    have hcl : Hid (∀ w5, Hid (RowW w w5 (names.take k)) → Calls Tryz.prog 102 #[.string q] w5 fun e w6 => e = .returned (.string q) ∧ Hid (RowW w (w6.setCell ⟨w.heap.size + 1, k, none⟩ (.string q)) (names.take (k + 1))) ∧ w6.cell? ⟨w.heap.size + 1, k, none⟩ = some (.string (Tb.at0 (names.take k) k)) ∧ w6.frozen? ⟨w.heap.size + 1, k, none⟩ = false) := by
     intro w5 h5
     refine (clone_any q w5 (by have := HQ.out.2; omega)).mono ?_
     rintro e w6 ⟨rfl, hb⟩
     have h6 := h5.out.below hb
     refine ⟨rfl, ?_, ?_, ?_⟩
     · have := h6.set k q
       rw [HNX.out] at this
       exact ⟨this.1, this.2.1, this.2.2⟩
     · rw [cell_of_row _ _ _ _ _ _ h6.row]
       exact Tb.row3V_get _ hk3
     · simp [World.frozen?, h6.row]
    clear hr hrow hcs3
    go_wp2_with (first | (go_at_call 130; refine hin.out.mono ?_; rintro e w5 ⟨rfl, H5, hl5⟩) | (go_at_call 102; refine (hcl.out _ H5).mono ?_; rintro e w6 ⟨rfl, H6, hc6, hf6⟩))
    go_roundw
    case rel => exact ⟨k + 1, HLT.out, by go_num, H6.out⟩
    case measure =>
     have h9 := HLT.out
     simp [intOf]
     omega
  · have HE : Hid (RowW w wr names) := by
     have e0 : names.take k = names := List.take_of_length_le (by omega)
     rw [e0] at hr
     exact hr
    have hr0 : wr.heap[w.heap.size + 1]? = some (.cells #[.string (Tb.at0 names 0), .string (Tb.at0 names 1), .string (Tb.at0 names 2)] 119 (0, 0)) := HE.out.row
    have hr1 := HE.out.res
    have c0 : wr.cell? ⟨w.heap.size + 1, 0, none⟩ = some (.string (Tb.at0 names 0)) := by rw [cell_of_row _ _ _ _ _ _ hr0]; rfl
    have c1 : wr.cell? ⟨w.heap.size + 1, 1, none⟩ = some (.string (Tb.at0 names 1)) := by rw [cell_of_row _ _ _ _ _ _ hr0]; rfl
    have c2 : wr.cell? ⟨w.heap.size + 1, 2, none⟩ = some (.string (Tb.at0 names 2)) := by rw [cell_of_row _ _ _ _ _ _ hr0]; rfl
    have d0 : wr.cell? ⟨w.heap.size, 0, none⟩ = some (.string ⟨#[]⟩) := by rw [cell_of_row _ _ _ _ _ _ hr1]; rfl
    have d1 : wr.cell? ⟨w.heap.size, 1, none⟩ = some (.string ⟨#[]⟩) := by rw [cell_of_row _ _ _ _ _ _ hr1]; rfl
    have d2 : wr.cell? ⟨w.heap.size, 2, none⟩ = some (.string ⟨#[]⟩) := by rw [cell_of_row _ _ _ _ _ _ hr1]; rfl
    have f0 : ∀ o, wr.frozen? ⟨w.heap.size, o, none⟩ = false := fun o => by simp [World.frozen?, hr1]
    have hbl := HE.out.bel
    clear hr hr0 hr1
    go_wp2_with fail
    refine bodyPost_ret (v := .tuple #[.agg (Tb.row3V names), .bool true]) ?_ rfl ⟨rfl, ((hbl.setCell (p := ⟨w.heap.size, 0, none⟩) (Nat.le_refl _) _).setCell (p := ⟨w.heap.size, 1, none⟩) (Nat.le_refl _) _).setCell (p := ⟨w.heap.size, 2, none⟩) (Nat.le_refl _) _⟩
    refine Eq.trans (results_cell_row_tmp rfl _ _ _ _ _ _ _ rfl (stores3 HE.out.res _ _ _) Tryz.underlying119 rfl (by kernel_rfl)) ?_
    rfl
end Go.Proofs.YtdmicblafmhflaaGreatDoor
/- Hold: a fact holds by so many instances more. -/
namespace Go.Proofs.YtdmicblafmhflaaGreatDoor.Tb
def grownC (L : List Rw) (C : List Nat) (r : Rw) : List Nat := if inB L r = true then C else C.take (pos L r) ++ [0] ++ C.drop (pos L r)
def holdC (L : List Rw) (C : List Nat) (r : Rw) (n : Nat) : List Nat := (grownC L C r).set (pos L r) ((grownC L C r).getD (pos L r) 0 + n)
theorem put_len {L : List Rw} (r : Rw) : (put L r).length = if inB L r = true then L.length else L.length + 1 := by
 unfold put
 split
 · rfl
 · have := pos_le L r
   simp only [ins, List.length_append, List.length_cons, List.length_take, List.length_drop]
   omega
theorem grownC_len {L : List Rw} {C : List Nat} (hC : C.length = L.length) (r : Rw) : (grownC L C r).length = (put L r).length := by
 rw [put_len]
 unfold grownC
 split
 · exact hC
 · have := pos_le L r
   simp only [List.length_append, List.length_cons, List.length_nil, List.length_take, List.length_drop]
   omega
theorem pos_lt_put {L : List Rw} (h : Ord L) (r : Rw) : pos L r < (put L r).length := by
 rw [put_len]
 split
 · rename_i hin
   exact (List.getElem?_eq_some_iff.1 ((pos_found h r).2 (inB_iff.1 hin))).1
 · have := pos_le L r
   omega
theorem put_map {L : List Rw} (h : Ord L) (r : Rw) (n : Nat) (f : Rw → Nat) (hf : ¬ r ∈ L → f r = 0) : holdC L (L.map f) r n = (put L r).map (fun x => if x = r then f x + n else f x) := by
 have hne : ∀ x, x ∈ L.take (pos L r) → x ≠ r := by
  intro x hx e
  have := (pos_spec h r).1 x hx
  rw [e, rcmp_irr] at this
  omega
 have hmap : ∀ l : List Rw, (∀ x, x ∈ l → x ≠ r) → l.map (fun x => if x = r then f x + n else f x) = l.map f := by
  intro l hl
  refine List.map_congr_left fun x hx => ?_
  rw [if_neg (hl x hx)]
 cases hin : inB L r with
 | true =>
  have hlt : pos L r < L.length := (List.getElem?_eq_some_iff.1 ((pos_found h r).2 (inB_iff.1 hin))).1
  have hg : L[pos L r] = r := (List.getElem?_eq_some_iff.1 ((pos_found h r).2 (inB_iff.1 hin))).2
  have e : L = L.take (pos L r) ++ r :: L.drop (pos L r + 1) := by
   conv => lhs; rw [← List.take_append_drop (pos L r) L]
   rw [List.drop_eq_getElem_cons hlt, hg]
  have hnd := h.nodup
  rw [e, List.nodup_append] at hnd
  have hdr : ∀ x, x ∈ L.drop (pos L r + 1) → x ≠ r := fun x hx e2 => (List.nodup_cons.1 hnd.2.1).1 (e2 ▸ hx)
  unfold holdC grownC put
  rw [hin]
  simp only [if_true]
  have hgd : (L.map f).getD (pos L r) 0 = f r := by
   rw [List.getD_eq_getElem?_getD, List.getElem?_map, List.getElem?_eq_getElem hlt, hg]
   rfl
  rw [hgd]
  generalize hp : pos L r = p at *
  have hL1 : (L.take p).length = p := by rw [List.length_take]; omega
  conv => rhs; rw [e]
  rw [List.map_append, List.map_cons, hmap _ hne, hmap _ hdr, if_pos rfl]
  conv => lhs; rw [e]
  rw [List.map_append, List.map_cons, List.set_append_right _ _ (by rw [List.length_map, hL1]; exact Nat.le_refl _), List.length_map, hL1, Nat.sub_self, List.set_cons_zero]
 | false =>
  have hnm : ¬ r ∈ L := fun hc => by rw [inB_iff.2 hc] at hin; cases hin
  have hple := pos_le L r
  unfold holdC grownC put
  rw [hin]
  simp only [Bool.false_eq_true, if_false]
  have hL1 : ((L.map f).take (pos L r)).length = pos L r := by rw [List.length_take, List.length_map]; omega
  have hdr : ∀ x, x ∈ L.drop (pos L r) → x ≠ r := fun x hx e2 => hnm (e2 ▸ List.mem_of_mem_drop hx)
  rw [List.append_assoc, List.set_append_right _ _ (by rw [hL1]; exact Nat.le_refl _), hL1, Nat.sub_self]
  have hgd : ((L.map f).take (pos L r) ++ ([0] ++ (L.map f).drop (pos L r))).getD (pos L r) 0 = 0 := by
   rw [List.getD_eq_getElem?_getD, List.getElem?_append_right (by rw [hL1]; exact Nat.le_refl _), hL1, Nat.sub_self]
   rfl
  rw [hgd]
  unfold ins
  rw [List.map_append, List.map_cons, hmap _ hne, hmap _ hdr, if_pos rfl, hf hnm, List.map_take, List.map_drop]
  rfl
end Go.Proofs.YtdmicblafmhflaaGreatDoor.Tb
/- Hold, walked. -/
namespace Go.Proofs.YtdmicblafmhflaaGreatDoor
open Go.RowKit
open Go.Sort (grow)
structure HoldAt (w : World) (g : Nat) (nm : ByteArray) (pl : Nat) (rd : Option Addr) (rc : Nat) (cd : Option Addr) (cc : Nat) (L : List (List ByteArray)) (C : List Nat) : Prop where
 tab : TabAt w g 117 nm pl rd rc L [.slice cd L.length cc]
 cnt : w.ownsRow 0 3 1 (.slice cd L.length cc) L.length (natCells C)
theorem natCells_len (l : List Nat) : (natCells l).length = l.length := by simp [natCells]
theorem natCells_one (l : List Nat) : ∀ u ∈ natCells l, u.oneCell' = true := by
 intro u hu
 obtain ⟨x, _, rfl⟩ := List.mem_map.1 hu
 rfl
theorem HoldAt.len {w : World} {g : Nat} {nm : ByteArray} {pl : Nat} {rd : Option Addr} {rc : Nat} {cd : Option Addr} {cc : Nat} {L : List (List ByteArray)} {C : List Nat} (h : HoldAt w g nm pl rd rc cd cc L C) : C.length = L.length := by
 have := h.cnt.1
 rw [natCells_len] at this
 omega
theorem HoldAt.below {w w' : World} {g : Nat} {nm : ByteArray} {pl : Nat} {rd : Option Addr} {rc : Nat} {cd : Option Addr} {cc : Nat} {L : List (List ByteArray)} {C : List Nat} (h : HoldAt w g nm pl rd rc cd cc L C) (hb : Below w.heap.size w w') : HoldAt w' g nm pl rd rc cd cc L C := ⟨h.tab.below hb, ownsRow_below h.cnt hb⟩
def hfoot (g : Nat) (rd : Option Addr) (rc : Nat) (cd : Option Addr) (cc n : Nat) : List Nat := g :: ((Value.ownBlock (.slice rd n rc)).toList ++ (Value.ownBlock (.slice cd n cc)).toList)
theorem HoldAt.kept {w w' : World} {S : List Nat} {g : Nat} {nm : ByteArray} {pl : Nat} {rd : Option Addr} {rc : Nat} {cd : Option Addr} {cc : Nat} {L : List (List ByteArray)} {C : List Nat} (h : HoldAt w g nm pl rd rc cd cc L C) (hk : Kb S w w') (hS : ∀ b, b ∈ hfoot g rd rc cd cc L.length → ¬ b ∈ S) : HoldAt w' g nm pl rd rc cd cc L C :=
 ⟨h.tab.kept hk (hS g (by simp [hfoot])) (fun b hb => hS b (by simp [hfoot, hb])), hk.row h.cnt (fun b hb => hS b (by simp [hfoot, hb]))⟩
theorem block_type {w : World} {B : Nat} {e : TypeId} {k n : Nat} {v : Value} {xs : List Value} (h : w.ownsRow B e k v n xs) {b : Nat} (hb : v.ownBlock = some b) : ∃ cur, w.heap[b]? = some (.cells cur e (0, 0)) := by
 rcases h.2 with ⟨rfl, _⟩ | ⟨g, cap, cur, rfl, _, hg, _⟩
 · cases hb
 · simp only [Value.ownBlock, Option.some.injEq] at hb
   subst hb
   exact ⟨cur, hg⟩
theorem hold_w1 {w W w1 : World} {g : Nat} {nm : ByteArray} {pl : Nat} {rd : Option Addr} {rc : Nat} {cd : Option Addr} {cc : Nat} {L : List (List ByteArray)} {C : List Nat} (h : HoldAt w g nm pl rd rc cd cc L C) (hW : Below w.heap.size w W) (hk : Kb (g :: (Value.ownBlock (.slice rd L.length rc)).toList) W w1) :
 w1.ownsRow 0 3 1 (.slice cd L.length cc) L.length (natCells C) ∧ Kb (hfoot g rd rc cd cc L.length) w w1 := by
 have hb := h.below hW
 refine ⟨hk.row_type hb.cnt ?_, (Kb.of_below hW _).trans (hk.mono ?_)⟩
 · intro b cur fz hmem hcell
   rcases List.mem_cons.1 hmem with rfl | hmem
   · rw [hb.tab.blk] at hcell
     simp at hcell
   · rw [Option.mem_toList] at hmem
     obtain ⟨cur', e⟩ := block_type hb.tab.rows.own hmem
     rw [e] at hcell
     simp at hcell
 · intro i hi _
   rcases List.mem_cons.1 hi with rfl | hi
   · simp [hfoot]
   · simp only [hfoot, List.mem_cons, List.mem_append]; exact .inr (.inl hi)
theorem hold_w2 {w w1 W w3 : World} {g : Nat} {nm : ByteArray} {pl : Nat} {rd' : Option Addr} {rc' : Nat} {cd : Option Addr} {cc : Nat} {L L' : List (List ByteArray)} {C C' : List Nat} {S : List Nat}
 (ht : TabAt w1 g 117 nm pl rd' rc' L' [.slice cd L.length cc]) (hc : w1.ownsRow 0 3 1 (.slice cd L.length cc) L.length (natCells C)) (hW : Below w1.heap.size w1 W)
 {g' cap : Nat} (hown : w3.ownsRow 0 3 1 (.slice (some ⟨g', 0, none⟩) (L.length + 1) cap) (L.length + 1) (natCells C')) (hk : Kb (Value.ownBlock (.slice cd L.length cc)).toList W w3) (hL' : L'.length = L.length + 1) :
 HoldAt (w3.setCell ⟨g, 3, none⟩ (.slice (some ⟨g', 0, none⟩) (L.length + 1) cap)) g nm pl rd' rc' (some ⟨g', 0, none⟩) cap L' C' ∧ Kb (g :: (Value.ownBlock (.slice cd L.length cc)).toList) w1 (w3.setCell ⟨g, 3, none⟩ (.slice (some ⟨g', 0, none⟩) (L.length + 1) cap)) := by
 have htW := ht.below hW
 have hcW := ownsRow_below hc hW
 have hng : ¬ g ∈ (Value.ownBlock (.slice cd L.length cc)).toList := by
  intro hm
  rw [Option.mem_toList] at hm
  obtain ⟨cur', e⟩ := block_type hcW hm
  rw [htW.blk] at e
  simp at e
 have ht3 : TabAt w3 g 117 nm pl rd' rc' L' [.slice cd L.length cc] := by
  refine htW.kept hk hng ?_
  intro b hb hm
  rw [Option.mem_toList] at hm
  obtain ⟨c1, e1⟩ := block_type hcW hm
  obtain ⟨c2, e2⟩ := block_type htW.rows.own hb
  rw [e1] at e2
  simp at e2
 have hset := Kb.setCell w3 ⟨g, 3, none⟩ (.slice (some ⟨g', 0, none⟩) (L.length + 1) cap)
 refine ⟨⟨⟨?_, ⟨ht3.rows.three, hset.row ht3.rows.own ?_⟩, ht3.ord, ht3.type⟩, ?_⟩, ?_⟩
 · rw [setCell_heap w3 ht3.blk, hL']
   rfl
 · intro b hb hm
   simp only [List.mem_singleton] at hm
   subst hm
   obtain ⟨c2, e2⟩ := block_type ht3.rows.own hb
   rw [ht3.blk] at e2
   simp at e2
 · rw [hL']
   refine hset.row hown ?_
   intro b hb hm
   simp only [List.mem_singleton] at hm
   subst hm
   obtain ⟨c2, e2⟩ := block_type hown hb
   rw [ht3.blk] at e2
   simp at e2
 · refine Kb.trans' ((Kb.of_below hW _).trans (hk.mono ?_)) hset ?_
   · intro i hi _; exact List.mem_cons_of_mem _ hi
   · intro i hi _
     simp only [List.mem_singleton] at hi
     subst hi
     simp
theorem hold_w3 {w : World} {g : Nat} {nm : ByteArray} {pl : Nat} {rd : Option Addr} {rc : Nat} {gc cc : Nat} {L : List (List ByteArray)} {C : List Nat} (h : HoldAt w g nm pl rd rc (some ⟨gc, 0, none⟩) cc L C) {p : Nat} (hp : p < L.length) (x : Nat) :
 HoldAt (w.setCell ⟨gc, p, none⟩ (.int .i64 x)) g nm pl rd rc (some ⟨gc, 0, none⟩) cc L (C.set p x) ∧ Kb [gc] w (w.setCell ⟨gc, p, none⟩ (.int .i64 x)) := by
 have hset := Kb.setCell w ⟨gc, p, none⟩ (.int .i64 (x : Int))
 have hgc : gc ≠ g := by
  rintro rfl
  obtain ⟨c2, e2⟩ := block_type h.cnt (b := gc) rfl
  rw [h.tab.blk] at e2
  simp at e2
 refine ⟨⟨h.tab.kept hset (by simpa using fun e => hgc e.symm) ?_, ?_⟩, hset⟩
 · intro b hb hm
   simp only [List.mem_singleton] at hm
   rw [hm] at hb
   obtain ⟨c1, e1⟩ := block_type h.cnt (b := gc) rfl
   obtain ⟨c2, e2⟩ := block_type h.tab.rows.own hb
   rw [e1] at e2
   simp at e2
 · have := World.ownsRow.stored h.cnt p (.int .i64 (x : Int))
   have e : natCells (C.set p x) = (natCells C).set p (.int .i64 (x : Int)) := by
    unfold natCells
    rw [List.map_set]
   rw [e]
   exact this.1
set_option maxRecDepth 100000 in
set_option maxHeartbeats 2000000 in
theorem hold_any (w : World) (g : Nat) (nm : ByteArray) (pl : Nat) (rd : Option Addr) (rc : Nat) (cd : Option Addr) (cc : Nat) (L : List (List ByteArray)) (C : List Nat) (a b c : ByteArray) (n : Nat) (h : HoldAt w g nm pl rd rc cd cc L C) (hL : L.length ≤ 999999) (hn : n ≤ 1000) (hC : ∀ x, x ∈ C → x ≤ 1000000000000) :
 Calls Tryz.prog 230 #[.pointer (some ⟨g, 0, none⟩), .agg #[.string a, .string b, .string c], .int .i64 n] w fun e w' => ∃ rd' rc' cd' cc',
  e = .returned (.bool (!Tb.inB L [a, b, c])) ∧ HoldAt w' g nm pl rd' rc' cd' cc' (Tb.put L [a, b, c]) (Tb.holdC L C [a, b, c] n) ∧
   Kb (hfoot g rd rc cd cc L.length) w w' ∧ Fresh w (.slice rd L.length rc) (.slice rd' (Tb.put L [a, b, c]).length rc') ∧ Fresh w (.slice cd L.length cc) (.slice cd' (Tb.put L [a, b, c]).length cc') := by
 obtain ⟨w0, hw0⟩ : ∃ w0, w0 = w.alloc (.cells #[.string a, .string b, .string c] 119) := ⟨_, rfl⟩
 have hb0 : Below w.heap.size w w0 := by rw [hw0]; exact (Below.refl _ _).alloc (Nat.le_refl _) _
 have htg : w0.heap[w.heap.size]? = some (.cells #[.string a, .string b, .string c] 119 (0, 0)) := by rw [hw0]; exact heap_alloc_new w _
 have t0 : w0.cell? ⟨w.heap.size, 0, none⟩ = some (.string a) := by rw [cell_of_row _ _ 0 _ _ _ htg]; rfl
 have t1 : w0.cell? ⟨w.heap.size, 1, none⟩ = some (.string b) := by rw [cell_of_row _ _ 1 _ _ _ htg]; rfl
 have t2 : w0.cell? ⟨w.heap.size, 2, none⟩ = some (.string c) := by rw [cell_of_row _ _ 2 _ _ _ htg]; rfl
 have h0 := h.below hb0
 have hp : ∀ W, W.heap = w0.heap → Calls Tryz.prog 196 #[.pointer (some ⟨g, 0, none⟩), .agg #[.string a, .string b, .string c]] W fun e w1 => ∃ rd' rc',
  e = .returned (.tuple #[.int .i64 (Tb.pos L [a, b, c] : Nat), .bool (!Tb.inB L [a, b, c])]) ∧ (TabAt w1 g 117 nm pl rd' rc' (Tb.put L [a, b, c]) [.slice cd L.length cc] ∧
   Kb (g :: (Value.ownBlock (.slice rd L.length rc)).toList) W w1 ∧ Fresh W (.slice rd L.length rc) (.slice rd' (Tb.put L [a, b, c]).length rc')) ∧ w1.cell? ⟨g, 3, none⟩ = some (.slice cd L.length cc) ∧ w1.frozen? ⟨g, 3, none⟩ = false := by
  intro W hW
  have hT : TabAt W g 117 nm pl rd rc L [.slice cd L.length cc] := by
   obtain ⟨x1, ⟨x2, x3⟩, x4, x5⟩ := h0.tab
   refine ⟨by rw [hW]; exact x1, ⟨x2, ⟨x3.1, ?_⟩⟩, x4, x5⟩
   rw [hW]
   exact x3.2
  refine (put_any W g _ nm pl rd rc L _ a b c hT hL).mono ?_
  rintro e w1 ⟨rd', rc', rfl, q1, q2, q3⟩
  exact ⟨rd', rc', rfl, ⟨q1, q2, q3⟩, by rw [cell_of_row _ _ 3 _ _ _ q1.blk]; simp, by simp [World.frozen?, q1.blk]⟩
 have hord := h.tab.ord
 have hgl := lt_of_heap h0.tab.blk
 have hCl := h.len
 have hplt := Tb.pos_lt_put hord [a, b, c]
 have HGL : Hid ((Tb.grownC L C [a, b, c]).length = (Tb.put L [a, b, c]).length) := Tb.grownC_len hCl [a, b, c]
 cases hin : Tb.inB L [a, b, c] with
 | true =>
  rw [hin] at hp
  have hput : Tb.put L [a, b, c] = L := by unfold Tb.put; rw [hin]; rfl
  have hgr : Tb.grownC L C [a, b, c] = C := by unfold Tb.grownC; rw [hin]; rfl
  have hhold : Hid (Tb.holdC L C [a, b, c] n = C.set (Tb.pos L [a, b, c]) (C.getD (Tb.pos L [a, b, c]) 0 + n)) := by
   have : Tb.holdC L C [a, b, c] n = (Tb.grownC L C [a, b, c]).set (Tb.pos L [a, b, c]) ((Tb.grownC L C [a, b, c]).getD (Tb.pos L [a, b, c]) 0 + n) := rfl
   rw [hgr] at this
   exact this
  rw [hput] at hp hplt ⊢
  rw [hhold.out]
  generalize Tb.pos L [a, b, c] = ps at hp hplt ⊢
  obtain ⟨x, hx⟩ : ∃ x, C[ps]? = some x := ⟨_, List.getElem?_eq_getElem (by omega)⟩
  have hxb : x ≤ 1000000000000 := hC x (List.mem_of_getElem? hx)
  have hgx : C.getD ps 0 = x := by rw [List.getD_eq_getElem?_getD, hx]; rfl
  rw [hgx]
  clear htg hin hput hgr hhold HGL h0 hgx
  go_enter Tryz.func230, Tryz.ntmps230
  go_wp2_with fail
  rw [← hw0]
  have HW0 : Hid (w0 = w.alloc (.cells #[.string a, .string b, .string c] 119)) := hw0
  clear hw0
  go_region_with (go_at_call 196; refine (hp _ (by rfl)).mono ?_; rintro e w1 ⟨rd', rc', rfl, hI, k3, kf⟩)
  all_goals
   (obtain ⟨q1, q2, q3⟩ := hI
    obtain ⟨r1, r2⟩ := hold_w1 h hb0.drew q2
    have hH : HoldAt w1 g nm pl rd' rc' cd cc L C := ⟨q1, r1⟩
    obtain ⟨gc, rfl, hgc, hcc, hcs⟩ := row_cells r1 (by omega)
    have hcell := hcs ps _ (show (natCells C)[ps]? = some (.int .i64 x) by simp [natCells, hx])
    have hfz := World.ownsRow.frozenAt r1 ps
    obtain ⟨z1, z2⟩ := hold_w3 hH hplt (x + n)
    have hcast : ((x + n : Nat) : Int) = (x : Int) + (n : Int) := by omega
    rw [hcast] at z1 z2
    have hfr := q3.mono (w := w) hb0.size
    have hkb := r2.trans' z2 (fun i hi _ => by simp only [List.mem_singleton] at hi; subst hi; simp [hfoot, Value.ownBlock])
    have hgw : g < w1.heap.size := lt_of_heap q1.blk
    clear hcs hp r1 r2 q1 q2 q3 hH z2 t0 t1 t2 HW0 hcast h
    go_wp2_with fail
    go_ret
    exact ⟨rd', rc', some ⟨gc, 0, none⟩, cc, rfl, z1, hkb, hfr, Fresh.refl _ _⟩)
 | false =>
  rw [hin] at hp
  have hgr : Tb.grownC L C [a, b, c] = C.take (Tb.pos L [a, b, c]) ++ [0] ++ C.drop (Tb.pos L [a, b, c]) := by unfold Tb.grownC; rw [hin]; rfl
  have hpl : (Tb.put L [a, b, c]).length = L.length + 1 := by rw [Tb.put_len, hin]; rfl
  have hple := Tb.pos_le L [a, b, c]
  have hgx : (Tb.grownC L C [a, b, c]).getD (Tb.pos L [a, b, c]) 0 = 0 := by
   rw [hgr, List.append_assoc, List.getD_eq_getElem?_getD, List.getElem?_append_right (by rw [List.length_take]; omega), List.length_take, Nat.min_eq_left (by omega), Nat.sub_self]
   rfl
  have hhold : Hid (Tb.holdC L C [a, b, c] n = (Tb.grownC L C [a, b, c]).set (Tb.pos L [a, b, c]) n) := by
   have : Tb.holdC L C [a, b, c] n = (Tb.grownC L C [a, b, c]).set (Tb.pos L [a, b, c]) ((Tb.grownC L C [a, b, c]).getD (Tb.pos L [a, b, c]) 0 + n) := rfl
   rw [hgx, Nat.zero_add] at this
   exact this
  rw [hhold.out]
  have hinsI : ∀ (w1 W : World) (rd' : Option Addr) (rc' : Nat), TabAt w1 g 117 nm pl rd' rc' (Tb.put L [a, b, c]) [.slice cd L.length cc] → w1.ownsRow 0 3 1 (.slice cd L.length cc) L.length (natCells C) → W.heap = (w1.alloc (.cells #[.int .i64 0] 3)).heap →
   Calls Tryz.prog 264 #[.slice cd L.length cc, .int .i64 (Tb.pos L [a, b, c] : Nat), .slice (some ⟨w1.heap.size, 0, none⟩) 1 1] W fun e w3 => ∃ g' cap, e = .returned (.slice (some ⟨g', 0, none⟩) (L.length + 1) cap) ∧
    (w3.ownsRow 0 3 1 (.slice (some ⟨g', 0, none⟩) (L.length + 1) cap) (L.length + 1) (natCells (Tb.grownC L C [a, b, c])) ∧ Kb (Value.ownBlock (.slice cd L.length cc)).toList W w3 ∧ Fresh W (.slice cd L.length cc) (.slice (some ⟨g', 0, none⟩) (L.length + 1) cap)) ∧ w3.cell? ⟨g, 3, none⟩ = some (.slice cd L.length cc) ∧ w3.frozen? ⟨g, 3, none⟩ = false ∧ g < w3.heap.size := by
   intro w1 W rd' rc' hT hcn hW
   have hr2 : W.ownsRow 0 3 1 (.slice cd L.length cc) L.length (natCells C) := by
    have := hcn.alloc (.cells #[.int .i64 0] 3)
    refine ⟨this.1, ?_⟩
    rw [hW]
    exact this.2
   have hg2 : W.heap[g]? = some (.cells (Value.string nm :: .int .i64 pl :: .slice rd' (Tb.put L [a, b, c]).length rc' :: [.slice cd L.length cc]).toArray 117 (0, 0)) := by
    rw [hW, Below.heap_alloc _ _ _ (lt_of_heap hT.blk)]
    exact hT.blk
   refine (insertInt_any W 0 cd cc L.length (Tb.pos L [a, b, c]) w1.heap.size (natCells C) [.int .i64 0] hr2 (Nat.zero_le _) hple (by omega) (natCells_one C) rfl (by rw [hW]; exact heap_alloc_new w1 _) ?_ (by intro u hu; simp at hu; subst hu; rfl)).mono ?_
   · intro hc2
     have := (World.ownsRow.lt hcn w1.heap.size hc2.symm).2
     omega
   · rintro e w3 ⟨g', cap, rfl, h2, h3, h4⟩
     have hng : ¬ g ∈ (Value.ownBlock (.slice cd L.length cc)).toList := by
      intro hm
      rw [Option.mem_toList] at hm
      obtain ⟨cur', e⟩ := block_type hr2 hm
      rw [hg2] at e
      simp at e
     have hg3 := h3.heap hg2 hng
     have ec : natCells C = natCells C := rfl
     refine ⟨g', cap, rfl, ⟨?_, h3, h4⟩, by rw [cell_of_row _ _ 3 _ _ _ hg3]; simp, by simp [World.frozen?, hg3], lt_of_heap hg3⟩
     rw [hgr]
     have e2 : natCells (C.take (Tb.pos L [a, b, c]) ++ [0] ++ C.drop (Tb.pos L [a, b, c])) = (natCells C).take (Tb.pos L [a, b, c]) ++ [.int .i64 0] ++ (natCells C).drop (Tb.pos L [a, b, c]) := by
      simp [natCells]
     rw [e2]
     exact h2
  generalize Tb.grownC L C [a, b, c] = C' at hgx hhold hinsI HGL ⊢
  generalize Tb.pos L [a, b, c] = ps at hp hplt hgx hinsI ⊢
  generalize Tb.put L [a, b, c] = L' at hp hplt hinsI hpl HGL ⊢
  have hx : C'[ps]? = some 0 := by
   have : ps < C'.length := by rw [HGL.out]; omega
   rw [List.getD_eq_getElem?_getD, List.getElem?_eq_getElem this] at hgx
   rw [List.getElem?_eq_getElem this]
   simpa using hgx
  have hpsn : ps < L.length + 1 := by omega
  clear htg hin hgr hhold HGL h0 hgx hple
  have HPL : Hid (L'.length = L.length + 1) := hpl
  clear hpl
  go_enter Tryz.func230, Tryz.ntmps230
  go_wp2_with fail
  rw [← hw0]
  have HW0 : Hid (w0 = w.alloc (.cells #[.string a, .string b, .string c] 119)) := hw0
  clear hw0
  go_region_with (go_at_call 196; refine (hp _ (by rfl)).mono ?_; rintro e w1 ⟨rd', rc', rfl, hI, k3, kf⟩)
  all_goals
   (obtain ⟨q1, q2, q3⟩ := hI
    obtain ⟨r1, r2⟩ := hold_w1 h hb0.drew q2
    have hins2 := fun W => hinsI w1 W rd' rc' q1 r1
    have hgw : g < w1.heap.size := lt_of_heap q1.blk
    clear hp t0 t1 t2 HW0 hinsI
    go_upto_region 4 with (go_at_call 264; refine (hins2 _ (by rfl)).mono ?_; rintro e w3 ⟨g', cap, rfl, hJ, k4, kf4, hgw3⟩)
    obtain ⟨j1, j2, j3⟩ := hJ
    obtain ⟨y1, y2⟩ := hold_w2 (w := w) (S := []) q1 r1 ((Below.refl _ _).alloc (Nat.le_refl _) _) j1 j2 HPL.out
    have hfr := q3.mono (w := w) hb0.size
    have hs1 : w.heap.size ≤ w1.heap.size := r2.size
    have hfc : Fresh w (.slice cd L.length cc) (.slice (some ⟨g', 0, none⟩) L'.length cap) := by
     intro x hx2
     rcases j3 x hx2 with e | e
     · exact .inl e
     · exact .inr (by simp only [World.size_alloc] at e; omega)
    have hkb1 := r2.trans' y2 (fun i hi _ => by
     rcases List.mem_cons.1 hi with rfl | hi
     · simp [hfoot]
     · simp only [hfoot, List.mem_cons, List.mem_append]; exact .inr (.inr hi))
    clear j1 j2 j3 q1 q2 q3 r1 r2 hins2 k3 kf k4 kf4 y2 h hb0
    generalize w3.setCell ⟨g, 3, none⟩ (.slice (some ⟨g', 0, none⟩) (L.length + 1) cap) = w4 at y1 hkb1 ⊢
    have d0 : w4.cell? ⟨g, 3, none⟩ = some (.slice (some ⟨g', 0, none⟩) (L.length + 1) cap) := by
     rw [cell_of_row _ _ 3 _ _ _ y1.tab.blk, HPL.out]; simp
    have hgw4 : g < w4.heap.size := lt_of_heap y1.tab.blk
    have hcnt := y1.cnt
    rw [HPL.out] at hcnt
    obtain ⟨gc, egc, hgc, hcc, hcs⟩ := row_cells hcnt (by omega)
    simp only [Option.some.injEq, Addr.mk.injEq, and_true] at egc
    subst egc
    have hcell := hcs ps _ (show (natCells C')[ps]? = some (.int .i64 0) by simp [natCells, hx])
    have hfz := World.ownsRow.frozenAt hcnt ps
    obtain ⟨z1, z2⟩ := hold_w3 y1 hplt n
    have hkb := hkb1.trans' z2 (fun i hi hlt => by
     simp only [List.mem_singleton] at hi
     subst hi
     rcases hfc i rfl with e | e
     · simp only [hfoot, List.mem_cons, List.mem_append, Option.mem_toList]; exact .inr (.inr e)
     · omega)
    clear hcs hcnt y1 z2 hkb1 hx
    go_wp2_with fail
    go_ret
    exact ⟨rd', rc', some ⟨g', 0, none⟩, cap, rfl, z1, hkb, hfr, hfc⟩)
end Go.Proofs.YtdmicblafmhflaaGreatDoor
