/- NoneHolds: empty tables. -/
import Derived.Test.YtdmicblafmhflaaGreatDoorC22
import Derived.Test.YtdmicblafmhflaaGreatDoorC23
import Derived.Shelf.SlSortCmp.WholeK
import Derived.Lib.Bytealg
import Derived.Test.YtdmicblafmhflaaGreatDoorC24
set_option linter.unusedSimpArgs false
set_option linter.unusedVariables false
namespace Go.Proofs.YtdmicblafmhflaaGreatDoor
open Go.RowKit Go.Maps Go.WideMaps Go.WideElems
def newHT (p : Pd.Pr) (g : Nat) : HT := ⟨p.1, p.2, g, none, 0, none, 0, [], []⟩
theorem newHT_foot (p : Pd.Pr) (g : Nat) : (newHT p g).foot = [g] := rfl
def prHT (t : HT) : Pd.Pr := (t.nm, t.pl)
theorem newHT_ok {w : World} {p : Pd.Pr} {g : Nat} (h : w.heap[g]? = some (.cells #[.string p.1, .int .i64 p.2, .slice none 0 0, .slice none 0 0] 117 (0, 0))) : (newHT p g).ok w := ⟨⟨h, ⟨(by intro r hr; cases hr), World.ownsRow_nil _ _ _ _⟩, List.Pairwise.nil, by decide⟩, World.ownsRow_nil _ _ _ _⟩
structure NewHTs (w wr : World) (mb k : Nat) (Q : List Pd.Pr) (T : List HT) : Prop where
 map : ∃ D, wr.ownsMap Tryz.prog 9 ptrElem mb k D ∧ PIs D (T.map HT.pk)
 tabs : ∀ t, t ∈ T → t.ok wr ∧ ∃ p g, t = newHT p g ∧ mb < g
 apart : T.Pairwise Apart
 prs : T.map prHT = (Q.take k).reverse
 bel : Below w.heap.size w wr
 mbs : mb = w.heap.size
theorem newHTs_step {w wr w3 : World} {mb k : Nat} {Q : List Pd.Pr} {T : List HT} {o1 : Obj} (h : NewHTs w wr mb k Q T) (hk : k < Q.length) {D : DataW Unit} (hD : PIs D (T.map HT.pk)) (hm : IsMap D)
 (hw : w3.ownsMap Tryz.prog 9 ptrElem mb (k + 1) (D.put (litOf (Q[k]).1) (.lit (.int .i64 (wr.heap.size + 1 : Nat))))) (hg : ((wr.alloc o1).alloc (.cells (match Q[k] with | p => #[.string p.1, .int .i64 p.2, .slice none 0 0, .slice none 0 0]) 117)).grownBy w3 (some mb)) :
 NewHTs w w3 mb (k + 1) Q (newHT Q[k] (wr.heap.size + 1) :: T) := by
 have hkb : Kb [mb] ((wr.alloc o1).alloc (.cells (match Q[k] with | p => #[.string p.1, .int .i64 p.2, .slice none 0 0, .slice none 0 0]) 117)) w3 := Kb.of_grown hg
 have hb2 : Below wr.heap.size wr ((wr.alloc o1).alloc (.cells (match Q[k] with | p => #[.string p.1, .int .i64 p.2, .slice none 0 0, .slice none 0 0]) 117)) := ((Below.refl _ _).alloc (Nat.le_refl _) _).alloc (by simp) _
 have hs := h.bel.size
 have hlt : ∀ t, t ∈ T → ∀ b, b ∈ t.foot → b < wr.heap.size ∧ mb < b := by
  intro t ht b hb
  obtain ⟨hok, p, g, rfl, hgm⟩ := h.tabs t ht
  refine ⟨hok.lt hb, ?_⟩
  rw [newHT_foot, List.mem_singleton] at hb
  rw [hb]; exact hgm
 have hmb := h.mbs
 refine ⟨⟨_, hw, pis_put hD hm _ _⟩, ?_, ?_, ?_, ?_, hmb⟩
 · intro t ht
   rcases List.mem_cons.1 ht with rfl | ht
   · refine ⟨newHT_ok ?_, _, _, rfl, by omega⟩
     have := hkb.heap (new2 wr o1 _) (by simp; omega)
     exact this
   · obtain ⟨hok, p, g, e, hgm⟩ := h.tabs t ht
     refine ⟨(hok.below hb2).kept hkb ?_, p, g, e, hgm⟩
     intro b hb hc
     simp only [List.mem_singleton] at hc
     have := (hlt t ht b hb).2
     omega
 · refine List.pairwise_cons.2 ⟨?_, h.apart⟩
   intro t ht x hx hx2
   rw [newHT_foot, List.mem_singleton] at hx
   have := (hlt t ht x hx2).1
   omega
 · have e : Q.take (k + 1) = Q.take k ++ [Q[k]] := by rw [List.take_add_one, List.getElem?_eq_getElem hk]; rfl
   rw [e, List.reverse_append, List.map_cons, h.prs]
   rfl
 · exact hkb.to_below (h.bel.trans (hb2.mono hs)) (by simp; omega) (by simp; omega)
set_option maxRecDepth 100000 in
set_option maxHeartbeats 2000000 in
theorem noneHolds_any (w : World) (B : Nat) (qd : Option Addr) (qc : Nat) (Q : List Pd.Pr) (hq : w.ownsRow B 112 2 (.slice qd Q.length qc) Q.length (predCells Q)) (hl : Q.length ≤ 1000) (hs : ∀ p, p ∈ Q → p.1.size ≤ 1000000) :
 Calls Tryz.prog 186 #[.slice qd Q.length qc] w fun e w' => ∃ T, e = .returned (.map (some w.heap.size)) ∧ NewHTs w w' w.heap.size Q.length Q T := by
 have hmm := @run_makeMap Tryz.prog
 have HS : Hid (∀ p, p ∈ Q → p.1.size ≤ 1000000) := hs
 clear hs
 go_enter Tryz.func186, Tryz.ntmps186
 go_wp2_with fail
 go_loopw [9] (fun i wr => ∃ (k : Nat) (T : List HT), k ≤ Q.length ∧ i = .int .i64 k ∧ NewHTs w wr w.heap.size k Q T) (fun i _ => Q.length - (intOf i).toNat)
 case atStart => exact ⟨0, [], Nat.zero_le _, rfl, ⟨⟨_, World.ownsMap_made _ _ _ _, pis_nil⟩, by simp, List.Pairwise.nil, by simp, (Below.refl _ _).alloc (Nat.le_refl _) _, rfl⟩⟩
 case round =>
  obtain ⟨k, T, hk, rfl, hn⟩ := hrel
  obtain ⟨D, hown, hD⟩ := hn.map
  have HN : Hid (NewHTs w wr w.heap.size k Q T) := hn
  have HD : Hid (PIs D (T.map HT.pk)) := hD
  have hDm := hown.isMap
  have hmb := hown.lt
  have hbel := hn.bel
  have hsz := hbel.size
  have HB : Hid (Below w.heap.size w wr) := hbel
  clear hD hn
  by_cases hlt : k < Q.length
  · have hrow := ownsRow_below hq hbel
    obtain ⟨g, rfl, hg, hc, hcs⟩ := row_cells hrow (by omega)
    have hcell0 := hcs _ _ (predCells_get Q k hlt).1
    have hcell1 := hcs _ _ (predCells_get Q k hlt).2
    have hps : (Q[k]).1.size ≤ 1000000 := HS.out _ (List.getElem_mem hlt)
    have HST : Hid (∀ w3 o1, w3.ownsMap Tryz.prog 9 ptrElem w.heap.size (k + 1) (D.put (litOf (Q[k]).1) (.lit (.int .i64 (wr.heap.size + 1 : Nat)))) → ((wr.alloc o1).alloc (.cells (match Q[k] with | p => #[.string p.1, .int .i64 p.2, .slice none 0 0, .slice none 0 0]) 117)).grownBy w3 (some w.heap.size) → NewHTs w w3 w.heap.size (k + 1) Q (newHT Q[k] (wr.heap.size + 1) :: T)) := fun w3 o1 a b => newHTs_step HN.out hlt HD.out hDm a b
    generalize Q[k] = x at hcell0 hcell1 hps HST
    have hkey : keyOf Tryz.prog 9 (.string x.1) = some (litOf x.1) := keyOf_string_mk Tryz.underlying9 (by unfold maxLen; omega)
    have HK : Hid (keyOf Tryz.prog 9 (.string x.1) = some (litOf x.1)) := hkey
    clear hkey hcs hrow hbel hq
    go_wp2_with (at_mapUpdate; go_must (refine wpList_mapUpdate_own _ rfl _ _ _ 103 rfl 9 97 Tryz.lawStr Tryz.underlying103 _ w.heap.size k D rfl ((hown.alloc _).alloc _) (by unfold maxLen; omega) _ _ (litOf x.1) rfl rfl HK.out (.lit (.int .i64 (wr.heap.size + 1 : Nat))) [] (by rfl) ?_; intro w3 hown3 hgrow3))
    go_roundw
    case rel => exact ⟨k + 1, _, by omega, by go_num, HST.out _ _ hown3 hgrow3⟩
    case measure => simp [intOf]; omega
  · have hke : k = Q.length := by omega
    have HE : Hid (NewHTs w wr w.heap.size Q.length Q T) := by rw [← hke]; exact HN.out
    clear hbel hke
    go_wp2_with fail
    go_ret
    exact ⟨T, rfl, HE.out⟩
end Go.Proofs.YtdmicblafmhflaaGreatDoor
/- slices.SortFunc at predicates. -/
namespace Go.Proofs.YtdmicblafmhflaaGreatDoor
open Go.Shelf Go.RowKit
open Go.Sort (grow PermIn SortedIn SWO flatK get_flatK size_flatK HoldsK)
set_option maxRecDepth 100000
def sortRen : Ren := ⟨fun | 6 => 113 | 15 => 191 | 14 => 190 | 28 => 241 | 29 => 242 | 20 => 233 | 21 => 234 | 22 => 235 | 23 => 236 | 24 => 237 | 25 => 238 | 26 => 239 | 27 => 240 | 46 => 267 | 47 => 268 | 48 => 269 | 49 => 270 | 50 => 271 | 57 => 288 | n => n, fun | 22 => 144 | 24 => 112 | 25 => 226 | 3 => 3 | 39 => 246 | 0 => 0 | 53 => 228 | 55 => 285 | 4 => 4 | 46 => 373 | 45 => 372 | 50 => 129 | 5 => 5 | 9 => 9 | 66 => 396 | 70 => 400 | 76 => 422 | 77 => 288 | n => n, fun n => n⟩
theorem sortLaid : SlLaysF0.n6 Tryz.prog sortRen where
 mixed := by kernel_rfl
 f6 := ⟨(Tryz.f113).name, by kernel_rfl, Tryz.func113.trans (congrArg some (by kernel_rfl))⟩
 f14 := ⟨(Tryz.f190).name, by kernel_rfl, Tryz.func190.trans (congrArg some (by kernel_rfl))⟩
 f15 := Tryz.func191.trans (congrArg some (by kernel_rfl))
 f20 := ⟨(Tryz.f233).name, by kernel_rfl, Tryz.func233.trans (congrArg some (by kernel_rfl))⟩
 f21 := ⟨(Tryz.f234).name, by kernel_rfl, Tryz.func234.trans (congrArg some (by kernel_rfl))⟩
 f22 := ⟨(Tryz.f235).name, by kernel_rfl, Tryz.func235.trans (congrArg some (by kernel_rfl))⟩
 f23 := ⟨(Tryz.f236).name, by kernel_rfl, Tryz.func236.trans (congrArg some (by kernel_rfl))⟩
 f24 := ⟨(Tryz.f237).name, by kernel_rfl, Tryz.func237.trans (congrArg some (by kernel_rfl))⟩
 f25 := ⟨(Tryz.f238).name, by kernel_rfl, Tryz.func238.trans (congrArg some (by kernel_rfl))⟩
 f26 := ⟨(Tryz.f239).name, by kernel_rfl, Tryz.func239.trans (congrArg some (by kernel_rfl))⟩
 f27 := ⟨(Tryz.f240).name, by kernel_rfl, Tryz.func240.trans (congrArg some (by kernel_rfl))⟩
 f28 := Tryz.func241.trans (congrArg some (by kernel_rfl))
 f29 := Tryz.func242.trans (congrArg some (by kernel_rfl))
 f46 := ⟨(Tryz.f267).name, by kernel_rfl, Tryz.func267.trans (congrArg some (by kernel_rfl))⟩
 f47 := Tryz.func268.trans (congrArg some (by kernel_rfl))
 f48 := Tryz.func269.trans (congrArg some (by kernel_rfl))
 f49 := ⟨(Tryz.f270).name, by kernel_rfl, Tryz.func270.trans (congrArg some (by kernel_rfl))⟩
 f50 := ⟨(Tryz.f271).name, by kernel_rfl, Tryz.func271.trans (congrArg some (by kernel_rfl))⟩
 f57 := ⟨(Tryz.f288).name, by kernel_rfl, Tryz.func288.trans (congrArg some (by kernel_rfl))⟩
 t0 := Tryz.underlying0
 a0 := Tryz.isAgg0
 z0 := Tryz.sizeOf0
 v0 := Tryz.zeroValue0
 t3 := Tryz.underlying3
 a3 := Tryz.isAgg3
 z3 := Tryz.sizeOf3
 v3 := Tryz.zeroValue3
 t4 := Tryz.underlying4
 a4 := Tryz.isAgg4
 z4 := Tryz.sizeOf4
 v4 := Tryz.zeroValue4
 t5 := Tryz.underlying5
 a5 := Tryz.isAgg5
 z5 := Tryz.sizeOf5
 v5 := Tryz.zeroValue5
 t9 := Tryz.underlying9
 a9 := Tryz.isAgg9
 z9 := Tryz.sizeOf9
 v9 := Tryz.zeroValue9
 t22 := Tryz.underlying144
 a22 := Tryz.isAgg144
 z22 := Tryz.sizeOf144
 v22 := Tryz.zeroValue144
 t25 := Tryz.underlying226
 a25 := Tryz.isAgg226
 z25 := Tryz.sizeOf226
 v25 := Tryz.zeroValue226
 t39 := Tryz.underlying246
 a39 := Tryz.isAgg246
 z39 := Tryz.sizeOf246
 v39 := Tryz.zeroValue246
 t45 := Tryz.underlying372
 a45 := Tryz.isAgg372
 z45 := Tryz.sizeOf372
 v45 := Tryz.zeroValue372
 t46 := Tryz.underlying373
 a46 := Tryz.isAgg373
 z46 := Tryz.sizeOf373
 v46 := Tryz.zeroValue373
 t50 := Tryz.underlying129
 a50 := Tryz.isAgg129
 z50 := Tryz.sizeOf129
 v50 := Tryz.zeroValue129
 t53 := Tryz.underlying228
 a53 := Tryz.isAgg228
 z53 := Tryz.sizeOf228
 v53 := Tryz.zeroValue228
 t55 := Tryz.underlying285
 a55 := Tryz.isAgg285
 z55 := Tryz.sizeOf285
 v55 := Tryz.zeroValue285
 t66 := Tryz.underlying396
 a66 := Tryz.isAgg396
 z66 := Tryz.sizeOf396
 v66 := Tryz.zeroValue396
 t70 := Tryz.underlying400
 a70 := Tryz.isAgg400
 z70 := Tryz.sizeOf400
 v70 := Tryz.zeroValue400
 t76 := Tryz.underlying422
 a76 := Tryz.isAgg422
 z76 := Tryz.sizeOf422
 v76 := Tryz.zeroValue422
 t77 := Tryz.underlying288
 a77 := Tryz.isAgg288
 z77 := Tryz.sizeOf288
 v77 := Tryz.zeroValue288
theorem compareBytes_lt : ∀ (a b : List UInt8), Lib.compareBytes a b = if a < b then -1 else if b < a then 1 else 0
 | [], [] => by simp [Lib.compareBytes]
 | [], _ :: _ => by simp [Lib.compareBytes]
 | _ :: _, [] => by simp [Lib.compareBytes]
 | a :: u, b :: v => by
  unfold Lib.compareBytes
  rw [compareBytes_lt u v]
  by_cases h1 : a < b
  · simp [h1, List.cons_lt_cons_iff]
  · by_cases h2 : b < a
    · have h3 : ¬ a = b := fun e => by subst e; exact h1 h2
      simp [h1, h2, h3, List.cons_lt_cons_iff]
    · have h3 : a = b := UInt8.le_antisymm (UInt8.not_lt.1 h2) (UInt8.not_lt.1 h1)
      subst h3
      simp [List.cons_lt_cons_iff]
theorem compareBytes_scmp (a b : ByteArray) : Lib.compareBytes a.data.toList b.data.toList = Tb.scmp a b := by
 rw [compareBytes_lt, ← ByteArray.toList_eq, ← ByteArray.toList_eq]
 unfold Tb.scmp
 simp only [Tb.slt_iff]
set_option maxHeartbeats 1000000 in
theorem cmpString_any (a b : ByteArray) (w : World) : Calls Tryz.prog 192 #[.string a, .string b] w fun e w' => e = .returned (.int .i64 (Tb.scmp a b)) ∧ w' = w := by
 go_enter Tryz.func192, Tryz.ntmps192
 go_wp2
 rw [run_callFunc_extern Tryz.func243 (by kernel_rfl) (by kernel_rfl) (by kernel_rfl) (e := Extern.BytealgCompare.compare) (by kernel_rfl), Lib.run_compareString, compareBytes_scmp]
 simp only [Result.andThen]
 rw [Oper.upon_value]
 go_wp2
 go_ret
 exact ⟨rfl, rfl⟩
set_option maxHeartbeats 1000000 in
theorem strCompare_any (a b : ByteArray) (w : World) : Calls Tryz.prog 115 #[.string a, .string b] w fun e w' => e = .returned (.int .i64 (Tb.scmp a b)) ∧ w' = w := by
 have hc := cmpString_any a b
 generalize Tb.scmp a b = r at hc ⊢
 go_enter Tryz.func115, Tryz.ntmps115
 go_wp2_with (go_at_call 192; refine (hc _).mono ?_; rintro e w' ⟨rfl, rfl⟩)
 go_ret
 exact ⟨rfl, rfl⟩
def encPr (p : Pd.Pr) : List Value := [.string p.1, .int .i64 p.2]
def cfPr (a b : Pd.Pr) : Int := Tb.scmp a.1 b.1
theorem ltPr (a b : Pd.Pr) : ltOf cfPr a b = Tb.slt a.1 b.1 := by
 unfold ltOf cfPr
 rw [Bool.eq_iff_iff, decide_eq_true_iff]
 exact Tb.scmp_neg
theorem swoPr : SWO (ltOf cfPr) where
 irrefl x := by rw [ltPr]; exact Tb.slt_irr _
 trans x y z h1 h2 := by rw [ltPr] at *; exact Tb.slt_trans h1 h2
 ntrans x y z h1 h2 := by
  rw [ltPr] at *
  cases h : Tb.slt x.1 z.1 with
  | false => rfl
  | true =>
   cases h3 : Tb.slt y.1 x.1 with
   | true => rw [Tb.slt_trans h3 h] at h2; cases h2
   | false => rw [Tb.slt_tri h1 h3] at h; rw [h] at h2; cases h2
set_option maxHeartbeats 1000000 in
theorem closurePr (x y : Pd.Pr) (W : World) : Calls Tryz.prog 114 #[.agg #[.string x.1, .int .i64 x.2], .agg #[.string y.1, .int .i64 y.2]] W fun e w' => e = .returned (.int .i64 (cfPr x y)) ∧ ∃ q os', w' = grow (W.drewN q) os' := by
 have hcon := fun W' => strCompare_any x.1 y.1 W'
 unfold cfPr
 generalize Tb.scmp x.1 y.1 = r at hcon ⊢
 go_enter Tryz.func114, Tryz.ntmps114
 go_wp2_with (go_at_call 115; refine (hcon _).mono ?_; rintro e w' ⟨rfl, rfl⟩)
 go_ret
 exact ⟨rfl, 0, _, by rw [Go.Sort.alloc_eq_grow, Go.Sort.alloc_eq_grow, Go.Sort.grow_grow]; rfl⟩
theorem cmpLaysPr (blk off size : Nat) (w : World) : CmpLays Tryz.prog 114 #[] encPr 2 cfPr blk off size w := fun _ _ _ _ x y => closurePr x y _
theorem flatPr (d : Array Pd.Pr) : (flatK encPr 2 d).toList = predCells d.toList := by
 apply List.ext_getElem
 · simp [predCells_len]
 · intro t h1 h2
   have hs : t < d.size * 2 := by simpa using h1
   have e := get_flatK encPr 2 d t hs
   rw [getElem!_pos _ t (by simpa using hs)] at e
   rw [Array.getElem_toList, e]
   obtain ⟨k, hk⟩ : ∃ k, t = k * 2 ∨ t = k * 2 + 1 := ⟨t / 2, by omega⟩
   have hkl : k < d.toList.length := by simp; omega
   obtain ⟨g0, g1⟩ := predCells_get d.toList k hkl
   have hd : d[k]! = d.toList[k] := by rw [getElem!_pos d k (by simpa using hkl)]; simp
   rcases hk with rfl | rfl
   · rw [show k * 2 / 2 = k by omega, show k * 2 % 2 = 0 by omega, hd]
     rw [List.getElem?_eq_getElem h2] at g0
     simp only [Option.some.injEq] at g0
     rw [g0]
     rfl
   · rw [show (k * 2 + 1) / 2 = k by omega, show (k * 2 + 1) % 2 = 1 by omega, hd]
     rw [List.getElem?_eq_getElem h2] at g1
     simp only [Option.some.injEq] at g1
     rw [g1]
     rfl
theorem putCells_take (F c : Array Value) (h : F.size ≤ c.size) : (Go.Sort.putCells id 0 F c).toList.take F.size = F.toList ∧ (Go.Sort.putCells id 0 F c).size = c.size := by
 have hs : (Go.Sort.putCells id 0 F c).size = c.size := by simp [Go.Sort.putCells]
 refine ⟨?_, hs⟩
 apply List.ext_getElem
 · simp [hs]; omega
 · intro t h1 h2
   have ht : t < F.size := by simpa using h2
   rw [List.getElem_take, Array.getElem_toList]
   simp only [Go.Sort.putCells, Array.getElem_mapIdx]
   rw [if_pos ⟨Nat.zero_le _, by omega⟩, Nat.sub_zero, getElem!_pos F t ht]
   simp
theorem sortWorld_row {B : Nat} {w : World} {g pc n : Nat} {D : List Pd.Pr} {d' : Array Pd.Pr} {os : Array Obj} (hown : w.ownsRow B 112 2 (.slice (some ⟨g, 0, none⟩) D.length pc) D.length (predCells D)) (hs : d'.size = D.length) :
 (sortWorldK encPr 2 w g 0 n d' os).ownsRow B 112 2 (.slice (some ⟨g, 0, none⟩) D.length pc) D.length (predCells d'.toList) ∧ Kb [g] w (sortWorldK encPr 2 w g 0 n d' os) := by
 rcases hown.2 with ⟨e, _⟩ | ⟨g', cap, cur, e, hB, hg, hc1, hc2, hc3, _⟩
 · simp at e
 · simp only [Value.slice.injEq, Option.some.injEq, Addr.mk.injEq, and_true, true_and] at e
   obtain ⟨rfl, rfl⟩ := e
   have hF : (flatK encPr 2 d').size = D.length * 2 := by rw [size_flatK, hs]
   have hlt := lt_of_heap hg
   have hheap : (sortWorldK encPr 2 w g 0 n d' os).heap = w.heap.modify g (Go.Sort.onCells (Go.Sort.putCells id 0 (flatK encPr 2 d'))) ++ os := rfl
   obtain ⟨p1, p2⟩ := putCells_take (flatK encPr 2 d') cur (by rw [hF, hc3]; exact Nat.mul_le_mul_right _ hc1)
   refine ⟨⟨by simp [predCells_len, hs], .inr ⟨g, pc, Go.Sort.putCells id 0 (flatK encPr 2 d') cur, rfl, hB, ?_, hc1, hc2, by rw [p2, hc3], ?_⟩⟩, ⟨rfl, rfl, rfl, ?_, ?_⟩⟩
   · rw [hheap, Array.getElem?_append_left (by simpa using hlt), Array.getElem?_modify, if_pos rfl, hg]
     rfl
   · rw [← hF, p1, flatPr]
   · rw [hheap]; simp
   · intro k hk hne
     rw [hheap, Array.getElem?_append_left (by simpa using hk), Array.getElem?_modify, if_neg (by simp at hne; omega)]
theorem sortPreds_any (B : Nat) (w : World) (g pc : Nat) (D : List Pd.Pr) (hown : w.ownsRow B 112 2 (.slice (some ⟨g, 0, none⟩) D.length pc) D.length (predCells D)) (hD : D.length ≤ 2000000) :
 Calls Tryz.prog 113 #[.slice (some ⟨g, 0, none⟩) D.length pc, .func (.func 114) #[] #[]] w fun e w' => e = .returned (.tuple #[]) ∧ ∃ D' : List Pd.Pr, D'.Perm D ∧ D'.Pairwise (fun a b => Tb.slt b.1 a.1 = false) ∧ w'.ownsRow B 112 2 (.slice (some ⟨g, 0, none⟩) D'.length pc) D'.length (predCells D') ∧ Kb [g] w w' := by
 have eg : ∀ args w, (callFunc 114 args).run Tryz.prog w = .ok (.enter 114 args) w := enters_of Tryz.func114 (by kernel_rfl) rfl
 obtain ⟨cur, hg⟩ := block_type hown (b := g) rfl
 have hcell := World.ownsRow.cells hown (g := g) rfl
 have hH : HoldsK encPr 2 w g 0 D.toArray := by
  intro j hj
  refine ⟨?_, by simp [World.frozen?, hg]⟩
  have e : (predCells D)[j]? = some ((flatK encPr 2 D.toArray)[j]!) := by
   rw [show predCells D = (flatK encPr 2 D.toArray).toList from (flatPr D.toArray).symm, Array.getElem?_toList, getElem!_pos _ j hj, Array.getElem?_eq_getElem hj]
  have := hcell j _ e
  rcases j with _ | j
  · simpa [Addr.add] using this
  · simpa [Addr.add] using this
 have hcon := AnyQ.slices_SortFunc sortLaid 2 Tryz.isAgg112 Tryz.sizeOf112 encPr (fun _ => rfl) (fun x v hv => by simp [encPr] at hv; rcases hv with rfl | rfl <;> rfl) cfPr swoPr 114 #[] g 0 pc D.toArray w eg (cmpLaysPr g 0 D.toArray.size w) hH (lt_of_heap hg) (by simp; omega)
 change Calls Tryz.prog 113 #[.slice (some ⟨g, 0, none⟩) D.length pc, .func (.func 114) #[] #[]] w _ at hcon
 refine hcon.mono ?_
 rintro e w' ⟨rfl, d', n, os, hp, hso, rfl⟩
 have hs : d'.size = D.length := hp.1
 obtain ⟨r1, r2⟩ := sortWorld_row (n := n) (os := os) hown hs
 have hperm : d'.toList.Perm D := by
  have := hp.2.2
  rw [Array.extract_eq_self_of_le (by rw [hs]; simp), Array.extract_eq_self_of_le (by simp)] at this
  simpa using this
 refine ⟨rfl, d'.toList, hperm, ?_, ?_, r2⟩
 · rw [List.pairwise_iff_getElem]
   intro i j hi hj hij
   have := hso i j (Nat.zero_le _) hij (by simpa [hs] using hj)
   rw [getElem!_pos d' j (by simpa using hj), getElem!_pos d' i (by simpa using hi), ltPr] at this
   simpa using this
 · rw [show d'.toList.length = D.length by simpa using hs]
   exact r1
end Go.Proofs.YtdmicblafmhflaaGreatDoor
/- Preds. -/
namespace Go.Proofs.YtdmicblafmhflaaGreatDoor
open Go.RowKit
set_option maxRecDepth 100000 in
set_option maxHeartbeats 2000000 in
theorem preds_any (w : World) (pl : ByteArray) (rd : Option Addr) (rc : Nat) (l : List MR) (h : RulesIn w rd rc l) (hll : l.length ≤ 1000) (h1 : Pd.One (prsOf (l.map MR.rule))) (hne : l ≠ []) :
 Calls Tryz.prog 59 #[.agg #[.string pl, .slice rd l.length rc]] w fun e w' => ∃ qd qc Q, e = .returned (.slice qd (List.length Q) qc) ∧ w'.ownsRow w.heap.size 112 2 (.slice qd Q.length qc) Q.length (predCells Q) ∧ Below w.heap.size w w' ∧ Hid (Pd.Srt Q ∧ ∀ p, p ∈ Q ↔ p ∈ prsOf (l.map MR.rule)) := by
 obtain ⟨i0, hi0, hz0, hz1, hz2⟩ := info_parts Tryz.infoPred
 have HI : Hid (Tryz.prog.info? 112 = some i0) := hi0
 have H0 : Hid (i0.zero = some (.agg #[.string ByteArray.empty, .int .i64 0])) := hz0
 have H1 : Hid (i0.size = 2) := hz1
 have H2 : Hid (i0.bytes = 24) := hz2
 clear hi0 hz0 hz1 hz2
 have HONE : Hid (Pd.One (prsOf (l.map MR.rule))) := h1
 have hb0 : Below w.heap.size w (w.alloc (.cells #[.string pl, .slice rd l.length rc] 101)) := (Below.refl _ _).alloc (Nat.le_refl _) _
 have hlp : 0 < l.length := List.length_pos_iff.2 hne
 clear h1 hne
 have hPl : Hid (∀ k, k ≤ l.length → (prsOf ((l.take k).map MR.rule)).length ≤ 1001 * k) := by
  intro k hk
  have := prsOf_len (l := l.take k) (fun r hr => h.2.2 r (List.mem_of_mem_take hr))
  rw [List.length_take, Nat.min_eq_left hk] at this
  exact this
 go_enter Tryz.func59, Tryz.ntmps59
 go_wp2_with fail
 go_loopw [3, 11] (fun v i wr => ∃ k : Nat, k ≤ l.length ∧ i = .int .i64 k ∧ PrRel w wr v (prsOf ((l.take k).map MR.rule))) (fun _ i _ => l.length - (intOf i).toNat)
 case atStart => exact ⟨0, Nat.zero_le _, rfl, World.ownsRow_nil _ _ _ _, hb0⟩
 case round =>
  obtain ⟨k, hk, rfl, hown, hbel⟩ := hrel
  obtain ⟨qd, qc, hq0⟩ := ownsRow_shape hown
  subst hq0
  obtain ⟨w0, rfl⟩ : ∃ x, x = wr := ⟨_, rfl⟩
  have hsz := hbel.size
  have hpk := hPl.out k hk
  by_cases hlt : k < l.length
  · obtain ⟨g, a, ad, c, bd, d, body, rfl, hg, hcap, d0, d1, d2, d3, hmr, hbl, hrule⟩ := (h.below hbel).at hlt
    have HSU : Hid (prsOf ((l.take (k + 1)).map MR.rule) = prsOf ((l.take k).map MR.rule) ++ (a :: body.map Prod.fst).map prOf) := by
     rw [prsOf_succ hlt, hrule]; rfl
    generalize prsOf ((l.take k).map MR.rule) = P at hown hpk HSU
    clear hrule
    go_wp2_with (go_at_call 112; refine (atomsOf_any _ _ _ _ _ _ _ (MR.below hmr ((Below.refl _ _).alloc (Nat.le_refl _) _)) hbl).mono ?_; rintro e w1 ⟨ad', c', rfl, hats, hoks, hb1⟩)
    have hb01 : Below w0.heap.size w0 w1 := ((Below.refl _ _).alloc (Nat.le_refl _) _).trans (hb1.mono (by simp))
    have hown1 := ownsRow_below hown hb01
    have hs1 := hb01.size
    have hbel1 := hbel.trans (hb01.mono hsz)
    clear hb1 hmr hown hb01 d0 d1 d2 d3 hbel
    generalize hL : (a, Value.slice ad a.terms.length c) :: body = L at hats hoks
    have hLl : L.length = body.length + 1 := by rw [← hL]; rfl
    have hLm : L.map Prod.fst = a :: body.map Prod.fst := by rw [← hL]; rfl
    have hLa : L.length ≤ body.length + 1 := by omega
    have hLb : body.length + 1 ≤ L.length := by omega
    rw [← hLm] at HSU
    clear hL hLm hLl
    go_loopw [3, 18] (fun v i w2 => ∃ q : Nat, q ≤ L.length ∧ i = .int .i64 q ∧ PrRel w w2 v (P ++ ((L.map Prod.fst).take q).map prOf) ∧ Lib.OthersKept 112 none w1 w2) (fun _ i _ => L.length - (intOf i).toNat)
    case atStart => exact ⟨0, Nat.zero_le _, rfl, by simpa using ⟨hown1, hbel1⟩, Lib.OthersKept.refl _ _ _⟩
    case round =>
     obtain ⟨q, hq, rfl, hpr, ho⟩ := hrel
     obtain ⟨xd, xc, hx0⟩ := ownsRow_shape hpr.1
     subst hx0
     have HPR : Hid (PrRel w wr (.slice xd (P ++ ((L.map Prod.fst).take q).map prOf).length xc) (P ++ ((L.map Prod.fst).take q).map prOf)) := hpr
     have HO : Hid (Lib.OthersKept 112 none w1 wr) := ho
     have hPq : (P ++ ((L.map Prod.fst).take q).map prOf).length ≤ 1003003 := by simp; omega
     by_cases hlq : q < L.length
     · have hrow := ownsRow_others hats ho (by decide)
       obtain ⟨g2, rfl, hg2, hc2, hcs⟩ := row_cells hrow (by omega)
       have hcell0 := hcs _ _ (atomCells_get L q hlq).1
       have hcell1 := hcs _ _ (atomCells_get L q hlq).2.1
       have hcell2 := hcs _ _ (atomCells_get L q hlq).2.2
       have hxk : MA.ok wr L[q] := oks_others hoks ho (by decide) _ (List.getElem_mem hlq)
       obtain ⟨yd, yc, hsh⟩ := ownsRow_shape hxk
       rw [hsh] at hcell2
       have HNX : Hid (P ++ ((L.map Prod.fst).take (q + 1)).map prOf = (P ++ ((L.map Prod.fst).take q).map prOf) ++ [prOf (L[q]).1]) := by
        have e0 : (L.map Prod.fst).take (q + 1) = (L.map Prod.fst).take q ++ [(L[q]).1] := by
         rw [List.take_add_one, List.getElem?_eq_getElem (by simpa using hlq), List.getElem_map]; rfl
        rw [e0, List.map_append, List.append_assoc]
        rfl
       have hown := hpr.1
       have hsw := hpr.2.size
       generalize (L[q]).1 = x at hcell0 hcell1 hcell2 HNX
       generalize P ++ ((L.map Prod.fst).take q).map prOf = P1 at hown HPR HNX hPq
       clear hsh hcs hrow hxk hpr ho hats hoks hown1 hbel1
       go_wp2_with (at_builtin; go_must (refine wpList_append_own _ rfl (.tmp 22) (.tmp 29) 144 rfl w.heap.size 112 i0 _ 2 24 Tryz.underlying144 HI.out H0.out H1.out H2.out rfl (by decide) _ _ _ rfl ((hown.alloc _).alloc _) ⟨wr.heap.size + 1, 0, none⟩ 1 1 [.string x.pred, .int .i64 x.terms.length] rfl rfl (new_cells2 _ _ _ _) (by simp [Value.oneCell']) (by unfold maxLen; omega) (by omega) (by simp; omega) ?_; intro v2 w2 hown2 hgrow2 _; obtain ⟨hpr2, ho2⟩ := pr_snoc (p := prOf x) HPR.out hown2 hgrow2 HO.out; clear hown2 hgrow2))
       go_roundw
       case rel => exact ⟨q + 1, by omega, by go_num, by rw [HNX.out]; exact hpr2, ho2⟩
       case measure => simp [intOf]; omega
     · have HE : Hid (PrRel w wr (.slice xd (P ++ ((L.map Prod.fst).take q).map prOf).length xc) (prsOf ((l.take (k + 1)).map MR.rule))) := by
        have e : (L.map Prod.fst).take q = L.map Prod.fst := List.take_of_length_le (by simp; omega)
        rw [HSU.out]
        have := HPR.out
        rw [e] at this ⊢
        exact this
       clear hpr ho HPR HSU
       go_wp2_with fail
       go_roundw
       case rel => exact ⟨k + 1, by omega, by go_num, HE.out⟩
       case measure => simp [intOf]; omega
  · have hke : k = l.length := by omega
    subst hke
    rw [List.take_length] at hown hpk ⊢
    have hpos : 0 < (prsOf (l.map MR.rule)).length := by
     cases l with
     | nil => simp at hlp
     | cons r l => simp [prsOf, Ax.Rule.atoms]
    have HRES : Hid (∀ D' : List Pd.Pr, D'.Perm (prsOf (l.map MR.rule)) → D'.Pairwise (fun a b => Tb.slt b.1 a.1 = false) → Pd.Srt (Pd.cpt D') ∧ ∀ p, p ∈ Pd.cpt D' ↔ p ∈ prsOf (l.map MR.rule)) := by
     intro D' hp hs
     refine ⟨Pd.cpt_srt D' hs ?_, fun p => by rw [Pd.mem_cpt, hp.mem_iff]⟩
     intro x hx y hy e
     exact HONE.out x (hp.mem_iff.1 hx) y (hp.mem_iff.1 hy) e
    have hDl : (prsOf (l.map MR.rule)).length ≤ 1001000 := by omega
    generalize hDD : prsOf (l.map MR.rule) = D at hown HRES hpos hDl ⊢
    have HDD : Hid (prsOf (l.map MR.rule) = D) := hDD
    clear hDD
    obtain ⟨g, rfl, hg, hcap, _⟩ := row_cells hown hpos
    have hgB := (hown.lt g rfl).1
    clear h HONE hPl
    have hsort : Hid (Calls Tryz.prog 113 #[.slice (some ⟨g, 0, none⟩) D.length qc, .func (.func 114) #[] #[]] w0 fun e w' => e = .returned (.tuple #[]) ∧ ∃ D' : List Pd.Pr, Hid (D'.length = D.length) ∧ Hid (Pd.Srt (Pd.cpt D') ∧ ∀ p, p ∈ Pd.cpt D' ↔ p ∈ D) ∧ w'.ownsRow w.heap.size 112 2 (.slice (some ⟨g, 0, none⟩) D.length qc) D.length (predCells D') ∧ Kb [g] w0 w' ∧ Calls Tryz.prog 116 #[.slice (some ⟨g, 0, none⟩) D.length qc] w' fun e w3 => e = .returned (.slice (some ⟨g, 0, none⟩) (Pd.cpt D').length qc) ∧ w3.ownsRow w.heap.size 112 2 (.slice (some ⟨g, 0, none⟩) (Pd.cpt D').length qc) (Pd.cpt D').length (predCells (Pd.cpt D')) ∧ Kb [g] w' w3) := by
     refine (sortPreds_any w.heap.size _ g qc D hown (by omega)).mono ?_
     rintro e w2 ⟨rfl, D', hp, hso, hown2, hk2⟩
     have hc := compact_any w.heap.size w2 _ qc D' hown2 (by rw [hp.length_eq]; omega)
     rw [hp.length_eq] at hc hown2
     exact ⟨rfl, D', hp.length_eq, HRES.out D' hp hso, hown2, hk2, hc⟩
    clear HRES hown
    go_wp2_with (first | (go_at_call 113; refine hsort.out.mono ?_; rintro e w2 ⟨rfl, D', hl2, HR2, hown2, hk2, hcm⟩) | (go_at_call 116; refine hcm.mono ?_; rintro e w3 ⟨rfl, hown3, hk3⟩))
    have hs2 := hk2.size
    have hend : Below w.heap.size w w3 := hk3.to_below (hk2.to_below hbel hsz (by simp; omega)) (by omega) (by simp; omega)
    go_ret
    exact ⟨_, _, Pd.cpt D', rfl, hown3, hend, by rw [HDD.out]; exact HR2⟩
end Go.Proofs.YtdmicblafmhflaaGreatDoor
