/- facts.Total at what was given. -/
import Derived.Test.YtdmicblafmhflaaGreatDoorC24
import Derived.Maps.RangeWalk
import Derived.Sort.MapsRangeIn
import Derived.Test.YtdmicblafmhflaaGreatDoorC22
import Derived.Test.YtdmicblafmhflaaGreatDoorC23
import Derived.Test.YtdmicblafmhflaaGreatDoorC19
import Derived.Deep.RegionHeld3
set_option linter.unusedSimpArgs false
set_option linter.unusedVariables false
namespace Go.Proofs.YtdmicblafmhflaaGreatDoor
open Go.RowKit Go.Maps
def gleft (left : Lit → Bool) (G : List GT) : List GT := G.filter fun t => left (litOf t.nm)
def gsum (G : List GT) : Nat := (G.map fun t => t.L.length).sum
theorem gleft_none {left : Lit → Bool} {G : List GT} (h : ∀ kl, left kl = false) : gleft left G = [] := by simp [gleft, h]
theorem gsum_step {G : List GT} (hn : (G.map GT.nm).Nodup) {left : Lit → Bool} {t : GT} (ht : t ∈ G) (hl : left (litOf t.nm) = true) :
 gsum (gleft left G) = gsum (gleft (fun z => left z && !z.sameKey (litOf t.nm)) G) + t.L.length := by
 induction G with
 | nil => simp at ht
 | cons a G ih =>
  simp only [List.map_cons, List.nodup_cons] at hn
  unfold gleft gsum at ih ⊢
  rcases List.mem_cons.1 ht with rfl | ht
  · have e1 : G.filter (fun z => left (litOf z.nm) && !(litOf z.nm).sameKey (litOf t.nm)) = G.filter (fun z => left (litOf z.nm)) := by
     refine List.filter_congr fun z hz => ?_
     have : (litOf z.nm).sameKey (litOf t.nm) = false := sameKey_ne (fun e => hn.1 (by rw [← litOf_inj e]; exact List.mem_map_of_mem hz))
     simp [this]
    have e2 : (litOf t.nm).sameKey (litOf t.nm) = true := by simp [Lit.sameKey, litOf]
    simp only [List.filter_cons, hl, e2, e1]
    simp
    omega
  · have h1 := ih hn.2 ht
    have : (litOf a.nm).sameKey (litOf t.nm) = false := sameKey_ne (fun e => hn.1 (by rw [litOf_inj e]; exact List.mem_map_of_mem ht))
    simp only [List.filter_cons, this]
    cases left (litOf a.nm) <;> simp at h1 ⊢ <;> omega
theorem look_mem : ∀ {G : List GT} {x : ByteArray} {g : Nat}, Ax.look (G.map GT.key) x = some g → ∃ t, t ∈ G ∧ t.nm = x ∧ t.g = g
 | [], x, g, h => by simp [Ax.look] at h
 | a :: G, x, g, h => by
  rw [List.map_cons] at h
  have e : Ax.look (a.key :: G.map GT.key) x = if a.nm = x then some a.g else Ax.look (G.map GT.key) x := look_cons ..
  rw [e] at h
  split at h
  · rename_i e
    exact ⟨a, by simp, e, Option.some.inj h⟩
  · obtain ⟨t, ht, h1⟩ := look_mem h
    exact ⟨t, by simp [ht], h1⟩
theorem ptrElem_ptr (v : Value) (y : DataW Unit × List MemPlace) (h : ptrElem v = some y) : ∃ c, v = .pointer c := by
 unfold ptrElem at h
 split at h
 · exact ⟨_, rfl⟩
 · exact ⟨_, rfl⟩
 · cases h
theorem entry_table {G : List GT} {D : DataW Unit} (hD : PIs D (G.map GT.key)) {left : Lit → Bool} (hl : ∀ kl, left kl = true → has D kl = true) {x : ByteArray} {c : Option Addr} {kl : Lit} {y : DataW Unit × List MemPlace}
 (hk : keyOf Tryz.prog 9 (.string x) = some kl) (hlx : left kl = true) (hR : ptrElem (.pointer c) = some y) (hat : ∀ zd, D.atKey kl zd = y.1) : kl = litOf x ∧ ∃ t, t ∈ G ∧ t.nm = x ∧ c = some ⟨t.g, 0, none⟩ := by
 have e : kl = litOf x := by
  simp [keyOf, Tryz.underlying9, mapKey] at hk
  exact hk.2.symm
 subst e
 have h1 := hl _ hlx
 rw [(hD x).1] at h1
 obtain ⟨g, hg⟩ := Option.isSome_iff_exists.1 h1
 obtain ⟨t, ht, h2, h3⟩ := look_mem hg
 have h4 := (hD x).2 g hg
 rw [hat] at h4
 obtain ⟨y1, y2⟩ := y
 simp only at h4
 subst h4
 have := ptrElem_inv hR
 refine ⟨rfl, t, ht, h2, ?_⟩
 rw [h3]
 simpa using this
set_option maxRecDepth 100000 in
theorem lenMethod (g n : Nat) (w : World) : (method (n + 1) 122 (.pointer (some ⟨g, 0, none⟩)) "Len").run Tryz.prog w = .ok (136, .pointer (some ⟨g, 0, none⟩)) w := by
 kernel_rfl
set_option maxRecDepth 100000 in
set_option maxHeartbeats 1000000 in
theorem total_any (w : World) (mb : Nat) (G : List GT) (h : GAt w mb G) (hs : gsum G ≤ 1000000) :
 Calls Tryz.prog 110 #[.map (some mb)] w fun e w' => e = .returned (.int .i64 (gsum G : Nat)) ∧ Below w.heap.size w w' := by
 obtain ⟨n, D, hown, hn, hD⟩ := h.map.has
 have hbl := hown.lt
 have HG : Hid (GAt w mb G) := h
 have HD : Hid (PIs D (G.map GT.key)) := hD
 clear h hD
 go_enter Tryz.func110, Tryz.ntmps110
 go_wp2_with (first
  | (at_range; refine wpList_range_own _ rfl _ 102 rfl 9 122 Tryz.lawStr Tryz.underlying102 _ mb n _ rfl hown ?_; intro w0 hrg0 hg0 hs0)
  | go_in)
 go_frame
 go_loopw [3, 8] (fun v _ wr => ∃ (left : Lit → Bool) (cnt k : Nat), wr.ranges Tryz.prog 9 ptrElem mb w.heap.size n D left cnt ∧ (∀ kl, left kl = true → has D kl = true) ∧ v = .int .i64 k ∧ k + gsum (gleft left G) = gsum G ∧ Below w.heap.size w wr)
  (fun _ _ wr => wr.rangeLeft mb w.heap.size)
 case atStart =>
  refine ⟨_, _, 0, hrg0, fun _ h => h, rfl, ?_, (Below.refl _ w).grown hg0 (Nat.le_refl _) (fun j hj => by cases hj)⟩
  have e : gleft (has D) G = G := by
   refine List.filter_eq_self.2 fun t ht => ?_
   rw [(HD.out t.nm).1, glook_key HG.out.names ht]
   rfl
  rw [e, Nat.zero_add]
 case round =>
  obtain ⟨left, cnt, k, hrg, hlh, rfl, hsum, hb⟩ := hrel
  go_wp2_with (first
   | (at_next; refine wpList_next_ranges _ rfl _ rfl 9 Tryz.lawStr ptrElem Value.string Value.pointer (fun key kl hkey => Maps.keyOf_string_inv Tryz.underlying9 hkey) ptrElem_ptr mb w.heap.size n _ _ _ rfl hrg ?_ ?_)
   | go_in)
  · intro hc0 hl0
    rw [gleft_none hl0] at hsum
    have hk : k = gsum G := hsum
    subst hk
    go_wp2
    go_ret
    exact ⟨rfl, hb⟩
  · intro x c kl y ps w1 cnt1 hkx hlx hRc hat hrg1 hlt hg1 hs1 hen
    obtain ⟨rfl, t, ht, rfl, rfl⟩ := entry_table HD.out hlh hkx hlx hRc hat
    have hst := gsum_step HG.out.names ht hlx
    have hb1 : Below w.heap.size w w1 := hb.grown hg1 hb.size (fun j hj => by cases hj; exact Nat.le_refl _)
    have hT : TabAt w1 t.g 125 t.nm t.pl t.rd t.rc t.L [] := (HG.out.tabs t ht).below hb1
    have hLen := len_any w1 t.g _ _ _ _ _ _ _ hT
    have hgt := lt_of_heap hT.blk
    have hm := lenMethod t.g
    have HSM : Hid (k + t.L.length + gsum (gleft (fun z => left z && !z.sameKey (litOf t.nm)) G) = gsum G) := by
     show k + t.L.length + gsum (gleft (fun z => left z && !z.sameKey (litOf t.nm)) G) = gsum G
     omega
    have hkl : k + t.L.length ≤ 1000000 := by have := HSM.out; omega
    generalize t.L.length = tl at hLen hkl HSM
    clear hst hsum hT
    go_wp2_with (go_at_call 136; refine hLen.mono ?_; rintro e w2 ⟨rfl, rfl⟩)
    go_roundw
    case rel => exact ⟨_, cnt1, k + tl, hrg1, fun kl h => hlh kl (by simp at h; exact h.1), by go_num, HSM.out, hb1⟩
    case measure => rw [hrg1.left_eq, hrg.left_eq]; exact hlt
end Go.Proofs.YtdmicblafmhflaaGreatDoor
/- NoneGiven: empty tables. -/
namespace Go.Proofs.YtdmicblafmhflaaGreatDoor
open Go.RowKit Go.Maps Go.WideMaps Go.WideElems
def newGT (p : Pd.Pr) (g : Nat) : GT := ⟨p.1, p.2, g, none, 0, []⟩
theorem newGT_foot (p : Pd.Pr) (g : Nat) : (newGT p g).foot = [g] := rfl
def prGT (t : GT) : Pd.Pr := (t.nm, t.pl)
theorem newGT_ok {w : World} {p : Pd.Pr} {g : Nat} (h : w.heap[g]? = some (.cells #[.string p.1, .int .i64 p.2, .slice none 0 0] 125 (0, 0))) : (newGT p g).ok w := ⟨h, ⟨(by intro r hr; cases hr), World.ownsRow_nil _ _ _ _⟩, List.Pairwise.nil, by decide⟩
structure NewGTs (w wr : World) (mb k : Nat) (Q : List Pd.Pr) (T : List GT) : Prop where
 map : ∃ D, wr.ownsMap Tryz.prog 9 ptrElem mb k D ∧ PIs D (T.map GT.key)
 tabs : ∀ t, t ∈ T → t.ok wr ∧ ∃ p g, t = newGT p g ∧ mb < g
 apart : T.Pairwise GApart
 prs : T.map prGT = (Q.take k).reverse
 bel : Below w.heap.size w wr
 mbs : mb = w.heap.size
theorem newGTs_step {w wr w3 : World} {mb k : Nat} {Q : List Pd.Pr} {T : List GT} {o1 : Obj} (h : NewGTs w wr mb k Q T) (hk : k < Q.length) {D : DataW Unit} (hD : PIs D (T.map GT.key)) (hm : IsMap D)
 (hw : w3.ownsMap Tryz.prog 9 ptrElem mb (k + 1) (D.put (litOf (Q[k]).1) (.lit (.int .i64 (wr.heap.size + 1 : Nat))))) (hg : ((wr.alloc o1).alloc (.cells (match Q[k] with | p => #[.string p.1, .int .i64 p.2, .slice none 0 0]) 125)).grownBy w3 (some mb)) :
 NewGTs w w3 mb (k + 1) Q (newGT Q[k] (wr.heap.size + 1) :: T) := by
 have hkb : Kb [mb] ((wr.alloc o1).alloc (.cells (match Q[k] with | p => #[.string p.1, .int .i64 p.2, .slice none 0 0]) 125)) w3 := Kb.of_grown hg
 have hb2 : Below wr.heap.size wr ((wr.alloc o1).alloc (.cells (match Q[k] with | p => #[.string p.1, .int .i64 p.2, .slice none 0 0]) 125)) := ((Below.refl _ _).alloc (Nat.le_refl _) _).alloc (by simp) _
 have hs := h.bel.size
 have hlt : ∀ t, t ∈ T → ∀ b, b ∈ t.foot → b < wr.heap.size ∧ mb < b := by
  intro t ht b hb
  obtain ⟨hok, p, g, rfl, hgm⟩ := h.tabs t ht
  refine ⟨hok.lt hb, ?_⟩
  rw [newGT_foot, List.mem_singleton] at hb
  rw [hb]; exact hgm
 have hmb := h.mbs
 refine ⟨⟨_, hw, pis_put hD hm _ _⟩, ?_, ?_, ?_, ?_, hmb⟩
 · intro t ht
   rcases List.mem_cons.1 ht with rfl | ht
   · refine ⟨newGT_ok ?_, _, _, rfl, by omega⟩
     have := hkb.heap (new2 wr o1 _) (by simp; omega)
     exact this
   · obtain ⟨hok, p, g, e, hgm⟩ := h.tabs t ht
     refine ⟨(hok.below hb2).kept hkb ?_, p, g, e, hgm⟩
     intro b hb hc
     simp only [List.mem_singleton] at hc
     have := (hlt t ht b hb).2
     omega
 · refine List.pairwise_cons.2 ⟨?_, h.apart⟩
   intro t ht x hx hx2
   rw [newGT_foot, List.mem_singleton] at hx
   have := (hlt t ht x hx2).1
   omega
 · have e : Q.take (k + 1) = Q.take k ++ [Q[k]] := by rw [List.take_add_one, List.getElem?_eq_getElem hk]; rfl
   rw [e, List.reverse_append, List.map_cons, h.prs]
   rfl
 · exact hkb.to_below (h.bel.trans (hb2.mono hs)) (by simp; omega) (by simp; omega)
set_option maxRecDepth 100000 in
set_option maxHeartbeats 2000000 in
theorem noneGiven_any (w : World) (B : Nat) (qd : Option Addr) (qc : Nat) (Q : List Pd.Pr) (hq : w.ownsRow B 112 2 (.slice qd Q.length qc) Q.length (predCells Q)) (hl : Q.length ≤ 1000) (hs : ∀ p, p ∈ Q → p.1.size ≤ 1000000) :
 Calls Tryz.prog 58 #[.slice qd Q.length qc] w fun e w' => ∃ T, e = .returned (.map (some w.heap.size)) ∧ NewGTs w w' w.heap.size Q.length Q T := by
 have hmm := @run_makeMap Tryz.prog
 have HS : Hid (∀ p, p ∈ Q → p.1.size ≤ 1000000) := hs
 clear hs
 go_enter Tryz.func58, Tryz.ntmps58
 go_wp2_with fail
 go_loopw [9] (fun i wr => ∃ (k : Nat) (T : List GT), k ≤ Q.length ∧ i = .int .i64 k ∧ NewGTs w wr w.heap.size k Q T) (fun i _ => Q.length - (intOf i).toNat)
 case atStart => exact ⟨0, [], Nat.zero_le _, rfl, ⟨⟨_, World.ownsMap_made _ _ _ _, pis_nil⟩, by simp, List.Pairwise.nil, by simp, (Below.refl _ _).alloc (Nat.le_refl _) _, rfl⟩⟩
 case round =>
  obtain ⟨k, T, hk, rfl, hn⟩ := hrel
  obtain ⟨D, hown, hD⟩ := hn.map
  have HN : Hid (NewGTs w wr w.heap.size k Q T) := hn
  have HD : Hid (PIs D (T.map GT.key)) := hD
  have hDm := hown.isMap
  have hmb := hown.lt
  have hbel := hn.bel
  have hsz := hbel.size
  have HB : Hid (Below w.heap.size w wr) := hbel
  clear hD hn
  by_cases hlt : k < Q.length
  · have hrow := ownsRow_below hq hbel
    obtain ⟨g, rfl, hg, hc, hcs⟩ := row_cells hrow (by omega)
    have hcell0 := hcs _ _ (predCells_get Q k hlt).1
    have hcell1 := hcs _ _ (predCells_get Q k hlt).2
    have hps : (Q[k]).1.size ≤ 1000000 := HS.out _ (List.getElem_mem hlt)
    have HST : Hid (∀ w3 o1, w3.ownsMap Tryz.prog 9 ptrElem w.heap.size (k + 1) (D.put (litOf (Q[k]).1) (.lit (.int .i64 (wr.heap.size + 1 : Nat)))) → ((wr.alloc o1).alloc (.cells (match Q[k] with | p => #[.string p.1, .int .i64 p.2, .slice none 0 0]) 125)).grownBy w3 (some w.heap.size) → NewGTs w w3 w.heap.size (k + 1) Q (newGT Q[k] (wr.heap.size + 1) :: T)) := fun w3 o1 a b => newGTs_step HN.out hlt HD.out hDm a b
    generalize Q[k] = x at hcell0 hcell1 hps HST
    have hkey : keyOf Tryz.prog 9 (.string x.1) = some (litOf x.1) := keyOf_string_mk Tryz.underlying9 (by unfold maxLen; omega)
    have HK : Hid (keyOf Tryz.prog 9 (.string x.1) = some (litOf x.1)) := hkey
    clear hkey hcs hrow hbel hq
    go_wp2_with (at_mapUpdate; go_must (refine wpList_mapUpdate_own _ rfl _ _ _ 102 rfl 9 122 Tryz.lawStr Tryz.underlying102 _ w.heap.size k D rfl ((hown.alloc _).alloc _) (by unfold maxLen; omega) _ _ (litOf x.1) rfl rfl HK.out (.lit (.int .i64 (wr.heap.size + 1 : Nat))) [] (by rfl) ?_; intro w3 hown3 hgrow3))
    go_roundw
    case rel => exact ⟨k + 1, _, by omega, by go_num, HST.out _ _ hown3 hgrow3⟩
    case measure => simp [intOf]; omega
  · have hke : k = Q.length := by omega
    have HE : Hid (NewGTs w wr w.heap.size Q.length Q T) := by rw [← hke]; exact HN.out
    clear hbel hke
    go_wp2_with fail
    go_ret
    exact ⟨T, rfl, HE.out⟩
end Go.Proofs.YtdmicblafmhflaaGreatDoor
/- facts.CopyGiven. -/
namespace Go.Proofs.YtdmicblafmhflaaGreatDoor
open Go.RowKit Go.Maps Go.WideMaps Go.WideElems
def gdat (t : GT) : ByteArray × Nat × List (List ByteArray) := (t.nm, t.pl, t.L)
theorem gleft_perm {G : List GT} (hn : (G.map GT.nm).Nodup) {left : Lit → Bool} {t : GT} (ht : t ∈ G) (hl : left (litOf t.nm) = true) :
 (gleft left G).Perm (t :: gleft (fun z => left z && !z.sameKey (litOf t.nm)) G) := by
 induction G with
 | nil => simp at ht
 | cons a G ih =>
  simp only [List.map_cons, List.nodup_cons] at hn
  unfold gleft at ih ⊢
  rcases List.mem_cons.1 ht with rfl | ht
  · have e1 : G.filter (fun z => left (litOf z.nm) && !(litOf z.nm).sameKey (litOf t.nm)) = G.filter (fun z => left (litOf z.nm)) := by
     refine List.filter_congr fun z hz => ?_
     have : (litOf z.nm).sameKey (litOf t.nm) = false := sameKey_ne (fun e => hn.1 (by rw [← litOf_inj e]; exact List.mem_map_of_mem hz))
     simp [this]
    have e2 : (litOf t.nm).sameKey (litOf t.nm) = true := by simp [Lit.sameKey, litOf]
    simp only [List.filter_cons, hl, e2, e1]
    simp
  · have h1 := ih hn.2 ht
    have : (litOf a.nm).sameKey (litOf t.nm) = false := sameKey_ne (fun e => hn.1 (by rw [litOf_inj e]; exact List.mem_map_of_mem ht))
    simp only [List.filter_cons, this]
    cases left (litOf a.nm)
    · simpa using h1
    · simp
      exact (h1.cons a).trans (List.Perm.swap t a _)
structure CopyG (w wr : World) (mb : Nat) (G R N : List GT) : Prop where
 map : ∃ D, wr.ownsMap Tryz.prog 9 ptrElem mb N.length D ∧ PIs D (N.map GT.key)
 tabs : ∀ t, t ∈ N → t.ok wr ∧ ∀ b, b ∈ t.foot → mb + 1 < b
 apart : N.Pairwise GApart
 data : (N.map gdat ++ R.map gdat).Perm (G.map gdat)
 bel : Below w.heap.size w wr
 mbs : mb = w.heap.size
theorem CopyG.few {w wr : World} {mb : Nat} {G R N : List GT} (h : CopyG w wr mb G R N) : N.length ≤ G.length := by
 have := h.data.length_eq
 simp at this
 omega
theorem CopyG.next {w wr w1 : World} {mb : Nat} {G R N : List GT} (h : CopyG w wr mb G R N) (hg : wr.grownBy w1 (some (mb + 1))) (hlt : mb < wr.heap.size) : CopyG w w1 mb G R N := by
 have hk : Kb [mb + 1] wr w1 := Kb.of_grown hg
 obtain ⟨D, ⟨es, ck, hb, hr⟩, hD⟩ := h.map
 have hm := h.mbs
 refine ⟨⟨D, ⟨es, ck, hk.heap hb (by simp), hr⟩, hD⟩, fun t ht => ⟨(h.tabs t ht).1.kept hk (fun b hb => ?_), (h.tabs t ht).2⟩, h.apart, h.data, hk.to_below h.bel h.bel.size (by simp; omega), hm⟩
 have := (h.tabs t ht).2 b hb
 simp
 omega
theorem ownsRow_lower {w : World} {B : Nat} {e : TypeId} {size : Nat} {v : Value} {n : Nat} {xs : List Value} (h : w.ownsRow B e size v n xs) : w.ownsRow 0 e size v n xs := by
 refine ⟨h.1, ?_⟩
 rcases h.2 with h2 | ⟨g, cap, cur, e1, _, h3⟩
 · exact .inl h2
 · exact .inr ⟨g, cap, cur, e1, Nat.zero_le _, h3⟩
theorem CopyG.step {w w1 w5 w6 w7 : World} {mb : Nat} {G R R' N : List GT} {t : GT} (h : CopyG w w1 mb G R N) (hmb : mb + 1 < w1.heap.size) (hp : R.Perm (t :: R')) (hto : Tb.Ord t.L) (h3 : Three t.L) {rd : Option Addr} {rc : Nat} (hb5 : Below w1.heap.size w1 w5)
 (ho : w5.ownsRow w1.heap.size 119 3 (.slice rd t.L.length rc) t.L.length (rowCells t.L)) (h6 : w6 = w5.alloc (.cells #[.string t.nm, .int .i64 t.pl, .slice rd t.L.length rc] 125))
 {D : DataW Unit} (hD : PIs D (N.map GT.key)) (hm : IsMap D) (hw : w7.ownsMap Tryz.prog 9 ptrElem mb (N.length + 1) (D.put (litOf t.nm) (.lit (.int .i64 (w5.heap.size : Nat))))) (hg : w6.grownBy w7 (some mb)) :
 CopyG w w7 mb G R' (⟨t.nm, t.pl, w5.heap.size, rd, rc, t.L⟩ :: N) := by
 subst h6
 have hk : Kb [mb] (w5.alloc (.cells #[.string t.nm, .int .i64 t.pl, .slice rd t.L.length rc] 125)) w7 := Kb.of_grown hg
 have hb6 : Below w1.heap.size w1 (w5.alloc (.cells #[.string t.nm, .int .i64 t.pl, .slice rd t.L.length rc] 125)) := hb5.alloc hb5.size _
 have hs5 := hb5.size
 have hs1 := h.bel.size
 have hmbs := h.mbs
 have hfr : ∀ b, Value.ownBlock (.slice rd t.L.length rc) = some b → w1.heap.size ≤ b ∧ b < w5.heap.size := fun b hb => ho.lt b hb
 refine ⟨⟨_, hw, pis_put hD hm _ _⟩, ?_, ?_, ?_, ?_, hmbs⟩
 · intro u hu
   rcases List.mem_cons.1 hu with rfl | hu
   · refine ⟨⟨?_, ⟨h3, ?_⟩, hto, by decide⟩, ?_⟩
     · have := hk.heap (heap_alloc_new w5 _) (by simp; omega)
       exact this
     · exact hk.row ((ownsRow_lower ho).alloc _) (fun b hb => by have := hfr b hb; simp; omega)
     · intro b hb
       simp only [GT.foot, List.mem_cons, Option.mem_toList] at hb
       rcases hb with rfl | hb
       · omega
       · have := hfr b hb; omega
   · refine ⟨((h.tabs u hu).1.below hb6).kept hk (fun b hb => ?_), (h.tabs u hu).2⟩
     have := (h.tabs u hu).2 b hb
     simp
     omega
 · refine List.pairwise_cons.2 ⟨?_, h.apart⟩
   intro u hu x hx hx2
   have h1 := (h.tabs u hu).1.lt hx2
   simp only [GT.foot, List.mem_cons, Option.mem_toList] at hx
   rcases hx with rfl | hx
   · omega
   · have := hfr x hx; omega
 · refine List.Perm.trans ?_ h.data
   have e : (R.map gdat).Perm (gdat t :: R'.map gdat) := hp.map gdat
   have h1 : (N.map gdat ++ R.map gdat).Perm (gdat t :: (N.map gdat ++ R'.map gdat)) := (e.append_left _).trans List.perm_middle
   exact h1.symm
 · exact hk.to_below (h.bel.trans (hb6.mono hs1)) (by simp; omega) (by simp; omega)
set_option maxRecDepth 100000 in
set_option maxHeartbeats 2000000 in
theorem copyGiven_any (w : World) (mb : Nat) (G : List GT) (h : GAt w mb G) (hs : ∀ t, t ∈ G → t.L.length ≤ 999999) (hGl : G.length ≤ 1000) :
 Calls Tryz.prog 126 #[.map (some mb)] w fun e w' => ∃ N, e = .returned (.map (some w.heap.size)) ∧ CopyG w w' w.heap.size G [] N := by
 have hmm := @run_makeMap Tryz.prog
 obtain ⟨n, D, hown, hn, hD⟩ := h.map.has
 have hbl := hown.lt
 have HG : Hid (GAt w mb G) := h
 have HD : Hid (PIs D (G.map GT.key)) := hD
 have HS : Hid (∀ t, t ∈ G → t.L.length ≤ 999999) := hs
 have e1 : (w.alloc (.map #[] 0)).heap.size = w.heap.size + 1 := by simp
 clear h hD hs
 go_enter Tryz.func126, Tryz.ntmps126
 go_wp2_with (first
  | (at_range; refine wpList_range_own _ rfl _ 102 rfl 9 122 Tryz.lawStr Tryz.underlying102 _ mb n _ rfl (hown.alloc _) ?_; intro w0 hrg0 hg0 hs0)
  | go_in)
 go_frame
 rw [e1] at hrg0 hs0 ⊢
 go_loopw [9] (fun _ wr => ∃ (left : Lit → Bool) (cnt : Nat) (N : List GT), wr.ranges Tryz.prog 9 ptrElem mb (w.heap.size + 1) n D left cnt ∧ (∀ kl, left kl = true → has D kl = true) ∧ CopyG w wr w.heap.size G (gleft left G) N)
  (fun _ wr => wr.rangeLeft mb (w.heap.size + 1))
 case atStart =>
  have e : gleft (has D) G = G := by
   refine List.filter_eq_self.2 fun t ht => ?_
   rw [(HD.out t.nm).1, glook_key HG.out.names ht]
   rfl
  refine ⟨_, _, [], hrg0, fun _ h => h, ⟨⟨_, (World.ownsMap_made _ _ _ _).kept hg0 (by simp), pis_nil⟩, by simp, List.Pairwise.nil, by rw [e]; simp, ((Below.refl _ _).alloc (Nat.le_refl _) _).grown hg0 (by simp) (fun j hj => by cases hj), rfl⟩⟩
 case round =>
  obtain ⟨left, cnt, N, hrg, hlh, hcg⟩ := hrel
  go_wp2_with (first
   | (at_next; refine wpList_next_ranges _ rfl _ rfl 9 Tryz.lawStr ptrElem Value.string Value.pointer (fun key kl hkey => Maps.keyOf_string_inv Tryz.underlying9 hkey) ptrElem_ptr mb (w.heap.size + 1) n _ _ _ rfl hrg ?_ ?_)
   | go_in)
  · intro hc0 hl0
    rw [gleft_none hl0] at hcg
    go_wp2
    go_ret
    exact ⟨N, rfl, hcg⟩
  · intro x c kl y ps w1 cnt1 hkx hlx hRc hat hrg1 hlt hg1 hs1 hen
    obtain ⟨rfl, t, ht, rfl, rfl⟩ := entry_table HD.out hlh hkx hlx hRc hat
    have hrl := hrg1.lt
    have hcg1 := hcg.next hg1 (by omega)
    have hT : TabAt w1 t.g 125 t.nm t.pl t.rd t.rc t.L [] := (HG.out.tabs t ht).below hcg1.bel
    have hLl := HS.out t ht
    obtain ⟨c2, f2, c1, c0⟩ := hT.cell2
    have hgt := lt_of_heap hT.blk
    obtain ⟨D2, ho2, hD2⟩ := hcg1.map
    have hnl := hcg1.few
    have HST : ∀ w5 w7 rd rc, (Below w1.heap.size w1 w5 ∧ w5.ownsRow w1.heap.size 119 3 (.slice rd t.L.length rc) t.L.length (rowCells t.L)) → w7.ownsMap Tryz.prog 9 ptrElem w.heap.size (N.length + 1) (D2.put (litOf t.nm) (.lit (.int .i64 (w5.heap.size : Nat)))) → (w5.alloc (.cells #[.string t.nm, .int .i64 t.pl, .slice rd t.L.length rc] 125)).grownBy w7 (some w.heap.size) →
     ∃ N', CopyG w w7 w.heap.size G (gleft (fun z => left z && !z.sameKey (litOf t.nm)) G) N' ∧ w7.ranges Tryz.prog 9 ptrElem mb (w.heap.size + 1) n D (fun z => left z && !z.sameKey (litOf t.nm)) cnt1 := by
     intro w5 w7 rd rc hh hw hg
     obtain ⟨hb5, ho5⟩ := hh
     refine ⟨_, hcg1.step (by omega) (gleft_perm HG.out.names ht hlx) hT.ord hT.rows.three hb5 ho5 rfl hD2 ho2.isMap hw hg, ?_⟩
     have h5 : w5.ranges Tryz.prog 9 ptrElem mb (w.heap.size + 1) n D (fun z => left z && !z.sameKey (litOf t.nm)) cnt1 := hrg1.kept (row := none) ⟨hb5.os, hb5.tape, hb5.output, hb5.size, fun i hi _ => hb5.block i hi⟩ (by simp) (by simp)
     exact (h5.alloc _).kept hg (fun e => by have := Option.some.inj e; omega) (fun e => by have := Option.some.inj e; omega)
    have HRW : Hid (∀ W, Below w1.heap.size w1 W → Calls Tryz.prog 133 #[.pointer (some ⟨t.g, 0, none⟩)] W fun e w5 => ∃ rd rc w7, e = .returned (.slice rd t.L.length rc) ∧ w5.cell? ⟨t.g, 0, none⟩ = some (.string t.nm) ∧ w5.cell? ⟨t.g, 1, none⟩ = some (.int .i64 t.pl) ∧
     (Instr.mapUpdate 102 (.map (some w.heap.size)) (.string t.nm) (.pointer (some ⟨w5.heap.size, 0, none⟩))).run Tryz.prog (w5.alloc (.cells #[.string t.nm, .int .i64 t.pl, .slice rd t.L.length rc] 125)) = .ok () w7 ∧ w7.cell? ⟨t.g, 0, none⟩ = some (.string t.nm) ∧ w7.cell? ⟨t.g, 1, none⟩ = some (.int .i64 t.pl) ∧
     Hid (∃ N', CopyG w w7 w.heap.size G (gleft (fun z => left z && !z.sameKey (litOf t.nm)) G) N' ∧ w7.ranges Tryz.prog 9 ptrElem mb (w.heap.size + 1) n D (fun z => left z && !z.sameKey (litOf t.nm)) cnt1)) := by
     intro W hW
     refine (rows_any W t.g _ _ _ _ _ _ _ (hT.below hW) hLl).mono ?_
     rintro e w5 ⟨rd, rc, rfl, q1, q2⟩
     have hb5 : Below w1.heap.size w1 w5 := hW.trans (q2.mono hW.size)
     have hT5 := (hT.below hb5).cell2
     have ho5 : w5.ownsMap Tryz.prog 9 ptrElem w.heap.size N.length D2 := by
      obtain ⟨es, ck, hb, hr⟩ := ho2
      exact ⟨es, ck, by rw [hb5.block _ (lt_of_heap hb)]; exact hb, hr⟩
     obtain ⟨w7, hrun, r1, r2⟩ := (ho5.alloc (.cells #[.string t.nm, .int .i64 t.pl, .slice rd t.L.length rc] 125)).update Tryz.lawStr Tryz.underlying102 (by unfold maxLen; omega) hkx (val := .pointer (some ⟨w5.heap.size, 0, none⟩)) (d := .lit (.int .i64 (w5.heap.size : Nat))) (ps := []) (by rfl)
     obtain ⟨N', s1, s2⟩ := HST w5 w7 rd rc ⟨hb5, ownsRow_base q1 hW.size⟩ r1 r2
     have hT7 := TabAt.cell2 ((HG.out.tabs t ht).below s1.bel)
     exact ⟨rd, rc, w7, rfl, hT5.2.2.2, hT5.2.2.1, hrun, hT7.2.2.2, hT7.2.2.1, N', s1, s2⟩
    have HLE : Hid (wr.rangeLeft mb (w.heap.size + 1) = cnt) := hrg.left_eq
    have HLH : Hid (∀ kl, left kl = true → has D kl = true) := hlh
    generalize hL : t.L.length = tl at HRW
    generalize t.nm = nm at *
    generalize t.pl = pl at *
    generalize t.g = tg at *
    clear HST hrg1 hcg1 hT c2 f2 hcg hrg hg1 hs1 hat hRc hkx hown hlh ho2 hD2 hL hLl
    go_wp2_with fail
    go_region_held3 (fun w' => w'.cell? ⟨tg, 0, none⟩ = some (.string nm) ∧ w'.cell? ⟨tg, 1, none⟩ = some (.int .i64 pl)) (go_keep) ((go_at_call 133; refine (HRW.out _ (by exact (Below.refl _ _).drew)).mono ?_; rintro e w5 ⟨rd, rc, w7, rfl, c50, c51, hmu, c70, c71, HR5⟩))
    go_wp2_with fail
    go_roundw
    case rel =>
     obtain ⟨N', r1, r2⟩ := HR5.out
     exact ⟨_, cnt1, N', r2, fun kl h => HLH.out kl (by simp at h; exact h.1), r1⟩
    case measure =>
     obtain ⟨N', r1, r2⟩ := HR5.out
     rw [r2.left_eq, HLE.out]
     exact hlt
end Go.Proofs.YtdmicblafmhflaaGreatDoor
