/- Package follow: Model: what it begins with, and how it goes on. -/
import Derived.Test.YtdmicblafmhflaaGreatDoorC29
import Derived.Test.YtdmicblafmhflaaGreatDoorC30
import Derived.Test.YtdmicblafmhflaaGreatDoorC25
set_option linter.unusedSimpArgs false
set_option linter.unusedVariables false
namespace Go.Proofs.YtdmicblafmhflaaGreatDoor.En
theorem newT_len {F : Type} (k : Nat) (P : List F) (z : F) : (newT k P z).length ≤ 2 * P.length + 1 := by
 unfold newT
 split
 · simp
 · simp
 · simp; omega
theorem concl_len {F : Type} (P : List F) (z : F) : ∀ R : List (SRule F), (concl R P z).length ≤ R.length * (2 * P.length + 1)
 | [] => by simp [concl]
 | r :: R => by
  have ih := concl_len P z R
  have h1 := newT_len r.k P z
  have h2 := List.length_filterMap_le r.inst (newT r.k P z)
  unfold concl at ih ⊢
  rw [List.flatMap_cons, List.length_append, List.length_cons, Nat.add_mul]
  omega
theorem bl0_len {F : Type} : ∀ R : List (SRule F), (bl0 R).length ≤ R.length
 | [] => Nat.le_refl _
 | r :: R => by
  have ih := bl0_len R
  unfold bl0 at ih ⊢
  rw [List.flatMap_cons, List.length_append, List.length_cons]
  have : (if r.k = 0 then (r.inst []).toList else []).length ≤ 1 := by
   split
   · cases r.inst [] <;> simp
   · simp
  omega
section
variable {F : Type} [DecidableEq F]
theorem hold_len1 (s : Sea F) (f : F) (n : Nat) : (hold s f n).found.length ≤ s.found.length + 1 := by
 unfold hold
 simp only
 split <;> simp
theorem holds_len2 : ∀ (l : List F) (s : Sea F), (holds s l).found.length ≤ s.found.length + l.length ∧ ∀ f, (holds s l).count f ≤ s.count f + l.length
 | [], s => ⟨Nat.le_refl _, fun _ => Nat.le_refl _⟩
 | x :: l, s => by
  obtain ⟨h1, h2⟩ := holds_len2 l (hold s x 1)
  have h3 := hold_len1 s x 1
  rw [holds_cons, List.length_cons]
  refine ⟨by omega, fun f => ?_⟩
  have h4 := h2 f
  rw [hold_count] at h4
  split at h4 <;> omega
theorem held0_len : ∀ (l : List F) (s : Sea F), (held0 s l).found.length ≤ s.found.length + l.length
 | [], s => Nat.le_refl _
 | x :: l, s => by
  have h1 := held0_len l (hold s x 0)
  have h3 := hold_len1 s x 0
  rw [held0_cons, List.length_cons]
  omega
theorem held0_ge : ∀ (l : List F) (s : Sea F), s.found.length ≤ (held0 s l).found.length
 | [], s => Nat.le_refl _
 | x :: l, s => by
  have h1 := held0_ge l (hold s x 0)
  have h3 : s.found.length ≤ (hold s x 0).found.length := by
   unfold hold
   simp only
   split <;> simp
  rw [held0_cons]
  omega
theorem held0_snoc (s : Sea F) (l : List F) (f : F) : held0 s (l ++ [f]) = hold (held0 s l) f 0 := by simp [held0]
theorem held0_count (l : List F) (s : Sea F) (f : F) : (held0 s l).count f = s.count f := (held0_spec l s).2.2 f
theorem search_on {R : List (SRule F)} {fuel n : Nat} {s : Sea F} (h1 : n < s.found.length) (h2 : s.found.length ≤ 200) : search R 200 (fuel + 1) n s = search R 200 fuel (n + 1) (meet R s n) := by
 rw [search, if_pos h1, if_neg (by omega)]
theorem search_full {R : List (SRule F)} {fuel n : Nat} {s : Sea F} (h1 : n < s.found.length) (h2 : 200 < s.found.length) : search R 200 (fuel + 1) n s = none := by
 rw [search, if_pos h1, if_pos h2]
theorem search_end {R : List (SRule F)} {fuel n : Nat} {s : Sea F} (h1 : ¬ n < s.found.length) : search R 200 (fuel + 1) n s = some s := by
 rw [search, if_neg h1]
theorem meet_eq {R : List (SRule F)} {n : Nat} {s : Sea F} (h : n < s.found.length) : meet R s n = holds s (concl R (s.found.take n) s.found[n]) := by
 unfold meet
 rw [List.getElem?_eq_getElem h]
end
end Go.Proofs.YtdmicblafmhflaaGreatDoor.En
namespace Go.Proofs.YtdmicblafmhflaaGreatDoor
open Go.RowKit Go.Maps Go.WideMaps Go.WideElems
def rowsOf (G : List GT) (p : ByteArray) : List (List ByteArray) := match G.find? fun t => decide (t.nm = p) with
 | some t => t.L
 | none => []
theorem rowsOf_mem {G : List GT} (hn : (G.map GT.nm).Nodup) {t : GT} (ht : t ∈ G) : rowsOf G t.nm = t.L := by
 induction G with
 | nil => cases ht
 | cons a G ih =>
  rw [List.map_cons, List.nodup_cons] at hn
  unfold rowsOf
  rw [List.find?_cons]
  rcases List.mem_cons.1 ht with rfl | ht
  · simp
  · have hne : ¬ a.nm = t.nm := fun e => hn.1 (by rw [e]; exact List.mem_map.2 ⟨t, ht, rfl⟩)
    simp only [hne, decide_false]
    exact ih hn.2 ht
def glOf (Q : List Pd.Pr) (G : List GT) : List En.Fct := Q.flatMap fun p => (rowsOf G p.1).map fun r => (p.1, r)
theorem glOf_succ {Q : List Pd.Pr} {k : Nat} (h : k < Q.length) (G : List GT) : glOf (Q.take (k + 1)) G = glOf (Q.take k) G ++ (rowsOf G (Q[k]).1).map fun r => ((Q[k]).1, r) := by
 have e : Q.take (k + 1) = Q.take k ++ [Q[k]] := by rw [List.take_add_one, List.getElem?_eq_getElem h]; rfl
 unfold glOf
 rw [e, List.flatMap_append]
 simp
theorem glOf_take_len (Q : List Pd.Pr) (k : Nat) (G : List GT) : (glOf (Q.take k) G).length ≤ (glOf Q G).length := by
 have e : Q = Q.take k ++ Q.drop k := (List.take_append_drop k Q).symm
 conv => rhs; rw [e]
 unfold glOf
 rw [List.flatMap_append, List.length_append]
 omega
theorem prsOf_len3 {l : List MR} (h : ∀ r, r ∈ l → r.body.length ≤ 2) : (prsOf (l.map MR.rule)).length ≤ 3 * l.length := by
 induction l with
 | nil => simp [prsOf]
 | cons r l ih =>
  have h1 := ih (fun x hx => h x (by simp [hx]))
  have h2 := h r (by simp)
  unfold prsOf at h1 ⊢
  simp only [List.map_cons, List.flatMap_cons, List.map_append, List.length_append, List.length_map] at h1 ⊢
  have e : (Ax.Rule.atoms r.rule).length = r.body.length + 1 := by simp [Ax.Rule.atoms, MR.rule]
  rw [e, List.length_cons]
  omega
theorem srt_names {Q : List Pd.Pr} (h : Pd.Srt Q) : (Q.map Prod.fst).Nodup := by
 refine List.Pairwise.map _ ?_ h
 intro a b hab e
 rw [e, Tb.slt_irr] at hab
 cases hab
theorem srt_nodup {Q : List Pd.Pr} (h : Pd.Srt Q) : Q.Nodup := by
 refine List.Pairwise.imp ?_ h
 intro a b hab e
 rw [e, Tb.slt_irr] at hab
 cases hab
theorem glOf_len {Q : List Pd.Pr} {G : List GT} (hG : ∀ t, t ∈ G → t.L.length ≤ 1000) : (glOf Q G).length ≤ 1000 * Q.length := by
 have hr : ∀ p, (rowsOf G p).length ≤ 1000 := by
  intro p
  unfold rowsOf
  split
  · rename_i t ht
    exact hG t (List.mem_of_find?_eq_some ht)
  · simp
 induction Q with
 | nil => simp [glOf]
 | cons p Q ih =>
  unfold glOf at ih ⊢
  rw [List.flatMap_cons, List.length_append, List.length_map, List.length_cons]
  have := hr p.1
  omega
theorem key_prs {T T0 : List HT} (h : T.map HT.key = T0.map HT.key) : T.map prHT = T0.map prHT := by
 have e : ∀ l : List HT, l.map prHT = (l.map HT.key).map fun k => (k.1, k.2.2) := fun l => by rw [List.map_map]; rfl
 rw [e, e, h]
def hallfoot (mb : Nat) (T : List HT) : List Nat := mb :: T.flatMap HT.foot
theorem foot_hall {sb mb : Nat} {fd : Option Addr} {fc n B : Nat} {T : List HT} (hm : B ≤ mb) (h : ∀ b, b ∈ sfoot sb fd fc n T → B ≤ b) : ∀ b, b ∈ hallfoot mb T → B ≤ b := by
 intro b hb
 unfold hallfoot at hb
 rcases List.mem_cons.1 hb with rfl | hb
 · exact hm
 · refine h b ?_
   unfold sfoot
   simp only [List.mem_cons, List.mem_append]
   exact .inr (.inr hb)
structure MRel (w wr : World) (sb mb : Nat) (rv : Value) (K : List (ByteArray × Nat × Nat)) (s : En.Sea En.Fct) : Prop where
 at_ : ∃ fd fc T, SAt wr sb mb rv fd fc T s ∧ T.map HT.key = K ∧ ∀ b, b ∈ sfoot sb fd fc s.found.length T → w.heap.size ≤ b
 bel : Below w.heap.size w wr
theorem MRel.on {w wr w' : World} {sb mb : Nat} {rv : Value} {K : List (ByteArray × Nat × Nat)} {s s' : En.Sea En.Fct} {fd : Option Addr} {fc : Nat} {T : List HT} (hb : Below w.heap.size w wr) (hk : T.map HT.key = K) (hf : ∀ b, b ∈ sfoot sb fd fc s.found.length T → w.heap.size ≤ b) (hon : SOn wr w' sb mb rv fd fc T s s') : MRel w w' sb mb rv K s' := by
 obtain ⟨fd', fc', T', h1, h2, h3⟩ := hon.on
 refine ⟨⟨fd', fc', T', h1, h2.trans hk, fun b hb' => ?_⟩, hon.kept.to_below hb hb.size hf⟩
 rcases h3 b hb' with e | e
 · exact hf b e
 · exact Nat.le_trans hb.size e
structure HAt (w : World) (mb : Nat) (T : List HT) (s : En.Sea En.Fct) : Prop where
 map : PMap w mb (T.map HT.pk)
 tabs : ∀ t, t ∈ T → t.ok w
 names : (T.map HT.nm).Nodup
 rows : ∀ t, t ∈ T → ∀ r, r ∈ t.L ↔ (t.nm, r) ∈ s.found
 cnts : ∀ t, t ∈ T → t.C = t.L.map fun r => s.count (t.nm, r)
 zero : ∀ f, ¬ f ∈ s.found → s.count f = 0
 short : ∀ t, t ∈ T → t.nm.size ≤ 1000000
 few : ∀ t, t ∈ T → t.L.length ≤ s.found.length
theorem SAt.toH {w : World} {sb mb : Nat} {rv : Value} {fd : Option Addr} {fc : Nat} {T : List HT} {s : En.Sea En.Fct} (h : SAt w sb mb rv fd fc T s) : HAt w mb T s := ⟨h.map, h.tabs, h.names, h.rows, h.cnts, h.zero, h.short, fun _ ht => tab_short h ht⟩
theorem HAt.below {w w' : World} {mb : Nat} {T : List HT} {s : En.Sea En.Fct} (h : HAt w mb T s) (hb : Below w.heap.size w w') : HAt w' mb T s := ⟨h.map.below hb, fun t ht => (h.tabs t ht).below hb, h.names, h.rows, h.cnts, h.zero, h.short, h.few⟩
theorem HAt.kept {w w' : World} {S : List Nat} {mb : Nat} {T : List HT} {s : En.Sea En.Fct} (h : HAt w mb T s) (hk : Kb S w w') (hS : ∀ b, b ∈ hallfoot mb T → ¬ b ∈ S) : HAt w' mb T s := by
 refine ⟨h.map.kept hk (hS mb (by simp [hallfoot])), fun t ht => (h.tabs t ht).kept hk fun b hb => hS b ?_, h.names, h.rows, h.cnts, h.zero, h.short, h.few⟩
 unfold hallfoot
 simp only [List.mem_cons, List.mem_flatMap]
 exact .inr ⟨t, ht, hb⟩
theorem HAt.lt {w : World} {mb : Nat} {T : List HT} {s : En.Sea En.Fct} (h : HAt w mb T s) {b : Nat} (hb : b ∈ hallfoot mb T) : b < w.heap.size := by
 unfold hallfoot at hb
 rcases List.mem_cons.1 hb with rfl | hb
 · obtain ⟨es, ck, e⟩ := h.map.block
   exact lt_of_heap e
 · obtain ⟨t, ht, hb⟩ := List.mem_flatMap.1 hb
   exact (h.tabs t ht).lt hb
theorem zero_search {w1 W w2 : World} (hW : W.heap = (w1.alloc (.cells #[.slice none 0 0, .map none, .slice none 0 0] 322)).heap) (h : Below W.heap.size W w2) :
 w2.heap[w1.heap.size]? = some (.cells #[.slice none 0 0, .map none, .slice none 0 0] 322 (0, 0)) ∧ w2.cell? ⟨w1.heap.size, 0, none⟩ = some (.slice none 0 0) ∧ w2.cell? ⟨w1.heap.size, 1, none⟩ = some (.map none) ∧ w2.cell? ⟨w1.heap.size, 2, none⟩ = some (.slice none 0 0) ∧
  w2.frozen? ⟨w1.heap.size, 0, none⟩ = false ∧ w2.frozen? ⟨w1.heap.size, 1, none⟩ = false ∧ w2.frozen? ⟨w1.heap.size, 2, none⟩ = false ∧ w1.heap.size < w2.heap.size := by
 have hz : w2.heap[w1.heap.size]? = some (.cells #[.slice none 0 0, .map none, .slice none 0 0] 322 (0, 0)) := by
  rw [h.block _ (by rw [hW]; simp), hW]
  exact heap_alloc_new _ _
 refine ⟨hz, ?_, ?_, ?_, ?_, ?_, ?_, lt_of_heap hz⟩
 · rw [cell_of_row _ _ 0 _ _ _ hz]; rfl
 · rw [cell_of_row _ _ 1 _ _ _ hz]; rfl
 · rw [cell_of_row _ _ 2 _ _ _ hz]; rfl
 · simp [World.frozen?, hz]
 · simp [World.frozen?, hz]
 · simp [World.frozen?, hz]
theorem model_first {W w2 w3 : World} {mb : Nat} {Q : List Pd.Pr} {T : List HT} {rv : Value} (hT : NewHTs W w2 mb Q.length Q T) (hn : (Q.map Prod.fst).Nodup) (hs : ∀ p, p ∈ Q → p.1.size ≤ 1000000) (hq : Q.length ≤ 1000) {sb : Nat} (hk : Kb [sb] w2 w3) (hsb : sb < mb ∨ w2.heap.size ≤ sb) (hblk : w3.heap[sb]? = some (.cells #[rv, .map (some mb), .slice none 0 0] 322 (0, 0))) :
 SAt w3 sb mb rv none 0 T En.seaNil ∧ ∀ b, b ∈ sfoot sb none 0 0 T → b = sb ∨ mb < b := by
 obtain ⟨D, hown, hD⟩ := hT.map
 have hmb := hown.lt
 have hnm : T.map HT.nm = (Q.map Prod.fst).reverse := by
  have := congrArg (List.map Prod.fst) hT.prs
  rw [List.map_map, List.take_length, List.map_reverse] at this
  exact this
 have hL : ∀ t, t ∈ T → t.L = [] ∧ t.C = [] ∧ t.foot = [t.g] ∧ mb < t.g := by
  intro t ht
  obtain ⟨_, p, g, rfl, hg⟩ := hT.tabs t ht
  exact ⟨rfl, rfl, rfl, hg⟩
 refine ⟨⟨hblk, (PMap.of hown ?_ hD).kept hk ?_, World.ownsRow_nil _ _ _ _, fun t ht => (hT.tabs t ht).1.kept hk ?_, hT.apart, ?_, ?_, ?_, fun _ _ => rfl, ?_, ?_⟩, ?_⟩
 · omega
 · simp; omega
 · intro b hb
   have h1 := (hT.tabs t ht).1.lt hb
   rw [(hL t ht).2.2.1, List.mem_singleton] at hb
   have h2 := (hL t ht).2.2.2
   simp; omega
 · rw [hnm]
   exact (List.reverse_perm _).nodup_iff.2 hn
 · intro t ht r
   rw [(hL t ht).1]
   simp [En.seaNil]
 · intro t ht
   rw [(hL t ht).1, (hL t ht).2.1]
   rfl
 · intro f hf
   simp [En.seaNil] at hf
 · intro t ht
   have : t.nm ∈ T.map HT.nm := List.mem_map.2 ⟨t, ht, rfl⟩
   rw [hnm, List.mem_reverse] at this
   obtain ⟨p, hp, e⟩ := List.mem_map.1 this
   rw [← e]
   exact hs p hp
 · intro b hb
   unfold sfoot at hb
   rcases List.mem_cons.1 hb with rfl | hb
   · exact .inl rfl
   · simp only [Value.ownBlock, Option.toList_none, List.nil_append, List.mem_flatMap] at hb
     obtain ⟨t, ht, hb⟩ := hb
     rw [(hL t ht).2.2.1, List.mem_singleton] at hb
     rw [hb]
     exact .inr (hL t ht).2.2.2
end Go.Proofs.YtdmicblafmhflaaGreatDoor
/- Package follow: Model, walked. -/
namespace Go.Proofs.YtdmicblafmhflaaGreatDoor
open Go.RowKit Go.Maps Go.WideMaps Go.WideElems
open Go.Sort (grow)
theorem Tryz.zeroGivenPtr (w : World) : (zeroValue 122).run Tryz.prog w = .ok (.pointer none) w := by kernel_rfl
def mstart (rs : List Ax.Rule) (gl : List En.Fct) : En.Sea En.Fct := En.holds (En.held0 En.seaNil gl) (rs.flatMap En.bless)
def msearch (rs : List Ax.Rule) (gl : List En.Fct) : Option (En.Sea En.Fct) := En.search (rs.map En.srule) 200 202 0 (mstart rs gl)
structure MCut (w1 : World) (rv : Value) (Q : List Pd.Pr) (v : Value) (wx : World) : Prop where
 out : ∃ sb mb T, v = .pointer (some ⟨sb, 0, none⟩) ∧ SAt wx sb mb rv none 0 T En.seaNil ∧ T.map prHT = Q.reverse ∧ w1.heap.size ≤ mb ∧ (∀ b, b ∈ sfoot sb none 0 0 T → w1.heap.size ≤ b) ∧ Below w1.heap.size w1 wx
theorem mcut_a {w1 W w2 : World} {Q : List Pd.Pr} {T : List HT} {rv : Value} (hT : NewHTs W w2 W.heap.size Q.length Q T) (hW : W.heap.size = w1.heap.size) (hb : Below w1.heap.size w1 W) (hn : (Q.map Prod.fst).Nodup) (hs : ∀ p, p ∈ Q → p.1.size ≤ 1000000) (hq : Q.length ≤ 1000) :
 MCut w1 rv Q (.pointer (some ⟨w2.heap.size, 0, none⟩)) (w2.alloc (.cells #[rv, .map (some w1.heap.size), .slice none 0 0] 322)) := by
 rw [hW] at hT
 have hbw := hT.bel
 obtain ⟨h1, h2⟩ := model_first (rv := rv) (sb := w2.heap.size) hT hn hs hq ((Kb.refl _ _).alloc _) (.inr (Nat.le_refl _)) (heap_alloc_new _ _)
 refine ⟨_, _, T, rfl, h1, by rw [hT.prs, List.take_length], Nat.le_refl _, fun b hb' => ?_, ?_⟩
 · rcases h2 b hb' with e | e
   · rw [e]; have := hbw.size; omega
   · omega
 · exact (hb.trans (hbw.mono (by omega))).alloc (by have := hbw.size; omega) _
theorem mcut_b {w1 W w2 : World} {Q : List Pd.Pr} {T : List HT} {rv : Value} (hT : NewHTs W w2 W.heap.size Q.length Q T) (hW : W.heap.size = w1.heap.size + 1) (hb : Below w1.heap.size w1 W) (hz : w2.heap[w1.heap.size]? = some (.cells #[.slice none 0 0, .map none, .slice none 0 0] 322 (0, 0))) (hn : (Q.map Prod.fst).Nodup) (hs : ∀ p, p ∈ Q → p.1.size ≤ 1000000) (hq : Q.length ≤ 1000) :
 MCut w1 rv Q (.pointer (some ⟨w1.heap.size, 0, none⟩)) (((w2.setCell ⟨w1.heap.size, 0, none⟩ rv).setCell ⟨w1.heap.size, 1, none⟩ (.map (some (w1.heap.size + 1)))).setCell ⟨w1.heap.size, 2, none⟩ (.slice none 0 0)) := by
 rw [hW] at hT
 have hbw := hT.bel
 have k1 : Kb [w1.heap.size] w2 (((w2.setCell ⟨w1.heap.size, 0, none⟩ rv).setCell ⟨w1.heap.size, 1, none⟩ (.map (some (w1.heap.size + 1)))).setCell ⟨w1.heap.size, 2, none⟩ (.slice none 0 0)) := ((Kb.setCell w2 ⟨w1.heap.size, 0, none⟩ rv).trans (Kb.setCell _ ⟨w1.heap.size, 1, none⟩ _)).trans (Kb.setCell _ ⟨w1.heap.size, 2, none⟩ _)
 have hblk : (((w2.setCell ⟨w1.heap.size, 0, none⟩ rv).setCell ⟨w1.heap.size, 1, none⟩ (.map (some (w1.heap.size + 1)))).setCell ⟨w1.heap.size, 2, none⟩ (.slice none 0 0)).heap[w1.heap.size]? = some (.cells #[rv, .map (some (w1.heap.size + 1)), .slice none 0 0] 322 (0, 0)) := by
  rw [setCell_heap _ (setCell_heap _ (setCell_heap w2 hz 0 rv) 1 _) 2]
  rfl
 obtain ⟨h1, h2⟩ := model_first (rv := rv) (sb := w1.heap.size) hT hn hs hq k1 (.inl (by omega)) hblk
 refine ⟨_, _, T, rfl, h1, by rw [hT.prs, List.take_length], by omega, fun b hb' => ?_, ?_⟩
 · rcases h2 b hb' with e | e
   · omega
   · omega
 · exact k1.to_below (hb.trans (hbw.mono (by omega))) (by have := hbw.size; omega) (by simp)
structure MdPost (w1 : World) (rs : List Ax.Rule) (Q : List Pd.Pr) (G : List GT) (e : Ending) (w' : World) : Prop where
 bel : Below w1.heap.size w1 w'
 ans : (∃ hm T s, e = .returned (.tuple #[.map (some hm), .bool true]) ∧ msearch rs (glOf Q G) = some s ∧ HAt w' hm T s ∧ T.map prHT = Q.reverse ∧ (∀ b, b ∈ hallfoot hm T → w1.heap.size ≤ b)) ∨
  (e = .returned (.tuple #[.map none, .bool false]) ∧ msearch rs (glOf Q G) = none)
structure MLoop (w1 wr : World) (sb mb : Nat) (rv : Value) (K : List (ByteArray × Nat × Nat)) (R : List (En.SRule En.Fct)) (n : Nat) (s : En.Sea En.Fct) (RES : Option (En.Sea En.Fct)) : Prop where
 rel : MRel w1 wr sb mb rv K s
 res : En.search R 200 (202 - n) n s = RES
 le : n ≤ 200
 found : s.found.length ≤ 30000
 count : ∀ f, s.count f ≤ 8 + n * 4000
theorem mstart_bounds {l : List MR} (hl8 : l.length ≤ 8) {gl : List En.Fct} (hg : gl.length ≤ 24000) : (mstart (l.map MR.rule) gl).found.length ≤ 30000 ∧ ∀ f, (mstart (l.map MR.rule) gl).count f ≤ 8 := by
 have h1 := En.holds_len2 ((l.map MR.rule).flatMap En.bless) (En.held0 En.seaNil gl)
 have h2 : ((l.map MR.rule).flatMap En.bless).length ≤ 8 := by
  rw [En.bless_bl0]
  have := En.bl0_len ((l.map MR.rule).map En.srule)
  rw [List.length_map, List.length_map] at this
  omega
 have h3 := En.held0_len gl (En.seaNil (F := En.Fct))
 have h4 : (En.seaNil (F := En.Fct)).found.length = 0 := rfl
 unfold mstart
 refine ⟨by have := h1.1; omega, fun f => ?_⟩
 have h5 := h1.2 f
 rw [En.held0_count] at h5
 have : (En.seaNil (F := En.Fct)).count f = 0 := rfl
 omega
theorem mloop_on {l : List MR} (hl8 : l.length ≤ 8) (h2 : ∀ r, r ∈ l → r.body.length ≤ 2) {n : Nat} {s : En.Sea En.Fct} (hn : n < s.found.length) (hf : s.found.length ≤ 200) (hc : ∀ f, s.count f ≤ 8 + n * 4000) :
 ((l.map MR.rule).flatMap (En.jturns (s.found.take n) s.found[n])).length ≤ 3208 ∧ En.holds s ((l.map MR.rule).flatMap (En.jturns (s.found.take n) s.found[n])) = En.meet ((l.map MR.rule).map En.srule) s n ∧
   (En.meet ((l.map MR.rule).map En.srule) s n).found.length ≤ 30000 ∧ ∀ f, (En.meet ((l.map MR.rule).map En.srule) s n).count f ≤ 8 + (n + 1) * 4000 := by
 have e := meet_concl (P := s.found.take n) (z := s.found[n]) h2
 have hlen : ((l.map MR.rule).flatMap (En.jturns (s.found.take n) s.found[n])).length ≤ 3208 := by
  rw [e]
  have h1 := En.concl_len (s.found.take n) s.found[n] ((l.map MR.rule).map En.srule)
  simp only [List.length_map, List.length_take] at h1
  have h3 : min n s.found.length = n := Nat.min_eq_left (by omega)
  rw [h3] at h1
  have h4 : l.length * (2 * n + 1) ≤ 8 * 401 := Nat.mul_le_mul hl8 (by omega)
  omega
 have hm : En.holds s ((l.map MR.rule).flatMap (En.jturns (s.found.take n) s.found[n])) = En.meet ((l.map MR.rule).map En.srule) s n := by rw [En.meet_eq hn, e]
 have hb := En.holds_len2 ((l.map MR.rule).flatMap (En.jturns (s.found.take n) s.found[n])) s
 refine ⟨hlen, hm, ?_, fun f => ?_⟩
 · rw [← hm]; have := hb.1; omega
 · rw [← hm]; have h5 := hb.2 f; have h6 := hc f; omega
end Go.Proofs.YtdmicblafmhflaaGreatDoor
