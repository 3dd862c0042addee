/- Package follow: hold. -/
import Derived.Test.YtdmicblafmhflaaGreatDoorC22
set_option linter.unusedSimpArgs false
set_option linter.unusedVariables false
namespace Go.Proofs.YtdmicblafmhflaaGreatDoor
open Go.RowKit Go.Maps Go.WideMaps Go.WideElems
open Go.Sort (grow)
theorem Tryz.infoFact : (Tryz.prog.info? 325).map (fun i => (i.zero, i.size, i.bytes)) = some (some (.agg #[.string ByteArray.empty, .string ByteArray.empty, .string ByteArray.empty, .string ByteArray.empty]), 4, 64) := by kernel_rfl
theorem Tryz.zeroHoldsPtr (w : World) : (zeroValue 97).run Tryz.prog w = .ok (.pointer none) w := by kernel_rfl
def KeptCells (w w' : World) (fd : Option Addr) (fc n : Nat) : Prop := ∀ b, Value.ownBlock (.slice fd n fc) = some b → (∃ cur, w'.heap[b]? = some (.cells cur 325 (0, 0))) ∧ ∀ j, j < n * 4 → w'.cell? ⟨b, j, none⟩ = w.cell? ⟨b, j, none⟩
structure SOn (w w' : World) (sb mb : Nat) (rv : Value) (fd : Option Addr) (fc : Nat) (T : List HT) (s s' : En.Sea En.Fct) : Prop where
 on : ∃ fd' fc' T', SAt w' sb mb rv fd' fc' T' s' ∧ T'.map HT.key = T.map HT.key ∧ (∀ b, b ∈ sfoot sb fd' fc' s'.found.length T' → b ∈ sfoot sb fd fc s.found.length T ∨ w.heap.size ≤ b)
 kept : Kb (sfoot sb fd fc s.found.length T) w w'
 cells : KeptCells w w' fd fc s.found.length
theorem foot_sub {sb : Nat} {fd : Option Addr} {fc n : Nat} {A B : List HT} {t : HT} {b : Nat} (hb : b ∈ t.foot) : b ∈ sfoot sb fd fc n (A ++ t :: B) := by
 unfold sfoot
 simp only [List.mem_cons, List.mem_append, List.mem_flatMap]
 exact .inr (.inr ⟨t, by simp, hb⟩)
theorem sfoot_new {w : World} {sb : Nat} {fd fd' : Option Addr} {fc fc' n n' : Nat} {A B : List HT} {t t' : HT} (hf : Fresh w (.slice fd n fc) (.slice fd' n' fc')) (ht : ∀ b, b ∈ t'.foot → b ∈ t.foot ∨ w.heap.size ≤ b) {b : Nat} (hb : b ∈ sfoot sb fd' fc' n' (A ++ t' :: B)) : b ∈ sfoot sb fd fc n (A ++ t :: B) ∨ w.heap.size ≤ b := by
 unfold sfoot at hb ⊢
 rcases List.mem_cons.1 hb with rfl | hb
 · exact .inl (by simp)
 · rcases List.mem_append.1 hb with hb | hb
   · rw [Option.mem_toList] at hb
     rcases hf b hb with e | e
     · exact .inl (by simp only [List.mem_cons, List.mem_append, Option.mem_toList]; exact .inr (.inl e))
     · exact .inr e
   · obtain ⟨u, hu, hb2⟩ := List.mem_flatMap.1 hb
     rcases List.mem_append.1 hu with hu | hu
     · exact .inl (by simp only [List.mem_cons, List.mem_append, List.mem_flatMap]; exact .inr (.inr ⟨u, by simp [hu], hb2⟩))
     · rcases List.mem_cons.1 hu with rfl | hu
       · rcases ht b hb2 with e | e
         · exact .inl (foot_sub e)
         · exact .inr e
       · exact .inl (by simp only [List.mem_cons, List.mem_append, List.mem_flatMap]; exact .inr (.inr ⟨u, by simp [hu], hb2⟩))
theorem found_kept {w w1 : World} {sb mb : Nat} {rv : Value} {fd : Option Addr} {fc : Nat} {A B : List HT} {t : HT} {s : En.Sea En.Fct} (h0 : SAt w sb mb rv fd fc (A ++ t :: B) s) (hk : Kb t.foot w w1) {b : Nat} (hb : Value.ownBlock (.slice fd s.found.length fc) = some b) : w1.heap[b]? = w.heap[b]? := by
 obtain ⟨cur, e⟩ := block_type h0.fnd hb
 rw [hk.block b (lt_of_heap e)]
 intro hc
 obtain ⟨cur', U, e', hU⟩ := (h0.tabs t (by simp)).types hc
 rw [e] at e'
 simp only [Option.some.injEq, Obj.cells.injEq] at e'
 rcases hU with rfl | rfl | rfl <;> cases e'.2.1
theorem son_old {w w1 : World} {sb mb : Nat} {rv : Value} {fd : Option Addr} {fc : Nat} {A B : List HT} {t t' : HT} {s s' : En.Sea En.Fct} (hs : s'.found = s.found) (h0 : SAt w sb mb rv fd fc (A ++ t :: B) s) (h : SMid w1 sb mb rv fd fc (A ++ t' :: B) s.found s') (hk : Kb t.foot w w1) (ht : ∀ b, b ∈ t'.foot → b ∈ t.foot ∨ w.heap.size ≤ b) (hkey : t'.key = t.key) :
 SOn w w1 sb mb rv fd fc (A ++ t :: B) s s' where
 on := by
  refine ⟨fd, fc, A ++ t' :: B, ⟨by rw [hs]; exact h.blk, h.map, by rw [hs]; exact h.fnd, h.tabs, h.apart, h.names, h.rows, h.cnts, h.zero, h.three, h.short⟩, by simp [hkey], ?_⟩
  intro b hb
  rw [hs] at hb
  exact sfoot_new (Fresh.refl _ _) ht hb
 kept := hk.mono fun i hi _ => foot_sub hi
 cells := fun b hb => ⟨by obtain ⟨cur, e⟩ := block_type h0.fnd hb; exact ⟨cur, (found_kept h0 hk hb).trans e⟩, fun j _ => World.cell?_of_block (found_kept h0 hk hb)⟩
theorem son_new {w w1 W w2 : World} {sb mb : Nat} {rv : Value} {fd : Option Addr} {fc : Nat} {A B : List HT} {t t' : HT} {s s' : En.Sea En.Fct} {f : En.Fct} (hs : s'.found = s.found ++ [f]) (h0 : SAt w sb mb rv fd fc (A ++ t :: B) s) (h : SMid w1 sb mb rv fd fc (A ++ t' :: B) s.found s') (hk : Kb t.foot w w1) (ht : ∀ b, b ∈ t'.foot → b ∈ t.foot ∨ w.heap.size ≤ b) (hkey : t'.key = t.key)
 (hW : Below w1.heap.size w1 W) {g cap : Nat} (hown : w2.ownsRow 0 325 4 (.slice (some ⟨g, 0, none⟩) (s.found.length + 1) cap) (s.found.length + 1) (factCells s.found ++ fCells f)) (hg2 : W.grownBy w2 (Value.ownBlock (.slice fd s.found.length fc))) (hf2 : Fresh W (.slice fd s.found.length fc) (.slice (some ⟨g, 0, none⟩) (s.found.length + 1) cap))
 (hc2 : ∀ b : Nat, Value.ownBlock (.slice fd s.found.length fc) = some b → (∃ cur, w2.heap[b]? = some (.cells cur 325 (0, 0))) ∧ ∀ j, j < s.found.length * 4 → w2.cell? ⟨b, j, none⟩ = W.cell? ⟨b, j, none⟩) :
 SOn w (w2.setCell ⟨sb, 2, none⟩ (.slice (some ⟨g, 0, none⟩) (s.found.length + 1) cap)) sb mb rv fd fc (A ++ t :: B) s s' := by
 have hlen : s'.found.length = s.found.length + 1 := by rw [hs]; simp
 have hk2 : Kb (Value.ownBlock (.slice fd s.found.length fc)).toList W w2 := Kb.of_grown hg2
 have hfW : W.ownsRow 0 325 4 (.slice fd s.found.length fc) s.found.length (factCells s.found) := ownsRow_below h.fnd hW
 have hty : ∀ b, b ∈ (Value.ownBlock (.slice fd s.found.length fc)).toList → ∃ cur, W.heap[b]? = some (.cells cur 325 (0, 0)) := by
  intro b hb
  rw [Option.mem_toList] at hb
  exact block_type hfW hb
 have hblkW : W.heap[sb]? = some (.cells #[rv, .map (some mb), .slice fd s.found.length fc] 322 (0, 0)) := by rw [hW.block _ (lt_of_heap h.blk)]; exact h.blk
 have hblk2 : w2.heap[sb]? = some (.cells #[rv, .map (some mb), .slice fd s.found.length fc] 322 (0, 0)) := by
  refine hk2.heap hblkW ?_
  intro hc
  obtain ⟨cur, e⟩ := hty sb hc
  rw [hblkW] at e
  cases e
 have hset := Kb.setCell w2 ⟨sb, 2, none⟩ (.slice (some ⟨g, 0, none⟩) (s.found.length + 1) cap)
 have hW1 : Kb (Value.ownBlock (.slice fd s.found.length fc)).toList w1 w2 := (Kb.of_below hW _).trans hk2
 have hall : Kb (sb :: (Value.ownBlock (.slice fd s.found.length fc)).toList) w1 (w2.setCell ⟨sb, 2, none⟩ (.slice (some ⟨g, 0, none⟩) (s.found.length + 1) cap)) := by
  refine Kb.trans' (hW1.mono fun i hi _ => List.mem_cons_of_mem _ hi) hset ?_
  intro i hi _
  simp only [List.mem_singleton] at hi
  subst hi
  simp
 have hs1 : w.heap.size ≤ w1.heap.size := hk.size
 refine ⟨⟨some ⟨g, 0, none⟩, cap, A ++ t' :: B, ⟨?_, ?_, ?_, ?_, h.apart, h.names, h.rows, h.cnts, h.zero, h.three, h.short⟩, by simp [hkey], ?_⟩, ?_, ?_⟩
 · rw [setCell_heap w2 hblk2, hlen]
   rfl
 · refine h.map.kept hall ?_
   intro hc
   obtain ⟨es, ck, eb⟩ := h.map.block
   rcases List.mem_cons.1 hc with rfl | hc
   · rw [h.blk] at eb; cases eb
   · rw [Option.mem_toList] at hc
     obtain ⟨cur, e⟩ := block_type h.fnd hc
     rw [eb] at e
     cases e
 · rw [hlen, hs]
   have e : factCells (s.found ++ [f]) = factCells s.found ++ fCells f := by simp [factCells]
   rw [e]
   refine hset.row hown ?_
   intro b hb hc
   simp only [List.mem_singleton] at hc
   obtain ⟨cur, e⟩ := block_type hown hb
   rw [hc, hblk2] at e
   cases e
 · intro u hu
   refine (h.tabs u hu).kept hall ?_
   intro b hb hc
   obtain ⟨cur, U, e, hU⟩ := (h.tabs u hu).types hb
   rcases List.mem_cons.1 hc with rfl | hc
   · rw [h.blk] at e
     simp only [Option.some.injEq, Obj.cells.injEq] at e
     rcases hU with rfl | rfl | rfl <;> cases e.2.1
   · rw [Option.mem_toList] at hc
     obtain ⟨cur', e'⟩ := block_type h.fnd hc
     rw [e] at e'
     simp only [Option.some.injEq, Obj.cells.injEq] at e'
     rcases hU with rfl | rfl | rfl <;> cases e'.2.1
 · intro b hb
   refine sfoot_new (t := t) (t' := t') ?_ ht hb
   intro x hx
   rcases hf2 x hx with e | e
   · exact .inl e
   · exact .inr (Nat.le_trans (Nat.le_trans hs1 hW.size) e)
 · refine Kb.trans' (hk.mono fun i hi _ => foot_sub hi) hall ?_
   intro i hi _
   unfold sfoot
   rcases List.mem_cons.1 hi with rfl | hi
   · simp
   · simp only [List.mem_cons, List.mem_append]
     exact .inr (.inl hi)
 · intro b hb
   obtain ⟨cur, e0⟩ := block_type h0.fnd hb
   obtain ⟨cur1, e1⟩ := block_type h.fnd hb
   have hbsb : b ≠ sb := by
    rintro rfl
    rw [h0.blk] at e0
    cases e0
   obtain ⟨⟨cur2, e2⟩, hcc⟩ := hc2 b hb
   refine ⟨⟨cur2, (Below.heap_setCell _ _ _ _ hbsb).trans e2⟩, fun j hj => ?_⟩
   have c1 : w1.cell? ⟨b, j, none⟩ = w.cell? ⟨b, j, none⟩ := World.cell?_of_block (found_kept h0 hk hb)
   have c2 : W.cell? ⟨b, j, none⟩ = w1.cell? ⟨b, j, none⟩ := hW.cell (lt_of_heap e1)
   rw [← c1, ← c2, ← hcc j hj]
   exact World.cell?_of_block (Below.heap_setCell _ _ _ _ hbsb)
theorem SOn.trans {w w1 w2 : World} {sb mb : Nat} {rv : Value} {fd fd1 : Option Addr} {fc fc1 : Nat} {T T1 : List HT} {s s1 s2 : En.Sea En.Fct} (h0 : SAt w sb mb rv fd fc T s) (hm : SAt w1 sb mb rv fd1 fc1 T1 s1) (hkey : T1.map HT.key = T.map HT.key) (hf1 : ∀ b, b ∈ sfoot sb fd1 fc1 s1.found.length T1 → b ∈ sfoot sb fd fc s.found.length T ∨ w.heap.size ≤ b)
 (hk : Kb (sfoot sb fd fc s.found.length T) w w1) (hc : KeptCells w w1 fd fc s.found.length) (hlen : s.found.length ≤ s1.found.length) (h2 : SOn w1 w2 sb mb rv fd1 fc1 T1 s1 s2) : SOn w w2 sb mb rv fd fc T s s2 where
 on := by
  obtain ⟨fd2, fc2, T2, a, b, c⟩ := h2.on
  refine ⟨fd2, fc2, T2, a, b.trans hkey, fun x hx => ?_⟩
  rcases c x hx with e | e
  · exact hf1 x e
  · exact .inr (Nat.le_trans hk.size e)
 kept := hk.trans' h2.kept fun i hi hlt => by
  rcases hf1 i hi with e | e
  · exact e
  · omega
 cells := by
  intro b hb
  obtain ⟨⟨cur, e⟩, hcc⟩ := hc b hb
  by_cases hown : Value.ownBlock (.slice fd1 s1.found.length fc1) = some b
  · obtain ⟨t2, c2⟩ := h2.cells b hown
    exact ⟨t2, fun j hj => (c2 j (by omega)).trans (hcc j hj)⟩
  · have hnf : ¬ b ∈ sfoot sb fd1 fc1 s1.found.length T1 := by
     intro hmem
     unfold sfoot at hmem
     rcases List.mem_cons.1 hmem with rfl | hmem
     · rw [hm.blk] at e; cases e
     · rcases List.mem_append.1 hmem with hmem | hmem
       · rw [Option.mem_toList] at hmem
         exact hown hmem
       · obtain ⟨u, hu, hbu⟩ := List.mem_flatMap.1 hmem
         obtain ⟨cur', U, e', hU⟩ := (hm.tabs u hu).types hbu
         rw [e] at e'
         simp only [Option.some.injEq, Obj.cells.injEq] at e'
         rcases hU with rfl | rfl | rfl <;> cases e'.2.1
    have hsame := h2.kept.block b (lt_of_heap e) hnf
    exact ⟨⟨cur, hsame.trans e⟩, fun j hj => (World.cell?_of_block hsame).trans (hcc j hj)⟩
theorem SOn.refl {w : World} {sb mb : Nat} {rv : Value} {fd : Option Addr} {fc : Nat} {T : List HT} {s : En.Sea En.Fct} (h : SAt w sb mb rv fd fc T s) : SOn w w sb mb rv fd fc T s s where
 on := ⟨fd, fc, T, h, rfl, fun _ hb => .inl hb⟩
 kept := Kb.refl _ _
 cells := fun b hb => ⟨block_type h.fnd hb, fun _ _ => rfl⟩
end Go.Proofs.YtdmicblafmhflaaGreatDoor
/- Package follow: hold, walked. -/
namespace Go.Proofs.YtdmicblafmhflaaGreatDoor
open Go.RowKit Go.Maps Go.WideMaps Go.WideElems
open Go.Sort (grow)
theorem short_of' {α : Type} [DecidableEq α] (P l : List α) (h : l.Nodup) (hm : ∀ x, x ∈ l → x ∈ P) : l.length ≤ P.length := Ax.short_of P l h hm
theorem tab_short {w : World} {sb mb : Nat} {rv : Value} {fd : Option Addr} {fc : Nat} {T : List HT} {s : En.Sea En.Fct} (h : SAt w sb mb rv fd fc T s) {t : HT} (ht : t ∈ T) : t.L.length ≤ s.found.length := by
 have hnd : (t.L.map fun r => ((t.nm, r) : En.Fct)).Nodup := by
  have := (h.tabs t ht).tab.ord.nodup
  exact List.Pairwise.map _ (fun x y hne e => hne (by simpa using e)) this
 have := short_of' s.found _ hnd (fun x hx => by
  obtain ⟨r, hr, rfl⟩ := List.mem_map.1 hx
  exact (h.rows t ht r).1 hr)
 simpa using this
theorem inB_found {w : World} {sb mb : Nat} {rv : Value} {fd : Option Addr} {fc : Nat} {T : List HT} {s : En.Sea En.Fct} (h : SAt w sb mb rv fd fc T s) {t : HT} (ht : t ∈ T) (r : List ByteArray) : Tb.inB t.L r = true ↔ (t.nm, r) ∈ s.found := by
 rw [Tb.inB_iff]
 exact h.rows t ht r
theorem hold_old {s : En.Sea En.Fct} {f : En.Fct} {n : Nat} (h : f ∈ s.found) : (En.hold s f n).found = s.found := by
 unfold En.hold
 exact if_pos h
theorem hold_new {s : En.Sea En.Fct} {f : En.Fct} {n : Nat} (h : ¬ f ∈ s.found) : (En.hold s f n).found = s.found ++ [f] := by
 unfold En.hold
 exact if_neg h
set_option maxRecDepth 100000 in
set_option maxHeartbeats 4000000 in
theorem shold_any (w : World) (sb mb : Nat) (rv : Value) (fd : Option Addr) (fc : Nat) (A B : List HT) (t : HT) (s : En.Sea En.Fct) (h : SAt w sb mb rv fd fc (A ++ t :: B) s) (a b c : ByteArray) (n : Nat) (hn : n ≤ 1000) (hF : s.found.length ≤ 999990) (hC : ∀ f, s.count f ≤ 1000000000000) :
 Calls Tryz.prog 187 #[.pointer (some ⟨sb, 0, none⟩), .agg #[.string t.nm, .string a, .string b, .string c], .int .i64 n] w fun e w' => e = .returned (.tuple #[]) ∧ SOn w w' sb mb rv fd fc (A ++ t :: B) s (En.hold s (t.nm, [a, b, c]) n) := by
 have hmt : t ∈ A ++ t :: B := by simp
 have hLs := tab_short h hmt
 obtain ⟨w0, hw0⟩ : ∃ w0, w0 = w.alloc (.cells #[.string t.nm, .string a, .string b, .string c] 325) := ⟨_, rfl⟩
 have hb0 : Below w.heap.size w w0 := by rw [hw0]; exact (Below.refl _ _).alloc (Nat.le_refl _) _
 have hbx : w0.heap[w.heap.size]? = some (.cells #[.string t.nm, .string a, .string b, .string c] 325 (0, 0)) := by rw [hw0]; exact heap_alloc_new w _
 have hs0 : w0.heap.size = w.heap.size + 1 := by rw [hw0]; simp
 have h0 := h.below hb0
 have x0 : w0.cell? ⟨w.heap.size, 0, none⟩ = some (.string t.nm) := by rw [cell_of_row _ _ 0 _ _ _ hbx]; rfl
 have x1 : w0.cell? ⟨w.heap.size, 1, none⟩ = some (.string a) := by rw [cell_of_row _ _ 1 _ _ _ hbx]; rfl
 have x2 : w0.cell? ⟨w.heap.size, 2, none⟩ = some (.string b) := by rw [cell_of_row _ _ 2 _ _ _ hbx]; rfl
 have x3 : w0.cell? ⟨w.heap.size, 3, none⟩ = some (.string c) := by rw [cell_of_row _ _ 3 _ _ _ hbx]; rfl
 have s1 : w0.cell? ⟨sb, 1, none⟩ = some (.map (some mb)) := by rw [cell_of_row _ _ 1 _ _ _ h0.blk]; rfl
 have hsb0 : sb < w0.heap.size := lt_of_heap h0.blk
 have hlk : ∀ W : World, W.heap = w0.heap → (Instr.lookup 103 (.map (some mb)) (.string t.nm) false).run Tryz.prog W = .ok (.pointer (some ⟨t.g, 0, none⟩)) W := by
  intro W hW
  have hm : PMap W mb ((A ++ t :: B).map HT.pk) := by
   obtain ⟨q1, q2, ⟨es, ck, q3, q4⟩, q5, q6⟩ := h0.map.has
   exact ⟨q1, q2, ⟨es, ck, by rw [hW]; exact q3, q4⟩, q5, q6⟩
  exact hm.look (look_key h.names hmt) (h.short t hmt) Tryz.underlying103 (Tryz.zeroHoldsPtr W)
 have hl1 := hlk w0.drew rfl
 have hH : ∀ W : World, W.heap = w0.heap → Below w0.heap.size w0 W → Calls Tryz.prog 230 #[.pointer (some ⟨t.g, 0, none⟩), .agg #[.string a, .string b, .string c], .int .i64 n] W fun e w1 => e = .returned (.bool (!Tb.inB t.L [a, b, c])) ∧ ∃ t', SMid w1 sb mb rv fd fc (A ++ t' :: B) s.found (En.hold s (t.nm, [a, b, c]) n) ∧ Kb t.foot w w1 ∧ (∀ q, q ∈ t'.foot → q ∈ t.foot ∨ w.heap.size ≤ q) ∧ t'.key = t.key ∧ w1.heap[w.heap.size]? = some (.cells #[.string t.nm, .string a, .string b, .string c] 325 (0, 0)) := by
  intro W hW hbW
  have hWb : Below w.heap.size w W := hb0.trans (hbW.mono hb0.size)
  have hok := (h.tabs t hmt).below hWb
  refine (hold_any W t.g t.nm t.pl t.rd t.rc t.cd t.cc t.L t.C a b c n hok (by omega) hn ?_).mono ?_
  · intro x hx
    rw [h.cnts t hmt] at hx
    obtain ⟨r, _, rfl⟩ := List.mem_map.1 hx
    exact hC _
  · rintro e w1 ⟨rd', rc', cd', cc', rfl, q1, q2, q3, q4⟩
    obtain ⟨m1, m2, m3⟩ := h.mid hWb (r := [a, b, c]) (n := n) rfl (rd' := rd') (rc' := rc') (cd' := cd') (cc' := cc') q1 q2 q3 q4
    refine ⟨rfl, _, m1, m2, m3, rfl, ?_⟩
    refine q2.heap (by rw [hW]; exact hbx) ?_
    intro hc
    have := HT.ok.lt (h.tabs t hmt) hc
    omega
 clear hlk
 by_cases hin : (t.nm, [a, b, c]) ∈ s.found
 · have hib : Tb.inB t.L [a, b, c] = true := (inB_found h hmt _).2 hin
   have hfnd : Hid ((En.hold s (t.nm, [a, b, c]) n).found = s.found) := hold_old hin
   rw [hib] at hH
   have H : Hid (SAt w sb mb rv fd fc (A ++ t :: B) s) := h
   clear hin hib h h0 hbx
   go_enter Tryz.func187, Tryz.ntmps187
   go_wp2_with fail
   rw [← hw0]
   clear hw0
   go_region_with (go_at_call 230; refine (hH _ (by rfl) (by exact (Below.refl _ _).drew)).mono ?_; rintro e w1 ⟨rfl, t', m1, m2, m3, m4, m5⟩)
   all_goals
    (have hend := son_old hfnd.out H.out m1 m2 m3 m4
     clear m1 m2 m3 m4 m5 hH hl1 x0 x1 x2 x3 s1
     go_wp2_with fail
     go_end0
     exact ⟨rfl, hend⟩)
 · have hib : Tb.inB t.L [a, b, c] = false := by
    rw [Bool.eq_false_iff]
    exact fun e => hin ((inB_found h hmt _).1 e)
   have hfnd : Hid ((En.hold s (t.nm, [a, b, c]) n).found = s.found ++ [(t.nm, [a, b, c])]) := hold_new hin
   rw [hib] at hH
   have H : Hid (SAt w sb mb rv fd fc (A ++ t :: B) s) := h
   obtain ⟨i0, hi0, hz0, hz1, hz2⟩ := info_parts Tryz.infoFact
   have HI : Hid (Tryz.prog.info? 325 = some i0) := hi0
   have H0 : Hid (i0.zero = some (.agg #[.string ByteArray.empty, .string ByteArray.empty, .string ByteArray.empty, .string ByteArray.empty])) := hz0
   have H1 : Hid (i0.size = 4) := hz1
   have H2 : Hid (i0.bytes = 64) := hz2
   clear hin hib h h0 hbx hi0 hz0 hz1 hz2
   go_enter Tryz.func187, Tryz.ntmps187
   go_wp2_with fail
   rw [← hw0]
   clear hw0
   go_upto_region 1 with fail
   go_cut [16] from 6 (fun bv wx => bv = .bool true ∧ ∃ t', SMid wx sb mb rv fd fc (A ++ t' :: B) s.found (En.hold s (t.nm, [a, b, c]) n) ∧ Kb t.foot w wx ∧ (∀ q, q ∈ t'.foot → q ∈ t.foot ∨ w.heap.size ≤ q) ∧ t'.key = t.key ∧ wx.heap[w.heap.size]? = some (.cells #[.string t.nm, .string a, .string b, .string c] 325 (0, 0)))
   case first =>
    go_region_with (go_at_call 230; refine (hH _ (by rfl) (by exact (Below.refl _ _).drew)).mono ?_; rintro e w1 ⟨rfl, hrest⟩)
    all_goals (go_wp2_with fail; go_meet; exact ⟨rfl, hrest⟩)
   case rest =>
    obtain ⟨rfl, t', m1, m2, m3, m4, m5⟩ := hcut
    have y0 : wc.cell? ⟨w.heap.size, 0, none⟩ = some (.string t.nm) := by rw [cell_of_row _ _ 0 _ _ _ m5]; rfl
    have y1 : wc.cell? ⟨w.heap.size, 1, none⟩ = some (.string a) := by rw [cell_of_row _ _ 1 _ _ _ m5]; rfl
    have y2 : wc.cell? ⟨w.heap.size, 2, none⟩ = some (.string b) := by rw [cell_of_row _ _ 2 _ _ _ m5]; rfl
    have y3 : wc.cell? ⟨w.heap.size, 3, none⟩ = some (.string c) := by rw [cell_of_row _ _ 3 _ _ _ m5]; rfl
    have z2 : wc.cell? ⟨sb, 2, none⟩ = some (.slice fd s.found.length fc) := by rw [cell_of_row _ _ 2 _ _ _ m1.blk]; rfl
    have hsbc : sb < wc.heap.size := lt_of_heap m1.blk
    have hbxc : w.heap.size < wc.heap.size := lt_of_heap m5
    have hfo := m1.fnd
    have hend : ∀ W w2 : World, Below wc.heap.size wc W → ∀ g cap, w2.ownsRow 0 325 4 (.slice (some ⟨g, 0, none⟩) (s.found.length + 1) cap) (s.found.length + 1) (factCells s.found ++ [.string t.nm, .string a, .string b, .string c]) → W.grownBy w2 (Value.ownBlock (.slice fd s.found.length fc)) → Fresh W (.slice fd s.found.length fc) (.slice (some ⟨g, 0, none⟩) (s.found.length + 1) cap) →
     (∀ q : Nat, Value.ownBlock (.slice fd s.found.length fc) = some q → (∃ cur, w2.heap[q]? = some (.cells cur 325 (0, 0))) ∧ ∀ j, j < s.found.length * 4 → w2.cell? ⟨q, j, none⟩ = W.cell? ⟨q, j, none⟩) → SOn w (w2.setCell ⟨sb, 2, none⟩ (.slice (some ⟨g, 0, none⟩) (s.found.length + 1) cap)) sb mb rv fd fc (A ++ t :: B) s (En.hold s (t.nm, [a, b, c]) n) ∧ (∃ v, w2.cell? ⟨sb, 2, none⟩ = some v) ∧ w2.frozen? ⟨sb, 2, none⟩ = false := by
     intro W w2 hW g cap e1 e2 e3 e4
     refine ⟨son_new hfnd.out H.out m1 m2 m3 m4 hW e1 e2 e3 e4, ?_⟩
     have hb2 : w2.heap[sb]? = some (.cells #[rv, .map (some mb), .slice fd s.found.length fc] 322 (0, 0)) := by
      rw [e2.block sb (Nat.lt_of_lt_of_le hsbc hW.size) ?_, hW.block _ hsbc]
      · exact m1.blk
      · intro hc
        obtain ⟨cur, e⟩ := block_type m1.fnd hc.symm
        rw [m1.blk] at e
        cases e
     exact ⟨⟨_, by rw [cell_of_row _ _ 2 _ _ _ hb2]; rfl⟩, by simp [World.frozen?, hb2]⟩
    clear m1 m2 m3 m4 m5 hH hl1 x0 x1 x2 x3 s1
    go_upto_region 2 with fail
    go_region_law (refine step_append_keep _ rfl (.tmp 21) (.tmp 23) 320 rfl 0 325 i0 _ 4 64 Tryz.underlying320 HI.out H0.out H1.out H2.out rfl (by decide) (.slice fd s.found.length fc) s.found.length (factCells s.found) (by simp [Act.eval, Act.put]) (by exact hfo.alloc _) ⟨wc.heap.size, 0, none⟩ 1 1 [.string t.nm, .string a, .string b, .string c] (by simp [Act.eval, Act.put]) rfl (by exact World.news_of_block (heap_alloc_new _ _)) (by simp [Value.oneCell']) (by decide) (by unfold maxLen; omega) (by omega) (by simp) ?_; intro g2 cap2 w2 e1 e2 e3 e4; obtain ⟨hfin, ⟨v2, hv2⟩, hfz2⟩ := hend _ w2 (((Below.refl _ _).alloc (Nat.le_refl _) _).drew) g2 cap2 e1 e2 e3 e4)
    all_goals (first | (go_end0; exact ⟨rfl, hfin⟩) | (go_wp2_with fail; go_end0; exact ⟨rfl, hfin⟩))
end Go.Proofs.YtdmicblafmhflaaGreatDoor
/- Package follow: conclude. -/
namespace Go.Proofs.YtdmicblafmhflaaGreatDoor
open Go.RowKit Go.Maps Go.WideMaps Go.WideElems
open Go.Sort (grow)
structure AOk (a : Ax.Atom) : Prop where
 three : a.terms.length ≤ 3
 kinds : ∀ t, t ∈ a.terms → t.kind = 0 ∨ t.kind = 1
theorem SOn.pre {w w1 w' : World} {sb mb : Nat} {rv : Value} {fd : Option Addr} {fc : Nat} {T : List HT} {s s' : En.Sea En.Fct} (h : SOn w1 w' sb mb rv fd fc T s s') (hb : Below w.heap.size w w1) (h0 : SAt w sb mb rv fd fc T s) : SOn w w' sb mb rv fd fc T s s' where
 on := by
  obtain ⟨fd', fc', T', a, b, c⟩ := h.on
  refine ⟨fd', fc', T', a, b, fun x hx => ?_⟩
  rcases c x hx with e | e
  · exact .inl e
  · exact .inr (Nat.le_trans hb.size e)
 kept := (Kb.of_below hb _).trans h.kept
 cells := by
  intro b hbl
  obtain ⟨cur, e⟩ := block_type h0.fnd hbl
  obtain ⟨t1, c1⟩ := h.cells b hbl
  exact ⟨t1, fun j hj => (c1 j hj).trans (hb.cell (lt_of_heap e))⟩
theorem afact_three {b : En.Bind} {a : Ax.Atom} (h : a.terms.length ≤ 3) : ∃ x y z, En.afact (En.val b) a = (a.pred, [x, y, z]) ∧ fArr a.pred (part3 (tnth a.terms (En.val b)) a.terms.length) = #[.string a.pred, .string x, .string y, .string z] := by
 obtain ⟨x, y, z, e⟩ := pad_three (l := a.terms.map (En.tval (En.val b))) (by simpa using h)
 refine ⟨x, y, z, by unfold En.afact; rw [e], ?_⟩
 rw [fArr_pad _ _ _ h, e]
 rfl
set_option maxRecDepth 100000 in
set_option maxHeartbeats 4000000 in
theorem conclude_any (w : World) (sb mb : Nat) (rv : Value) (fd : Option Addr) (fc : Nat) (A B : List HT) (t : HT) (s : En.Sea En.Fct) (h : SAt w sb mb rv fd fc (A ++ t :: B) s) (hF : s.found.length ≤ 999990) (hC : ∀ f, s.count f ≤ 1000000000000)
 (a : Ax.Atom) (ad : Option Addr) (ac : Nat) (bv : Value) (ha : MA.ok w (a, .slice ad a.terms.length ac)) (hok : AOk a) (hp : a.pred = t.nm) (b : En.Bind) (n : Nat) (X Y : Nat → ByteArray) (hb : BIs b n X Y) (bd : Option Addr) (bm bc : Nat) (hbv : bv = .slice bd bm bc) :
 Calls Tryz.prog 231 #[.pointer (some ⟨sb, 0, none⟩), .agg #[.int .i64 a.at_, .string a.pred, .slice ad a.terms.length ac, bv], .agg (bArr n X Y)] w fun e w' => e = .returned (.tuple #[]) ∧ SOn w w' sb mb rv fd fc (A ++ t :: B) s (En.hold s (En.afact (En.val b) a) 1) := by
 subst hbv
 obtain ⟨x, y, z, e1, e2⟩ := afact_three (b := b) hok.three
 rw [e1, hp]
 have hfa : Hid (∀ W : World, Below w.heap.size w W → ∀ g, W.heap[g]? = some (.cells (bArr n X Y) 369 (0, 0)) → Calls Tryz.prog 265 #[.pointer (some ⟨g, 0, none⟩), .agg #[.int .i64 a.at_, .string t.nm, .slice ad a.terms.length ac]] W fun e w' => e = .returned (.agg #[.string t.nm, .string x, .string y, .string z]) ∧ Below W.heap.size W w') := by
  intro W hW g hg
  have hfx := fact_any W g n X Y b hb hg a ad ac (ownsRow_below ha hW) hok.kinds hok.three
  rw [hp] at hfx
  refine hfx.mono ?_
  rintro e w' ⟨h1, rfl⟩
  rw [← hp, e2]
  exact ⟨rfl, h1⟩
 have hho : Hid (∀ W : World, Below w.heap.size w W → Calls Tryz.prog 187 #[.pointer (some ⟨sb, 0, none⟩), .agg #[.string t.nm, .string x, .string y, .string z], .int .i64 1] W fun e w' => e = .returned (.tuple #[]) ∧ SOn w w' sb mb rv fd fc (A ++ t :: B) s (En.hold s (t.nm, [x, y, z]) 1)) := by
  intro W hW
  refine (shold_any W sb mb rv fd fc A B t s (h.below hW) x y z 1 (by decide) hF hC).mono ?_
  rintro e w' ⟨rfl, h1⟩
  exact ⟨rfl, h1.pre hW h⟩
 clear e1 e2 ha hok hb h hp
 have hnew : Hid (∀ W : World, W.heap = ((w.alloc (.cells #[.int .i64 a.at_, .string t.nm, .slice ad a.terms.length ac, .slice bd bm bc] 222)).alloc (.cells (bArr n X Y) 369)).heap → W.heap[w.heap.size + 1]? = some (.cells (bArr n X Y) 369 (0, 0))) := fun W hW => by rw [hW]; exact new2 w _ _
 have hbel : Hid (Below w.heap.size w ((w.alloc (.cells #[.int .i64 a.at_, .string t.nm, .slice ad a.terms.length ac, .slice bd bm bc] 222)).alloc (.cells (bArr n X Y) 369))) := ((Below.refl _ _).alloc (Nat.le_refl _) _).alloc (by simp) _
 go_enter Tryz.func231, Tryz.ntmps231
 go_wp2_with (first | (go_at_call 265; refine (hfa.out _ (by exact hbel.out) _ (by exact hnew.out _ rfl)).mono ?_; rintro e w1 ⟨rfl, hb1⟩) | (go_at_call 187; refine (hho.out _ (by exact hbel.out.trans (hb1.mono hbel.out.size))).mono ?_; rintro e w2 ⟨rfl, hson⟩))
 go_end0
 exact ⟨rfl, hson⟩
end Go.Proofs.YtdmicblafmhflaaGreatDoor
