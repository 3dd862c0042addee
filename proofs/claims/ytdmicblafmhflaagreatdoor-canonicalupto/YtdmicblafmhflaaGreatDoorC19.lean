/- Has, Count, Len. -/
import Derived.Test.YtdmicblafmhflaaGreatDoorC18
import Derived.Lib.SliceRun
import Derived.Test.YtdmicblafmhflaaGreatDoorC09
import Derived.Test.YtdmicblafmhflaaGreatDoorC17
set_option linter.unusedSimpArgs false
set_option linter.unusedVariables false
namespace Go.Proofs.YtdmicblafmhflaaGreatDoor.Tb
def cntOf (L : List Rw) (C : List Nat) (r : Rw) : Nat := if inB L r = true then C.getD (pos L r) 0 else 0
end Go.Proofs.YtdmicblafmhflaaGreatDoor.Tb
namespace Go.Proofs.YtdmicblafmhflaaGreatDoor
open Go.RowKit
open Go.Sort (grow)
set_option maxRecDepth 100000 in
set_option maxHeartbeats 2000000 in
theorem has_any (w : World) (g : Nat) (T : TypeId) (nm : ByteArray) (pl : Nat) (rd : Option Addr) (rc : Nat) (L : List (List ByteArray)) (rest : List Value) (a b c : ByteArray) (h : TabAt w g T nm pl rd rc L rest) (hL : L.length ≤ 999999) :
 Calls Tryz.prog 42 #[.pointer (some ⟨g, 0, none⟩), .agg #[.string a, .string b, .string c]] w fun e w' => e = .returned (.bool (Tb.inB L [a, b, c])) ∧ Below w.heap.size w w' := by
 have hfd : Hid (∀ W, Below w.heap.size w W → Calls Tryz.prog 75 #[.pointer (some ⟨g, 0, none⟩), .agg #[.string a, .string b, .string c]] W fun e w' => e = .returned (.tuple #[.int .i64 (Tb.pos L [a, b, c] : Nat), .bool (Tb.inB L [a, b, c])]) ∧ Below w.heap.size w w') := by
  intro W hW
  have h1 := h.below hW
  refine (find_any W g rd rc L a b c h1.rows (by omega) h1.ord h1.cell2.1).mono ?_
  rintro e w' ⟨rfl, hb⟩
  exact ⟨rfl, hW.trans (hb.mono hW.size)⟩
 generalize Tb.pos L [a, b, c] = ps at hfd
 generalize Tb.inB L [a, b, c] = fb at hfd ⊢
 clear h
 go_enter Tryz.func42, Tryz.ntmps42
 go_wp2_with (go_at_call 75; refine (hfd.out _ (by exact (Below.refl _ _).alloc (Nat.le_refl _) _)).mono ?_; rintro e w1 ⟨rfl, hb1⟩)
 go_ret
 exact ⟨rfl, hb1⟩
set_option maxHeartbeats 2000000 in
theorem len_any (w : World) (g : Nat) (T : TypeId) (nm : ByteArray) (pl : Nat) (rd : Option Addr) (rc : Nat) (L : List (List ByteArray)) (rest : List Value) (h : TabAt w g T nm pl rd rc L rest) :
 Calls Tryz.prog 136 #[.pointer (some ⟨g, 0, none⟩)] w fun e w' => e = .returned (.int .i64 L.length) ∧ w' = w := by
 have c2 := h.cell2.1
 have hg := lt_of_heap h.blk
 clear h
 go_enter Tryz.func136, Tryz.ntmps136
 go_wp2_with fail
 go_ret
 exact ⟨rfl, rfl⟩
set_option maxRecDepth 100000 in
set_option maxHeartbeats 2000000 in
theorem count_any (w : World) (g : Nat) (nm : ByteArray) (pl : Nat) (rd : Option Addr) (rc : Nat) (cd : Option Addr) (cc : Nat) (L : List (List ByteArray)) (C : List Nat) (a b c : ByteArray) (h : HoldAt w g nm pl rd rc cd cc L C) (hL : L.length ≤ 999999) :
 Calls Tryz.prog 43 #[.pointer (some ⟨g, 0, none⟩), .agg #[.string a, .string b, .string c]] w fun e w' => e = .returned (.int .i64 (Tb.cntOf L C [a, b, c] : Nat)) ∧ Below w.heap.size w w' := by
 obtain ⟨w0, hw0⟩ : ∃ w0, w0 = w.alloc (.cells #[.string a, .string b, .string c] 119) := ⟨_, rfl⟩
 have hb0 : Below w.heap.size w w0 := by rw [hw0]; exact (Below.refl _ _).alloc (Nat.le_refl _) _
 have htg : w0.heap[w.heap.size]? = some (.cells #[.string a, .string b, .string c] 119 (0, 0)) := by rw [hw0]; exact heap_alloc_new w _
 have t0 : w0.cell? ⟨w.heap.size, 0, none⟩ = some (.string a) := by rw [cell_of_row _ _ 0 _ _ _ htg]; rfl
 have t1 : w0.cell? ⟨w.heap.size, 1, none⟩ = some (.string b) := by rw [cell_of_row _ _ 1 _ _ _ htg]; rfl
 have t2 : w0.cell? ⟨w.heap.size, 2, none⟩ = some (.string c) := by rw [cell_of_row _ _ 2 _ _ _ htg]; rfl
 have h0 := h.below hb0
 have k0 := cell_regrown t0
 have k1 := cell_regrown t1
 have k2 := cell_regrown t2
 have cC : ∀ d os, Calls Tryz.prog 75 #[.pointer (some ⟨g, 0, none⟩), .agg #[.string a, .string b, .string c]] (grow (redrawn w0 d) os) fun e w'' => e = .returned (.tuple #[.int .i64 (Tb.pos L [a, b, c] : Nat), .bool (Tb.inB L [a, b, c])]) ∧ ∃ p : Regrown, w'' = grow (redrawn w0 p.d) p.os := fun d os => Calls.regrown_of (by
  have h1 := h0.below (below_regrown w0 d os)
  exact find_any _ g rd rc L a b c h1.tab.rows (by omega) h1.tab.ord h1.tab.cell2.1)
 have hlt : Hid (Tb.inB L [a, b, c] = true → Tb.pos L [a, b, c] < L.length) := fun hin => (List.getElem?_eq_some_iff.1 ((Tb.pos_found h.tab.ord _).2 (Tb.inB_iff.1 hin))).1
 have hR : Hid (Tb.cntOf L C [a, b, c] = if Tb.inB L [a, b, c] = true then C.getD (Tb.pos L [a, b, c]) 0 else 0) := rfl
 generalize Tb.cntOf L C [a, b, c] = R at hR ⊢
 generalize Tb.pos L [a, b, c] = ps at cC hlt hR
 generalize Tb.inB L [a, b, c] = fb at cC hlt hR
 have hCl := h.len
 have hgl := lt_of_heap h0.tab.blk
 have H0 : Hid (HoldAt w0 g nm pl rd rc cd cc L C) := h0
 clear h h0 htg
 go_enter Tryz.func43, Tryz.ntmps43
 go_wp2_with fail
 rw [← hw0]
 clear hw0 t0 t1 t2
 refine wp_region_quiet_below (by kernel_rfl) (by kernel_rfl) ?_
 repeat (quiet_step (first | exact cC _ _))
 refine wpQuiet_nil ?_
 intro _ hw'
 obtain ⟨⟨dq, osq⟩, hw''⟩ := hw'
 subst hw''
 have hbq := below_regrown w0 dq osq
 have hend : Below w.heap.size w (grow (redrawn w0 dq) osq) := hb0.trans (hbq.mono hb0.size)
 have h2 := H0.out.below hbq
 generalize grow (redrawn w0 dq) osq = wq at hbq hend h2 ⊢
 clear k0 k1 k2 cC
 cases fb with
 | true =>
  have hps := hlt.out rfl
  have c3 : wq.cell? ⟨g, 3, none⟩ = some (.slice cd L.length cc) := by rw [cell_of_row _ _ 3 _ _ _ h2.tab.blk]; simp
  have hgq := lt_of_heap h2.tab.blk
  obtain ⟨gc, rfl, hgc, hcc, hcs⟩ := row_cells h2.cnt (by omega)
  obtain ⟨x, hx⟩ : ∃ x, C[ps]? = some x := ⟨_, List.getElem?_eq_getElem (by omega)⟩
  have hcell := hcs ps _ (show (natCells C)[ps]? = some (.int .i64 x) by simp [natCells, hx])
  have hgx : Hid (C.getD ps 0 = x) := by rw [List.getD_eq_getElem?_getD, hx]; rfl
  have HX : Hid (R = x) := by rw [hR.out, if_pos rfl]; exact hgx.out
  clear hcs h2 hx
  go_wp2_with fail
  go_ret
  exact ⟨by rw [HX.out]; rfl, hend⟩
 | false =>
  have HX : Hid (R = 0) := hR.out
  clear h2
  go_wp2_with fail
  go_ret
  exact ⟨by rw [HX.out]; rfl, hend⟩
end Go.Proofs.YtdmicblafmhflaaGreatDoor
/- slices.Clone at rows; Rows. -/
namespace Go.Proofs.YtdmicblafmhflaaGreatDoor
open Go.RowKit
open Go.Sort (grow)
set_option maxRecDepth 100000 in
set_option maxHeartbeats 2000000 in
theorem cloneRows_any (w : World) (rd : Option Addr) (rc : Nat) (L : List (List ByteArray)) (h : RowsAt w rd rc L) (hL : L.length ≤ 999999) :
 Calls Tryz.prog 200 #[.slice rd L.length rc] w fun e w' => ∃ rd' rc', e = .returned (.slice rd' L.length rc') ∧ w'.ownsRow w.heap.size 119 3 (.slice rd' L.length rc') L.length (rowCells L) ∧ Below w.heap.size w w' := by
 obtain ⟨i0, hi0, hz0, hz1, hz2⟩ := info_parts Tryz.infoRow
 have HI : Hid (Tryz.prog.info? 119 = some i0) := hi0
 have H0 : Hid (i0.zero = some (.agg #[.string ByteArray.empty, .string ByteArray.empty, .string ByteArray.empty])) := hz0
 have H1 : Hid (i0.size = 3) := hz1
 have H2 : Hid (i0.bytes = 48) := hz2
 clear hi0 hz0 hz1 hz2
 have hlen := rowCells_len h.three
 have hone := rowCells_one L
 have hnil : ∀ (w : World) (a : Option Addr) (n c : Nat), (binOp .eql 113 (.slice a n c) (.slice none 0 0)).run Tryz.prog w = .ok (.bool a.isNone) w := fun w a n c => Lib.run_eql_slice_nil w 113 119 a n c 0 0 Tryz.underlying113
 rcases h.own.2 with ⟨e1, e2⟩ | ⟨g, cap, cur, e1, _, hg, hc, hm, _⟩
 · simp only [Value.slice.injEq] at e1
   obtain ⟨rfl, e3, rfl⟩ := e1
   have hL0 : L = [] := List.eq_nil_of_length_eq_zero e2
   subst hL0
   clear h hlen hone
   go_enter Tryz.func200, Tryz.ntmps200
   go_wp2_with fail
   go_ret
   exact ⟨none, 0, rfl, World.ownsRow_nil _ _ _ _, Below.refl _ _⟩
 · simp only [Value.slice.injEq] at e1
   obtain ⟨rfl, _, rfl⟩ := e1
   have hcs := World.ownsRow.cells h.own (g := g) rfl
   have hgl := lt_of_heap hg
   have hnews : Hid (∀ (j : Nat) u, (rowCells L)[j]? = some u → (w.alloc (.cells #[] 119)).cell? ((⟨g, 0, none⟩ : Addr).add j) = some u) := fun j u hj => World.ownsRow.cells (h.own.alloc _) (g := g) rfl j u hj
   have hown : (w.alloc (.cells #[] 119)).ownsRow w.heap.size 119 3 (.slice (some ⟨w.heap.size, 0, none⟩) 0 0) 0 [] := World.ownsRow_made w #[] 0 (Nat.le_refl _) (by unfold maxLen; omega) rfl
   clear h hg hcs
   go_enter Tryz.func200, Tryz.ntmps200
   go_wp2_with (at_builtin; refine wpList_append_own _ rfl (.tmp 5) (.tmp 6) 113 rfl w.heap.size 119 i0 _ 3 48 Tryz.underlying113 HI.out H0.out H1.out H2.out rfl (by decide) _ _ _ rfl hown ⟨g, 0, none⟩ L.length rc (rowCells L) rfl hlen hnews.out hone (by unfold maxLen; omega) (by omega) (by simp) ?_; intro v2 w2 hown2 hgrow2 _)
   go_ret
   rw [Nat.zero_add, List.nil_append] at hown2
   obtain ⟨rd', rc', rfl⟩ := ownsRow_shape hown2
   refine ⟨rd', rc', rfl, hown2, ?_⟩
   exact ((Below.refl _ _).alloc (Nat.le_refl _) _).grown hgrow2 (by simp) (fun q hq => by have hq' : some w.heap.size = some q := hq; simp only [Option.some.injEq] at hq'; omega)
set_option maxRecDepth 100000 in
set_option maxHeartbeats 2000000 in
theorem rows_any (w : World) (g : Nat) (T : TypeId) (nm : ByteArray) (pl : Nat) (rd : Option Addr) (rc : Nat) (L : List (List ByteArray)) (rest : List Value) (h : TabAt w g T nm pl rd rc L rest) (hL : L.length ≤ 999999) :
 Calls Tryz.prog 133 #[.pointer (some ⟨g, 0, none⟩)] w fun e w' => ∃ rd' rc', e = .returned (.slice rd' L.length rc') ∧ w'.ownsRow w.heap.size 119 3 (.slice rd' L.length rc') L.length (rowCells L) ∧ Below w.heap.size w w' := by
 have c2 := h.cell2.1
 have hg := lt_of_heap h.blk
 have hcl : Hid (Calls Tryz.prog 200 #[.slice rd L.length rc] w fun e w' => ∃ rd' rc', e = .returned (.slice rd' L.length rc') ∧ w'.ownsRow w.heap.size 119 3 (.slice rd' L.length rc') L.length (rowCells L) ∧ Below w.heap.size w w') := cloneRows_any w rd rc L h.rows hL
 clear h
 go_enter Tryz.func133, Tryz.ntmps133
 go_wp2_with (go_at_call 200; refine hcl.out.mono ?_; rintro e w1 ⟨rd', rc', rfl, ho, hb⟩)
 go_ret
 exact ⟨rd', rc', rfl, ho, hb⟩
end Go.Proofs.YtdmicblafmhflaaGreatDoor
/- The join of a rule's body with the facts found, as a plain function; it makes just the tuples of E0. No program here. -/
namespace Go.Proofs.YtdmicblafmhflaaGreatDoor.En
def cands (P : List Fct) (z : Fct) (turn i : Nat) : List Fct := if i = turn then [z] else if i < turn then P else P ++ [z]
def jn (P : List Fct) (z : Fct) (turn : Nat) (h : Ax.Atom) : Nat → List Ax.Atom → Bind → List Fct
 | _, [], b => [afact (val b) h]
 | i, a :: l, b => (cands P z turn i).flatMap fun f => match amatch a f b with
  | some b' => jn P z turn h (i + 1) l b'
  | none => []
def jturns (P : List Fct) (z : Fct) (r : Ax.Rule) : List Fct := (List.range r.body.length).flatMap fun turn => jn P z turn r.head 0 r.body []
theorem fm_flat {α β : Type} (f : α → Option β) : ∀ l : List α, l.filterMap f = l.flatMap fun x => (f x).toList
 | [] => rfl
 | a :: l => by
  rw [List.filterMap_cons, List.flatMap_cons, fm_flat f l]
  cases f a <;> rfl
theorem jturns_eq (P : List Fct) (z : Fct) (r : Ax.Rule) (h2 : r.body.length ≤ 2) : jturns P z r = (newT (srule r).k P z).filterMap (srule r).inst := by
 obtain ⟨hd, body⟩ := r
 match body, h2 with
 | [], _ => rfl
 | [a], _ =>
  simp only [jturns, List.length_singleton, srule, newT, fm_flat]
  show (List.range 1).flatMap _ = _
  have e : List.range 1 = [0] := rfl
  rw [e]
  simp only [List.flatMap_cons, List.flatMap_nil, List.append_nil, jn, cands, if_true, rinst, bodym]
  cases amatch a z [] <;> rfl
 | [a, c], _ =>
  simp only [jturns, srule, newT, fm_flat]
  show (List.range 2).flatMap _ = ((P ++ [z]).map (fun x => [z, x]) ++ P.map fun y => [y, z]).flatMap _
  have e : List.range 2 = [0, 1] := rfl
  rw [e, List.flatMap_append]
  simp only [List.flatMap_cons, List.flatMap_nil, List.append_nil, List.flatMap_map]
  congr 1
  · simp only [jn, cands, if_true, List.flatMap_cons, List.flatMap_nil, List.append_nil, rinst, bodym]
    cases amatch a z [] with
    | none => simp
    | some b =>
     simp only [jn, cands]
     have h1 : ¬ (0 + 1 = 0) := by omega
     have h2 : ¬ (0 + 1 < 0) := by omega
     simp only [if_neg h1, if_neg h2]
     refine congrArg (fun g => List.flatMap g (P ++ [z])) (funext fun x => ?_)
     cases amatch c x b <;> simp [jn, bodym]
  · simp only [jn, cands]
    have h1 : ¬ (0 = 1) := by omega
    have h2 : 0 < 1 := by omega
    simp only [if_neg h1, if_pos h2, rinst, bodym]
    refine congrArg (fun g => List.flatMap g P) (funext fun x => ?_)
    cases amatch a x [] with
    | none => simp
    | some b =>
     simp only [jn, cands, Nat.zero_add, if_true, List.flatMap_cons, List.flatMap_nil, List.append_nil]
     cases amatch c z b <;> simp [jn, bodym]
theorem concl_jturns (P : List Fct) (z : Fct) : ∀ (rs : List Ax.Rule), (∀ r, r ∈ rs → r.body.length ≤ 2) → rs.flatMap (jturns P z) = concl (rs.map srule) P z
 | [], _ => rfl
 | r :: rs, h => by
  rw [List.flatMap_cons, jturns_eq P z r (h r (by simp)), concl_jturns P z rs (fun q hq => h q (by simp [hq]))]
  rfl
end Go.Proofs.YtdmicblafmhflaaGreatDoor.En
/- Package follow: bindings as they lie; name, set. -/
namespace Go.Proofs.YtdmicblafmhflaaGreatDoor
open Go.RowKit
open Go.Sort (grow)
def bArr (n : Nat) (X Y : Nat → ByteArray) : Array Value := #[.int .i64 n, .string (X 0), .string (Y 0), .string (X 1), .string (Y 1), .string (X 2), .string (Y 2), .string (X 3), .string (Y 3), .string (X 4), .string (Y 4), .string (X 5), .string (Y 5)]
structure BIs (b : En.Bind) (n : Nat) (X Y : Nat → ByteArray) : Prop where
 len : b.length = n
 six : n ≤ 6
 at_ : ∀ i (h : i < b.length), b[i] = (X i, Y i)
theorem bArr_x {n : Nat} {X Y : Nat → ByteArray} {i : Nat} (h : i < 6) : (bArr n X Y)[1 + i * 2]? = some (.string (X i)) ∧ (bArr n X Y)[2 + i * 2]? = some (.string (Y i)) := by
 have : i = 0 ∨ i = 1 ∨ i = 2 ∨ i = 3 ∨ i = 4 ∨ i = 5 := by omega
 rcases this with rfl | rfl | rfl | rfl | rfl | rfl <;> exact ⟨rfl, rfl⟩
def upd (X : Nat → ByteArray) (n : Nat) (x : ByteArray) : Nat → ByteArray := fun i => if i = n then x else X i
theorem bArr_set {n : Nat} (X Y : Nat → ByteArray) (x y : ByteArray) (h : n < 6) : (((bArr n X Y).setIfInBounds (1 + n * 2) (.string x)).setIfInBounds (2 + n * 2) (.string y)).setIfInBounds 0 (.int .i64 ((n : Int) + 1)) = bArr (n + 1) (upd X n x) (upd Y n y) := by
 have : n = 0 ∨ n = 1 ∨ n = 2 ∨ n = 3 ∨ n = 4 ∨ n = 5 := by omega
 rcases this with rfl | rfl | rfl | rfl | rfl | rfl <;> rfl
theorem BIs.snoc {b : En.Bind} {n : Nat} {X Y : Nat → ByteArray} (h : BIs b n X Y) (hn : n < 6) (x y : ByteArray) : BIs (b ++ [(x, y)]) (n + 1) (upd X n x) (upd Y n y) where
 len := by rw [List.length_append, h.len]; rfl
 six := by omega
 at_ := by
  intro i hi
  rw [List.length_append, List.length_singleton] at hi
  by_cases e : i < b.length
  · rw [List.getElem_append_left e, h.at_ i e]
    have : i ≠ n := by have := h.len; omega
    simp [upd, this]
  · have e2 : i = n := by have := h.len; omega
    subst e2
    rw [List.getElem_append_right (by omega)]
    simp [upd]
theorem bis_nil : BIs [] 0 (fun _ => ⟨#[]⟩) (fun _ => ⟨#[]⟩) := ⟨rfl, by omega, fun i h => by simp at h⟩
theorem val_of {b : En.Bind} {n : Nat} {X Y : Nat → ByteArray} (h : BIs b n X Y) {x : ByteArray} : ∀ k, k ≤ n → (∀ i, i < k → X i ≠ x) → En.val b x = En.val (b.drop k) x
 | 0, _, _ => by rw [List.drop_zero]
 | k + 1, hk, hn => by
  have hl := h.len
  rw [val_of h k (by omega) (fun i hi => hn i (by omega)), List.drop_eq_getElem_cons (by omega), h.at_ k (by omega), En.val, if_neg (hn k (by omega))]
set_option maxRecDepth 100000 in
set_option maxHeartbeats 2000000 in
theorem name_any (w : World) (g n : Nat) (X Y : Nat → ByteArray) (b : En.Bind) (hb : BIs b n X Y) (t : Ax.Term) (hk : t.kind = 0 ∨ t.kind = 1) (hg : w.heap[g]? = some (.cells (bArr n X Y) 369 (0, 0))) :
 Calls Tryz.prog 286 #[.pointer (some ⟨g, 0, none⟩), .agg #[.int .i64 t.kind, .string t.text]] w fun e w' => e = .returned (.string (En.tval (En.val b) t)) ∧ Below w.heap.size w w' := by
 obtain ⟨kd, tx⟩ := t
 have hn6 := hb.six
 have hgl := lt_of_heap hg
 have c0 : w.cell? ⟨g, 0, none⟩ = some (.int .i64 n) := by rw [cell_of_row _ _ 0 _ _ _ hg]; rfl
 have hnl : ¬ (6 : Int) < (n : Int) := by omega
 rcases hk with hk | hk <;> simp only at hk <;> subst hk
 · have hv : En.tval (En.val b) ⟨0, tx⟩ = tx := by simp [En.tval]
   rw [hv]
   clear hb hv
   go_enter Tryz.func286, Tryz.ntmps286
   go_wp2_with fail
   go_ret
   exact ⟨rfl, (Below.refl _ _).alloc (Nat.le_refl _) _⟩
 · have hv : En.tval (En.val b) ⟨1, tx⟩ = En.val b tx := by simp [En.tval]
   rw [hv]
   generalize hR : En.val b tx = R
   obtain ⟨w0, hw0⟩ : ∃ w0, w0 = w.alloc (.cells #[.int .i64 1, .string tx] 310) := ⟨_, rfl⟩
   have hb0 : Below w.heap.size w w0 := by rw [hw0]; exact (Below.refl _ _).alloc (Nat.le_refl _) _
   have hbx : w0.heap[w.heap.size]? = some (.cells #[.int .i64 1, .string tx] 310 (0, 0)) := by rw [hw0]; exact heap_alloc_new w _
   have hg0 : w0.heap[g]? = some (.cells (bArr n X Y) 369 (0, 0)) := by rw [hb0.block g hgl]; exact hg
   have hs0 : w0.heap.size = w.heap.size + 1 := by rw [hw0]; simp
   have t0 : w0.cell? ⟨w.heap.size, 0, none⟩ = some (.int .i64 1) := by rw [cell_of_row _ _ 0 _ _ _ hbx]; rfl
   have c00 : w0.cell? ⟨g, 0, none⟩ = some (.int .i64 n) := by rw [cell_of_row _ _ 0 _ _ _ hg0]; rfl
   have c01 : (w0.cell? ⟨g, 1, none⟩).isSome = true := by rw [cell_of_row _ _ 1 _ _ _ hg0]; rfl
   have hgl0 : g < w0.heap.size := by omega
   have k0 := cell_regrown c00
   clear c0 hv
   go_enter Tryz.func286, Tryz.ntmps286
   go_wp2_with fail
   rw [← hw0]
   clear hw0
   refine wp_region_quiet_below (by kernel_rfl) (by kernel_rfl) ?_
   repeat (quiet_step (fail))
   refine wpQuiet_nil ?_
   intro _ hw'
   obtain ⟨⟨dq, osq⟩, hw''⟩ := hw'
   subst hw''
   have hbq := below_regrown w0 dq osq
   generalize grow (redrawn w0 dq) osq = wq at hbq ⊢
   clear k0 c00 c01 t0
   go_wp2_with fail
   go_loopw [21] (fun i wr => ∃ k : Nat, k ≤ n ∧ i = .int .i64 k ∧ Below w0.heap.size w0 wr ∧ ∀ j, j < k → X j ≠ tx) (fun i _ => n - (intOf i).toNat)
   case atStart => exact ⟨0, Nat.zero_le _, rfl, hbq, fun j hj => by omega⟩
   case round =>
    obtain ⟨k, hkn, rfl, hbel, hno⟩ := hrel
    have HNO : Hid (∀ j, j < k → X j ≠ tx) := hno
    clear hno
    have hs1 := hbel.size
    by_cases hlt : k < n
    · have hgr : wr.heap[g]? = some (.cells (bArr n X Y) 369 (0, 0)) := by rw [hbel.block g hgl0]; exact hg0
      have hbr : wr.heap[w.heap.size]? = some (.cells #[.int .i64 1, .string tx] 310 (0, 0)) := by rw [hbel.block _ (by omega)]; exact hbx
      have d0 : wr.cell? ⟨g, 1 + k * 2, none⟩ = some (.string (X k)) := by rw [cell_of_row _ _ _ _ _ _ hgr]; exact (bArr_x (by omega)).1
      have d1 : wr.cell? ⟨g, 1 + k * 2 + 1, none⟩ = some (.string (Y k)) := by rw [cell_of_row _ _ _ _ _ _ hgr, show 1 + k * 2 + 1 = 2 + k * 2 by omega]; exact (bArr_x (by omega)).2
      have e1 : wr.cell? ⟨w.heap.size, 1, none⟩ = some (.string tx) := by rw [cell_of_row _ _ 1 _ _ _ hbr]; rfl
      have hwl : w.heap.size < wr.heap.size := by omega
      have hgl1 : g < wr.heap.size := by omega
      clear hgr hbr
      by_cases hx : X k = tx
      · have hbb : ((X k).toList == tx.toList) = true := by rw [beq_bytes]; simp [hx]
        have HF : Hid (R = Y k) := by
         rw [← hR, val_of hb k (by omega) HNO.out, List.drop_eq_getElem_cons (by have := hb.len; omega), hb.at_ k (by have := hb.len; omega), En.val, if_pos hx]
         rfl
        clear hR hx
        go_wp2_with fail
        go_ret
        refine ⟨by rw [HF.out]; rfl, hb0.trans (Below.mono ?_ hb0.size)⟩
        exact hbel.alloc hs1 _
      · have hbb : ((X k).toList == tx.toList) = false := by rw [beq_bytes]; simp [hx]
        have HX : Hid (X k ≠ tx) := hx
        clear hx
        go_wp2_with fail
        go_roundw
        case rel =>
         refine ⟨k + 1, by omega, by go_num, ?_, fun j hj => ?_⟩
         · exact hbel.alloc hs1 _
         · by_cases e : j = k
           · subst e; exact HX.out
           · exact HNO.out j (by omega)
        case measure => simp [intOf]; omega
    · have HF : Hid (R = ⟨#[]⟩) := by
       rw [← hR, val_of hb k (by omega) HNO.out, List.drop_of_length_le (by have := hb.len; omega)]
       rfl
      clear hR
      go_wp2_with fail
      go_ret
      exact ⟨by rw [HF.out]; rfl, hb0.trans (hbel.mono hb0.size)⟩
theorem two_set {w : World} {g : Nat} {cur : Array Value} {T : TypeId} (h : w.heap[g]? = some (.cells cur T (0, 0))) (i j k : Nat) (x y z : Value) :
 (((w.setCell ⟨g, i, none⟩ x).setCell ⟨g, j, none⟩ y).setCell ⟨g, k, none⟩ z).heap[g]? = some (.cells (((cur.setIfInBounds i x).setIfInBounds j y).setIfInBounds k z) T (0, 0)) ∧ Kb [g] w (((w.setCell ⟨g, i, none⟩ x).setCell ⟨g, j, none⟩ y).setCell ⟨g, k, none⟩ z) := by
 have h1 := setCell_heap w h i x
 have h2 := setCell_heap _ h1 j y
 have h3 := setCell_heap _ h2 k z
 exact ⟨h3, ((Kb.setCell w ⟨g, i, none⟩ x).trans (Kb.setCell _ ⟨g, j, none⟩ y)).trans (Kb.setCell _ ⟨g, k, none⟩ z)⟩
theorem Kb.drewL {S : List Nat} {w w' : World} (h : Kb S w.drew w') : Kb S w w' := ⟨h.os, h.tape, h.output, h.size, h.block⟩
set_option maxRecDepth 100000 in
set_option maxHeartbeats 2000000 in
theorem set_any (w : World) (g n : Nat) (X Y : Nat → ByteArray) (x y : ByteArray) (hn : n < 6) (hg : w.heap[g]? = some (.cells (bArr n X Y) 369 (0, 0))) :
 Calls Tryz.prog 287 #[.pointer (some ⟨g, 0, none⟩), .string x, .string y] w fun e w' => e = .returned (.tuple #[]) ∧ w'.heap[g]? = some (.cells (bArr (n + 1) (upd X n x) (upd Y n y)) 369 (0, 0)) ∧ Kb [g] w w' := by
 have hgl := lt_of_heap hg
 have c0 : w.cell? ⟨g, 0, none⟩ = some (.int .i64 n) := by rw [cell_of_row _ _ 0 _ _ _ hg]; rfl
 have cx : w.cell? ⟨g, 1 + n * 2, none⟩ = some (.string (X n)) := by rw [cell_of_row _ _ _ _ _ _ hg]; exact (bArr_x hn).1
 have cy : w.cell? ⟨g, 1 + n * 2 + 1, none⟩ = some (.string (Y n)) := by rw [cell_of_row _ _ _ _ _ _ hg, show 1 + n * 2 + 1 = 2 + n * 2 by omega]; exact (bArr_x hn).2
 have fz : ∀ o, w.frozen? ⟨g, o, none⟩ = false := fun o => by simp [World.frozen?, hg]
 have hn1 : n ≤ 6 := by omega
 have key := two_set hg (1 + n * 2) (2 + n * 2) 0 (.string x) (.string y) (.int .i64 ((n : Int) + 1))
 rw [bArr_set X Y x y hn, show 2 + n * 2 = 1 + n * 2 + 1 by omega] at key
 go_enter Tryz.func287, Tryz.ntmps287
 go_wp2_with fail
 go_region
 all_goals (go_wp2_with fail)
 go_end0
 exact ⟨rfl, key.1, key.2.drew⟩
end Go.Proofs.YtdmicblafmhflaaGreatDoor
