/- Package follow: join. -/
import Derived.Test.YtdmicblafmhflaaGreatDoorC26
set_option linter.unusedSimpArgs false
set_option linter.unusedVariables false
namespace Go.Proofs.YtdmicblafmhflaaGreatDoor
open Go.RowKit Go.Maps Go.WideMaps Go.WideElems
open Go.Sort (grow)
theorem matchJ (w : World) (b0 : En.Bind) (n0 : Nat) (X0 Y0 : Nat → ByteArray) (hb0 : BIs b0 n0 X0 Y0) (a : Ax.Atom) (ad : Option Addr) (ac : Nat) (pr x y z : ByteArray)
 (ha : MA.ok w (a, .slice ad a.terms.length ac)) (hok : AOk a) (hn : n0 + a.terms.length ≤ 6) :
 Calls Tryz.prog 266 #[.agg (bArr n0 X0 Y0), .agg #[.int .i64 a.at_, .string a.pred, .slice ad a.terms.length ac], .agg #[.string pr, .string x, .string y, .string z]] w fun e w' => ∃ n1 X1 Y1 ok, e = .returned (.tuple #[.agg (bArr n1 X1 Y1), .bool ok]) ∧ Below w.heap.size w w' ∧
  Hid ((ok = false ∧ En.amatch a (pr, [x, y, z]) b0 = none) ∨ (ok = true ∧ ∃ b1, En.amatch a (pr, [x, y, z]) b0 = some b1 ∧ BIs b1 n1 X1 Y1 ∧ n1 ≤ n0 + a.terms.length)) := by
 refine (match_any w b0 n0 X0 Y0 hb0 a ad ac pr x y z ha hok.kinds hok.three hn).mono ?_
 rintro e w' ⟨h1, ⟨h2, rfl⟩ | ⟨b1, n1, X1, Y1, h2, h3, h4, rfl⟩⟩
 · exact ⟨_, _, _, _, rfl, h1, .inl ⟨rfl, h2⟩⟩
 · exact ⟨_, _, _, _, rfl, h1, .inr ⟨rfl, b1, h2, h3, h4⟩⟩
theorem fcell_get {l : List En.Fct} (h : Four l) {k : Nat} (hk : k < l.length) {p a b c : ByteArray} (e : l[k] = (p, [a, b, c])) :
 (factCells l)[k * 4]? = some (.string p) ∧ (factCells l)[k * 4 + 1]? = some (.string a) ∧ (factCells l)[k * 4 + 2]? = some (.string b) ∧ (factCells l)[k * 4 + 3]? = some (.string c) := by
 induction l generalizing k with
 | nil => simp at hk
 | cons f l ih =>
  have hl : (fCells f).length = 4 := by simp [fCells, h f (by simp)]
  have hsh : ∀ j, (factCells (f :: l))[j + 4]? = (factCells l)[j]? := by
   intro j
   have : factCells (f :: l) = fCells f ++ factCells l := by simp [factCells]
   rw [this, List.getElem?_append_right (by omega)]
   congr 1
   omega
  cases k with
  | zero =>
   simp only [List.getElem_cons_zero] at e
   subst e
   simp [factCells, fCells]
  | succ k =>
   have := ih (fun x hx => h x (by simp [hx])) (k := k) (by simpa using hk) (by simpa using e)
   rw [show (k + 1) * 4 = k * 4 + 4 by omega, show k * 4 + 4 + 1 = k * 4 + 1 + 4 by omega, show k * 4 + 4 + 2 = k * 4 + 2 + 4 by omega, show k * 4 + 4 + 3 = k * 4 + 3 + 4 by omega, hsh, hsh, hsh, hsh]
   exact this
structure RAtW (w : World) (a : Ax.Atom) (ad : Option Addr) (ac : Nat) (bd : Option Addr) (bc : Nat) (body : List MA) : Prop where
 mr : MR.ok w ⟨(a, .slice ad a.terms.length ac), .slice bd body.length bc, body⟩
 head : AOk a
 atoms : ∀ x, x ∈ body → AOk x.1
 two : body.length ≤ 2
theorem RAtW.below {w w' : World} {a : Ax.Atom} {ad : Option Addr} {ac : Nat} {bd : Option Addr} {bc : Nat} {body : List MA} (h : RAtW w a ad ac bd bc body) (hb : Below w.heap.size w w') : RAtW w' a ad ac bd bc body := ⟨MR.below h.mr hb, h.head, h.atoms, h.two⟩
theorem MA.keptS {w w' : World} {S : List Nat} {x : MA} (h : MA.ok w x) (hk : Kb S w w') (hS : ∀ b cur, b ∈ S → w.heap[b]? = some (.cells cur 310 (0, 0)) → False) : MA.ok w' x := by
 refine hk.row h ?_
 intro b hb hm
 obtain ⟨cur, e⟩ := block_type h hb
 exact hS b cur hm e
theorem RAtW.search {w w' : World} {sb mb : Nat} {rv : Value} {fd : Option Addr} {fc : Nat} {T : List HT} {s s' : En.Sea En.Fct} {a : Ax.Atom} {ad : Option Addr} {ac : Nat} {bd : Option Addr} {bc : Nat} {body : List MA} (h : RAtW w a ad ac bd bc body) (h0 : SAt w sb mb rv fd fc T s) (hs : SOn w w' sb mb rv fd fc T s s') : RAtW w' a ad ac bd bc body := by
 have hno : ∀ b cur U, b ∈ sfoot sb fd fc s.found.length T → w.heap[b]? = some (.cells cur U (0, 0)) → U = 322 ∨ U = 325 ∨ U = 117 ∨ U = 119 ∨ U = 3 := by
  intro b cur U hb e
  obtain ⟨cur', U', e', hU⟩ := sfoot_types h0 hb
  rw [e] at e'
  simp only [Option.some.injEq, Obj.cells.injEq] at e'
  rw [e'.2.1]
  exact hU
 have hT : ∀ b cur, b ∈ sfoot sb fd fc s.found.length T → w.heap[b]? = some (.cells cur 310 (0, 0)) → False := by
  intro b cur hb e
  have := hno b cur _ hb e
  rcases this with e | e | e | e | e <;> cases e
 refine ⟨⟨MA.keptS h.mr.1 hs.kept hT, hs.kept.row h.mr.2.1 ?_, fun x hx => MA.keptS (h.mr.2.2 x hx) hs.kept hT⟩, h.head, h.atoms, h.two⟩
 intro b hb hm
 obtain ⟨cur, e⟩ := block_type h.mr.2.1 hb
 have := hno b cur _ hm e
 rcases this with e | e | e | e | e <;> cases e
theorem mem_split_nm {T : List HT} {p : ByteArray} (h : p ∈ T.map HT.nm) : ∃ A t B, T = A ++ t :: B ∧ p = t.nm := by
 obtain ⟨t, ht, rfl⟩ := List.mem_map.1 h
 obtain ⟨A, B, e⟩ := List.append_of_mem ht
 exact ⟨A, t, B, e, rfl⟩
theorem nm_of_key {T T' : List HT} (h : T'.map HT.key = T.map HT.key) : T'.map HT.nm = T.map HT.nm := by
 have e : ∀ l : List HT, l.map HT.nm = (l.map HT.key).map Prod.fst := fun l => by rw [List.map_map]; rfl
 rw [e, e, h]
theorem jw_made (w : World) (o1 o2 : Obj) : Below w.heap.size w ((w.alloc o1).alloc o2) ∧ ((w.alloc o1).alloc o2).heap.size = w.heap.size + 2 ∧ ((w.alloc o1).alloc o2).heap[w.heap.size]? = some o1 ∧ ((w.alloc o1).alloc o2).heap[w.heap.size + 1]? = some o2 := by
 refine ⟨((Below.refl _ _).alloc (Nat.le_refl _) _).alloc (by simp) _, by simp, ?_, new2 w _ _⟩
 rw [Below.heap_alloc _ _ _ (by simp)]
 exact heap_alloc_new w _
set_option maxRecDepth 100000 in
set_option maxHeartbeats 4000000 in
theorem join_end (w : World) (sb mb : Nat) (rv : Value) (fd : Option Addr) (fc : Nat) (T : List HT) (s : En.Sea En.Fct) (h : SAt w sb mb rv fd fc T s) (hF : s.found.length ≤ 999990) (hC : ∀ f, s.count f ≤ 1000000000000)
 (a : Ax.Atom) (ad : Option Addr) (ac : Nat) (bd : Option Addr) (bc : Nat) (body : List MA) (hr : RAtW w a ad ac bd bc body) (hp : a.pred ∈ T.map HT.nm) (b : En.Bind) (n : Nat) (X Y : Nat → ByteArray) (hb : BIs b n X Y) (turn newest : Nat) :
 Calls Tryz.prog 232 #[.pointer (some ⟨sb, 0, none⟩), .agg #[.int .i64 a.at_, .string a.pred, .slice ad a.terms.length ac, .slice bd body.length bc], .int .i64 body.length, .int .i64 turn, .int .i64 newest, .agg (bArr n X Y)] w fun e w' => e = .returned (.tuple #[]) ∧ SOn w w' sb mb rv fd fc T s (En.hold s (En.afact (En.val b) a) 1) := by
 obtain ⟨A, t, B, rfl, hpn⟩ := mem_split_nm hp
 have hcl : Hid (∀ W : World, Below w.heap.size w W → Calls Tryz.prog 231 #[.pointer (some ⟨sb, 0, none⟩), .agg #[.int .i64 a.at_, .string a.pred, .slice ad a.terms.length ac, .slice bd body.length bc], .agg (bArr n X Y)] W fun e w' => e = .returned (.tuple #[]) ∧ SOn w w' sb mb rv fd fc (A ++ t :: B) s (En.hold s (En.afact (En.val b) a) 1)) := by
  intro W hW
  refine (conclude_any W sb mb rv fd fc A B t s (h.below hW) hF hC a ad ac _ (hr.below hW).mr.1 hr.head hpn b n X Y hb bd body.length bc rfl).mono ?_
  rintro e w' ⟨rfl, h1⟩
  exact ⟨rfl, h1.pre hW h⟩
 generalize En.hold s (En.afact (En.val b) a) 1 = s' at hcl ⊢
 clear h hr hp hb hF hC hpn
 go_enter Tryz.func232, Tryz.ntmps232
 go_upto_region 1 with fail
 obtain ⟨jb, js, jr, jx⟩ := jw_made w (.cells #[.int .i64 a.at_, .string a.pred, .slice ad a.terms.length ac, .slice bd body.length bc] 222) (.cells (bArr n X Y) 369)
 generalize (w.alloc (.cells #[.int .i64 a.at_, .string a.pred, .slice ad a.terms.length ac, .slice bd body.length bc] 222)).alloc (.cells (bArr n X Y) 369) = w0 at jb js jr jx ⊢
 have HJB : Hid (Below w.heap.size w w0) := jb
 have hwl : w.heap.size < w0.heap.size := by omega
 have hwl1 : w.heap.size + 1 < w0.heap.size := by omega
 have r0 : w0.cell? ⟨w.heap.size, 0, none⟩ = some (.int .i64 a.at_) := by rw [cell_of_row _ _ _ _ _ _ jr]; rfl
 have r1 : w0.cell? ⟨w.heap.size, 1, none⟩ = some (.string a.pred) := by rw [cell_of_row _ _ _ _ _ _ jr]; rfl
 have r2 : w0.cell? ⟨w.heap.size, 2, none⟩ = some (.slice ad a.terms.length ac) := by rw [cell_of_row _ _ _ _ _ _ jr]; rfl
 have r3 : w0.cell? ⟨w.heap.size, 3, none⟩ = some (.slice bd body.length bc) := by rw [cell_of_row _ _ _ _ _ _ jr]; rfl
 have q0 : w0.cell? ⟨w.heap.size + 1, 0, none⟩ = some (.int .i64 n) := by rw [cell_of_row _ _ _ _ _ _ jx]; rfl
 have q1 : w0.cell? ⟨w.heap.size + 1, 1, none⟩ = some (.string (X 0)) := by rw [cell_of_row _ _ _ _ _ _ jx]; rfl
 have q2 : w0.cell? ⟨w.heap.size + 1, 2, none⟩ = some (.string (Y 0)) := by rw [cell_of_row _ _ _ _ _ _ jx]; rfl
 have q3 : w0.cell? ⟨w.heap.size + 1, 3, none⟩ = some (.string (X 1)) := by rw [cell_of_row _ _ _ _ _ _ jx]; rfl
 have q4 : w0.cell? ⟨w.heap.size + 1, 4, none⟩ = some (.string (Y 1)) := by rw [cell_of_row _ _ _ _ _ _ jx]; rfl
 have q5 : w0.cell? ⟨w.heap.size + 1, 5, none⟩ = some (.string (X 2)) := by rw [cell_of_row _ _ _ _ _ _ jx]; rfl
 have q6 : w0.cell? ⟨w.heap.size + 1, 6, none⟩ = some (.string (Y 2)) := by rw [cell_of_row _ _ _ _ _ _ jx]; rfl
 have q7 : w0.cell? ⟨w.heap.size + 1, 7, none⟩ = some (.string (X 3)) := by rw [cell_of_row _ _ _ _ _ _ jx]; rfl
 have q8 : w0.cell? ⟨w.heap.size + 1, 8, none⟩ = some (.string (Y 3)) := by rw [cell_of_row _ _ _ _ _ _ jx]; rfl
 have q9 : w0.cell? ⟨w.heap.size + 1, 9, none⟩ = some (.string (X 4)) := by rw [cell_of_row _ _ _ _ _ _ jx]; rfl
 have q10 : w0.cell? ⟨w.heap.size + 1, 10, none⟩ = some (.string (Y 4)) := by rw [cell_of_row _ _ _ _ _ _ jx]; rfl
 have q11 : w0.cell? ⟨w.heap.size + 1, 11, none⟩ = some (.string (X 5)) := by rw [cell_of_row _ _ _ _ _ _ jx]; rfl
 have q12 : w0.cell? ⟨w.heap.size + 1, 12, none⟩ = some (.string (Y 5)) := by rw [cell_of_row _ _ _ _ _ _ jx]; rfl
 clear jb jr jx
 have hArr : bArr n X Y = #[.int .i64 n, .string (X 0), .string (Y 0), .string (X 1), .string (Y 1), .string (X 2), .string (Y 2), .string (X 3), .string (Y 3), .string (X 4), .string (Y 4), .string (X 5), .string (Y 5)] := rfl
 rw [hArr] at hcl
 clear hArr
 go_wp2_with (first | (go_at_call 231; refine (hcl.out _ (by exact HJB.out)).mono ?_; rintro e w2 ⟨rfl, hson⟩))
 exact bodyPost_ret (v := .tuple #[]) (by simp [results, Tryz.results232, go_sem]) rfl ⟨rfl, hson⟩
end Go.Proofs.YtdmicblafmhflaaGreatDoor
