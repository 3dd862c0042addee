/- Read. -/
import Derived.Test.YtdmicblafmhflaaN7
import Derived.Test.YtdmicblafmhflaaB1
import Derived.Test.YtdmicblafmhflaaB2
import Derived.Test.YtdmicblafmhflaaPP
namespace Go.Proofs.Ytdmicblafmhflaa
set_option linter.unusedSimpArgs false
set_option linter.unusedVariables false
open Go.RowKit

theorem rules_none (w : World) (pb : Nat) (tv : Value) (toks : List Ax.Tok) (nx j : Nat) (h : PAt w pb tv toks nx) (hR : Hid (Ax.pRules toks toks.length nx [] = (none, j))) :
    Calls Try.prog 24 #[.pointer (some ⟨pb, 0, none⟩)] w fun e w' => e = .returned (.tuple #[.slice none 0 0, .bool false]) ∧ PAt w' pb tv toks j ∧ w.grownBy w' (some pb) := by
  refine (rules_any w pb tv toks nx h).mono ?_
  rintro e w' ⟨hp, hg, hc⟩
  rw [hR.out] at hp hc
  rcases hc with ⟨v, ts, _, hn, _⟩ | ⟨rfl, _⟩
  · simp at hn
  · exact ⟨rfl, hp, hg⟩
theorem rules_some (w : World) (pb : Nat) (tv : Value) (toks : List Ax.Tok) (nx j : Nat) (rs : List Ax.Rule) (h : PAt w pb tv toks nx) (hR : Hid (Ax.pRules toks toks.length nx [] = (some rs, j))) :
    Calls Try.prog 24 #[.pointer (some ⟨pb, 0, none⟩)] w fun e w' => ∃ rd rc l, e = .returned (.tuple #[.slice rd (List.length l) rc, .bool true]) ∧ Hid (l.map MR.rule = rs) ∧ PAt w' pb tv toks j ∧ w.grownBy w' (some pb) ∧ w'.ownsRow 0 92 4 (.slice rd l.length rc) l.length (ruleCells l) ∧ mrs w' l := by
  refine (rules_any w pb tv toks nx h).mono ?_
  rintro e w' ⟨hp, hg, hc⟩
  rw [hR.out] at hp hc
  rcases hc with ⟨v, l, rfl, hn, hown, hok⟩ | ⟨_, hn⟩
  · obtain ⟨a, c, rfl⟩ := ownsRow_shape hown
    simp only [Option.some.injEq] at hn
    exact ⟨a, c, l, rfl, hn.symm, hp, hg, ownsRow_base hown (Nat.zero_le _), hok⟩
  · simp at hn

theorem PAt.first {s : ByteArray} {w1 : World} {td : Option Addr} {tc bs : Nat} (h : w1.ownsRow bs 66 3 (.slice td (Ax.split s).length tc) (Ax.split s).length (tokCells (Ax.split s))) (hs : s.size ≤ 600) :
    PAt (w1.alloc (.cells #[.slice td (Ax.split s).length tc, .int .i64 0] 61)) w1.heap.size (.slice td (Ax.split s).length tc) (Ax.split s) 0 :=
  ⟨heap_alloc_new _ _, ownsRow_base (h.alloc _) (Nat.zero_le _), Ax.split_pos s, by have := Ax.split_length s; omega, Ax.split_ends s⟩

theorem read_world1 {w w1 : World} {o : Obj} (hb : Below (w.alloc o).heap.size (w.alloc o) w1) : w1.heap[w.heap.size]? = some o ∧ Below w.heap.size w w1 ∧ w.heap.size < w1.heap.size := by
  have hs := hb.size
  simp only [World.size_alloc] at hs
  exact ⟨(hb.block _ (by simp)).trans (heap_alloc_new _ _), ((Below.refl _ _).alloc (Nat.le_refl _) _).trans (hb.mono (by simp)), by omega⟩
theorem read_world2 {w w1 w2 : World} {o o2 : Obj} (r1 : w1.heap[w.heap.size]? = some o) (g1 : Below w.heap.size w w1) (hg : (w1.alloc o2).grownBy w2 (some w1.heap.size)) :
    w2.heap[w.heap.size]? = some o ∧ Below w.heap.size w w2 ∧ w1.heap.size < w2.heap.size := by
  have hlt := lt_of_heap r1
  have hs := hg.size
  simp only [World.size_alloc] at hs
  refine ⟨?_, ?_, by omega⟩
  · rw [hg.block _ (by simp; omega) (by simp; omega), Below.heap_alloc _ _ _ hlt]
    exact r1
  · exact (g1.alloc (by omega) o2).grown hg (by simp; omega) (fun k hk => by cases hk; omega)
theorem read_world3 {w w2 w3 : World} {o : Obj} (r2 : w2.heap[w.heap.size]? = some o) (b2 : Below w.heap.size w w2) (hb : Below w2.heap.size w2 w3) : w3.heap[w.heap.size]? = some o ∧ Below w.heap.size w w3 :=
  ⟨(hb.block _ (lt_of_heap r2)).trans r2, b2.trans (hb.mono b2.size)⟩
theorem two_stores45 {w w2 : World} {k : Nat} {a b : Value} {T : TypeId} (r2 : w2.heap[k]? = some (.cells #[a, b] T (0, 0))) (c d : Value) (gw : Below w.heap.size w w2) (hk : w.heap.size ≤ k) :
    ((w2.setCell ⟨k, 0, none⟩ c).setCell ⟨k, 1, none⟩ d).heap[k]? = some (.cells #[c, d] T (0, 0)) ∧ Below w.heap.size w ((w2.setCell ⟨k, 0, none⟩ c).setCell ⟨k, 1, none⟩ d) := by
  have h0 := heap_setCell_same (off := 0) r2 c
  have h1 := heap_setCell_same (off := 1) h0 d
  exact ⟨by rw [h1]; rfl, (gw.setCell (p := ⟨k, 0, none⟩) hk c).setCell (p := ⟨k, 1, none⟩) hk d⟩

theorem RulesIn.of_fits {w : World} {rd : Option Addr} {rc : Nat} {l : List MR} {rs : List Ax.Rule} (h : w.ownsRow 0 92 4 (.slice rd l.length rc) l.length (ruleCells l)) (hm : mrs w l) (hl : l.map MR.rule = rs) (hf : Hid (rs.length ≤ 1000 ∧ ∀ r, r ∈ rs → Ax.Fits 600 1000 r)) : RulesIn w rd rc l := by
  refine ⟨h, hm, fun r hr => ?_⟩
  have := (hf.out.2 r.rule (by rw [← hl]; exact List.mem_map.2 ⟨r, hr, rfl⟩)).1
  simpa [MR.rule] using this
theorem RulesIn.len {l : List MR} {rs : List Ax.Rule} (hl : l.map MR.rule = rs) (hf : Hid (rs.length ≤ 1000 ∧ ∀ r, r ∈ rs → Ax.Fits 600 1000 r)) : l.length ≤ 1000 := by
  have := hf.out.1
  rw [← hl] at this
  simpa using this
theorem RulesIn.preds {l : List MR} {rs : List Ax.Rule} (hl : l.map MR.rule = rs) (hf : Hid (rs.length ≤ 1000 ∧ ∀ r, r ∈ rs → Ax.Fits 600 1000 r)) : Hid (∀ a, a ∈ (l.map MR.rule).flatMap Ax.Rule.atoms → a.pred.size ≤ 600) := by
  intro a ha
  rw [hl] at ha
  obtain ⟨r, hr, ha⟩ := List.mem_flatMap.1 ha
  exact (hf.out.2 r hr).2 a ha

theorem tooMany_some (w : World) (rd : Option Addr) (rc : Nat) (l : List MR) (p : Nat) (h : RulesIn w rd rc l) (hp : Ax.tooMany 0 [] (l.map MR.rule) = some p) :
    Calls Try.prog 26 #[.slice rd l.length rc] w fun e w' => e = .returned (.tuple #[.int .i64 p, .bool true]) ∧ Below w.heap.size w w' := by
  refine (tooMany_any w rd rc l h).mono ?_
  rintro e w' ⟨hb, hc⟩
  rw [hp] at hc
  rcases hc with ⟨q, hq, rfl⟩ | ⟨hq, _⟩
  · simp only [Option.some.injEq] at hq; subst hq; exact ⟨rfl, hb⟩
  · simp at hq
theorem tooMany_none (w : World) (rd : Option Addr) (rc : Nat) (l : List MR) (h : RulesIn w rd rc l) (hp : Ax.tooMany 0 [] (l.map MR.rule) = none) :
    Calls Try.prog 26 #[.slice rd l.length rc] w fun e w' => e = .returned (.tuple #[.int .i64 0, .bool false]) ∧ Below w.heap.size w w' := by
  refine (tooMany_any w rd rc l h).mono ?_
  rintro e w' ⟨hb, hc⟩
  rw [hp] at hc
  rcases hc with ⟨q, hq, _⟩ | ⟨_, rfl⟩
  · simp at hq
  · exact ⟨rfl, hb⟩
theorem openHead_some (w : World) (rd : Option Addr) (rc : Nat) (l : List MR) (p : Nat) (h : RulesIn w rd rc l) (hp : Ax.openHead (l.map MR.rule) = some p) :
    Calls Try.prog 28 #[.slice rd l.length rc] w fun e w' => e = .returned (.tuple #[.int .i64 p, .bool true]) ∧ Below w.heap.size w w' := by
  refine (openHead_any w rd rc l h).mono ?_
  rintro e w' ⟨hb, hc⟩
  rw [hp] at hc
  rcases hc with ⟨q, hq, rfl⟩ | ⟨hq, _⟩
  · simp only [Option.some.injEq] at hq; subst hq; exact ⟨rfl, hb⟩
  · simp at hq
theorem openHead_none (w : World) (rd : Option Addr) (rc : Nat) (l : List MR) (h : RulesIn w rd rc l) (hp : Ax.openHead (l.map MR.rule) = none) :
    Calls Try.prog 28 #[.slice rd l.length rc] w fun e w' => e = .returned (.tuple #[.int .i64 0, .bool false]) ∧ Below w.heap.size w w' := by
  refine (openHead_any w rd rc l h).mono ?_
  rintro e w' ⟨hb, hc⟩
  rw [hp] at hc
  rcases hc with ⟨q, hq, _⟩ | ⟨_, rfl⟩
  · simp at hq
  · exact ⟨rfl, hb⟩
theorem twoArities_some (w : World) (rd : Option Addr) (rc : Nat) (l : List MR) (p : Nat) (h : RulesIn w rd rc l) (hll : l.length ≤ 1000) (hpr : Hid (∀ a, a ∈ (l.map MR.rule).flatMap Ax.Rule.atoms → a.pred.size ≤ 600)) (hp : Ax.twoAr [] ((l.map MR.rule).flatMap Ax.Rule.atoms) = some p) :
    Calls Try.prog 27 #[.slice rd l.length rc] w fun e w' => e = .returned (.tuple #[.int .i64 p, .bool true]) ∧ Below w.heap.size w w' := by
  refine (twoArities_any w rd rc l h hll hpr.out).mono ?_
  rintro e w' ⟨hb, hc⟩
  rw [hp] at hc
  rcases hc with ⟨q, hq, rfl⟩ | ⟨hq, _⟩
  · simp only [Option.some.injEq] at hq; subst hq; exact ⟨rfl, hb⟩
  · simp at hq
theorem twoArities_none (w : World) (rd : Option Addr) (rc : Nat) (l : List MR) (h : RulesIn w rd rc l) (hll : l.length ≤ 1000) (hpr : Hid (∀ a, a ∈ (l.map MR.rule).flatMap Ax.Rule.atoms → a.pred.size ≤ 600)) (hp : Ax.twoAr [] ((l.map MR.rule).flatMap Ax.Rule.atoms) = none) :
    Calls Try.prog 27 #[.slice rd l.length rc] w fun e w' => e = .returned (.tuple #[.int .i64 0, .bool false]) ∧ Below w.heap.size w w' := by
  refine (twoArities_any w rd rc l h hll hpr.out).mono ?_
  rintro e w' ⟨hb, hc⟩
  rw [hp] at hc
  rcases hc with ⟨q, hq, _⟩ | ⟨_, rfl⟩
  · simp at hq
  · exact ⟨rfl, hb⟩

set_option maxRecDepth 100000 in
set_option maxHeartbeats 2000000 in
theorem readW_1 (s : ByteArray) (w : World) (hs : s.size ≤ maxLen) (h : 600 < s.size) :
    Calls Try.prog 15 #[.string s] w fun e w' => e = .returned (.tuple #[.agg #[.string ⟨#[]⟩, .slice none 0 0], .int .i64 1, .int .i64 0]) ∧ Below w.heap.size w w' := by
  unfold maxLen at hs
  go_enter Try.func15, Try.ntmps15
  go_wp2_with fail
  exact bodyPost_ret (v := .tuple #[.agg #[.string ⟨#[]⟩, .slice none 0 0], .int .i64 1, .int .i64 0]) (by simp [results, Try.results15, go_sem]) rfl ⟨rfl, (Below.refl _ _).alloc (Nat.le_refl _) _⟩

set_option maxRecDepth 100000 in
set_option maxHeartbeats 2000000 in
theorem readW_2 (s : ByteArray) (w : World) (hsz : s.size ≤ 600) (j : Nat) (HR : Hid (Ax.pRules (Ax.split s) (Ax.split s).length 0 [] = (none, j))) (t : Ax.Tok) (HT : Hid ((Ax.split s)[j]? = some t)) :
    Calls Try.prog 15 #[.string s] w fun e w' => e = .returned (.tuple #[.agg #[.string ⟨#[]⟩, .slice none 0 0], .int .i64 2, .int .i64 t.at_]) ∧ Below w.heap.size w w' := by
  have hgt : ¬ (600 : Int) < (s.size : Int) := by omega
  have hfd := Try.fieldTok1
  go_enter Try.func15, Try.ntmps15
  go_wp2_with (first | (go_at_call 22; refine (clone_any s _ (by omega)).mono ?_; rintro e w0 ⟨rfl, hb0⟩) | (go_at_call 23; refine (split_any s _ (by omega)).mono ?_; rintro e w1 ⟨v1, rfl, hown1, hb1⟩; obtain ⟨td, tc, rfl⟩ := ownsRow_shape hown1; obtain ⟨r1, gw1, lt1⟩ := read_world1 (hb0.trans (hb1.mono hb0.size))) | (go_at_call 24; have hpat := PAt.first (s := s) (td := td) (tc := tc) hown1 hsz; refine (rules_none _ _ _ _ _ _ hpat HR).mono ?_; rintro e w2 ⟨rfl, hp2, hg2⟩; obtain ⟨r2, b2, gw2⟩ := read_world2 r1 gw1 hg2; have f02 := frozen_at r2 0; have f12 := frozen_at r2 1; have k02 := cell_at r2 0; have k12 := cell_at r2 1; simp only [List.getElem?_toArray, List.getElem?_cons_zero, List.getElem?_cons_succ] at k02 k12; have lt2 := lt_of_heap r2) | (go_at_call 25; refine (peek_any _ _ _ _ _ hp2 _ HT).mono ?_; rintro e w3 ⟨rfl, hb3⟩; obtain ⟨r3, b3⟩ := read_world3 r2 b2 hb3; have f03 := frozen_at r3 0; have f13 := frozen_at r3 1; have k03 := cell_at r3 0; have k13 := cell_at r3 1; simp only [List.getElem?_toArray, List.getElem?_cons_zero, List.getElem?_cons_succ] at k03 k13; have lt3 := lt_of_heap r3))
  obtain ⟨hu, bu⟩ := two_stores45 r3 (.string ⟨#[]⟩) (.slice none 0 0) b3 (Nat.le_refl _)
  exact bodyPost_ret (v := .tuple #[.agg #[.string ⟨#[]⟩, .slice none 0 0], .int .i64 2, .int .i64 t.at_]) (by simp [results, Try.results15, go_sem, cell_at hu]) rfl ⟨rfl, bu⟩

end Go.Proofs.Ytdmicblafmhflaa
