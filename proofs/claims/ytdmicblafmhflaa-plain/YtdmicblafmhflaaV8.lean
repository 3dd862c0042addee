/- axiomkeep: what text calls, as it calls it. -/
import Derived.Test.YtdmicblafmhflaaV7
namespace Go.Proofs.Ytdmicblafmhflaa
set_option linter.unusedSimpArgs false
set_option linter.unusedVariables false
open Go.RowKit

structure RuleAt (w : World) (g o : Nat) (r : Ax.KRule) : Prop where
  head : AtomAt w g o r.head
  body : ∃ bd bn bc, w.cell? ⟨g, o + 3, none⟩ = some (.slice bd bn bc) ∧ BodyAt w bd bn bc r.body
structure RulesAt (w : World) (ad : Option Addr) (n c : Nat) (l : List Ax.KRule) : Prop where
  len : l.length = n
  cap : n ≤ c
  max : c ≤ maxLen
  at_ : ∀ k (h : k < l.length), ∃ g o, ad = some ⟨g, o, none⟩ ∧ RuleAt w g (o + k * 4) l[k]

theorem wloop_size : ∀ (ts : List Nat) (i : Nat) (p : ByteArray), (wloop ts i p).size ≤ p.size + 3 * ts.length
  | [], _, p => by simp [wloop]
  | x :: l, i, p => by
    rw [wloop]
    have h := wloop_size l (i + 1) (wstep i p x)
    have hx := gtx_size x
    have hc : (⟨#[44]⟩ : ByteArray).size = 1 := rfl
    have hs : (wstep i p x).size ≤ p.size + 3 := by
      unfold wstep
      split
      · rw [ByteArray.size_append, ByteArray.size_append]; omega
      · rw [ByteArray.size_append]; omega
    rw [List.length_cons]
    omega
theorem wAtom_size (p : Nat) (ts : List Nat) (h : ts.length ≤ 2) : (wAtom p ts).size ≤ 12 := by
  unfold wAtom
  have h1 := wloop_size ts 0 (Ax.gpred p ++ ⟨#[40]⟩)
  have h2 := gpred_size p
  have h3 : (⟨#[40]⟩ : ByteArray).size = 1 := rfl
  have h4 : (⟨#[41]⟩ : ByteArray).size = 1 := rfl
  rw [ByteArray.size_append] at h1 ⊢
  omega
theorem gterms_seven (a : Ax.KAtom) : ∀ x, x ∈ Ax.gterms a → x < 7 := by
  intro x hx
  have h1 := Ax.gpick_lt a.a 7 (by decide)
  have h2 := Ax.gpick_lt a.b 7 (by decide)
  unfold Ax.gterms at hx
  split at hx
  · simp at hx; omega
  · simp at hx; omega
theorem ghead_two (r : Ax.KRule) : 0 < (Ax.ghead r).length ∧ (Ax.ghead r).length ≤ 2 := by
  unfold Ax.ghead
  rw [List.length_map]
  exact gterms_two r.head
theorem ghead_seven (r : Ax.KRule) : ∀ x, x ∈ Ax.ghead r → x < 7 := by
  intro x hx
  unfold Ax.ghead at hx
  obtain ⟨y, hy, rfl⟩ := List.mem_map.1 hx
  have := gterms_seven r.head y hy
  split <;> omega

/-- a row of small numbers that the call has made -/
def Row7 (B : Nat) (w : World) (d : Option Addr) (c : Nat) (ts : List Nat) : Prop := w.ownsRow B 3 1 (.slice d ts.length c) ts.length (natCells ts)

theorem head_of {w : World} {ad : Option Addr} {n c : Nat} {r : Ax.KRule} (hB : BodyAt w ad n c r.body) (h0 : Fit64 r.head.pred) (h1 : Fit64 r.head.a) (h2 : Fit64 r.head.b) (T : List Nat) (hT : Ax.ghead r = T) : ∀ W, Below w.heap.size w W →
    Calls Try.prog 12 #[.agg #[.int .i64 r.head.pred, .int .i64 r.head.a, .int .i64 r.head.b, .slice ad n c]] W fun e w' => ∃ d c', e = .returned (.slice d T.length c') ∧ Row7 w.heap.size w' d c' T ∧ Below w.heap.size w w' := by
  intro W hb
  subst hT
  refine (head_any W r ad n c (hB.below hb) h0 h1 h2).mono ?_
  rintro e w' ⟨d, c', rfl, ho, hb'⟩
  exact ⟨d, c', rfl, ownsRow_base ho hb.size, hb.trans (hb'.mono hb.size)⟩
theorem terms_of {w : World} {a : Ax.KAtom} (h0 : Fit64 a.pred) (h1 : Fit64 a.a) (h2 : Fit64 a.b) (T : List Nat) (hT : Ax.gterms a = T) : ∀ W, Below w.heap.size w W →
    Calls Try.prog 14 #[.agg #[.int .i64 a.pred, .int .i64 a.a, .int .i64 a.b]] W fun e w' => ∃ d c', e = .returned (.slice d T.length c') ∧ Row7 w.heap.size w' d c' T ∧ Below w.heap.size w w' := by
  intro W hb
  subst hT
  refine (terms_any' W a h0 h1 h2).mono ?_
  rintro e w' ⟨d, c', rfl, ho, hb'⟩
  exact ⟨d, c', rfl, ownsRow_base ho hb.size, hb.trans (hb'.mono hb.size)⟩
theorem written_of {w : World} {p : Int} (hp : Fit64 p) (T : List Nat) (h2 : T.length ≤ 2) (h7 : ∀ x, x ∈ T → x < 7) (A : ByteArray) (hA : wAtom (Ax.gpick p 3) T = A) : ∀ W d c, Below w.heap.size w W → Row7 w.heap.size W d c T →
    Calls Try.prog 11 #[.int .i64 p, .slice d T.length c] W fun e w' => e = .returned (.string A) ∧ Below w.heap.size w w' := by
  intro W d c hb ho
  subst hA
  refine (written_any W p hp _ d c T ho (by omega) h7 _ rfl).mono ?_
  rintro e w' ⟨rfl, hb'⟩
  exact ⟨rfl, hb.trans (hb'.mono hb.size)⟩
theorem body_of {w : World} {ad : Option Addr} {n c : Nat} {l : List Ax.KAtom} (h : BodyAt w ad n c l) (p a b : Int) (m : Nat) (hm : min n 2 = m) : ∀ W, Below w.heap.size w W → Calls Try.prog 13 #[.agg #[.int .i64 p, .int .i64 a, .int .i64 b, .slice ad n c]] W fun e w' => e = .returned (.slice ad m c) ∧ Below w.heap.size w w' := by
  intro W hb
  subst hm
  refine (body_val h p a b W).mono ?_
  rintro e w' ⟨rfl, hb'⟩
  exact ⟨rfl, hb.trans (hb'.mono hb.size)⟩
end Go.Proofs.Ytdmicblafmhflaa
