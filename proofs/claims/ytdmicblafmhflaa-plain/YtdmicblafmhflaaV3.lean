/- axiomkeep: what written writes, as tokens. No program here. -/
import Derived.Test.YtdmicblafmhflaaV2
namespace Go.Proofs.Ytdmicblafmhflaa
set_option linter.unusedSimpArgs false
set_option linter.unusedVariables false

def bytesI (l : List Ax.EI) : List UInt8 := l.flatMap fun x => x.2.data.toList
theorem bytesI_append (l l' : List Ax.EI) : bytesI (l ++ l') = bytesI l ++ bytesI l' := by simp [bytesI]
theorem bytesI_cons (x : Ax.EI) (l : List Ax.EI) : bytesI (x :: l) = x.2.data.toList ++ bytesI l := by simp [bytesI]

theorem wloop_on : ∀ (l : List Nat) (i : Nat) (p : ByteArray), 0 < i → (wloop l i p).data.toList = p.data.toList ++ l.flatMap fun x => 44 :: (gtx x).data.toList
  | [], i, p, _ => by simp [wloop]
  | x :: l, i, p, h => by
    rw [wloop, wloop_on l (i + 1) _ (by omega)]
    simp [wstep, h, ByteArray.data_append]
theorem termsI_bytes : ∀ (l : List Nat) (x : Nat), bytesI (Ax.termsI ((x :: l).map Ax.gterm)) = (gtx x).data.toList ++ l.flatMap fun x => 44 :: (gtx x).data.toList
  | [], x => by simp [Ax.termsI, bytesI, Ax.tI, gtx]
  | y :: l, x => by
    have ih := termsI_bytes l y
    rw [List.map_cons] at ih
    rw [List.map_cons, List.map_cons, Ax.termsI, bytesI_cons, bytesI_cons, ih]
    simp [Ax.tI, Ax.comma, gtx]
/-- written's text is an atom's tokens -/
theorem written_bytes (p : Nat) (ts : List Nat) (h : ts ≠ []) : (wloop ts 0 (Ax.gpred p ++ ⟨#[40]⟩) ++ ⟨#[41]⟩ : ByteArray).data.toList = bytesI (Ax.atomI (Ax.gEA p ts)) := by
  cases ts with
  | nil => exact absurd rfl h
  | cons x l =>
    rw [ByteArray.data_append, Array.toList_append, wloop, wloop_on l 1 _ (by omega)]
    unfold Ax.atomI Ax.gEA
    simp only
    rw [bytesI_cons, bytesI_cons, bytesI_append, termsI_bytes]
    simp [wstep, ByteArray.data_append, bytesI]
end Go.Proofs.Ytdmicblafmhflaa
