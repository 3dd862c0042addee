/- Canonical's row: the closed facts that its cells ask, one by one. -/
import Derived.Test.YtdmicblafmhflaaGreatDoorRows
import Derived.JoinedCond
set_option linter.unusedSimpArgs false
set_option linter.unusedVariables false
namespace Go.Proofs.YtdmicblafmhflaaGreatDoor
set_option maxRecDepth 100000
set_option maxHeartbeats 4000000 in
theorem canonical_closed : joinedFacts Tryz.prog 8 Tryz.f8 (Rows.OpenSpec.upto Rows.canonicalSpec).bare Rows.canonicalUptoRow = true := by
 unfold joinedFacts
 simp only [Bool.and_eq_true]
 repeat' apply And.intro
 all_goals as_aux_lemma => kernel_rfl
end Go.Proofs.YtdmicblafmhflaaGreatDoor
