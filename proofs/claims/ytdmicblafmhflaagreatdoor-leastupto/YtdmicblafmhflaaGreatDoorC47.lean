/- Least's row: the closed facts that its cells ask, one by one. -/
import Derived.Test.YtdmicblafmhflaaGreatDoorRows
import Derived.JoinedCond

namespace Go.Proofs.YtdmicblafmhflaaGreatDoor
set_option linter.unusedSimpArgs false
set_option linter.unusedVariables false
set_option maxRecDepth 100000
set_option maxHeartbeats 4000000 in
theorem least_closed : joinedFacts Tryz.prog 4 Tryz.f4 (Rows.OpenSpec.upto Rows.leastSpec).bare Rows.leastUptoRow = true := by
  unfold joinedFacts
  simp only [Bool.and_eq_true]
  repeat' apply And.intro
  all_goals as_aux_lemma => kernel_rfl
end Go.Proofs.YtdmicblafmhflaaGreatDoor
