/- Listed's row: the closed facts that its cells ask, one by one. -/
import Derived.Test.YtdmicblafmhflaaGreatDoorRows
import Derived.JoinedCond
set_option linter.unusedSimpArgs false
set_option linter.unusedVariables false
namespace Go.Proofs.YtdmicblafmhflaaGreatDoor
set_option maxRecDepth 100000
set_option maxHeartbeats 4000000 in
theorem listed_closed : joinedFacts Tryz.prog 5 Tryz.f5 (Rows.OpenSpec.upto Rows.listedSpec).bare Rows.listedUptoRow = true := by
 unfold joinedFacts
 simp only [Bool.and_eq_true]
 repeat' apply And.intro
 all_goals as_aux_lemma => kernel_rfl
end Go.Proofs.YtdmicblafmhflaaGreatDoor
