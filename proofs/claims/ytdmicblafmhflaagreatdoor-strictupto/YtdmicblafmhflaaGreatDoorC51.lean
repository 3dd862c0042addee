/- Strict's row: the closed facts that its cells ask, one by one. -/
import Derived.Test.YtdmicblafmhflaaGreatDoorRows
import Derived.JoinedCond
set_option linter.unusedSimpArgs false
set_option linter.unusedVariables false
set_option maxHeartbeats 4000000
set_option maxRecDepth 100000
namespace Go.Proofs.YtdmicblafmhflaaGreatDoor
section
theorem ze:joinedFacts Tryz.prog 9 Tryz.f9 (Rows.OpenSpec.upto Rows.strictSpec).bare Rows.strictUptoRow=true:=by
 unfold joinedFacts
 simp only[Bool.and_eq_true]
 repeat' apply And.intro
 all_goals as_aux_lemma=>kernel_rfl
end
end Go.Proofs.YtdmicblafmhflaaGreatDoor
