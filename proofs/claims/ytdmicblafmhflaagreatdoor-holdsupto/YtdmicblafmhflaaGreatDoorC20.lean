/- Holds' row: the closed facts that its cells ask, one by one. -/
import Derived.Test.YtdmicblafmhflaaGreatDoorC00
import Derived.Test.YtdmicblafmhflaaGreatDoorRows
import Derived.JoinedCond
set_option linter.unusedSimpArgs false
set_option linter.unusedVariables false
set_option maxHeartbeats 4000000
set_option maxRecDepth 100000
namespace Go.Proofs.YtdmicblafmhflaaGreatDoor
open Go.Proofs.Tryz
theorem CV:joinedFacts prog 3 Tryz.f3 (Rows.OpenSpec.upto Rows.holdsSpec).bare Rows.holdsUptoRow=true:=by
 unfold joinedFacts;simp only[acK]
 repeat' apply And.intro
 all_goals as_aux_lemma=>kernel_rfl
