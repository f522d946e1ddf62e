/-
  What coillaw15.SessionRuns's row asks of the program, worked out.
-/
import Derived.Test.YtcofioeikpiabaaGreatDoorRows
import Derived.Test.YtcofioeikpiabaaGreatDoorRPb
import Derived.Test.YtcofioeikpiabaaGreatDoorRPm
import Derived.ProofKit
import Derived.Stop.Joined
namespace Go.Proofs.YtcofioeikpiabaaGreatDoor
open Go Go.ChangeShapes Go.WideShapes Go.ChangeAt Go.RowKit

set_option maxRecDepth 100000
set_option maxHeartbeats 8000000
theorem closed_facts : joinedFacts Tryz.pinned.checked.prog 3 Tryz.f3 Rows.sessionRunsSpec Rows.sessionRunsRow = true := by
  unfold joinedFacts
  simp only [Bool.and_eq_true]
  and_intros
  rotate_left 1
  · exact laid_out
  · exact maps_rowed
  all_goals (as_aux_lemma => kernel_rfl)
end Go.Proofs.YtcofioeikpiabaaGreatDoor
