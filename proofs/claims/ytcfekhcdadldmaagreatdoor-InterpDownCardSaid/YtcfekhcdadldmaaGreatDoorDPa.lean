/-
  What coillaw11.InterpDown's row asks of the program, worked out.
-/
import Derived.Test.YtcfekhcdadldmaaGreatDoorRows
import Derived.ProofKit
import Derived.Stop.Joined
namespace Go.Proofs.YtcfekhcdadldmaaGreatDoor
open Go Go.ChangeShapes Go.WideShapes Go.ChangeAt Go.RowKit

set_option maxRecDepth 100000
set_option maxHeartbeats 8000000
theorem closed_factsD : joinedFacts Tryz.pinned.checked.prog 5 Tryz.f5 Rows.interpDownSpec Rows.interpDownRow = true := by
  unfold joinedFacts
  simp only [Bool.and_eq_true]
  and_intros
  all_goals (as_aux_lemma => kernel_rfl)
end Go.Proofs.YtcfekhcdadldmaaGreatDoor
