import Derived.Test.YtdamlfkieecnjaaGreatDoorRows
import Derived.ProofKit
import Derived.Stop.Joined
set_option maxHeartbeats 8000000
set_option maxRecDepth 100000
namespace Go.Proofs.YtdamlfkieecnjaaGreatDoor
open Go Go.ChangeShapes Go.WideShapes Go.ChangeAt Go.RowKit
theorem closed_facts:joinedFacts Tryz.pinned.checked.prog 3 Tryz.f3 Rows.parseTypesSpec Rows.parseTypesRow=true:=by
 unfold joinedFacts;simp only[Bool.and_eq_true]
 and_intros
 all_goals (as_aux_lemma=>kernel_rfl)
end Go.Proofs.YtdamlfkieecnjaaGreatDoor
