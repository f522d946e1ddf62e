/-
  One closed fact of coillaw15.SessionRuns's row, worked out in parts: each type's row is laid out as Go does.
-/
import Derived.Test.YtcofioeikpiabaaGreatDoorRows
import Derived.ProofKit
import Derived.Stop.Joined
namespace Go.Proofs.YtcofioeikpiabaaGreatDoor
open Go Go.ChangeShapes Go.WideShapes Go.ChangeAt Go.RowKit

set_option maxRecDepth 100000
set_option maxHeartbeats 8000000
theorem lay_size : Tryz.pinned.checked.prog.types.size = 492 + 492 := by kernel_rfl
theorem lay_a : (List.range 492).all (rowFine Tryz.pinned.checked.prog) = true := by kernel_rfl
theorem lay_b : (List.range 492).all (fun i => rowFine Tryz.pinned.checked.prog (492 + i)) = true := by kernel_rfl
theorem laid_out : laidOutB Tryz.pinned.checked.prog = true := by
  unfold laidOutB
  rw [Bool.and_eq_true, Bool.and_eq_true]
  refine ⟨⟨?_, ?_⟩, ?_⟩
  · rw [lay_size, List.range_add, List.all_append, Bool.and_eq_true, List.all_map]
    exact ⟨lay_a, lay_b⟩
  · as_aux_lemma => kernel_rfl
  · as_aux_lemma => kernel_rfl
end Go.Proofs.YtcofioeikpiabaaGreatDoor
