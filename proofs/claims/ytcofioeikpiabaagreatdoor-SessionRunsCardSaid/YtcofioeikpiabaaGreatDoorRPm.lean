/-
  One closed fact of a row, worked out in four parts: the map types name types that there are. Own work.
-/
import Derived.Test.YtcofioeikpiabaaGreatDoorRows
import Derived.ProofKit
import Derived.Stop.Joined
namespace Go.Proofs.YtcofioeikpiabaaGreatDoor
open Go Go.ChangeShapes Go.WideShapes Go.ChangeAt Go.RowKit

set_option maxRecDepth 100000
set_option maxHeartbeats 8000000
def mapFine (P : Program) (t : Nat) : Bool := match P.underlying t with | some (.map _ e) => decide (e < P.types.size) | _ => true
theorem map_size : Tryz.pinned.checked.prog.types.size = 246 + (246 + (246 + 246)) := by kernel_rfl
theorem map_a : (List.range 246).all (mapFine Tryz.pinned.checked.prog) = true := by kernel_rfl
theorem map_b : (List.range 246).all (fun i => mapFine Tryz.pinned.checked.prog (246 + i)) = true := by kernel_rfl
theorem map_c : (List.range 246).all (fun i => mapFine Tryz.pinned.checked.prog (246 + (246 + i))) = true := by kernel_rfl
theorem map_d : (List.range 246).all (fun i => mapFine Tryz.pinned.checked.prog (246 + (246 + (246 + i)))) = true := by kernel_rfl
theorem all_parts {p : Nat → Bool} {a b : Nat} (h1 : (List.range a).all p = true) (h2 : (List.range b).all (fun i => p (a + i)) = true) : (List.range (a + b)).all p = true := by
  rw [List.range_add, List.all_append, Bool.and_eq_true, List.all_map]
  exact ⟨h1, h2⟩
theorem maps_rowed : mapsRowed Tryz.pinned.checked.prog = true := by
  have h : (List.range Tryz.pinned.checked.prog.types.size).all (mapFine Tryz.pinned.checked.prog) = true := by
    rw [map_size]
    exact all_parts map_a (all_parts map_b (all_parts map_c map_d))
  exact h
end Go.Proofs.YtcofioeikpiabaaGreatDoor
