/-
  Closed facts of the tie: what is read behind the run. Own work.
-/
import Derived.Test.YtcfekhcdadldmaaGreatDoorRTa
namespace Go.Proofs.YtcfekhcdadldmaaGreatDoor
open Go
set_option maxHeartbeats 8000000
set_option maxRecDepth 100000
theorem at_read (os : Os) (tape : Tape) : atDoor Tryz.prog 400 535 os tape (fun w => (DataW.laidRun Tryz.prog w 8 ((listed.filter fun x => x.2.handleName?.isNone).map (·.1))).map (·.1)) = some (listed.filter fun x => x.2.handleName?.isNone) := by kernel_rfl
theorem at_apart (os : Os) (tape : Tape) : atDoor Tryz.prog 400 535 os tape (fun w => (DataW.laidRun Tryz.prog w 8 ((listed.filter fun x => x.2.handleName?.isNone).map (·.1))).map fun x => nodupBits 300 x.2 0) = some true := by kernel_rfl
theorem at_rows (os : Os) (tape : Tape) : atDoor Tryz.prog 400 535 os tape (fun w => (DataW.laidRun Tryz.prog w 8 ((listed.filter fun x => x.2.handleName?.isNone).map (·.1))).map fun x => laidRowsB Tryz.prog w x.2) = some true := by kernel_rfl
theorem at_handles (os : Os) (tape : Tape) : atDoor Tryz.prog 400 535 os tape (fun w => if (listed.filter fun x => x.2.handleName?.isSome && x.2.funcsIn?.isNone).all (handleAtB Tryz.prog w) then funcsRun Tryz.prog w 8 ((funcsListed listed).map (·.1)) else none) = some ((funcsListed listed).map (·.2.funcsOut)) := by kernel_rfl
end Go.Proofs.YtcfekhcdadldmaaGreatDoor
