/-
  Calls of InterpRuns, worked out by the kernel.
-/
import Derived.Test.YtcfekhcdadldmaaGreatDoorRInst
namespace Go.Proofs.YtcfekhcdadldmaaGreatDoor
open Go Am
set_option maxRecDepth 10000000
set_option maxHeartbeats 0
theorem e30 : toB (chkI (envOf Tryz.prog (extI exts l29) xts (hasI exts l29)) 1000 i30) = true := by kernel_rfl
theorem e31 : toB (chkI (envOf Tryz.prog (extI exts l30) xts (hasI exts l30)) 1000 i31) = true := by kernel_rfl
theorem e32 : toB (chkI (envOf Tryz.prog (extI exts l31) xts (hasI exts l31)) 1000 i32) = true := by kernel_rfl
end Go.Proofs.YtcfekhcdadldmaaGreatDoor
