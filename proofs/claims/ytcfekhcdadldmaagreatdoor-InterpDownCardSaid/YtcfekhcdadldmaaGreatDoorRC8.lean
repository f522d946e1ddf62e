/-
  Calls of InterpRuns, worked out by the kernel.
-/
import Derived.Test.YtcfekhcdadldmaaGreatDoorRInst
namespace Go.Proofs.YtcfekhcdadldmaaGreatDoor
open Go Am
set_option maxRecDepth 10000000
set_option maxHeartbeats 0
theorem e56 : toB (chkI (envOf Tryz.prog (extI exts l55) xts (hasI exts l55)) 1000 i56) = true := by kernel_rfl
theorem e57 : toB (chkI (envOf Tryz.prog (extI exts l56) xts (hasI exts l56)) 1000 i57) = true := by kernel_rfl
end Go.Proofs.YtcfekhcdadldmaaGreatDoor
