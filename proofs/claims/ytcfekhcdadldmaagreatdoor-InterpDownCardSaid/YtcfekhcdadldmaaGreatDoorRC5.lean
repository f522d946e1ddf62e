/-
  Calls of InterpRuns, worked out by the kernel.
-/
import Derived.Test.YtcfekhcdadldmaaGreatDoorRInst
namespace Go.Proofs.YtcfekhcdadldmaaGreatDoor
open Go Am
set_option maxRecDepth 10000000
set_option maxHeartbeats 0
theorem e36 : toB (chkI (envOf Tryz.prog (extI exts l35) xts (hasI exts l35)) 1000 i36) = true := by kernel_rfl
theorem e37 : toB (chkI (envOf Tryz.prog (extI exts l36) xts (hasI exts l36)) 1000 i37) = true := by kernel_rfl
theorem e38 : toB (chkI (envOf Tryz.prog (extI exts l37) xts (hasI exts l37)) 1000 i38) = true := by kernel_rfl
end Go.Proofs.YtcfekhcdadldmaaGreatDoor
