/-
  Calls of InterpRuns, worked out by the kernel.
-/
import Derived.Test.YtcfekhcdadldmaaGreatDoorRInst
namespace Go.Proofs.YtcfekhcdadldmaaGreatDoor
open Go Am
set_option maxRecDepth 10000000
set_option maxHeartbeats 0
theorem e33 : toB (chkI (envOf Tryz.prog (extI exts l32) xts (hasI exts l32)) 1000 i33) = true := by kernel_rfl
theorem e34 : toB (chkI (envOf Tryz.prog (extI exts l33) xts (hasI exts l33)) 1000 i34) = true := by kernel_rfl
theorem e35 : toB (chkI (envOf Tryz.prog (extI exts l34) xts (hasI exts l34)) 1000 i35) = true := by kernel_rfl
end Go.Proofs.YtcfekhcdadldmaaGreatDoor
