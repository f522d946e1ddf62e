/-
  Calls of ParseRuns, worked out by the kernel.
-/
import Derived.Test.YteoeonhggmkmnaaGreatDoorRInst
namespace Go.Proofs.YteoeonhggmkmnaaGreatDoor
open Go Am
set_option maxRecDepth 10000000
set_option maxHeartbeats 0
theorem e20 : toB (chkI (envOf Tryz.prog (extI exts l19) xts (hasI exts l19)) 1000 i20) = true := by kernel_rfl
theorem e21 : toB (chkI (envOf Tryz.prog (extI exts l20) xts (hasI exts l20)) 1000 i21) = true := by kernel_rfl
end Go.Proofs.YteoeonhggmkmnaaGreatDoor
