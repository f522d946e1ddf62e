/-
  Calls of LowerRuns, worked out by the kernel.
-/
import Derived.Test.YtphpljmcfkicbaaGreatDoorRInst
namespace Go.Proofs.YtphpljmcfkicbaaGreatDoor
open Go Am
set_option maxRecDepth 10000000
set_option maxHeartbeats 0
theorem e9 : toB (chkI (envOf Tryz.prog (extI exts l8) xts (hasI exts l8)) 1000 i9) = true := by kernel_rfl
theorem e10 : toB (chkI (envOf Tryz.prog (extI exts l9) xts (hasI exts l9)) 1000 i10) = true := by kernel_rfl
end Go.Proofs.YtphpljmcfkicbaaGreatDoor
