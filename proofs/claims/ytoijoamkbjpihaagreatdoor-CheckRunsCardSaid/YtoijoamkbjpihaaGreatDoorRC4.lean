/-
  Calls of CheckRuns, worked out by the kernel.
-/
import Derived.Test.YtoijoamkbjpihaaGreatDoorRInst
namespace Go.Proofs.YtoijoamkbjpihaaGreatDoor
open Go Am
set_option maxRecDepth 10000000
set_option maxHeartbeats 0
theorem e37 : toB (chkI (envOf Tryz.prog (extI exts l36) xts (hasI exts l36)) 1000 i37) = true := by kernel_rfl
end Go.Proofs.YtoijoamkbjpihaaGreatDoor
