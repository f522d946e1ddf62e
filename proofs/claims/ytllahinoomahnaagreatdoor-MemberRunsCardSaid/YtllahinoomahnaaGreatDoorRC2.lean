/-
  Calls of MemberRuns, worked out by the kernel.
-/
import Derived.Test.YtllahinoomahnaaGreatDoorRInst
namespace Go.Proofs.YtllahinoomahnaaGreatDoor
open Go Am
set_option maxRecDepth 10000000
set_option maxHeartbeats 0
theorem e2 : toB (chkI (envOf Tryz.prog (extI exts l1) xts) 1000 i2) = true := by kernel_rfl
end Go.Proofs.YtllahinoomahnaaGreatDoor
