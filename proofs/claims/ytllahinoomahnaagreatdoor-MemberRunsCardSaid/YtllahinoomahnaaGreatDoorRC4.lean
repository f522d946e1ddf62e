/-
  Calls of MemberRuns, worked out by the kernel.
-/
import Derived.Test.YtllahinoomahnaaGreatDoorRInst
namespace Go.Proofs.YtllahinoomahnaaGreatDoor
open Go Am
set_option maxRecDepth 10000000
set_option maxHeartbeats 0
theorem e5 : toB (chkI (envOf Tryz.prog (extI exts l4) xts) 1000 i5) = true := by kernel_rfl
theorem e6 : toB (chkI (envOf Tryz.prog (extI exts l5) xts) 1000 i6) = true := by kernel_rfl
end Go.Proofs.YtllahinoomahnaaGreatDoor
