/-
  Calls of MemberRuns, worked out by the kernel.
-/
import Derived.Test.YtllahinoomahnaaGreatDoorRInst
namespace Go.Proofs.YtllahinoomahnaaGreatDoor
open Go Am
set_option maxRecDepth 10000000
set_option maxHeartbeats 0
theorem e3 : toB (chkI (envOf Tryz.prog (extI exts l2) xts) 1000 i3) = true := by kernel_rfl
theorem e4 : toB (chkI (envOf Tryz.prog (extI exts l3) xts) 1000 i4) = true := by kernel_rfl
end Go.Proofs.YtllahinoomahnaaGreatDoor
