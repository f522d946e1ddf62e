/-
  Calls of MemberRuns, worked out by the kernel.
-/
import Derived.Test.YtllahinoomahnaaGreatDoorRInst
namespace Go.Proofs.YtllahinoomahnaaGreatDoor
open Go Am
set_option maxRecDepth 10000000
set_option maxHeartbeats 0
theorem e13 : toB (chkI (envOf Tryz.prog (extI exts l12) xts) 1000 i13) = true := by kernel_rfl
theorem e14 : toB (chkI (envOf Tryz.prog (extI exts l13) xts) 1000 i14) = true := by kernel_rfl
end Go.Proofs.YtllahinoomahnaaGreatDoor
