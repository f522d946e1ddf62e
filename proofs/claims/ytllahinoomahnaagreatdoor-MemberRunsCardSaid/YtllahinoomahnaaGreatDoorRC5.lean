/-
  Calls of MemberRuns, worked out by the kernel.
-/
import Derived.Test.YtllahinoomahnaaGreatDoorRInst
namespace Go.Proofs.YtllahinoomahnaaGreatDoor
open Go Am
set_option maxRecDepth 10000000
set_option maxHeartbeats 0
theorem e7 : toB (chkI (envOf Tryz.prog (extI exts l6) xts) 1000 i7) = true := by kernel_rfl
theorem e8 : toB (chkI (envOf Tryz.prog (extI exts l7) xts) 1000 i8) = true := by kernel_rfl
end Go.Proofs.YtllahinoomahnaaGreatDoor
