/-
  Calls of MemberRuns, worked out by the kernel.
-/
import Derived.Test.YtllahinoomahnaaGreatDoorRInst
namespace Go.Proofs.YtllahinoomahnaaGreatDoor
open Go Am
set_option maxRecDepth 10000000
set_option maxHeartbeats 0
theorem e18 : toB (chkI (envOf Tryz.prog (extI exts l17) xts) 1000 i18) = true := by kernel_rfl
theorem e19 : toB (chkI (envOf Tryz.prog (extI exts l18) xts) 1000 i19) = true := by kernel_rfl
end Go.Proofs.YtllahinoomahnaaGreatDoor
