/-
  Calls of MemberRuns, worked out by the kernel.
-/
import Derived.Test.YtllahinoomahnaaGreatDoorRInst
namespace Go.Proofs.YtllahinoomahnaaGreatDoor
open Go Am
set_option maxRecDepth 10000000
set_option maxHeartbeats 0
theorem e11 : toB (chkI (envOf Tryz.prog (extI exts l10) xts) 1000 i11) = true := by kernel_rfl
theorem e12 : toB (chkI (envOf Tryz.prog (extI exts l11) xts) 1000 i12) = true := by kernel_rfl
end Go.Proofs.YtllahinoomahnaaGreatDoor
