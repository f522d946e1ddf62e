/-
  Calls of MemberRuns, worked out by the kernel.
-/
import Derived.Test.YtllahinoomahnaaGreatDoorRInst
namespace Go.Proofs.YtllahinoomahnaaGreatDoor
open Go Am
set_option maxRecDepth 10000000
set_option maxHeartbeats 0
theorem e15 : toB (chkI (envOf Tryz.prog (extI exts l14) xts) 1000 i15) = true := by kernel_rfl
theorem e16 : toB (chkI (envOf Tryz.prog (extI exts l15) xts) 1000 i16) = true := by kernel_rfl
end Go.Proofs.YtllahinoomahnaaGreatDoor
