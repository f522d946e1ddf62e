/-
  Calls of MemberRuns, worked out by the kernel.
-/
import Derived.Test.YtllahinoomahnaaGreatDoorRInst
namespace Go.Proofs.YtllahinoomahnaaGreatDoor
open Go Am
set_option maxRecDepth 10000000
set_option maxHeartbeats 0
theorem e20 : toB (chkI (envOf Tryz.prog (extI exts l19) xts) 1000 i20) = true := by kernel_rfl
theorem e21 : toB (chkI (envOf Tryz.prog (extI exts l20) xts) 1000 i21) = true := by kernel_rfl
theorem e22 : toB (chkI (envOf Tryz.prog (extI exts l21) xts) 1000 i22) = true := by kernel_rfl
theorem e23 : toB (chkI (envOf Tryz.prog (extI exts l22) xts) 1000 i23) = true := by kernel_rfl
theorem e24 : toB (chkI (envOf Tryz.prog (extI exts l23) xts) 1000 i24) = true := by kernel_rfl
theorem e25 : toB (chkI (envOf Tryz.prog (extI exts l24) xts) 1000 i25) = true := by kernel_rfl
end Go.Proofs.YtllahinoomahnaaGreatDoor
