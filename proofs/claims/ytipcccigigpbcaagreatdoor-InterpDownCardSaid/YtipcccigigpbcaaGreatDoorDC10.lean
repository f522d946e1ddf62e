/-
  Calls of InterpDown, worked out by the kernel.
-/
import Derived.Test.YtipcccigigpbcaaGreatDoorDInst
namespace Go.Proofs.YtipcccigigpbcaaGreatDoor.D
open Go Am
set_option maxRecDepth 10000000
set_option maxHeartbeats 0
theorem e77 : toB (chkI (envOf Tryz.prog (extI exts3 l76) xts (hasI exts3 l76)) 1000 i77) = true := by kernel_rfl
theorem e78 : toB (chkI (envOf Tryz.prog (extI exts3 l77) xts (hasI exts3 l77)) 1000 i78) = true := by kernel_rfl
theorem e79 : toB (chkI (envOf Tryz.prog (extI exts3 l78) xts (hasI exts3 l78)) 1000 i79) = true := by kernel_rfl
theorem e80 : toB (chkI (envOf Tryz.prog (extI exts3 l79) xts (hasI exts3 l79)) 1000 i80) = true := by kernel_rfl
theorem e81 : toB (chkI (envOf Tryz.prog (extI exts3 l80) xts (hasI exts3 l80)) 1000 i81) = true := by kernel_rfl
theorem e82 : toB (chkI (envOf Tryz.prog (extI exts3 l81) xts (hasI exts3 l81)) 1000 i82) = true := by kernel_rfl
theorem e83 : toB (chkI (envOf Tryz.prog (extI exts3 l82) xts (hasI exts3 l82)) 1000 i83) = true := by kernel_rfl
theorem e84 : toB (chkI (envOf Tryz.prog (extI exts3 l83) xts (hasI exts3 l83)) 1000 i84) = true := by kernel_rfl
theorem e85 : toB (chkI (envOf Tryz.prog (extI exts3 l84) xts (hasI exts3 l84)) 1000 i85) = true := by kernel_rfl
end Go.Proofs.YtipcccigigpbcaaGreatDoor.D
