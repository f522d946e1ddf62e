/-
  Calls of InterpDown, worked out by the kernel.
-/
import Derived.Test.YtipcccigigpbcaaGreatDoorDInst
namespace Go.Proofs.YtipcccigigpbcaaGreatDoor.D
open Go Am
set_option maxRecDepth 10000000
set_option maxHeartbeats 0
theorem e53 : toB (chkI (envOf Tryz.prog (extI exts3 l52) xts (hasI exts3 l52)) 1000 i53) = true := by kernel_rfl
theorem e54 : toB (chkI (envOf Tryz.prog (extI exts3 l53) xts (hasI exts3 l53)) 1000 i54) = true := by kernel_rfl
theorem e55 : toB (chkI (envOf Tryz.prog (extI exts3 l54) xts (hasI exts3 l54)) 1000 i55) = true := by kernel_rfl
theorem e56 : toB (chkI (envOf Tryz.prog (extI exts3 l55) xts (hasI exts3 l55)) 1000 i56) = true := by kernel_rfl
theorem e57 : toB (chkI (envOf Tryz.prog (extI exts3 l56) xts (hasI exts3 l56)) 1000 i57) = true := by kernel_rfl
theorem e58 : toB (chkI (envOf Tryz.prog (extI exts3 l57) xts (hasI exts3 l57)) 1000 i58) = true := by kernel_rfl
theorem e59 : toB (chkI (envOf Tryz.prog (extI exts3 l58) xts (hasI exts3 l58)) 1000 i59) = true := by kernel_rfl
theorem e60 : toB (chkI (envOf Tryz.prog (extI exts3 l59) xts (hasI exts3 l59)) 1000 i60) = true := by kernel_rfl
theorem e61 : toB (chkI (envOf Tryz.prog (extI exts3 l60) xts (hasI exts3 l60)) 1000 i61) = true := by kernel_rfl
theorem e62 : toB (chkI (envOf Tryz.prog (extI exts3 l61) xts (hasI exts3 l61)) 1000 i62) = true := by kernel_rfl
end Go.Proofs.YtipcccigigpbcaaGreatDoor.D
