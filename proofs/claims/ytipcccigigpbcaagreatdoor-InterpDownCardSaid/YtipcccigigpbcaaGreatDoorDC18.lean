/-
  Calls of InterpDown, worked out by the kernel.
-/
import Derived.Test.YtipcccigigpbcaaGreatDoorDInst
namespace Go.Proofs.YtipcccigigpbcaaGreatDoor.D
open Go Am
set_option maxRecDepth 10000000
set_option maxHeartbeats 0
theorem e141 : toB (chkI (envOf Tryz.prog (extI exts3 l140) xts (hasI exts3 l140)) 1000 i141) = true := by kernel_rfl
theorem e142 : toB (chkI (envOf Tryz.prog (extI exts3 l141) xts (hasI exts3 l141)) 1000 i142) = true := by kernel_rfl
theorem e143 : toB (chkI (envOf Tryz.prog (extI exts3 l142) xts (hasI exts3 l142)) 1000 i143) = true := by kernel_rfl
theorem e144 : toB (chkI (envOf Tryz.prog (extI exts3 l143) xts (hasI exts3 l143)) 1000 i144) = true := by kernel_rfl
theorem e145 : toB (chkI (envOf Tryz.prog (extI exts3 l144) xts (hasI exts3 l144)) 1000 i145) = true := by kernel_rfl
end Go.Proofs.YtipcccigigpbcaaGreatDoor.D
