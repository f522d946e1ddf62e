/-
  Calls of InterpDown, worked out by the kernel.
-/
import Derived.Test.YtcfekhcdadldmaaGreatDoorDInst
namespace Go.Proofs.YtcfekhcdadldmaaGreatDoor.D
open Go Am
set_option maxRecDepth 10000000
set_option maxHeartbeats 0
theorem e50 : toB (chkI (envOf Tryz.prog (extI exts3 l49) xts (hasI exts3 l49)) 1000 i50) = true := by kernel_rfl
theorem e51 : toB (chkI (envOf Tryz.prog (extI exts3 l50) xts (hasI exts3 l50)) 1000 i51) = true := by kernel_rfl
theorem e52 : toB (chkI (envOf Tryz.prog (extI exts3 l51) xts (hasI exts3 l51)) 1000 i52) = true := by kernel_rfl
theorem e53 : toB (chkI (envOf Tryz.prog (extI exts3 l52) xts (hasI exts3 l52)) 1000 i53) = true := by kernel_rfl
theorem e54 : toB (chkI (envOf Tryz.prog (extI exts3 l53) xts (hasI exts3 l53)) 1000 i54) = true := by kernel_rfl
theorem e55 : toB (chkI (envOf Tryz.prog (extI exts3 l54) xts (hasI exts3 l54)) 1000 i55) = true := by kernel_rfl
theorem e56 : toB (chkI (envOf Tryz.prog (extI exts3 l55) xts (hasI exts3 l55)) 1000 i56) = true := by kernel_rfl
theorem e57 : toB (chkI (envOf Tryz.prog (extI exts3 l56) xts (hasI exts3 l56)) 1000 i57) = true := by kernel_rfl
end Go.Proofs.YtcfekhcdadldmaaGreatDoor.D
