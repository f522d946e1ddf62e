/-
  Calls of InterpDown, worked out by the kernel.
-/
import Derived.Test.YtcfekhcdadldmaaGreatDoorDInst
namespace Go.Proofs.YtcfekhcdadldmaaGreatDoor.D
open Go Am
set_option maxRecDepth 10000000
set_option maxHeartbeats 0
theorem e27 : toB (chkI (envOf Tryz.prog (extI exts3 l26) xts (hasI exts3 l26)) 1000 i27) = true := by kernel_rfl
theorem e28 : toB (chkI (envOf Tryz.prog (extI exts3 l27) xts (hasI exts3 l27)) 1000 i28) = true := by kernel_rfl
theorem e29 : toB (chkI (envOf Tryz.prog (extI exts3 l28) xts (hasI exts3 l28)) 1000 i29) = true := by kernel_rfl
theorem e30 : toB (chkI (envOf Tryz.prog (extI exts3 l29) xts (hasI exts3 l29)) 1000 i30) = true := by kernel_rfl
theorem e31 : toB (chkI (envOf Tryz.prog (extI exts3 l30) xts (hasI exts3 l30)) 1000 i31) = true := by kernel_rfl
theorem e32 : toB (chkI (envOf Tryz.prog (extI exts3 l31) xts (hasI exts3 l31)) 1000 i32) = true := by kernel_rfl
theorem e33 : toB (chkI (envOf Tryz.prog (extI exts3 l32) xts (hasI exts3 l32)) 1000 i33) = true := by kernel_rfl
theorem e34 : toB (chkI (envOf Tryz.prog (extI exts3 l33) xts (hasI exts3 l33)) 1000 i34) = true := by kernel_rfl
end Go.Proofs.YtcfekhcdadldmaaGreatDoor.D
