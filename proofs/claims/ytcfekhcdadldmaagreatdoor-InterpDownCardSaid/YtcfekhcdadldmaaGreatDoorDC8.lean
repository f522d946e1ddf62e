/-
  Calls of InterpDown, worked out by the kernel.
-/
import Derived.Test.YtcfekhcdadldmaaGreatDoorDInst
namespace Go.Proofs.YtcfekhcdadldmaaGreatDoor.D
open Go Am
set_option maxRecDepth 10000000
set_option maxHeartbeats 0
theorem e58 : toB (chkI (envOf Tryz.prog (extI exts3 l57) xts (hasI exts3 l57)) 1000 i58) = true := by kernel_rfl
theorem e59 : toB (chkI (envOf Tryz.prog (extI exts3 l58) xts (hasI exts3 l58)) 1000 i59) = true := by kernel_rfl
theorem e60 : toB (chkI (envOf Tryz.prog (extI exts3 l59) xts (hasI exts3 l59)) 1000 i60) = true := by kernel_rfl
theorem e61 : toB (chkI (envOf Tryz.prog (extI exts3 l60) xts (hasI exts3 l60)) 1000 i61) = true := by kernel_rfl
theorem e62 : toB (chkI (envOf Tryz.prog (extI exts3 l61) xts (hasI exts3 l61)) 1000 i62) = true := by kernel_rfl
theorem e63 : toB (chkI (envOf Tryz.prog (extI exts3 l62) xts (hasI exts3 l62)) 1000 i63) = true := by kernel_rfl
theorem e64 : toB (chkI (envOf Tryz.prog (extI exts3 l63) xts (hasI exts3 l63)) 1000 i64) = true := by kernel_rfl
theorem e65 : toB (chkI (envOf Tryz.prog (extI exts3 l64) xts (hasI exts3 l64)) 1000 i65) = true := by kernel_rfl
end Go.Proofs.YtcfekhcdadldmaaGreatDoor.D
