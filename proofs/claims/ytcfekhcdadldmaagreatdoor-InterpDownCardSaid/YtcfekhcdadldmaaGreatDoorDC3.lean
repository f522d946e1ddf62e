/-
  Calls of InterpDown, worked out by the kernel.
-/
import Derived.Test.YtcfekhcdadldmaaGreatDoorDInst
namespace Go.Proofs.YtcfekhcdadldmaaGreatDoor.D
open Go Am
set_option maxRecDepth 10000000
set_option maxHeartbeats 0
theorem e18 : toB (chkI (envOf Tryz.prog (extI exts3 l17) xts (hasI exts3 l17)) 1000 i18) = true := by kernel_rfl
theorem e19 : toB (chkI (envOf Tryz.prog (extI exts3 l18) xts (hasI exts3 l18)) 1000 i19) = true := by kernel_rfl
theorem e20 : toB (chkI (envOf Tryz.prog (extI exts3 l19) xts (hasI exts3 l19)) 1000 i20) = true := by kernel_rfl
theorem e21 : toB (chkI (envOf Tryz.prog (extI exts3 l20) xts (hasI exts3 l20)) 1000 i21) = true := by kernel_rfl
theorem e22 : toB (chkI (envOf Tryz.prog (extI exts3 l21) xts (hasI exts3 l21)) 1000 i22) = true := by kernel_rfl
theorem e23 : toB (chkI (envOf Tryz.prog (extI exts3 l22) xts (hasI exts3 l22)) 1000 i23) = true := by kernel_rfl
theorem e24 : toB (chkI (envOf Tryz.prog (extI exts3 l23) xts (hasI exts3 l23)) 1000 i24) = true := by kernel_rfl
theorem e25 : toB (chkI (envOf Tryz.prog (extI exts3 l24) xts (hasI exts3 l24)) 1000 i25) = true := by kernel_rfl
theorem e26 : toB (chkI (envOf Tryz.prog (extI exts3 l25) xts (hasI exts3 l25)) 1000 i26) = true := by kernel_rfl
end Go.Proofs.YtcfekhcdadldmaaGreatDoor.D
