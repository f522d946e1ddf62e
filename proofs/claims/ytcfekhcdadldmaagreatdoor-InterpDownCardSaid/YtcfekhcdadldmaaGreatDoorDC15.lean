/-
  Calls of InterpDown, worked out by the kernel.
-/
import Derived.Test.YtcfekhcdadldmaaGreatDoorDInst
namespace Go.Proofs.YtcfekhcdadldmaaGreatDoor.D
open Go Am
set_option maxRecDepth 10000000
set_option maxHeartbeats 0
theorem e110 : toB (chkI (envOf Tryz.prog (extI exts3 l109) xts (hasI exts3 l109)) 1000 i110) = true := by kernel_rfl
theorem e111 : toB (chkI (envOf Tryz.prog (extI exts3 l110) xts (hasI exts3 l110)) 1000 i111) = true := by kernel_rfl
theorem e112 : toB (chkI (envOf Tryz.prog (extI exts3 l111) xts (hasI exts3 l111)) 1000 i112) = true := by kernel_rfl
theorem e113 : toB (chkI (envOf Tryz.prog (extI exts3 l112) xts (hasI exts3 l112)) 1000 i113) = true := by kernel_rfl
theorem e114 : toB (chkI (envOf Tryz.prog (extI exts3 l113) xts (hasI exts3 l113)) 1000 i114) = true := by kernel_rfl
theorem e115 : toB (chkI (envOf Tryz.prog (extI exts3 l114) xts (hasI exts3 l114)) 1000 i115) = true := by kernel_rfl
theorem e116 : toB (chkI (envOf Tryz.prog (extI exts3 l115) xts (hasI exts3 l115)) 1000 i116) = true := by kernel_rfl
end Go.Proofs.YtcfekhcdadldmaaGreatDoor.D
