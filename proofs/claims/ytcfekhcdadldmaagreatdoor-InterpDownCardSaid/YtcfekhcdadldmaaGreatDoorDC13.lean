/-
  Calls of InterpDown, worked out by the kernel.
-/
import Derived.Test.YtcfekhcdadldmaaGreatDoorDInst
namespace Go.Proofs.YtcfekhcdadldmaaGreatDoor.D
open Go Am
set_option maxRecDepth 10000000
set_option maxHeartbeats 0
theorem e95 : toB (chkI (envOf Tryz.prog (extI exts3 l94) xts (hasI exts3 l94)) 1000 i95) = true := by kernel_rfl
theorem e96 : toB (chkI (envOf Tryz.prog (extI exts3 l95) xts (hasI exts3 l95)) 1000 i96) = true := by kernel_rfl
theorem e97 : toB (chkI (envOf Tryz.prog (extI exts3 l96) xts (hasI exts3 l96)) 1000 i97) = true := by kernel_rfl
theorem e98 : toB (chkI (envOf Tryz.prog (extI exts3 l97) xts (hasI exts3 l97)) 1000 i98) = true := by kernel_rfl
theorem e99 : toB (chkI (envOf Tryz.prog (extI exts3 l98) xts (hasI exts3 l98)) 1000 i99) = true := by kernel_rfl
theorem e100 : toB (chkI (envOf Tryz.prog (extI exts3 l99) xts (hasI exts3 l99)) 1000 i100) = true := by kernel_rfl
theorem e101 : toB (chkI (envOf Tryz.prog (extI exts3 l100) xts (hasI exts3 l100)) 1000 i101) = true := by kernel_rfl
theorem e102 : toB (chkI (envOf Tryz.prog (extI exts3 l101) xts (hasI exts3 l101)) 1000 i102) = true := by kernel_rfl
end Go.Proofs.YtcfekhcdadldmaaGreatDoor.D
