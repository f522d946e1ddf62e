/-
  Calls of InterpDown, worked out by the kernel.
-/
import Derived.Test.YtcfekhcdadldmaaGreatDoorDInst
namespace Go.Proofs.YtcfekhcdadldmaaGreatDoor.D
open Go Am
set_option maxRecDepth 10000000
set_option maxHeartbeats 0
theorem e1 : toB (chkI (envOf Tryz.prog (extI exts3 l0) xts (hasI exts3 l0)) 1000 i1) = true := by kernel_rfl
theorem e2 : toB (chkI (envOf Tryz.prog (extI exts3 l1) xts (hasI exts3 l1)) 1000 i2) = true := by kernel_rfl
theorem e3 : toB (chkI (envOf Tryz.prog (extI exts3 l2) xts (hasI exts3 l2)) 1000 i3) = true := by kernel_rfl
theorem e4 : toB (chkI (envOf Tryz.prog (extI exts3 l3) xts (hasI exts3 l3)) 1000 i4) = true := by kernel_rfl
theorem e5 : toB (chkI (envOf Tryz.prog (extI exts3 l4) xts (hasI exts3 l4)) 1000 i5) = true := by kernel_rfl
theorem e6 : toB (chkI (envOf Tryz.prog (extI exts3 l5) xts (hasI exts3 l5)) 1000 i6) = true := by kernel_rfl
theorem e7 : toB (chkI (envOf Tryz.prog (extI exts3 l6) xts (hasI exts3 l6)) 1000 i7) = true := by kernel_rfl
theorem e8 : toB (chkI (envOf Tryz.prog (extI exts3 l7) xts (hasI exts3 l7)) 1000 i8) = true := by kernel_rfl
theorem e9 : toB (chkI (envOf Tryz.prog (extI exts3 l8) xts (hasI exts3 l8)) 1000 i9) = true := by kernel_rfl
end Go.Proofs.YtcfekhcdadldmaaGreatDoor.D
