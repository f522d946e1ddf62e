/-
  Calls of InterpDown, worked out by the kernel.
-/
import Derived.Test.YtcfekhcdadldmaaGreatDoorDInst
namespace Go.Proofs.YtcfekhcdadldmaaGreatDoor.D
open Go Am
set_option maxRecDepth 10000000
set_option maxHeartbeats 0
theorem e10 : toB (chkI (envOf Tryz.prog (extI exts3 l9) xts (hasI exts3 l9)) 1000 i10) = true := by kernel_rfl
theorem e11 : toB (chkI (envOf Tryz.prog (extI exts3 l10) xts (hasI exts3 l10)) 1000 i11) = true := by kernel_rfl
theorem e12 : toB (chkI (envOf Tryz.prog (extI exts3 l11) xts (hasI exts3 l11)) 1000 i12) = true := by kernel_rfl
theorem e13 : toB (chkI (envOf Tryz.prog (extI exts3 l12) xts (hasI exts3 l12)) 1000 i13) = true := by kernel_rfl
theorem e14 : toB (chkI (envOf Tryz.prog (extI exts3 l13) xts (hasI exts3 l13)) 1000 i14) = true := by kernel_rfl
theorem e15 : toB (chkI (envOf Tryz.prog (extI exts3 l14) xts (hasI exts3 l14)) 1000 i15) = true := by kernel_rfl
theorem e16 : toB (chkI (envOf Tryz.prog (extI exts3 l15) xts (hasI exts3 l15)) 1000 i16) = true := by kernel_rfl
theorem e17 : toB (chkI (envOf Tryz.prog (extI exts3 l16) xts (hasI exts3 l16)) 1000 i17) = true := by kernel_rfl
end Go.Proofs.YtcfekhcdadldmaaGreatDoor.D
