/-
  Calls of InterpRuns, worked out by the kernel.
-/
import Derived.Test.YtcfekhcdadldmaaGreatDoorRInst
namespace Go.Proofs.YtcfekhcdadldmaaGreatDoor
open Go Am
set_option maxRecDepth 10000000
set_option maxHeartbeats 0
theorem e1 : toB (chkI (envOf Tryz.prog (extI exts l0) xts (hasI exts l0)) 1000 i1) = true := by kernel_rfl
theorem e2 : toB (chkI (envOf Tryz.prog (extI exts l1) xts (hasI exts l1)) 1000 i2) = true := by kernel_rfl
theorem e3 : toB (chkI (envOf Tryz.prog (extI exts l2) xts (hasI exts l2)) 1000 i3) = true := by kernel_rfl
theorem e4 : toB (chkI (envOf Tryz.prog (extI exts l3) xts (hasI exts l3)) 1000 i4) = true := by kernel_rfl
theorem e5 : toB (chkI (envOf Tryz.prog (extI exts l4) xts (hasI exts l4)) 1000 i5) = true := by kernel_rfl
theorem e6 : toB (chkI (envOf Tryz.prog (extI exts l5) xts (hasI exts l5)) 1000 i6) = true := by kernel_rfl
theorem e7 : toB (chkI (envOf Tryz.prog (extI exts l6) xts (hasI exts l6)) 1000 i7) = true := by kernel_rfl
theorem e8 : toB (chkI (envOf Tryz.prog (extI exts l7) xts (hasI exts l7)) 1000 i8) = true := by kernel_rfl
theorem e9 : toB (chkI (envOf Tryz.prog (extI exts l8) xts (hasI exts l8)) 1000 i9) = true := by kernel_rfl
theorem e10 : toB (chkI (envOf Tryz.prog (extI exts l9) xts (hasI exts l9)) 1000 i10) = true := by kernel_rfl
theorem e11 : toB (chkI (envOf Tryz.prog (extI exts l10) xts (hasI exts l10)) 1000 i11) = true := by kernel_rfl
theorem e12 : toB (chkI (envOf Tryz.prog (extI exts l11) xts (hasI exts l11)) 1000 i12) = true := by kernel_rfl
theorem e13 : toB (chkI (envOf Tryz.prog (extI exts l12) xts (hasI exts l12)) 1000 i13) = true := by kernel_rfl
theorem e14 : toB (chkI (envOf Tryz.prog (extI exts l13) xts (hasI exts l13)) 1000 i14) = true := by kernel_rfl
theorem e15 : toB (chkI (envOf Tryz.prog (extI exts l14) xts (hasI exts l14)) 1000 i15) = true := by kernel_rfl
theorem e16 : toB (chkI (envOf Tryz.prog (extI exts l15) xts (hasI exts l15)) 1000 i16) = true := by kernel_rfl
theorem e17 : toB (chkI (envOf Tryz.prog (extI exts l16) xts (hasI exts l16)) 1000 i17) = true := by kernel_rfl
theorem e18 : toB (chkI (envOf Tryz.prog (extI exts l17) xts (hasI exts l17)) 1000 i18) = true := by kernel_rfl
theorem e19 : toB (chkI (envOf Tryz.prog (extI exts l18) xts (hasI exts l18)) 1000 i19) = true := by kernel_rfl
theorem e20 : toB (chkI (envOf Tryz.prog (extI exts l19) xts (hasI exts l19)) 1000 i20) = true := by kernel_rfl
theorem e21 : toB (chkI (envOf Tryz.prog (extI exts l20) xts (hasI exts l20)) 1000 i21) = true := by kernel_rfl
theorem e22 : toB (chkI (envOf Tryz.prog (extI exts l21) xts (hasI exts l21)) 1000 i22) = true := by kernel_rfl
end Go.Proofs.YtcfekhcdadldmaaGreatDoor
