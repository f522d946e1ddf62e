/-
  Calls of ParseLevels, worked out by the kernel.
-/
import Derived.Test.YteoeonhggmkmnaaGreatDoorDInst
namespace Go.Proofs.YteoeonhggmkmnaaGreatDoor.D
open Go Am
set_option maxRecDepth 10000000
set_option maxHeartbeats 0
theorem e1 : toB (chkI (envOf Tryz.prog (extI exts3 l0) xts (hasI exts3 l0)) 1000 i1) = true := by kernel_rfl
theorem e2 : toB (chkI (envOf Tryz.prog (extI exts3 l1) xts (hasI exts3 l1)) 1000 i2) = true := by kernel_rfl
theorem e3 : toB (chkI (envOf Tryz.prog (extI exts3 l2) xts (hasI exts3 l2)) 1000 i3) = true := by kernel_rfl
theorem e4 : toB (chkI (envOf Tryz.prog (extI exts3 l3) xts (hasI exts3 l3)) 1000 i4) = true := by kernel_rfl
theorem e5 : toB (chkI (envOf Tryz.prog (extI exts3 l4) xts (hasI exts3 l4)) 1000 i5) = true := by kernel_rfl
theorem e6 : toB (chkI (envOf Tryz.prog (extI exts3 l5) xts (hasI exts3 l5)) 1000 i6) = true := by kernel_rfl
theorem e7 : toB (chkI (envOf Tryz.prog (extI exts3 l6) xts (hasI exts3 l6)) 1000 i7) = true := by kernel_rfl
theorem e8 : toB (chkI (envOf Tryz.prog (extI exts3 l7) xts (hasI exts3 l7)) 1000 i8) = true := by kernel_rfl
theorem e9 : toB (chkI (envOf Tryz.prog (extI exts3 l8) xts (hasI exts3 l8)) 1000 i9) = true := by kernel_rfl
theorem e10 : toB (chkI (envOf Tryz.prog (extI exts3 l9) xts (hasI exts3 l9)) 1000 i10) = true := by kernel_rfl
theorem e11 : toB (chkI (envOf Tryz.prog (extI exts3 l10) xts (hasI exts3 l10)) 1000 i11) = true := by kernel_rfl
theorem e12 : toB (chkI (envOf Tryz.prog (extI exts3 l11) xts (hasI exts3 l11)) 1000 i12) = true := by kernel_rfl
theorem e13 : toB (chkI (envOf Tryz.prog (extI exts3 l12) xts (hasI exts3 l12)) 1000 i13) = true := by kernel_rfl
theorem e14 : toB (chkI (envOf Tryz.prog (extI exts3 l13) xts (hasI exts3 l13)) 1000 i14) = true := by kernel_rfl
theorem e15 : toB (chkI (envOf Tryz.prog (extI exts3 l14) xts (hasI exts3 l14)) 1000 i15) = true := by kernel_rfl
theorem e16 : toB (chkI (envOf Tryz.prog (extI exts3 l15) xts (hasI exts3 l15)) 1000 i16) = true := by kernel_rfl
theorem e17 : toB (chkI (envOf Tryz.prog (extI exts3 l16) xts (hasI exts3 l16)) 1000 i17) = true := by kernel_rfl
theorem e18 : toB (chkI (envOf Tryz.prog (extI exts3 l17) xts (hasI exts3 l17)) 1000 i18) = true := by kernel_rfl
theorem e19 : toB (chkI (envOf Tryz.prog (extI exts3 l18) xts (hasI exts3 l18)) 1000 i19) = true := by kernel_rfl
theorem e20 : toB (chkI (envOf Tryz.prog (extI exts3 l19) xts (hasI exts3 l19)) 1000 i20) = true := by kernel_rfl
theorem e21 : toB (chkI (envOf Tryz.prog (extI exts3 l20) xts (hasI exts3 l20)) 1000 i21) = true := by kernel_rfl
theorem e22 : toB (chkI (envOf Tryz.prog (extI exts3 l21) xts (hasI exts3 l21)) 1000 i22) = true := by kernel_rfl
theorem e23 : toB (chkI (envOf Tryz.prog (extI exts3 l22) xts (hasI exts3 l22)) 1000 i23) = true := by kernel_rfl
theorem e24 : toB (chkI (envOf Tryz.prog (extI exts3 l23) xts (hasI exts3 l23)) 1000 i24) = true := by kernel_rfl
theorem e25 : toB (chkI (envOf Tryz.prog (extI exts3 l24) xts (hasI exts3 l24)) 1000 i25) = true := by kernel_rfl
theorem e26 : toB (chkI (envOf Tryz.prog (extI exts3 l25) xts (hasI exts3 l25)) 1000 i26) = true := by kernel_rfl
theorem e27 : toB (chkI (envOf Tryz.prog (extI exts3 l26) xts (hasI exts3 l26)) 1000 i27) = true := by kernel_rfl
theorem e28 : toB (chkI (envOf Tryz.prog (extI exts3 l27) xts (hasI exts3 l27)) 1000 i28) = true := by kernel_rfl
theorem e29 : toB (chkI (envOf Tryz.prog (extI exts3 l28) xts (hasI exts3 l28)) 1000 i29) = true := by kernel_rfl
theorem e30 : toB (chkI (envOf Tryz.prog (extI exts3 l29) xts (hasI exts3 l29)) 1000 i30) = true := by kernel_rfl
theorem e31 : toB (chkI (envOf Tryz.prog (extI exts3 l30) xts (hasI exts3 l30)) 1000 i31) = true := by kernel_rfl
theorem e32 : toB (chkI (envOf Tryz.prog (extI exts3 l31) xts (hasI exts3 l31)) 1000 i32) = true := by kernel_rfl
theorem e33 : toB (chkI (envOf Tryz.prog (extI exts3 l32) xts (hasI exts3 l32)) 1000 i33) = true := by kernel_rfl
theorem e34 : toB (chkI (envOf Tryz.prog (extI exts3 l33) xts (hasI exts3 l33)) 1000 i34) = true := by kernel_rfl
theorem e35 : toB (chkI (envOf Tryz.prog (extI exts3 l34) xts (hasI exts3 l34)) 1000 i35) = true := by kernel_rfl
end Go.Proofs.YteoeonhggmkmnaaGreatDoor.D
