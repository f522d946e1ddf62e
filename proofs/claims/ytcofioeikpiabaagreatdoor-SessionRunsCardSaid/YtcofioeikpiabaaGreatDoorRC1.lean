/-
  Calls of SessionRuns, worked out by the kernel.
-/
import Derived.Test.YtcofioeikpiabaaGreatDoorRInst
namespace Go.Proofs.YtcofioeikpiabaaGreatDoor
open Go Am
set_option maxRecDepth 10000000
set_option maxHeartbeats 0
theorem e1 : toB (chkI (envOf Tryz.prog (extI exts l0) xts (hasI exts l0)) 1000 i1) = true := by kernel_rfl
theorem e2 : toB (chkI (envOf Tryz.prog (extI exts l1) xts (hasI exts l1)) 1000 i2) = true := by kernel_rfl
theorem e3 : toB (chkI (envOf Tryz.prog (extI exts l2) xts (hasI exts l2)) 1000 i3) = true := by kernel_rfl
theorem e4 : toB (chkI (envOf Tryz.prog (extI exts l3) xts (hasI exts l3)) 1000 i4) = true := by kernel_rfl
theorem e5 : toB (chkI (envOf Tryz.prog (extI exts l4) xts (hasI exts l4)) 1000 i5) = true := by kernel_rfl
theorem e6 : toB (chkI (envOf Tryz.prog (extI exts l5) xts (hasI exts l5)) 1000 i6) = true := by kernel_rfl
theorem e7 : toB (chkI (envOf Tryz.prog (extI exts l6) xts (hasI exts l6)) 1000 i7) = true := by kernel_rfl
theorem e8 : toB (chkI (envOf Tryz.prog (extI exts l7) xts (hasI exts l7)) 1000 i8) = true := by kernel_rfl
theorem e9 : toB (chkI (envOf Tryz.prog (extI exts l8) xts (hasI exts l8)) 1000 i9) = true := by kernel_rfl
theorem e10 : toB (chkI (envOf Tryz.prog (extI exts l9) xts (hasI exts l9)) 1000 i10) = true := by kernel_rfl
theorem e11 : toB (chkI (envOf Tryz.prog (extI exts l10) xts (hasI exts l10)) 1000 i11) = true := by kernel_rfl
theorem e12 : toB (chkI (envOf Tryz.prog (extI exts l11) xts (hasI exts l11)) 1000 i12) = true := by kernel_rfl
theorem e13 : toB (chkI (envOf Tryz.prog (extI exts l12) xts (hasI exts l12)) 1000 i13) = true := by kernel_rfl
theorem e14 : toB (chkI (envOf Tryz.prog (extI exts l13) xts (hasI exts l13)) 1000 i14) = true := by kernel_rfl
end Go.Proofs.YtcofioeikpiabaaGreatDoor
