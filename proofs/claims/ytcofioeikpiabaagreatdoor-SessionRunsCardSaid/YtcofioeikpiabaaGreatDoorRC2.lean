/-
  Calls of SessionRuns, worked out by the kernel.
-/
import Derived.Test.YtcofioeikpiabaaGreatDoorRInst
namespace Go.Proofs.YtcofioeikpiabaaGreatDoor
open Go Am
set_option maxRecDepth 10000000
set_option maxHeartbeats 0
theorem e15 : toB (chkI (envOf Tryz.prog (extI exts l14) xts (hasI exts l14)) 1000 i15) = true := by kernel_rfl
theorem e16 : toB (chkI (envOf Tryz.prog (extI exts l15) xts (hasI exts l15)) 1000 i16) = true := by kernel_rfl
theorem e17 : toB (chkI (envOf Tryz.prog (extI exts l16) xts (hasI exts l16)) 1000 i17) = true := by kernel_rfl
theorem e18 : toB (chkI (envOf Tryz.prog (extI exts l17) xts (hasI exts l17)) 1000 i18) = true := by kernel_rfl
theorem e19 : toB (chkI (envOf Tryz.prog (extI exts l18) xts (hasI exts l18)) 1000 i19) = true := by kernel_rfl
theorem e20 : toB (chkI (envOf Tryz.prog (extI exts l19) xts (hasI exts l19)) 1000 i20) = true := by kernel_rfl
theorem e21 : toB (chkI (envOf Tryz.prog (extI exts l20) xts (hasI exts l20)) 1000 i21) = true := by kernel_rfl
theorem e22 : toB (chkI (envOf Tryz.prog (extI exts l21) xts (hasI exts l21)) 1000 i22) = true := by kernel_rfl
theorem e23 : toB (chkI (envOf Tryz.prog (extI exts l22) xts (hasI exts l22)) 1000 i23) = true := by kernel_rfl
theorem e24 : toB (chkI (envOf Tryz.prog (extI exts l23) xts (hasI exts l23)) 1000 i24) = true := by kernel_rfl
theorem e25 : toB (chkI (envOf Tryz.prog (extI exts l24) xts (hasI exts l24)) 1000 i25) = true := by kernel_rfl
theorem e26 : toB (chkI (envOf Tryz.prog (extI exts l25) xts (hasI exts l25)) 1000 i26) = true := by kernel_rfl
theorem e27 : toB (chkI (envOf Tryz.prog (extI exts l26) xts (hasI exts l26)) 1000 i27) = true := by kernel_rfl
theorem e28 : toB (chkI (envOf Tryz.prog (extI exts l27) xts (hasI exts l27)) 1000 i28) = true := by kernel_rfl
theorem e29 : toB (chkI (envOf Tryz.prog (extI exts l28) xts (hasI exts l28)) 1000 i29) = true := by kernel_rfl
theorem e30 : toB (chkI (envOf Tryz.prog (extI exts l29) xts (hasI exts l29)) 1000 i30) = true := by kernel_rfl
theorem e31 : toB (chkI (envOf Tryz.prog (extI exts l30) xts (hasI exts l30)) 1000 i31) = true := by kernel_rfl
theorem e32 : toB (chkI (envOf Tryz.prog (extI exts l31) xts (hasI exts l31)) 1000 i32) = true := by kernel_rfl
theorem e33 : toB (chkI (envOf Tryz.prog (extI exts l32) xts (hasI exts l32)) 1000 i33) = true := by kernel_rfl
theorem e34 : toB (chkI (envOf Tryz.prog (extI exts l33) xts (hasI exts l33)) 1000 i34) = true := by kernel_rfl
theorem e35 : toB (chkI (envOf Tryz.prog (extI exts l34) xts (hasI exts l34)) 1000 i35) = true := by kernel_rfl
theorem e36 : toB (chkI (envOf Tryz.prog (extI exts l35) xts (hasI exts l35)) 1000 i36) = true := by kernel_rfl
theorem e37 : toB (chkI (envOf Tryz.prog (extI exts l36) xts (hasI exts l36)) 1000 i37) = true := by kernel_rfl
end Go.Proofs.YtcofioeikpiabaaGreatDoor
