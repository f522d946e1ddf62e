/-
  Calls of CheckRuns, worked out by the kernel.
-/
import Derived.Test.YtoijoamkbjpihaaGreatDoorRInst
namespace Go.Proofs.YtoijoamkbjpihaaGreatDoor
open Go Am
set_option maxRecDepth 10000000
set_option maxHeartbeats 0
theorem e30 : toB (chkI (envOf Tryz.prog (extI exts l29) xts (hasI exts l29)) 1000 i30) = true := by kernel_rfl
theorem e31 : toB (chkI (envOf Tryz.prog (extI exts l30) xts (hasI exts l30)) 1000 i31) = true := by kernel_rfl
theorem e32 : toB (chkI (envOf Tryz.prog (extI exts l31) xts (hasI exts l31)) 1000 i32) = true := by kernel_rfl
theorem e33 : toB (chkI (envOf Tryz.prog (extI exts l32) xts (hasI exts l32)) 1000 i33) = true := by kernel_rfl
theorem e34 : toB (chkI (envOf Tryz.prog (extI exts l33) xts (hasI exts l33)) 1000 i34) = true := by kernel_rfl
theorem e35 : toB (chkI (envOf Tryz.prog (extI exts l34) xts (hasI exts l34)) 1000 i35) = true := by kernel_rfl
theorem e36 : toB (chkI (envOf Tryz.prog (extI exts l35) xts (hasI exts l35)) 1000 i36) = true := by kernel_rfl
end Go.Proofs.YtoijoamkbjpihaaGreatDoor
