/-
  Calls of CheckRuns, worked out by the kernel.
-/
import Derived.Test.YtoijoamkbjpihaaGreatDoorRInst
namespace Go.Proofs.YtoijoamkbjpihaaGreatDoor
open Go Am
set_option maxRecDepth 10000000
set_option maxHeartbeats 0
theorem e25 : toB (chkI (envOf Tryz.prog (extI exts l24) xts (hasI exts l24)) 1000 i25) = true := by kernel_rfl
theorem e26 : toB (chkI (envOf Tryz.prog (extI exts l25) xts (hasI exts l25)) 1000 i26) = true := by kernel_rfl
theorem e27 : toB (chkI (envOf Tryz.prog (extI exts l26) xts (hasI exts l26)) 1000 i27) = true := by kernel_rfl
theorem e28 : toB (chkI (envOf Tryz.prog (extI exts l27) xts (hasI exts l27)) 1000 i28) = true := by kernel_rfl
theorem e29 : toB (chkI (envOf Tryz.prog (extI exts l28) xts (hasI exts l28)) 1000 i29) = true := by kernel_rfl
end Go.Proofs.YtoijoamkbjpihaaGreatDoor
