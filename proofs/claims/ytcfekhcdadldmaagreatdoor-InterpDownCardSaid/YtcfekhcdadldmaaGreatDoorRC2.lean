/-
  Calls of InterpRuns, worked out by the kernel.
-/
import Derived.Test.YtcfekhcdadldmaaGreatDoorRInst
namespace Go.Proofs.YtcfekhcdadldmaaGreatDoor
open Go Am
set_option maxRecDepth 10000000
set_option maxHeartbeats 0
theorem e23 : toB (chkI (envOf Tryz.prog (extI exts l22) xts (hasI exts l22)) 1000 i23) = true := by kernel_rfl
theorem e24 : toB (chkI (envOf Tryz.prog (extI exts l23) xts (hasI exts l23)) 1000 i24) = true := by kernel_rfl
theorem e25 : toB (chkI (envOf Tryz.prog (extI exts l24) xts (hasI exts l24)) 1000 i25) = true := by kernel_rfl
theorem e26 : toB (chkI (envOf Tryz.prog (extI exts l25) xts (hasI exts l25)) 1000 i26) = true := by kernel_rfl
theorem e27 : toB (chkI (envOf Tryz.prog (extI exts l26) xts (hasI exts l26)) 1000 i27) = true := by kernel_rfl
theorem e28 : toB (chkI (envOf Tryz.prog (extI exts l27) xts (hasI exts l27)) 1000 i28) = true := by kernel_rfl
theorem e29 : toB (chkI (envOf Tryz.prog (extI exts l28) xts (hasI exts l28)) 1000 i29) = true := by kernel_rfl
end Go.Proofs.YtcfekhcdadldmaaGreatDoor
