/-
  Calls of InterpRuns, worked out by the kernel.
-/
import Derived.Test.YtcfekhcdadldmaaGreatDoorRInst
namespace Go.Proofs.YtcfekhcdadldmaaGreatDoor
open Go Am
set_option maxRecDepth 10000000
set_option maxHeartbeats 0
theorem e44 : toB (chkI (envOf Tryz.prog (extI exts l43) xts (hasI exts l43)) 1000 i44) = true := by kernel_rfl
theorem e45 : toB (chkI (envOf Tryz.prog (extI exts l44) xts (hasI exts l44)) 1000 i45) = true := by kernel_rfl
theorem e46 : toB (chkI (envOf Tryz.prog (extI exts l45) xts (hasI exts l45)) 1000 i46) = true := by kernel_rfl
theorem e47 : toB (chkI (envOf Tryz.prog (extI exts l46) xts (hasI exts l46)) 1000 i47) = true := by kernel_rfl
theorem e48 : toB (chkI (envOf Tryz.prog (extI exts l47) xts (hasI exts l47)) 1000 i48) = true := by kernel_rfl
theorem e49 : toB (chkI (envOf Tryz.prog (extI exts l48) xts (hasI exts l48)) 1000 i49) = true := by kernel_rfl
theorem e50 : toB (chkI (envOf Tryz.prog (extI exts l49) xts (hasI exts l49)) 1000 i50) = true := by kernel_rfl
theorem e51 : toB (chkI (envOf Tryz.prog (extI exts l50) xts (hasI exts l50)) 1000 i51) = true := by kernel_rfl
theorem e52 : toB (chkI (envOf Tryz.prog (extI exts l51) xts (hasI exts l51)) 1000 i52) = true := by kernel_rfl
theorem e53 : toB (chkI (envOf Tryz.prog (extI exts l52) xts (hasI exts l52)) 1000 i53) = true := by kernel_rfl
theorem e54 : toB (chkI (envOf Tryz.prog (extI exts l53) xts (hasI exts l53)) 1000 i54) = true := by kernel_rfl
theorem e55 : toB (chkI (envOf Tryz.prog (extI exts l54) xts (hasI exts l54)) 1000 i55) = true := by kernel_rfl
end Go.Proofs.YtcfekhcdadldmaaGreatDoor
