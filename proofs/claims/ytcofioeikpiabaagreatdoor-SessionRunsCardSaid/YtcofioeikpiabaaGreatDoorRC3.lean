/-
  Calls of SessionRuns, worked out by the kernel.
-/
import Derived.Test.YtcofioeikpiabaaGreatDoorRInst
namespace Go.Proofs.YtcofioeikpiabaaGreatDoor
open Go Am
set_option maxRecDepth 10000000
set_option maxHeartbeats 0
theorem e38 : toB (chkI (envOf Tryz.prog (extI exts l37) xts (hasI exts l37)) 1000 i38) = true := by kernel_rfl
theorem e39 : toB (chkI (envOf Tryz.prog (extI exts l38) xts (hasI exts l38)) 1000 i39) = true := by kernel_rfl
theorem e40 : toB (chkI (envOf Tryz.prog (extI exts l39) xts (hasI exts l39)) 1000 i40) = true := by kernel_rfl
theorem e41 : toB (chkI (envOf Tryz.prog (extI exts l40) xts (hasI exts l40)) 1000 i41) = true := by kernel_rfl
theorem e42 : toB (chkI (envOf Tryz.prog (extI exts l41) xts (hasI exts l41)) 1000 i42) = true := by kernel_rfl
theorem e43 : toB (chkI (envOf Tryz.prog (extI exts l42) xts (hasI exts l42)) 1000 i43) = true := by kernel_rfl
theorem e44 : toB (chkI (envOf Tryz.prog (extI exts l43) xts (hasI exts l43)) 1000 i44) = true := by kernel_rfl
theorem e45 : toB (chkI (envOf Tryz.prog (extI exts l44) xts (hasI exts l44)) 1000 i45) = true := by kernel_rfl
theorem e46 : toB (chkI (envOf Tryz.prog (extI exts l45) xts (hasI exts l45)) 1000 i46) = true := by kernel_rfl
theorem e47 : toB (chkI (envOf Tryz.prog (extI exts l46) xts (hasI exts l46)) 1000 i47) = true := by kernel_rfl
theorem e48 : toB (chkI (envOf Tryz.prog (extI exts l47) xts (hasI exts l47)) 1000 i48) = true := by kernel_rfl
theorem e49 : toB (chkI (envOf Tryz.prog (extI exts l48) xts (hasI exts l48)) 1000 i49) = true := by kernel_rfl
theorem e50 : toB (chkI (envOf Tryz.prog (extI exts l49) xts (hasI exts l49)) 1000 i50) = true := by kernel_rfl
theorem e51 : toB (chkI (envOf Tryz.prog (extI exts l50) xts (hasI exts l50)) 1000 i51) = true := by kernel_rfl
theorem e52 : toB (chkI (envOf Tryz.prog (extI exts l51) xts (hasI exts l51)) 1000 i52) = true := by kernel_rfl
theorem e53 : toB (chkI (envOf Tryz.prog (extI exts l52) xts (hasI exts l52)) 1000 i53) = true := by kernel_rfl
theorem e54 : toB (chkI (envOf Tryz.prog (extI exts l53) xts (hasI exts l53)) 1000 i54) = true := by kernel_rfl
theorem e55 : toB (chkI (envOf Tryz.prog (extI exts l54) xts (hasI exts l54)) 1000 i55) = true := by kernel_rfl
theorem e56 : toB (chkI (envOf Tryz.prog (extI exts l55) xts (hasI exts l55)) 1000 i56) = true := by kernel_rfl
theorem e57 : toB (chkI (envOf Tryz.prog (extI exts l56) xts (hasI exts l56)) 1000 i57) = true := by kernel_rfl
theorem e58 : toB (chkI (envOf Tryz.prog (extI exts l57) xts (hasI exts l57)) 1000 i58) = true := by kernel_rfl
theorem e59 : toB (chkI (envOf Tryz.prog (extI exts l58) xts (hasI exts l58)) 1000 i59) = true := by kernel_rfl
theorem e60 : toB (chkI (envOf Tryz.prog (extI exts l59) xts (hasI exts l59)) 1000 i60) = true := by kernel_rfl
theorem e61 : toB (chkI (envOf Tryz.prog (extI exts l60) xts (hasI exts l60)) 1000 i61) = true := by kernel_rfl
theorem e62 : toB (chkI (envOf Tryz.prog (extI exts l61) xts (hasI exts l61)) 1000 i62) = true := by kernel_rfl
end Go.Proofs.YtcofioeikpiabaaGreatDoor
