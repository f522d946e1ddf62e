/-
  Calls of ParseLevels, worked out by the kernel.
-/
import Derived.Test.YteoeonhggmkmnaaGreatDoorDInst
namespace Go.Proofs.YteoeonhggmkmnaaGreatDoor.D
open Go Am
set_option maxRecDepth 10000000
set_option maxHeartbeats 0
theorem e36 : toB (chkI (envOf Tryz.prog (extI exts3 l35) xts (hasI exts3 l35)) 1000 i36) = true := by kernel_rfl
theorem e37 : toB (chkI (envOf Tryz.prog (extI exts3 l36) xts (hasI exts3 l36)) 1000 i37) = true := by kernel_rfl
theorem e38 : toB (chkI (envOf Tryz.prog (extI exts3 l37) xts (hasI exts3 l37)) 1000 i38) = true := by kernel_rfl
theorem e39 : toB (chkI (envOf Tryz.prog (extI exts3 l38) xts (hasI exts3 l38)) 1000 i39) = true := by kernel_rfl
theorem e40 : toB (chkI (envOf Tryz.prog (extI exts3 l39) xts (hasI exts3 l39)) 1000 i40) = true := by kernel_rfl
theorem e41 : toB (chkI (envOf Tryz.prog (extI exts3 l40) xts (hasI exts3 l40)) 1000 i41) = true := by kernel_rfl
theorem e42 : toB (chkI (envOf Tryz.prog (extI exts3 l41) xts (hasI exts3 l41)) 1000 i42) = true := by kernel_rfl
theorem e43 : toB (chkI (envOf Tryz.prog (extI exts3 l42) xts (hasI exts3 l42)) 1000 i43) = true := by kernel_rfl
theorem e44 : toB (chkI (envOf Tryz.prog (extI exts3 l43) xts (hasI exts3 l43)) 1000 i44) = true := by kernel_rfl
theorem e45 : toB (chkI (envOf Tryz.prog (extI exts3 l44) xts (hasI exts3 l44)) 1000 i45) = true := by kernel_rfl
theorem e46 : toB (chkI (envOf Tryz.prog (extI exts3 l45) xts (hasI exts3 l45)) 1000 i46) = true := by kernel_rfl
theorem e47 : toB (chkI (envOf Tryz.prog (extI exts3 l46) xts (hasI exts3 l46)) 1000 i47) = true := by kernel_rfl
theorem e48 : toB (chkI (envOf Tryz.prog (extI exts3 l47) xts (hasI exts3 l47)) 1000 i48) = true := by kernel_rfl
theorem e49 : toB (chkI (envOf Tryz.prog (extI exts3 l48) xts (hasI exts3 l48)) 1000 i49) = true := by kernel_rfl
end Go.Proofs.YteoeonhggmkmnaaGreatDoor.D
