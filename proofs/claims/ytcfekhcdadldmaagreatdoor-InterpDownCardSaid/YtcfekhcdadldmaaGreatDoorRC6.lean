/-
  Calls of InterpRuns, worked out by the kernel.
-/
import Derived.Test.YtcfekhcdadldmaaGreatDoorRInst
namespace Go.Proofs.YtcfekhcdadldmaaGreatDoor
open Go Am
set_option maxRecDepth 10000000
set_option maxHeartbeats 0
theorem e39 : toB (chkI (envOf Tryz.prog (extI exts l38) xts (hasI exts l38)) 1000 i39) = true := by kernel_rfl
theorem e40 : toB (chkI (envOf Tryz.prog (extI exts l39) xts (hasI exts l39)) 1000 i40) = true := by kernel_rfl
theorem e41 : toB (chkI (envOf Tryz.prog (extI exts l40) xts (hasI exts l40)) 1000 i41) = true := by kernel_rfl
theorem e42 : toB (chkI (envOf Tryz.prog (extI exts l41) xts (hasI exts l41)) 1000 i42) = true := by kernel_rfl
theorem e43 : toB (chkI (envOf Tryz.prog (extI exts l42) xts (hasI exts l42)) 1000 i43) = true := by kernel_rfl
end Go.Proofs.YtcfekhcdadldmaaGreatDoor
