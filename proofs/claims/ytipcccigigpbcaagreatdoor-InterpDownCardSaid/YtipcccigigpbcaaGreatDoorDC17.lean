/-
  Calls of InterpDown, worked out by the kernel.
-/
import Derived.Test.YtipcccigigpbcaaGreatDoorDInst
namespace Go.Proofs.YtipcccigigpbcaaGreatDoor.D
open Go Am
set_option maxRecDepth 10000000
set_option maxHeartbeats 0
theorem e133 : toB (chkI (envOf Tryz.prog (extI exts3 l132) xts (hasI exts3 l132)) 1000 i133) = true := by kernel_rfl
theorem e134 : toB (chkI (envOf Tryz.prog (extI exts3 l133) xts (hasI exts3 l133)) 1000 i134) = true := by kernel_rfl
theorem e135 : toB (chkI (envOf Tryz.prog (extI exts3 l134) xts (hasI exts3 l134)) 1000 i135) = true := by kernel_rfl
theorem e136 : toB (chkI (envOf Tryz.prog (extI exts3 l135) xts (hasI exts3 l135)) 1000 i136) = true := by kernel_rfl
theorem e137 : toB (chkI (envOf Tryz.prog (extI exts3 l136) xts (hasI exts3 l136)) 1000 i137) = true := by kernel_rfl
theorem e138 : toB (chkI (envOf Tryz.prog (extI exts3 l137) xts (hasI exts3 l137)) 1000 i138) = true := by kernel_rfl
theorem e139 : toB (chkI (envOf Tryz.prog (extI exts3 l138) xts (hasI exts3 l138)) 1000 i139) = true := by kernel_rfl
theorem e140 : toB (chkI (envOf Tryz.prog (extI exts3 l139) xts (hasI exts3 l139)) 1000 i140) = true := by kernel_rfl
end Go.Proofs.YtipcccigigpbcaaGreatDoor.D
