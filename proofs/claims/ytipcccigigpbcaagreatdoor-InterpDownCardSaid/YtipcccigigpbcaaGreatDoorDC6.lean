/-
  Calls of InterpDown, worked out by the kernel.
-/
import Derived.Test.YtipcccigigpbcaaGreatDoorDInst
namespace Go.Proofs.YtipcccigigpbcaaGreatDoor.D
open Go Am
set_option maxRecDepth 10000000
set_option maxHeartbeats 0
theorem e45 : toB (chkI (envOf Tryz.prog (extI exts3 l44) xts (hasI exts3 l44)) 1000 i45) = true := by kernel_rfl
theorem e46 : toB (chkI (envOf Tryz.prog (extI exts3 l45) xts (hasI exts3 l45)) 1000 i46) = true := by kernel_rfl
theorem e47 : toB (chkI (envOf Tryz.prog (extI exts3 l46) xts (hasI exts3 l46)) 1000 i47) = true := by kernel_rfl
theorem e48 : toB (chkI (envOf Tryz.prog (extI exts3 l47) xts (hasI exts3 l47)) 1000 i48) = true := by kernel_rfl
theorem e49 : toB (chkI (envOf Tryz.prog (extI exts3 l48) xts (hasI exts3 l48)) 1000 i49) = true := by kernel_rfl
theorem e50 : toB (chkI (envOf Tryz.prog (extI exts3 l49) xts (hasI exts3 l49)) 1000 i50) = true := by kernel_rfl
theorem e51 : toB (chkI (envOf Tryz.prog (extI exts3 l50) xts (hasI exts3 l50)) 1000 i51) = true := by kernel_rfl
theorem e52 : toB (chkI (envOf Tryz.prog (extI exts3 l51) xts (hasI exts3 l51)) 1000 i52) = true := by kernel_rfl
end Go.Proofs.YtipcccigigpbcaaGreatDoor.D
