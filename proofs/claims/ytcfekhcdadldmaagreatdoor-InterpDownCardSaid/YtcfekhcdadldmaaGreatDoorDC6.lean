/-
  Calls of InterpDown, worked out by the kernel.
-/
import Derived.Test.YtcfekhcdadldmaaGreatDoorDInst
namespace Go.Proofs.YtcfekhcdadldmaaGreatDoor.D
open Go Am
set_option maxRecDepth 10000000
set_option maxHeartbeats 0
theorem e43 : toB (chkI (envOf Tryz.prog (extI exts3 l42) xts (hasI exts3 l42)) 1000 i43) = true := by kernel_rfl
theorem e44 : toB (chkI (envOf Tryz.prog (extI exts3 l43) xts (hasI exts3 l43)) 1000 i44) = true := by kernel_rfl
theorem e45 : toB (chkI (envOf Tryz.prog (extI exts3 l44) xts (hasI exts3 l44)) 1000 i45) = true := by kernel_rfl
theorem e46 : toB (chkI (envOf Tryz.prog (extI exts3 l45) xts (hasI exts3 l45)) 1000 i46) = true := by kernel_rfl
theorem e47 : toB (chkI (envOf Tryz.prog (extI exts3 l46) xts (hasI exts3 l46)) 1000 i47) = true := by kernel_rfl
theorem e48 : toB (chkI (envOf Tryz.prog (extI exts3 l47) xts (hasI exts3 l47)) 1000 i48) = true := by kernel_rfl
theorem e49 : toB (chkI (envOf Tryz.prog (extI exts3 l48) xts (hasI exts3 l48)) 1000 i49) = true := by kernel_rfl
end Go.Proofs.YtcfekhcdadldmaaGreatDoor.D
