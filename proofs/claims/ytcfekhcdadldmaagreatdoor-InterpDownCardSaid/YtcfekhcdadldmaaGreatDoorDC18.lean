/-
  Calls of InterpDown, worked out by the kernel.
-/
import Derived.Test.YtcfekhcdadldmaaGreatDoorDInst
namespace Go.Proofs.YtcfekhcdadldmaaGreatDoor.D
open Go Am
set_option maxRecDepth 10000000
set_option maxHeartbeats 0
theorem e134 : toB (chkI (envOf Tryz.prog (extI exts3 l133) xts (hasI exts3 l133)) 1000 i134) = true := by kernel_rfl
theorem e135 : toB (chkI (envOf Tryz.prog (extI exts3 l134) xts (hasI exts3 l134)) 1000 i135) = true := by kernel_rfl
theorem e136 : toB (chkI (envOf Tryz.prog (extI exts3 l135) xts (hasI exts3 l135)) 1000 i136) = true := by kernel_rfl
theorem e137 : toB (chkI (envOf Tryz.prog (extI exts3 l136) xts (hasI exts3 l136)) 1000 i137) = true := by kernel_rfl
end Go.Proofs.YtcfekhcdadldmaaGreatDoor.D
