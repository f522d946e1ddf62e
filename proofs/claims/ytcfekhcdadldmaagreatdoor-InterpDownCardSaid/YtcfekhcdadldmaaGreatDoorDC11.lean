/-
  Calls of InterpDown, worked out by the kernel.
-/
import Derived.Test.YtcfekhcdadldmaaGreatDoorDInst
namespace Go.Proofs.YtcfekhcdadldmaaGreatDoor.D
open Go Am
set_option maxRecDepth 10000000
set_option maxHeartbeats 0
theorem e80 : toB (chkI (envOf Tryz.prog (extI exts3 l79) xts (hasI exts3 l79)) 1000 i80) = true := by kernel_rfl
theorem e81 : toB (chkI (envOf Tryz.prog (extI exts3 l80) xts (hasI exts3 l80)) 1000 i81) = true := by kernel_rfl
theorem e82 : toB (chkI (envOf Tryz.prog (extI exts3 l81) xts (hasI exts3 l81)) 1000 i82) = true := by kernel_rfl
theorem e83 : toB (chkI (envOf Tryz.prog (extI exts3 l82) xts (hasI exts3 l82)) 1000 i83) = true := by kernel_rfl
theorem e84 : toB (chkI (envOf Tryz.prog (extI exts3 l83) xts (hasI exts3 l83)) 1000 i84) = true := by kernel_rfl
theorem e85 : toB (chkI (envOf Tryz.prog (extI exts3 l84) xts (hasI exts3 l84)) 1000 i85) = true := by kernel_rfl
theorem e86 : toB (chkI (envOf Tryz.prog (extI exts3 l85) xts (hasI exts3 l85)) 1000 i86) = true := by kernel_rfl
theorem e87 : toB (chkI (envOf Tryz.prog (extI exts3 l86) xts (hasI exts3 l86)) 1000 i87) = true := by kernel_rfl
end Go.Proofs.YtcfekhcdadldmaaGreatDoor.D
