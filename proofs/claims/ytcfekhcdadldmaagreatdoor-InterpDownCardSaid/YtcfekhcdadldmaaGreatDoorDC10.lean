/-
  Calls of InterpDown, worked out by the kernel.
-/
import Derived.Test.YtcfekhcdadldmaaGreatDoorDInst
namespace Go.Proofs.YtcfekhcdadldmaaGreatDoor.D
open Go Am
set_option maxRecDepth 10000000
set_option maxHeartbeats 0
theorem e72 : toB (chkI (envOf Tryz.prog (extI exts3 l71) xts (hasI exts3 l71)) 1000 i72) = true := by kernel_rfl
theorem e73 : toB (chkI (envOf Tryz.prog (extI exts3 l72) xts (hasI exts3 l72)) 1000 i73) = true := by kernel_rfl
theorem e74 : toB (chkI (envOf Tryz.prog (extI exts3 l73) xts (hasI exts3 l73)) 1000 i74) = true := by kernel_rfl
theorem e75 : toB (chkI (envOf Tryz.prog (extI exts3 l74) xts (hasI exts3 l74)) 1000 i75) = true := by kernel_rfl
theorem e76 : toB (chkI (envOf Tryz.prog (extI exts3 l75) xts (hasI exts3 l75)) 1000 i76) = true := by kernel_rfl
theorem e77 : toB (chkI (envOf Tryz.prog (extI exts3 l76) xts (hasI exts3 l76)) 1000 i77) = true := by kernel_rfl
theorem e78 : toB (chkI (envOf Tryz.prog (extI exts3 l77) xts (hasI exts3 l77)) 1000 i78) = true := by kernel_rfl
theorem e79 : toB (chkI (envOf Tryz.prog (extI exts3 l78) xts (hasI exts3 l78)) 1000 i79) = true := by kernel_rfl
end Go.Proofs.YtcfekhcdadldmaaGreatDoor.D
