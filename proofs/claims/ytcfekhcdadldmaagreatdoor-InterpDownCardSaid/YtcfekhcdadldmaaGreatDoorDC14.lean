/-
  Calls of InterpDown, worked out by the kernel.
-/
import Derived.Test.YtcfekhcdadldmaaGreatDoorDInst
namespace Go.Proofs.YtcfekhcdadldmaaGreatDoor.D
open Go Am
set_option maxRecDepth 10000000
set_option maxHeartbeats 0
theorem e103 : toB (chkI (envOf Tryz.prog (extI exts3 l102) xts (hasI exts3 l102)) 1000 i103) = true := by kernel_rfl
theorem e104 : toB (chkI (envOf Tryz.prog (extI exts3 l103) xts (hasI exts3 l103)) 1000 i104) = true := by kernel_rfl
theorem e105 : toB (chkI (envOf Tryz.prog (extI exts3 l104) xts (hasI exts3 l104)) 1000 i105) = true := by kernel_rfl
theorem e106 : toB (chkI (envOf Tryz.prog (extI exts3 l105) xts (hasI exts3 l105)) 1000 i106) = true := by kernel_rfl
theorem e107 : toB (chkI (envOf Tryz.prog (extI exts3 l106) xts (hasI exts3 l106)) 1000 i107) = true := by kernel_rfl
theorem e108 : toB (chkI (envOf Tryz.prog (extI exts3 l107) xts (hasI exts3 l107)) 1000 i108) = true := by kernel_rfl
theorem e109 : toB (chkI (envOf Tryz.prog (extI exts3 l108) xts (hasI exts3 l108)) 1000 i109) = true := by kernel_rfl
end Go.Proofs.YtcfekhcdadldmaaGreatDoor.D
