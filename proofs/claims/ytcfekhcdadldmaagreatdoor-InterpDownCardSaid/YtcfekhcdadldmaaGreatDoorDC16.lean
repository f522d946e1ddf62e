/-
  Calls of InterpDown, worked out by the kernel.
-/
import Derived.Test.YtcfekhcdadldmaaGreatDoorDInst
namespace Go.Proofs.YtcfekhcdadldmaaGreatDoor.D
open Go Am
set_option maxRecDepth 10000000
set_option maxHeartbeats 0
theorem e117 : toB (chkI (envOf Tryz.prog (extI exts3 l116) xts (hasI exts3 l116)) 1000 i117) = true := by kernel_rfl
theorem e118 : toB (chkI (envOf Tryz.prog (extI exts3 l117) xts (hasI exts3 l117)) 1000 i118) = true := by kernel_rfl
theorem e119 : toB (chkI (envOf Tryz.prog (extI exts3 l118) xts (hasI exts3 l118)) 1000 i119) = true := by kernel_rfl
theorem e120 : toB (chkI (envOf Tryz.prog (extI exts3 l119) xts (hasI exts3 l119)) 1000 i120) = true := by kernel_rfl
theorem e121 : toB (chkI (envOf Tryz.prog (extI exts3 l120) xts (hasI exts3 l120)) 1000 i121) = true := by kernel_rfl
theorem e122 : toB (chkI (envOf Tryz.prog (extI exts3 l121) xts (hasI exts3 l121)) 1000 i122) = true := by kernel_rfl
theorem e123 : toB (chkI (envOf Tryz.prog (extI exts3 l122) xts (hasI exts3 l122)) 1000 i123) = true := by kernel_rfl
theorem e124 : toB (chkI (envOf Tryz.prog (extI exts3 l123) xts (hasI exts3 l123)) 1000 i124) = true := by kernel_rfl
theorem e125 : toB (chkI (envOf Tryz.prog (extI exts3 l124) xts (hasI exts3 l124)) 1000 i125) = true := by kernel_rfl
end Go.Proofs.YtcfekhcdadldmaaGreatDoor.D
