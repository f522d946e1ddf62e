/-
  Calls of InterpDown, worked out by the kernel.
-/
import Derived.Test.YtcfekhcdadldmaaGreatDoorDInst
namespace Go.Proofs.YtcfekhcdadldmaaGreatDoor.D
open Go Am
set_option maxRecDepth 10000000
set_option maxHeartbeats 0
theorem e66 : toB (chkI (envOf Tryz.prog (extI exts3 l65) xts (hasI exts3 l65)) 1000 i66) = true := by kernel_rfl
theorem e67 : toB (chkI (envOf Tryz.prog (extI exts3 l66) xts (hasI exts3 l66)) 1000 i67) = true := by kernel_rfl
theorem e68 : toB (chkI (envOf Tryz.prog (extI exts3 l67) xts (hasI exts3 l67)) 1000 i68) = true := by kernel_rfl
theorem e69 : toB (chkI (envOf Tryz.prog (extI exts3 l68) xts (hasI exts3 l68)) 1000 i69) = true := by kernel_rfl
theorem e70 : toB (chkI (envOf Tryz.prog (extI exts3 l69) xts (hasI exts3 l69)) 1000 i70) = true := by kernel_rfl
theorem e71 : toB (chkI (envOf Tryz.prog (extI exts3 l70) xts (hasI exts3 l70)) 1000 i71) = true := by kernel_rfl
end Go.Proofs.YtcfekhcdadldmaaGreatDoor.D
