/-
  Calls of InterpDown, worked out by the kernel.
-/
import Derived.Test.YtcfekhcdadldmaaGreatDoorDInst
namespace Go.Proofs.YtcfekhcdadldmaaGreatDoor.D
open Go Am
set_option maxRecDepth 10000000
set_option maxHeartbeats 0
theorem e35 : toB (chkI (envOf Tryz.prog (extI exts3 l34) xts (hasI exts3 l34)) 1000 i35) = true := by kernel_rfl
theorem e36 : toB (chkI (envOf Tryz.prog (extI exts3 l35) xts (hasI exts3 l35)) 1000 i36) = true := by kernel_rfl
theorem e37 : toB (chkI (envOf Tryz.prog (extI exts3 l36) xts (hasI exts3 l36)) 1000 i37) = true := by kernel_rfl
theorem e38 : toB (chkI (envOf Tryz.prog (extI exts3 l37) xts (hasI exts3 l37)) 1000 i38) = true := by kernel_rfl
theorem e39 : toB (chkI (envOf Tryz.prog (extI exts3 l38) xts (hasI exts3 l38)) 1000 i39) = true := by kernel_rfl
theorem e40 : toB (chkI (envOf Tryz.prog (extI exts3 l39) xts (hasI exts3 l39)) 1000 i40) = true := by kernel_rfl
theorem e41 : toB (chkI (envOf Tryz.prog (extI exts3 l40) xts (hasI exts3 l40)) 1000 i41) = true := by kernel_rfl
theorem e42 : toB (chkI (envOf Tryz.prog (extI exts3 l41) xts (hasI exts3 l41)) 1000 i42) = true := by kernel_rfl
end Go.Proofs.YtcfekhcdadldmaaGreatDoor.D
