/-
  Calls of InterpDown, worked out by the kernel.
-/
import Derived.Test.YtcfekhcdadldmaaGreatDoorDInst
namespace Go.Proofs.YtcfekhcdadldmaaGreatDoor.D
open Go Am
set_option maxRecDepth 10000000
set_option maxHeartbeats 0
theorem e126 : toB (chkI (envOf Tryz.prog (extI exts3 l125) xts (hasI exts3 l125)) 1000 i126) = true := by kernel_rfl
theorem e127 : toB (chkI (envOf Tryz.prog (extI exts3 l126) xts (hasI exts3 l126)) 1000 i127) = true := by kernel_rfl
theorem e128 : toB (chkI (envOf Tryz.prog (extI exts3 l127) xts (hasI exts3 l127)) 1000 i128) = true := by kernel_rfl
theorem e129 : toB (chkI (envOf Tryz.prog (extI exts3 l128) xts (hasI exts3 l128)) 1000 i129) = true := by kernel_rfl
theorem e130 : toB (chkI (envOf Tryz.prog (extI exts3 l129) xts (hasI exts3 l129)) 1000 i130) = true := by kernel_rfl
theorem e131 : toB (chkI (envOf Tryz.prog (extI exts3 l130) xts (hasI exts3 l130)) 1000 i131) = true := by kernel_rfl
theorem e132 : toB (chkI (envOf Tryz.prog (extI exts3 l131) xts (hasI exts3 l131)) 1000 i132) = true := by kernel_rfl
theorem e133 : toB (chkI (envOf Tryz.prog (extI exts3 l132) xts (hasI exts3 l132)) 1000 i133) = true := by kernel_rfl
end Go.Proofs.YtcfekhcdadldmaaGreatDoor.D
