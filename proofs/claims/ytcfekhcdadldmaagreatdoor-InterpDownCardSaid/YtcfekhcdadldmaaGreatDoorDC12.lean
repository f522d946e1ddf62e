/-
  Calls of InterpDown, worked out by the kernel.
-/
import Derived.Test.YtcfekhcdadldmaaGreatDoorDInst
namespace Go.Proofs.YtcfekhcdadldmaaGreatDoor.D
open Go Am
set_option maxRecDepth 10000000
set_option maxHeartbeats 0
theorem e88 : toB (chkI (envOf Tryz.prog (extI exts3 l87) xts (hasI exts3 l87)) 1000 i88) = true := by kernel_rfl
theorem e89 : toB (chkI (envOf Tryz.prog (extI exts3 l88) xts (hasI exts3 l88)) 1000 i89) = true := by kernel_rfl
theorem e90 : toB (chkI (envOf Tryz.prog (extI exts3 l89) xts (hasI exts3 l89)) 1000 i90) = true := by kernel_rfl
theorem e91 : toB (chkI (envOf Tryz.prog (extI exts3 l90) xts (hasI exts3 l90)) 1000 i91) = true := by kernel_rfl
theorem e92 : toB (chkI (envOf Tryz.prog (extI exts3 l91) xts (hasI exts3 l91)) 1000 i92) = true := by kernel_rfl
theorem e93 : toB (chkI (envOf Tryz.prog (extI exts3 l92) xts (hasI exts3 l92)) 1000 i93) = true := by kernel_rfl
theorem e94 : toB (chkI (envOf Tryz.prog (extI exts3 l93) xts (hasI exts3 l93)) 1000 i94) = true := by kernel_rfl
end Go.Proofs.YtcfekhcdadldmaaGreatDoor.D
