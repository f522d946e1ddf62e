/-
  Calls of InterpShort, worked out by the kernel.
-/
import Derived.Test.YtcfekhcdadldmaaGreatDoorSInst
namespace Go.Proofs.YtcfekhcdadldmaaGreatDoor.S
open Go Am
set_option maxRecDepth 10000000
set_option maxHeartbeats 0
theorem e29 : toB (chkI (envOf Tryz.prog (extI exts2 l28) xts (hasI exts2 l28)) 1000 i29) = true := by kernel_rfl
theorem e30 : toB (chkI (envOf Tryz.prog (extI exts2 l29) xts (hasI exts2 l29)) 1000 i30) = true := by kernel_rfl
theorem e31 : toB (chkI (envOf Tryz.prog (extI exts2 l30) xts (hasI exts2 l30)) 1000 i31) = true := by kernel_rfl
theorem e32 : toB (chkI (envOf Tryz.prog (extI exts2 l31) xts (hasI exts2 l31)) 1000 i32) = true := by kernel_rfl
end Go.Proofs.YtcfekhcdadldmaaGreatDoor.S
