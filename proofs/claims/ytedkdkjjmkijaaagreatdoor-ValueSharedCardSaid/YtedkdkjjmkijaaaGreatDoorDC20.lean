/-
  Calls of ValueShared, worked out by the kernel.
-/
import Derived.Test.YtedkdkjjmkijaaaGreatDoorDInst
namespace Go.Proofs.YtedkdkjjmkijaaaGreatDoor.D
open Go Am
set_option maxRecDepth 10000000
set_option maxHeartbeats 0
theorem e20 : toB (chkI (envOf Tryz.prog (extI exts3 l19) xts (hasI exts3 l19)) 1000 i20) = true := by kernel_rfl
theorem e21 : toB (chkI (envOf Tryz.prog (extI exts3 l20) xts (hasI exts3 l20)) 1000 i21) = true := by kernel_rfl
theorem e22 : toB (chkI (envOf Tryz.prog (extI exts3 l21) xts (hasI exts3 l21)) 1000 i22) = true := by kernel_rfl
end Go.Proofs.YtedkdkjjmkijaaaGreatDoor.D
