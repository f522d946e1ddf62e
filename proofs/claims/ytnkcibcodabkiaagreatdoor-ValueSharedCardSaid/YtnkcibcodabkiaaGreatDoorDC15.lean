/-
  Calls of ValueShared, worked out by the kernel.
-/
import Derived.Test.YtnkcibcodabkiaaGreatDoorDInst
namespace Go.Proofs.YtnkcibcodabkiaaGreatDoor.D
open Go Am
set_option maxRecDepth 10000000
set_option maxHeartbeats 0
theorem e19 : toB (chkI (envOf Tryz.prog (extI exts3 l18) xts (hasI exts3 l18)) 1000 i19) = true := by kernel_rfl
theorem e20 : toB (chkI (envOf Tryz.prog (extI exts3 l19) xts (hasI exts3 l19)) 1000 i20) = true := by kernel_rfl
end Go.Proofs.YtnkcibcodabkiaaGreatDoor.D
