/-
  Calls of ValueShared, worked out by the kernel.
-/
import Derived.Test.YtnkcibcodabkiaaGreatDoorDInst
namespace Go.Proofs.YtnkcibcodabkiaaGreatDoor.D
open Go Am
set_option maxRecDepth 10000000
set_option maxHeartbeats 0
theorem e2 : toB (chkI (envOf Tryz.prog (extI exts3 l1) xts (hasI exts3 l1)) 1000 i2) = true := by kernel_rfl
theorem e3 : toB (chkI (envOf Tryz.prog (extI exts3 l2) xts (hasI exts3 l2)) 1000 i3) = true := by kernel_rfl
end Go.Proofs.YtnkcibcodabkiaaGreatDoor.D
