/-
  Calls of ValueShared, worked out by the kernel.
-/
import Derived.Test.YtnkcibcodabkiaaGreatDoorDInst
namespace Go.Proofs.YtnkcibcodabkiaaGreatDoor.D
open Go Am
set_option maxRecDepth 10000000
set_option maxHeartbeats 0
theorem e9 : toB (chkI (envOf Tryz.prog (extI exts3 l8) xts (hasI exts3 l8)) 1000 i9) = true := by kernel_rfl
theorem e10 : toB (chkI (envOf Tryz.prog (extI exts3 l9) xts (hasI exts3 l9)) 1000 i10) = true := by kernel_rfl
end Go.Proofs.YtnkcibcodabkiaaGreatDoor.D
