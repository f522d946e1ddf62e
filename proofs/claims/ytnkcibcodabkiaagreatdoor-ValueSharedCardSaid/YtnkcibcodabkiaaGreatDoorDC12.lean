/-
  Calls of ValueShared, worked out by the kernel.
-/
import Derived.Test.YtnkcibcodabkiaaGreatDoorDInst
namespace Go.Proofs.YtnkcibcodabkiaaGreatDoor.D
open Go Am
set_option maxRecDepth 10000000
set_option maxHeartbeats 0
theorem e14 : toB (chkI (envOf Tryz.prog (extI exts3 l13) xts (hasI exts3 l13)) 1000 i14) = true := by kernel_rfl
theorem e15 : toB (chkI (envOf Tryz.prog (extI exts3 l14) xts (hasI exts3 l14)) 1000 i15) = true := by kernel_rfl
end Go.Proofs.YtnkcibcodabkiaaGreatDoor.D
