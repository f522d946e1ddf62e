/-
  Calls of ValueShared, worked out by the kernel.
-/
import Derived.Test.YtnkcibcodabkiaaGreatDoorDInst
namespace Go.Proofs.YtnkcibcodabkiaaGreatDoor.D
open Go Am
set_option maxRecDepth 10000000
set_option maxHeartbeats 0
theorem e6 : toB (chkI (envOf Tryz.prog (extI exts3 l5) xts (hasI exts3 l5)) 1000 i6) = true := by kernel_rfl
end Go.Proofs.YtnkcibcodabkiaaGreatDoor.D
