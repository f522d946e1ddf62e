/-
  Calls of ValueShared, worked out by the kernel.
-/
import Derived.Test.YtnkcibcodabkiaaGreatDoorDInst
namespace Go.Proofs.YtnkcibcodabkiaaGreatDoor.D
open Go Am
set_option maxRecDepth 10000000
set_option maxHeartbeats 0
theorem e12 : toB (chkI (envOf Tryz.prog (extI exts3 l11) xts (hasI exts3 l11)) 1000 i12) = true := by kernel_rfl
end Go.Proofs.YtnkcibcodabkiaaGreatDoor.D
