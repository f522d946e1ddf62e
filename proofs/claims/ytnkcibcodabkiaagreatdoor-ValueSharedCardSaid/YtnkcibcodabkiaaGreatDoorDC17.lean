/-
  Calls of ValueShared, worked out by the kernel.
-/
import Derived.Test.YtnkcibcodabkiaaGreatDoorDInst
namespace Go.Proofs.YtnkcibcodabkiaaGreatDoor.D
open Go Am
set_option maxRecDepth 10000000
set_option maxHeartbeats 0
theorem e25 : toB (chkI (envOf Tryz.prog (extI exts3 l24) xts (hasI exts3 l24)) 1000 i25) = true := by kernel_rfl
theorem e26 : toB (chkI (envOf Tryz.prog (extI exts3 l25) xts (hasI exts3 l25)) 1000 i26) = true := by kernel_rfl
end Go.Proofs.YtnkcibcodabkiaaGreatDoor.D
