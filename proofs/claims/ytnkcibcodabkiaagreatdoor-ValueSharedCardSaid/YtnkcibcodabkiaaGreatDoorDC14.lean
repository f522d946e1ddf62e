/-
  Calls of ValueShared, worked out by the kernel.
-/
import Derived.Test.YtnkcibcodabkiaaGreatDoorDInst
namespace Go.Proofs.YtnkcibcodabkiaaGreatDoor.D
open Go Am
set_option maxRecDepth 10000000
set_option maxHeartbeats 0
theorem e17 : toB (chkI (envOf Tryz.prog (extI exts3 l16) xts (hasI exts3 l16)) 1000 i17) = true := by kernel_rfl
theorem e18 : toB (chkI (envOf Tryz.prog (extI exts3 l17) xts (hasI exts3 l17)) 1000 i18) = true := by kernel_rfl
end Go.Proofs.YtnkcibcodabkiaaGreatDoor.D
