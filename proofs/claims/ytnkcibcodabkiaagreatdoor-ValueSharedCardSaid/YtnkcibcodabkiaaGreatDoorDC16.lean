/-
  Calls of ValueShared, worked out by the kernel.
-/
import Derived.Test.YtnkcibcodabkiaaGreatDoorDInst
namespace Go.Proofs.YtnkcibcodabkiaaGreatDoor.D
open Go Am
set_option maxRecDepth 10000000
set_option maxHeartbeats 0
theorem e21 : toB (chkI (envOf Tryz.prog (extI exts3 l20) xts (hasI exts3 l20)) 1000 i21) = true := by kernel_rfl
theorem e22 : toB (chkI (envOf Tryz.prog (extI exts3 l21) xts (hasI exts3 l21)) 1000 i22) = true := by kernel_rfl
theorem e23 : toB (chkI (envOf Tryz.prog (extI exts3 l22) xts (hasI exts3 l22)) 1000 i23) = true := by kernel_rfl
theorem e24 : toB (chkI (envOf Tryz.prog (extI exts3 l23) xts (hasI exts3 l23)) 1000 i24) = true := by kernel_rfl
end Go.Proofs.YtnkcibcodabkiaaGreatDoor.D
