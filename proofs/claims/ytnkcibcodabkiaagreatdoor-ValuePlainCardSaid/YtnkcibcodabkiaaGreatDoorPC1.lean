/-
  Calls of ValuePlain, worked out by the kernel.
-/
import Derived.Test.YtnkcibcodabkiaaGreatDoorPInst
namespace Go.Proofs.YtnkcibcodabkiaaGreatDoor.P
open Go Am
set_option maxRecDepth 10000000
set_option maxHeartbeats 0
theorem e1 : toB (chkI (envOf Tryz.prog (extI exts l0) xts (hasI exts l0)) 1000 i1) = true := by kernel_rfl
end Go.Proofs.YtnkcibcodabkiaaGreatDoor.P
