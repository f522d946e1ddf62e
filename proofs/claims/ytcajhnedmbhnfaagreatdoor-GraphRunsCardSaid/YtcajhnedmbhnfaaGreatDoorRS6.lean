/-
  Rounds of coil/coillaw4.GraphRuns' loop, worked out by the kernel.
-/
import Derived.Test.YtcajhnedmbhnfaaGreatDoorRPt
namespace Go.Proofs.YtcajhnedmbhnfaaGreatDoor
open Go Am
set_option maxRecDepth 10000000
set_option maxHeartbeats 0
theorem s640 : toB (seg Tryz.prog 640 672) = true := by kernel_rfl
theorem s672 : toB (seg Tryz.prog 672 704) = true := by kernel_rfl
theorem s704 : toB (seg Tryz.prog 704 736) = true := by kernel_rfl
theorem s736 : toB (seg Tryz.prog 736 768) = true := by kernel_rfl
end Go.Proofs.YtcajhnedmbhnfaaGreatDoor
