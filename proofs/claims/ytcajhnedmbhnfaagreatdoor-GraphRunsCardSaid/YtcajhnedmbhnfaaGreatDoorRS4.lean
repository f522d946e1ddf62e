/-
  Rounds of coil/coillaw4.GraphRuns' loop, worked out by the kernel.
-/
import Derived.Test.YtcajhnedmbhnfaaGreatDoorRPt
namespace Go.Proofs.YtcajhnedmbhnfaaGreatDoor
open Go Am
set_option maxRecDepth 10000000
set_option maxHeartbeats 0
theorem s384 : toB (seg Tryz.prog 384 416) = true := by kernel_rfl
theorem s416 : toB (seg Tryz.prog 416 448) = true := by kernel_rfl
theorem s448 : toB (seg Tryz.prog 448 480) = true := by kernel_rfl
theorem s480 : toB (seg Tryz.prog 480 512) = true := by kernel_rfl
end Go.Proofs.YtcajhnedmbhnfaaGreatDoor
