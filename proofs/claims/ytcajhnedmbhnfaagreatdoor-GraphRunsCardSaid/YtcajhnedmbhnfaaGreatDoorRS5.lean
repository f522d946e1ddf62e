/-
  Rounds of coil/coillaw4.GraphRuns' loop, worked out by the kernel.
-/
import Derived.Test.YtcajhnedmbhnfaaGreatDoorRPt
namespace Go.Proofs.YtcajhnedmbhnfaaGreatDoor
open Go Am
set_option maxRecDepth 10000000
set_option maxHeartbeats 0
theorem s512 : toB (seg Tryz.prog 512 544) = true := by kernel_rfl
theorem s544 : toB (seg Tryz.prog 544 576) = true := by kernel_rfl
theorem s576 : toB (seg Tryz.prog 576 608) = true := by kernel_rfl
theorem s608 : toB (seg Tryz.prog 608 640) = true := by kernel_rfl
end Go.Proofs.YtcajhnedmbhnfaaGreatDoor
