/-
  Rounds of coil/coillaw4.GraphRuns' loop, worked out by the kernel.
-/
import Derived.Test.YtcajhnedmbhnfaaGreatDoorRPt
namespace Go.Proofs.YtcajhnedmbhnfaaGreatDoor
open Go Am
set_option maxRecDepth 10000000
set_option maxHeartbeats 0
theorem s256 : toB (seg Tryz.prog 256 288) = true := by kernel_rfl
theorem s288 : toB (seg Tryz.prog 288 320) = true := by kernel_rfl
theorem s320 : toB (seg Tryz.prog 320 352) = true := by kernel_rfl
theorem s352 : toB (seg Tryz.prog 352 384) = true := by kernel_rfl
end Go.Proofs.YtcajhnedmbhnfaaGreatDoor
