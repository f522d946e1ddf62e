/-
  Rounds of coil/coillaw4.GraphRuns' loop, worked out by the kernel.
-/
import Derived.Test.YtcajhnedmbhnfaaGreatDoorRPt
namespace Go.Proofs.YtcajhnedmbhnfaaGreatDoor
open Go Am
set_option maxRecDepth 10000000
set_option maxHeartbeats 0
theorem s896 : toB (seg Tryz.prog 896 928) = true := by kernel_rfl
theorem s928 : toB (seg Tryz.prog 928 960) = true := by kernel_rfl
theorem s960 : toB (seg Tryz.prog 960 992) = true := by kernel_rfl
end Go.Proofs.YtcajhnedmbhnfaaGreatDoor
