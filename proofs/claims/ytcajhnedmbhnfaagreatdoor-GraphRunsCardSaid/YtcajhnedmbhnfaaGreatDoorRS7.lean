/-
  Rounds of coil/coillaw4.GraphRuns' loop, worked out by the kernel.
-/
import Derived.Test.YtcajhnedmbhnfaaGreatDoorRPt
namespace Go.Proofs.YtcajhnedmbhnfaaGreatDoor
open Go Am
set_option maxRecDepth 10000000
set_option maxHeartbeats 0
theorem s768 : toB (seg Tryz.prog 768 800) = true := by kernel_rfl
theorem s800 : toB (seg Tryz.prog 800 832) = true := by kernel_rfl
theorem s832 : toB (seg Tryz.prog 832 864) = true := by kernel_rfl
theorem s864 : toB (seg Tryz.prog 864 896) = true := by kernel_rfl
end Go.Proofs.YtcajhnedmbhnfaaGreatDoor
