/-
  Rounds of coil/coillaw4.GraphRuns' loop, worked out by the kernel.
-/
import Derived.Test.YtcajhnedmbhnfaaGreatDoorRPt
namespace Go.Proofs.YtcajhnedmbhnfaaGreatDoor
open Go Am
set_option maxRecDepth 10000000
set_option maxHeartbeats 0
theorem s0 : toB (seg Tryz.prog 0 32) = true := by kernel_rfl
theorem s32 : toB (seg Tryz.prog 32 64) = true := by kernel_rfl
theorem s64 : toB (seg Tryz.prog 64 96) = true := by kernel_rfl
theorem s96 : toB (seg Tryz.prog 96 128) = true := by kernel_rfl
end Go.Proofs.YtcajhnedmbhnfaaGreatDoor
