/-
  Rounds of coil/coillaw4.GraphRuns' loop, worked out by the kernel.
-/
import Derived.Test.YtcajhnedmbhnfaaGreatDoorRPt
namespace Go.Proofs.YtcajhnedmbhnfaaGreatDoor
open Go Am
set_option maxRecDepth 10000000
set_option maxHeartbeats 0
theorem s128 : toB (seg Tryz.prog 128 160) = true := by kernel_rfl
theorem s160 : toB (seg Tryz.prog 160 192) = true := by kernel_rfl
theorem s192 : toB (seg Tryz.prog 192 224) = true := by kernel_rfl
theorem s224 : toB (seg Tryz.prog 224 256) = true := by kernel_rfl
end Go.Proofs.YtcajhnedmbhnfaaGreatDoor
