/-
  UnfoldRuns, worked out by the kernel.
-/
import Derived.Test.YtginekdldhdnjaaGreatDoorRExt
namespace Go.Proofs.YtginekdldhdnjaaGreatDoor
open Go Am

def toB : Bool → Bool
  | true => true
  | false => false
theorem of_toB {b : Bool} (h : toB b = true) : b = true := by
  cases b with
  | true => rfl
  | false => cases h
set_option maxRecDepth 10000000
set_option maxHeartbeats 0
theorem evals : toB (evJ (envOf Tryz.prog exts xts) (drawJ (envOf Tryz.prog exts xts)) 1000 3 [] nilSt isTrue) = true := by kernel_rfl
end Go.Proofs.YtginekdldhdnjaaGreatDoor
