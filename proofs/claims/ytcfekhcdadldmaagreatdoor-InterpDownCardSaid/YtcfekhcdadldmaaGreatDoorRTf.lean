/-
  Closed facts of the tie. Own work.
-/
import Derived.Test.YtcfekhcdadldmaaGreatDoorRTa
namespace Go.Proofs.YtcfekhcdadldmaaGreatDoor
open Go
set_option maxHeartbeats 8000000
set_option maxRecDepth 100000
theorem vid : varsId Tryz.prog = 535 := by kernel_rfl
theorem named : varsNamedLaterB Tryz.prog (varsId Tryz.prog) listed = true := by rw [vid]; kernel_rfl
theorem noOwnUnsafe : Tryz.pinned.checked.prog.headLifts.contains "ownunsafe" = false := by kernel_rfl
end Go.Proofs.YtcfekhcdadldmaaGreatDoor
