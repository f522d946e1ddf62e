/-
  The listed variables hold what the program's own text lays. Own work.
-/
import Derived.Test.YtcfekhcdadldmaaGreatDoorRTb
import Derived.Test.YtcfekhcdadldmaaGreatDoorRTf
namespace Go.Proofs.YtcfekhcdadldmaaGreatDoor
open Go
set_option maxHeartbeats 8000000
set_option maxRecDepth 100000
theorem tie : Tryz.prog.laidByTextLater listed [.data, .data, .data, .handle, .data, .listed] true :=
  Program.laidByTextLater_by_one 400 8 300 (by as_aux_lemma => kernel_rfl) (by as_aux_lemma => kernel_rfl) (by as_aux_lemma => kernel_rfl) (by as_aux_lemma => kernel_rfl) (by as_aux_lemma => kernel_rfl) named fun os tape => doorLeaves_of vid (at_read os tape) (at_apart os tape) (at_rows os tape) (at_handles os tape)
theorem interpRuns_row_tie : Rows.interpRunsRow.laidByTextAt .later Tryz.pinned [.data, .data, .data, .handle, .data, .listed] true :=
  OpenClaim.laidByTextAt_later rfl rfl tie noOwnUnsafe
theorem interpShort_row_tie : Rows.interpShortRow.laidByTextAt .later Tryz.pinned [.data, .data, .data, .handle, .data, .listed] true :=
  OpenClaim.laidByTextAt_later rfl rfl tie noOwnUnsafe
theorem interpDown_row_tie : Rows.interpDownRow.laidByTextAt .later Tryz.pinned [.data, .data, .data, .handle, .data, .listed] true :=
  OpenClaim.laidByTextAt_later rfl rfl tie noOwnUnsafe
theorem interpSums_row_tie : Rows.interpSumsRow.laidByTextAt .later Tryz.pinned [.data, .data, .data, .handle, .data, .listed] true :=
  OpenClaim.laidByTextAt_later rfl rfl tie noOwnUnsafe
theorem interpTexts_row_tie : Rows.interpTextsRow.laidByTextAt .later Tryz.pinned [.data, .data, .data, .handle, .data, .listed] true :=
  OpenClaim.laidByTextAt_later rfl rfl tie noOwnUnsafe
theorem interpLoops_row_tie : Rows.interpLoopsRow.laidByTextAt .later Tryz.pinned [.data, .data, .data, .handle, .data, .listed] true :=
  OpenClaim.laidByTextAt_later rfl rfl tie noOwnUnsafe
theorem interpDepth_row_tie : Rows.interpDepthRow.laidByTextAt .later Tryz.pinned [.data, .data, .data, .handle, .data, .listed] true :=
  OpenClaim.laidByTextAt_later rfl rfl tie noOwnUnsafe
end Go.Proofs.YtcfekhcdadldmaaGreatDoor
