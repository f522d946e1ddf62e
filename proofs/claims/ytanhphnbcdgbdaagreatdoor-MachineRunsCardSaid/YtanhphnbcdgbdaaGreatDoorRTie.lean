/-
  The listed variables hold what the program's own text lays: each closed fact worked out apart.
-/
import Derived.Test.YtanhphnbcdgbdaaGreatDoorRows
import Derived.LaidOnce
import Derived.SevenTiedAt
namespace Go.Proofs.YtanhphnbcdgbdaaGreatDoor
open Go
set_option maxHeartbeats 8000000
set_option maxRecDepth 100000
theorem no_own : Tryz.pinned.checked.prog.headLifts.contains "ownunsafe" = false := by kernel_rfl
theorem tied : Tryz.prog.laidByTextLater [("internal/strconv.uint64pow10", Rows.laid_internal_strconv_uint64pow10), ("math/bits.deBruijn32tab", Rows.laid_math_bits_deBruijn32tab), ("math/bits.deBruijn64tab", Rows.laid_math_bits_deBruijn64tab), ("errors.errorType", Rows.laid_errors_errorType), ("strings.asciiSpace", Rows.laid_strings_asciiSpace), ("unicode.White_Space", Rows.laid_unicode_White_Space)] [.data, .data, .data, .handle, .data, .listed] true :=
  Program.laidByTextLater_by_one 400 8 300 (by as_aux_lemma => kernel_rfl) (by as_aux_lemma => kernel_rfl) (by as_aux_lemma => kernel_rfl) (by as_aux_lemma => kernel_rfl) (by as_aux_lemma => kernel_rfl) (by as_aux_lemma => kernel_rfl) (fun _ _ => by as_aux_lemma => kernel_rfl)
theorem machineRuns_row_tie : Rows.machineRunsRow.laidByTextAt .later Tryz.pinned [.data, .data, .data, .handle, .data, .listed] true := OpenClaim.laidByTextAt_later rfl rfl tied no_own
end Go.Proofs.YtanhphnbcdgbdaaGreatDoor
