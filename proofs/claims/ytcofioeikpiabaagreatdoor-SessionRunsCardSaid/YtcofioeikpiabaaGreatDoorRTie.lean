/-
  The listed variables hold what the program's own text lays. Own work.
-/
import Derived.Test.YtcofioeikpiabaaGreatDoorRTb
import Derived.Test.YtcofioeikpiabaaGreatDoorRTf
namespace Go.Proofs.YtcofioeikpiabaaGreatDoor
open Go
set_option maxHeartbeats 8000000
set_option maxRecDepth 100000
theorem tie : Tryz.prog.laidByTextLater listed [.handle, .data, .data, .data, .data, .data, .listed, .sentinel, .sentinel] true :=
  Program.laidByTextLater_by_one 400 8 300 (by as_aux_lemma => kernel_rfl) (by as_aux_lemma => kernel_rfl) (by as_aux_lemma => kernel_rfl) (by as_aux_lemma => kernel_rfl) (by as_aux_lemma => kernel_rfl) named fun os tape => doorLeaves_of vid (at_read os tape) (at_apart os tape) (at_rows os tape) (at_handles os tape)
theorem sessionRuns_row_tie : Rows.sessionRunsRow.laidByTextAt .later Tryz.pinned [.handle, .data, .data, .data, .pinned, .data, .data, .listed, .sentinel, .sentinel] true :=
  OpenClaim.laidByTextAt_pinned rfl rfl tie rfl rfl rfl rfl (fun y hy _e => by
    simp only [Rows.sessionRunsRow, List.zip_cons_cons, List.zip_nil_right, List.mem_cons, List.mem_nil_iff, or_false] at hy
    rcases hy with rfl | rfl | rfl | rfl | rfl | rfl | rfl | rfl | rfl | rfl
    · cases _e
    · cases _e
    · cases _e
    · cases _e
    · exact ⟨pin_laid_unicode_utf8_first, by kernel_rfl⟩
    · cases _e
    · cases _e
    · cases _e
    · cases _e
    · cases _e) fits1
end Go.Proofs.YtcofioeikpiabaaGreatDoor
