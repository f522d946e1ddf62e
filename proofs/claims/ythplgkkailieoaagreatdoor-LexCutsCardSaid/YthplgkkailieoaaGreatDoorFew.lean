/-
  coillaw1.few, walked.
-/
import Derived.Test.YthplgkkailieoaaGreatDoorBytes
namespace Go.Proofs.YthplgkkailieoaaGreatDoor
open Go Go.RowKit Lx

/-- the first n bytes. -/
def fewB (s : ByteArray) (n : Nat) : ByteArray := if n < s.size then s.extract 0 n else s
theorem fewB_size (s : ByteArray) (n : Nat) : (fewB s n).size ≤ n ∧ (fewB s n).size ≤ s.size := by
  unfold fewB
  split
  · simp; omega
  · omega
theorem few_any (s : ByteArray) (n : Nat) (w : World) (_hs : s.size ≤ 9223372036854775807) (_hn : n ≤ 1000000) :
    Calls Tryz.prog 5 #[.string s, .int .i64 n] w fun e w' => e = .returned (.string (fewB s n)) ∧ w = w' := by
  by_cases h : n < s.size
  · have HF : Hid (fewB s n = s.extract 0 n) := by show _ = _; rw [fewB, if_pos h]
    go_enter Tryz.func5, Tryz.ntmps5
    go_wp2
    go_ret
    exact ⟨by rw [unhide HF]; rfl, rfl⟩
  · have HF : Hid (fewB s n = s) := by show _ = _; rw [fewB, if_neg h]
    go_enter Tryz.func5, Tryz.ntmps5
    go_wp2
    go_ret
    exact ⟨by rw [unhide HF]; rfl, rfl⟩
end Go.Proofs.YthplgkkailieoaaGreatDoor
