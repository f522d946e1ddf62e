/-
  coilbook.Within, walked.
-/
import Derived.Test.YtdahegogdblahaaGreatDoorQLexA
namespace Go.Proofs.YtdahegogdblahaaGreatDoor
open Go Go.RowKit Lx

set_option maxHeartbeats 1000000 in
theorem Within_any (n lo hi : Int) (w : World) (_h0 : -9223372036854775808 ≤ n) (_h1 : n ≤ 9223372036854775807) (h2 : -1000000 ≤ lo) (h3 : lo ≤ hi) (h4 : hi ≤ 1000000) :
    Calls Tryz.prog 16 #[.int .i64 n, .int .i64 lo, .int .i64 hi] w fun e w' => (∃ r : Int, e = .returned (.int .i64 r) ∧ lo ≤ r ∧ r ≤ hi) ∧ w = w' := by
  obtain ⟨q, hq⟩ : ∃ q, n.tmod (hi - lo + 1) = q := ⟨_, rfl⟩
  have b1 : q < hi - lo + 1 := by rw [← hq]; exact Int.tmod_lt_of_pos _ (by omega)
  have b2 : -(hi - lo + 1) < q := by
    have := Int.tmod_lt_of_pos (-n) (b := hi - lo + 1) (by omega)
    rw [Int.neg_tmod, hq] at this
    omega
  by_cases hn : q < 0
  · go_enter Tryz.func16, Tryz.ntmps16
    go_wp2
    go_ret
    exact ⟨⟨_, rfl, by omega, by omega⟩, rfl⟩
  · go_enter Tryz.func16, Tryz.ntmps16
    go_wp2
    go_ret
    exact ⟨⟨_, rfl, by omega, by omega⟩, rfl⟩
end Go.Proofs.YtdahegogdblahaaGreatDoor
