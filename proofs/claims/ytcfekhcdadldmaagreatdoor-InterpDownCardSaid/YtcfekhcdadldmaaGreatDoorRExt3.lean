/-
  coilbook.Within, walked, and told beside what else is told.
-/
import Derived.Test.YtcfekhcdadldmaaGreatDoorRExt2
namespace Go.Proofs.YtcfekhcdadldmaaGreatDoor
open Go Go.RowKit Go.Shelf Go.Proofs Am

set_option maxHeartbeats 1000000 in
theorem within_any (n lo hi : Int) (w : World) (_h0 : -9223372036854775808 ≤ n) (_h1 : n ≤ 9223372036854775807) (h2 : -1000000 ≤ lo) (h3 : lo ≤ hi) (h4 : hi ≤ 1000000) :
    Calls Tryz.prog 14 #[.int .i64 n, .int .i64 lo, .int .i64 hi] w fun e w' => (∃ r : Int, e = .returned (.int .i64 r) ∧ lo ≤ r ∧ r ≤ hi) ∧ w = w' := by
  obtain ⟨q, hq⟩ : ∃ q, n.tmod (hi - lo + 1) = q := ⟨_, rfl⟩
  have b1 : q < hi - lo + 1 := by rw [← hq]; exact Int.tmod_lt_of_pos _ (by omega)
  have b2 : -(hi - lo + 1) < q := by
    have := Int.tmod_lt_of_pos (-n) (b := hi - lo + 1) (by omega)
    rw [Int.neg_tmod, hq] at this
    omega
  by_cases hn : q < 0
  · go_enter Tryz.func14, Tryz.ntmps14
    go_wp2
    go_ret
    exact ⟨⟨_, rfl, by omega, by omega⟩, rfl⟩
  · go_enter Tryz.func14, Tryz.ntmps14
    go_wp2
    go_ret
    exact ⟨⟨_, rfl, by omega, by omega⟩, rfl⟩
def exts3 (f : FuncId) : Option (List Value → St → K2 → Bool) := cond (Nat.beq f 14) (some xWithin) (exts2 f)
theorem exts3_ok : ExtOk Tryz.prog exts3 := fun f g h => by
  unfold exts3 at h
  cases h1 : Nat.beq f 14 with
  | true =>
    rw [h1] at h
    obtain rfl := Option.some.inj h
    obtain rfl := Nat.eq_of_beq_eq_true h1
    exact within_ok (by kernel_rfl) within_any
  | false =>
    rw [h1] at h
    exact exts2_ok f g h
end Go.Proofs.YtcfekhcdadldmaaGreatDoor
