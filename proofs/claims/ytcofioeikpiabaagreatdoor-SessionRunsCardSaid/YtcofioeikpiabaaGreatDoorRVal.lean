/-
  The iterator of slices.Values over a row of one string: it hands out that string.
-/
import Derived.Test.YtcofioeikpiabaaGreatDoorProg
import Derived.Test.YtcofioeikpiabaaGreatDoorAmAs
import Derived.RangeFuncNested
import Derived.Shelf.Abstract
import Derived.OwnWalkIn
import Derived.TacticsInMore
import Derived.LoopNIn
import Derived.LoopIn
namespace Go.Proofs.YtcofioeikpiabaaGreatDoor
open Go Go.RowKit Go.Shelf Go.Proofs Am
attribute [local go_sem] Oper.semAt_some

set_option maxHeartbeats 2000000 in
set_option maxRecDepth 100000 in
theorem values_in (n l Bm : Nat) (hn : 1 ≤ n) (a : Addr) (c : Nat) (x : List UInt8) (J : List (List UInt8) → World → Prop) (W : World)
    (hY : YieldAt Fence.wide (n - 1) Tryz.prog l #[encStr x] W fun e W' => e = .returned (.bool true) ∧ J [x] W')
    (hm : W.cell? ⟨Bm, 0, none⟩ = some (.slice (some a) 1 c)) (hx : W.cell? a = some (encStr x)) :
    CallsIn Fence.wide n Tryz.prog 633 #[.func (.yield l) #[] #[], .pointer (some ⟨Bm, 0, none⟩)] W fun e W' => (∃ v, e = .returned v) ∧ ∃ ss : List (List UInt8), ss = [x] ∧ J ss W' := by
  obtain ⟨fn, tmps, assign, body, hy, hR⟩ := hY
  refine callsIn_of_wp Tryz.func633 rfl trivial ?_ rfl
  simp only [Tryz.ntmps633, List.size_toArray, List.length_cons, List.length_nil, Nat.reduceAdd, Nat.reduceSub, Array.replicate_succ, Array.replicate_zero, List.push_toArray, List.append_toArray, List.nil_append, List.cons_append]
  gi_wp2
  refine wpIn_loop_rounds 2 ?_
  rw [roundsIn_succ]
  gi_wp2
  refine hR.mono ?_
  rintro e W3 ⟨rfl, hJ3⟩
  gi_wp2
  rw [roundsIn_succ]
  gi_wp2
  go_end0
  exact ⟨⟨_, rfl⟩, [x], rfl, hJ3⟩
theorem vals_ok : ValsOk Tryz.prog 633 :=
  ⟨by kernel_rfl, fun w Bm a c x hB hm hb hx l J W hW hJ hY h0 =>
    values_in 2 l Bm (by omega) a c x J W
      (by
        obtain ⟨fn, tmps, assign, body, h1, h2⟩ := hY [] x W h0 (by decide)
        exact ⟨fn, tmps, assign, body, h1, h2.mono fun e W' ⟨p, q, _⟩ => ⟨p, q⟩⟩)
      ((hW.cell (p := ⟨Bm, 0, none⟩) hB).trans hm) ((hW.cell (p := a) hb).trans hx)⟩
end Go.Proofs.YtcofioeikpiabaaGreatDoor
