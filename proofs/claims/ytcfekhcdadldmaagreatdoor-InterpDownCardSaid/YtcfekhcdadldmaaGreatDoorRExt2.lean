/-
  coillaw11.InterpRuns answers true wherever it is called: told so beside what is told of the library's functions.
-/
import Derived.Test.YtcfekhcdadldmaaGreatDoorREval
import Derived.Test.YtcfekhcdadldmaaGreatDoorAmXr
namespace Go.Proofs.YtcfekhcdadldmaaGreatDoor
open Go Go.RowKit Go.Shelf Go.Proofs Am

def exts2 (f : FuncId) : Option (List Value → St → K2 → Bool) := cond (Nat.beq f 3) (some xTrue) (exts f)
theorem exts2_ok : ExtOk Tryz.prog exts2 := fun f g h => by
  unfold exts2 at h
  cases h1 : Nat.beq f 3 with
  | true =>
    rw [h1] at h
    obtain rfl := Option.some.inj h
    obtain rfl := Nat.eq_of_beq_eq_true h1
    exact true_ok (by kernel_rfl) (fun w hG => runs_by (by as_aux_lemma => kernel_rfl) xts_ok extsT_ok (of_toB evals) w hG)
  | false =>
    rw [h1] at h
    exact exts_ok f g h
end Go.Proofs.YtcfekhcdadldmaaGreatDoor
