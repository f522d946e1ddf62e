/-
  No function of the program starts a goroutine.
-/
import Derived.Test.YtcfekhcdadldmaaGreatDoorRows
import GoSem.ClaimGoes
import Derived.KernelRfl
namespace Go.Proofs.YtcfekhcdadldmaaGreatDoor
open Go

theorem goesBy_none {P : Program} (h : (P.funcs.toList.all fun fn => !fn.goes) = true) {c : OpenClaim} (hs : c.start = .entering) : false = c.goesBy P := by
  have h1 : ∀ g : Nat, (P.funcs[g]?).any Func.goes = false := fun g => by
    cases hg : P.funcs[g]? with
    | none => rfl
    | some fn =>
      have := List.all_eq_true.1 h fn (by
        have := Array.mem_of_getElem? hg
        simpa using this)
      simpa using this
  have h2 : ∀ f, P.goes f = false := fun f => by
    unfold Program.goes
    rw [Bool.or_eq_false_iff]
    constructor
    · rw [List.any_eq_false]
      intro g _
      rw [h1 g]
      simp
    · rw [show P.funcs.any Func.goes = false by
        rw [← Array.any_toList, List.any_eq_false]
        intro fn hfn
        have := List.all_eq_true.1 h fn hfn
        simpa using this, Bool.and_false]
  unfold OpenClaim.goesBy Program.goesAt Program.goesFrom
  rw [hs]
  cases P.funcNamed c.func with
  | none => rfl
  | some f => simp [h2 f]
set_option maxRecDepth 100000
set_option maxHeartbeats 8000000
theorem no_goes : (Tryz.pinned.checked.prog.funcs.toList.all fun fn => !fn.goes) = true := by kernel_rfl
end Go.Proofs.YtcfekhcdadldmaaGreatDoor
