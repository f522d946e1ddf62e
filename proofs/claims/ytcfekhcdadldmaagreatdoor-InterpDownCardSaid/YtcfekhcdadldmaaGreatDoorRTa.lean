/-
  What holds where the run of the variables' own initialisers ends. Own work.
-/
import Derived.Test.YtcfekhcdadldmaaGreatDoorRows
import Derived.LaidOnce
import Derived.SevenTiedAt
import Derived.KernelRfl
namespace Go.Proofs.YtcfekhcdadldmaaGreatDoor
open Go
set_option maxHeartbeats 8000000
set_option maxRecDepth 100000
/-- what is read where the run of the function 'g' ends. -/
noncomputable def atDoor {α : Type} (P : Program) (n : Nat) (g : FuncId) (os : Os) (tape : Tape) (f : World → Option α) : Option α :=
  match runN P n (Machine.entering P (World.unlaid P os) tape g ⟨#[], #[], []⟩) with
  | .ended (.done _) w => f w.memory
  | _ => none
noncomputable def listed : List (String × DataW Unit) := [("internal/strconv.uint64pow10", Rows.laid_internal_strconv_uint64pow10), ("math/bits.deBruijn32tab", Rows.laid_math_bits_deBruijn32tab), ("math/bits.deBruijn64tab", Rows.laid_math_bits_deBruijn64tab), ("errors.errorType", Rows.laid_errors_errorType), ("strings.asciiSpace", Rows.laid_strings_asciiSpace), ("unicode.White_Space", Rows.laid_unicode_White_Space)]
noncomputable def lnames : List String := (listed.filter fun x => x.2.handleName?.isNone).map (·.1)
theorem doorLeaves_of {P : Program} {n fuel M : Nat} {laid : List (String × DataW Unit)} {g : FuncId} {os : Os} {tape : Tape} {l : List (String × DataW Unit)} {fs : List (DataW (List UInt8))} (hv : varsId P = g)
    (h1 : atDoor P n g os tape (fun w => (DataW.laidRun P w fuel ((laid.filter fun x => x.2.handleName?.isNone).map (·.1))).map (·.1)) = some l)
    (h2 : atDoor P n g os tape (fun w => (DataW.laidRun P w fuel ((laid.filter fun x => x.2.handleName?.isNone).map (·.1))).map fun x => nodupBits M x.2 0) = some true)
    (h3 : atDoor P n g os tape (fun w => (DataW.laidRun P w fuel ((laid.filter fun x => x.2.handleName?.isNone).map (·.1))).map fun x => laidRowsB P w x.2) = some true)
    (h4 : atDoor P n g os tape (fun w => if (laid.filter fun x => x.2.handleName?.isSome && x.2.funcsIn?.isNone).all (handleAtB P w) then funcsRun P w fuel ((funcsListed laid).map (·.1)) else none) = some fs) :
    doorLeaves P n fuel M laid os tape = some (l, fs) := by
  subst hv
  unfold doorLeaves
  unfold atDoor at h1 h2 h3 h4
  split at h1
  · rename_i v w hr
    rw [hr] at h2 h3 h4 ⊢
    simp only [Option.map_eq_some_iff] at h1 h2 h3
    obtain ⟨x, hx, rfl⟩ := h1
    obtain ⟨x2, hx2, e2⟩ := h2
    obtain ⟨x3, hx3, e3⟩ := h3
    obtain rfl := Option.some.inj (hx.symm.trans hx2)
    obtain rfl := Option.some.inj (hx.symm.trans hx3)
    simp only at h4 ⊢
    rw [hx]
    split at h4
    · rename_i hh
      simp [e2, e3, hh, h4]
    · cases h4
  · cases h1
end Go.Proofs.YtcfekhcdadldmaaGreatDoor
