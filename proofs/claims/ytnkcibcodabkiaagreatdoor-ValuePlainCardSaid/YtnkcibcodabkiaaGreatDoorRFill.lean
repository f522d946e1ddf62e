/-
  coillaw10.ValueRuns answers true: its loop that fills a list is put in at once, all else is worked out by the kernel.
-/
import Derived.Test.YtnkcibcodabkiaaGreatDoorREval
namespace Go.Proofs.YtnkcibcodabkiaaGreatDoor
open Go Go.RowKit Go.Shelf Go.Proofs Am

set_option maxRecDepth 100000
set_option maxHeartbeats 4000000
def A1of : Option Code → Array Oper
  | some (.block _ (.loop (.seq (.seq (.region _ a _) _) _))) => a
  | _ => #[]
def A2of : Option Code → Array Oper
  | some (.block _ (.loop (.seq _ (.seq (.block _ (.region _ a _)) _)))) => a
  | _ => #[]
def A3of : Option Code → Array Oper
  | some (.block _ (.loop (.seq _ (.seq _ (.region _ a _))))) => a
  | _ => #[]
/-- the loop, as it stands in the program, fills a list. -/
theorem fills : ∃ A1 A2 A3, ((Tryz.prog.funcs[3]?).bind (·.body)).bind (codeAt place) = some (.block 0 (.loop (fillB A1 A2 A3 slots 0 1 24 26 25))) ∧ FillAt (envOf Tryz.prog (fun _ => none) (fun _ => none) (fun _ _ _ => false)) A1 A2 A3 slots 53 5 5 3 3 3 (.int .u8 97) :=
  ⟨A1of (((Tryz.prog.funcs[3]?).bind (·.body)).bind (codeAt place)), A2of (((Tryz.prog.funcs[3]?).bind (·.body)).bind (codeAt place)), A3of (((Tryz.prog.funcs[3]?).bind (·.body)).bind (codeAt place)), by kernel_rfl,
    { h1 := by kernel_rfl, h2 := by kernel_rfl, h3 := by kernel_rfl, od := by decide, und := by kernel_rfl, se := by kernel_rfl, su := by kernel_rfl, cv := rfl, co := rfl }⟩
theorem runs_fill (w : World) (hG : GlobOk w) : Calls Tryz.prog 3 #[] w fun e w' => e = .returned (.bool true) ∧ Below w.heap.size w w' := by
  obtain ⟨A1, A2, A3, hb, F⟩ := fills
  exact runs_topP (by as_aux_lemma => kernel_rfl) xts_ok extsT_ok hb (fun kr => fills_ok F kr) (of_toB evals) w hG
end Go.Proofs.YtnkcibcodabkiaaGreatDoor
