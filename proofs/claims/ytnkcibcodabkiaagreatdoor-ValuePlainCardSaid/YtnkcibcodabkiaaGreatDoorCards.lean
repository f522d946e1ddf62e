/-
  DERIVED. GIVEN WITH THE SEED: THE CARDS: each row of YtnkcibcodabkiaaGreatDoorRows.lean that lists a variable, with what it lists TIED to the program's text (the seventh form; the later family's looks); each row that meets fmt, with fmt's text TOLD by the authors' own Lean function (tested against real Go, not proved from fmt's source: count such statements apart). THE CARD IS WHAT COUNTS. Prove the row's statement (the work); the ties are given (YtnkcibcodabkiaaGreatDoorTie.lean); close each card by the builder's one call (the guide's Derived/Test/ToyasCard.lean, 'card_holds'). Laid BY PROGRAM, IN A SANDBOX (cutbox-door.mjs). By AI agents, Wed Nov 11 2026. No macro, syntax, notation, axiom, sorry.
-/
import Derived.Test.YtnkcibcodabkiaaGreatDoorRows
import GoSem.ClaimSeven
namespace Go.Proofs.YtnkcibcodabkiaaGreatDoor
namespace Rows

/-- THE TIED CARD OF 'coillaw10.ValueRuns'. -/
def valueRunsCard : Claim7 := { stood := { row := valueRunsRow, standIns := [], harness := (true, "3b8451b889fc7cfe8ae32f67b8f8c55fc6268bc4b030c306acda9b7b7f4baa4f"), looks := false }, kinds := [], alts := [], laidByText := true, laidKinds := [.data, .data, .data], laidTests := true, laidLooks := .later }
def ValueRunsCardSaid : Prop := Claim7.holds Tryz.pinned (.plain (OpenSpec.ofChange valueRunsSpec)) valueRunsCard

/-- THE TIED CARD OF 'coillaw10.ValueShared'. -/
def valueSharedCard : Claim7 := { stood := { row := valueSharedRow, standIns := [], harness := (true, "3b8451b889fc7cfe8ae32f67b8f8c55fc6268bc4b030c306acda9b7b7f4baa4f"), looks := false }, kinds := [], alts := [], laidByText := true, laidKinds := [.data, .data, .data], laidTests := true, laidLooks := .later }
def ValueSharedCardSaid : Prop := Claim7.holds Tryz.pinned (.plain (OpenSpec.ofChange valueSharedSpec)) valueSharedCard

/-- THE TIED CARD OF 'coillaw10.ValuePlain'. -/
def valuePlainCard : Claim7 := { stood := { row := valuePlainRow, standIns := [], harness := (true, "3b8451b889fc7cfe8ae32f67b8f8c55fc6268bc4b030c306acda9b7b7f4baa4f"), looks := false }, kinds := [], alts := [], laidByText := true, laidKinds := [.data, .data, .data], laidTests := true, laidLooks := .later }
def ValuePlainCardSaid : Prop := Claim7.holds Tryz.pinned (.plain (OpenSpec.ofChange valuePlainSpec)) valuePlainCard

/-- THE SECOND FORM's CARD OF 'coillaw10.ValueRuns'. -/
def valueRunsUptoCard : Claim7 := { stood := { row := valueRunsUptoRow, standIns := [], harness := (true, "3b8451b889fc7cfe8ae32f67b8f8c55fc6268bc4b030c306acda9b7b7f4baa4f"), looks := false }, kinds := [], alts := [], laidByText := true, laidKinds := [.data, .data, .data], laidTests := true, laidLooks := .later }
def ValueRunsUptoCardSaid : Prop := Claim7.holds Tryz.pinned (.plain (OpenSpec.upto valueRunsSpec)) valueRunsUptoCard

/-- THE SECOND FORM's CARD OF 'coillaw10.ValueShared'. -/
def valueSharedUptoCard : Claim7 := { stood := { row := valueSharedUptoRow, standIns := [], harness := (true, "3b8451b889fc7cfe8ae32f67b8f8c55fc6268bc4b030c306acda9b7b7f4baa4f"), looks := false }, kinds := [], alts := [], laidByText := true, laidKinds := [.data, .data, .data], laidTests := true, laidLooks := .later }
def ValueSharedUptoCardSaid : Prop := Claim7.holds Tryz.pinned (.plain (OpenSpec.upto valueSharedSpec)) valueSharedUptoCard

/-- THE SECOND FORM's CARD OF 'coillaw10.ValuePlain'. -/
def valuePlainUptoCard : Claim7 := { stood := { row := valuePlainUptoRow, standIns := [], harness := (true, "3b8451b889fc7cfe8ae32f67b8f8c55fc6268bc4b030c306acda9b7b7f4baa4f"), looks := false }, kinds := [], alts := [], laidByText := true, laidKinds := [.data, .data, .data], laidTests := true, laidLooks := .later }
def ValuePlainUptoCardSaid : Prop := Claim7.holds Tryz.pinned (.plain (OpenSpec.upto valuePlainSpec)) valuePlainUptoCard
end Rows
end Go.Proofs.YtnkcibcodabkiaaGreatDoor
