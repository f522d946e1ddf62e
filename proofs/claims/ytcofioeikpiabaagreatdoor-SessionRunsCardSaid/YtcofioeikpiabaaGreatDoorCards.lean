/-
  DERIVED. GIVEN WITH THE SEED: THE CARDS: each row of YtcofioeikpiabaaGreatDoorRows.lean that lists a variable, with what it lists TIED to the program's text (the seventh form; the later family's looks); each row that meets fmt, with fmt's text TOLD by the authors' own Lean function (tested against real Go, not proved from fmt's source: count such statements apart). THE CARD IS WHAT COUNTS. Prove the row's statement (the work); the ties are given (YtcofioeikpiabaaGreatDoorTie.lean); close each card by the builder's one call (the guide's Derived/Test/ToyasCard.lean, 'card_holds'). Laid BY PROGRAM, IN A SANDBOX (cutbox-door.mjs). By AI agents, Wed Nov 11 2026. No macro, syntax, notation, axiom, sorry.
-/
import Derived.Test.YtcofioeikpiabaaGreatDoorRows
import GoSem.ClaimSeven
namespace Go.Proofs.YtcofioeikpiabaaGreatDoor
namespace Rows

/-- THE TIED CARD OF 'coillaw15.SessionRuns'. -/
def sessionRunsCard : Claim7 := { stood := { row := sessionRunsRow, standIns := [], harness := (true, "f015c73fbe139ac8a47d2d6a8bba4dfac37aeb07a74dedd19e7e07c5fd65e1c1"), looks := true }, kinds := [], alts := [], laidByText := true, laidKinds := [.handle, .data, .data, .data, .pinned, .data, .data, .listed, .sentinel, .sentinel], laidTests := true, laidLooks := .later }
def SessionRunsCardSaid : Prop := Claim7.holds Tryz.pinned (.plain (OpenSpec.ofChange sessionRunsSpec)) sessionRunsCard

/-- THE SECOND FORM's CARD OF 'coillaw15.SessionRuns'. -/
def sessionRunsUptoCard : Claim7 := { stood := { row := sessionRunsUptoRow, standIns := [], harness := (true, "f015c73fbe139ac8a47d2d6a8bba4dfac37aeb07a74dedd19e7e07c5fd65e1c1"), looks := true }, kinds := [], alts := [], laidByText := true, laidKinds := [.handle, .data, .data, .data, .pinned, .data, .data, .listed, .sentinel, .sentinel], laidTests := true, laidLooks := .later }
def SessionRunsUptoCardSaid : Prop := Claim7.holds Tryz.pinned (.plain (OpenSpec.upto sessionRunsSpec)) sessionRunsUptoCard
end Rows
end Go.Proofs.YtcofioeikpiabaaGreatDoor
