/-
  DERIVED. GIVEN WITH THE SEED: THE CARDS: each row of YtipcccigigpbcaaGreatDoorRows.lean that lists a variable, with what it lists TIED to the program's text (the seventh form; the later family's looks); each row that meets fmt, with fmt's text TOLD by the authors' own Lean function (tested against real Go, not proved from fmt's source: count such statements apart). THE CARD IS WHAT COUNTS. Prove the row's statement (the work); the ties are given (YtipcccigigpbcaaGreatDoorTie.lean); close each card by the builder's one call (the guide's Derived/Test/ToyasCard.lean, 'card_holds'). Laid BY PROGRAM, IN A SANDBOX (cutbox-door.mjs). By AI agents, Wed Nov 11 2026. No macro, syntax, notation, axiom, sorry.
-/
import Derived.Test.YtipcccigigpbcaaGreatDoorRows
import GoSem.ClaimSeven
namespace Go.Proofs.YtipcccigigpbcaaGreatDoor
namespace Rows

/-- THE TIED CARD OF 'coillaw11.InterpRuns'. -/
def interpRunsCard : Claim7 := { stood := { row := interpRunsRow, standIns := [], harness := (true, "896d1b114e303565cf7e7798d4b3717b1936c1b511bd51cf95a84b66d04c4c7d"), looks := true }, kinds := [], alts := [], laidByText := true, laidKinds := [.data, .data, .data, .handle, .data, .listed], laidTests := true, laidLooks := .later }
def InterpRunsCardSaid : Prop := Claim7.holds Tryz.pinned (.plain (OpenSpec.ofChange interpRunsSpec)) interpRunsCard

/-- THE TIED CARD OF 'coillaw11.InterpShort'. -/
def interpShortCard : Claim7 := { stood := { row := interpShortRow, standIns := [], harness := (true, "896d1b114e303565cf7e7798d4b3717b1936c1b511bd51cf95a84b66d04c4c7d"), looks := true }, kinds := [], alts := [], laidByText := true, laidKinds := [.data, .data, .data, .handle, .data, .listed], laidTests := true, laidLooks := .later }
def InterpShortCardSaid : Prop := Claim7.holds Tryz.pinned (.plain (OpenSpec.ofChange interpShortSpec)) interpShortCard

/-- THE TIED CARD OF 'coillaw11.InterpDown'. -/
def interpDownCard : Claim7 := { stood := { row := interpDownRow, standIns := [], harness := (true, "896d1b114e303565cf7e7798d4b3717b1936c1b511bd51cf95a84b66d04c4c7d"), looks := true }, kinds := [], alts := [], laidByText := true, laidKinds := [.data, .data, .data, .handle, .data, .listed], laidTests := true, laidLooks := .later }
def InterpDownCardSaid : Prop := Claim7.holds Tryz.pinned (.plain (OpenSpec.ofChange interpDownSpec)) interpDownCard

/-- THE SECOND FORM's CARD OF 'coillaw11.InterpRuns'. -/
def interpRunsUptoCard : Claim7 := { stood := { row := interpRunsUptoRow, standIns := [], harness := (true, "896d1b114e303565cf7e7798d4b3717b1936c1b511bd51cf95a84b66d04c4c7d"), looks := true }, kinds := [], alts := [], laidByText := true, laidKinds := [.data, .data, .data, .handle, .data, .listed], laidTests := true, laidLooks := .later }
def InterpRunsUptoCardSaid : Prop := Claim7.holds Tryz.pinned (.plain (OpenSpec.upto interpRunsSpec)) interpRunsUptoCard

/-- THE SECOND FORM's CARD OF 'coillaw11.InterpShort'. -/
def interpShortUptoCard : Claim7 := { stood := { row := interpShortUptoRow, standIns := [], harness := (true, "896d1b114e303565cf7e7798d4b3717b1936c1b511bd51cf95a84b66d04c4c7d"), looks := true }, kinds := [], alts := [], laidByText := true, laidKinds := [.data, .data, .data, .handle, .data, .listed], laidTests := true, laidLooks := .later }
def InterpShortUptoCardSaid : Prop := Claim7.holds Tryz.pinned (.plain (OpenSpec.upto interpShortSpec)) interpShortUptoCard

/-- THE SECOND FORM's CARD OF 'coillaw11.InterpDown'. -/
def interpDownUptoCard : Claim7 := { stood := { row := interpDownUptoRow, standIns := [], harness := (true, "896d1b114e303565cf7e7798d4b3717b1936c1b511bd51cf95a84b66d04c4c7d"), looks := true }, kinds := [], alts := [], laidByText := true, laidKinds := [.data, .data, .data, .handle, .data, .listed], laidTests := true, laidLooks := .later }
def InterpDownUptoCardSaid : Prop := Claim7.holds Tryz.pinned (.plain (OpenSpec.upto interpDownSpec)) interpDownUptoCard
end Rows
end Go.Proofs.YtipcccigigpbcaaGreatDoor
