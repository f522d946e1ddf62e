/-
  DERIVED. GIVEN WITH THE SEED: THE CARDS: each row of YtedkdkjjmkijaaaGreatDoorRows.lean that lists a variable, with what it lists TIED to the program's text (the seventh form; the later family's looks); each row that meets fmt, with fmt's text TOLD by the authors' own Lean function (tested against real Go, not proved from fmt's source: count such statements apart). THE CARD IS WHAT COUNTS. Prove the row's statement (the work); the ties are given (YtedkdkjjmkijaaaGreatDoorTie.lean); close each card by the builder's one call (the guide's Derived/Test/ToyasCard.lean, 'card_holds'). Laid BY PROGRAM, IN A SANDBOX (cutbox-door.mjs). By AI agents, Wed Nov 11 2026. No macro, syntax, notation, axiom, sorry.
-/
import Derived.Test.YtedkdkjjmkijaaaGreatDoorRows
import GoSem.ClaimSeven
namespace Go.Proofs.YtedkdkjjmkijaaaGreatDoor
namespace Rows

/-- THE TIED CARD OF 'coillaw10.ValueRuns'. -/
def valueRunsCard : Claim7 := { stood := { row := valueRunsRow, standIns := [], harness := (true, "0fccda9c13b95b1a19f102c78d1327a49d5dec3d8108fa90955567605eee26d0"), looks := false }, kinds := [], alts := [], laidByText := true, laidKinds := [.data, .data, .data], laidTests := true, laidLooks := .later }
def ValueRunsCardSaid : Prop := Claim7.holds Tryz.pinned (.plain (OpenSpec.ofChange valueRunsSpec)) valueRunsCard

/-- THE TIED CARD OF 'coillaw10.ValueShared'. -/
def valueSharedCard : Claim7 := { stood := { row := valueSharedRow, standIns := [], harness := (true, "0fccda9c13b95b1a19f102c78d1327a49d5dec3d8108fa90955567605eee26d0"), looks := false }, kinds := [], alts := [], laidByText := true, laidKinds := [.data, .data, .data], laidTests := true, laidLooks := .later }
def ValueSharedCardSaid : Prop := Claim7.holds Tryz.pinned (.plain (OpenSpec.ofChange valueSharedSpec)) valueSharedCard

/-- THE SECOND FORM's CARD OF 'coillaw10.ValueRuns'. -/
def valueRunsUptoCard : Claim7 := { stood := { row := valueRunsUptoRow, standIns := [], harness := (true, "0fccda9c13b95b1a19f102c78d1327a49d5dec3d8108fa90955567605eee26d0"), looks := false }, kinds := [], alts := [], laidByText := true, laidKinds := [.data, .data, .data], laidTests := true, laidLooks := .later }
def ValueRunsUptoCardSaid : Prop := Claim7.holds Tryz.pinned (.plain (OpenSpec.upto valueRunsSpec)) valueRunsUptoCard

/-- THE SECOND FORM's CARD OF 'coillaw10.ValueShared'. -/
def valueSharedUptoCard : Claim7 := { stood := { row := valueSharedUptoRow, standIns := [], harness := (true, "0fccda9c13b95b1a19f102c78d1327a49d5dec3d8108fa90955567605eee26d0"), looks := false }, kinds := [], alts := [], laidByText := true, laidKinds := [.data, .data, .data], laidTests := true, laidLooks := .later }
def ValueSharedUptoCardSaid : Prop := Claim7.holds Tryz.pinned (.plain (OpenSpec.upto valueSharedSpec)) valueSharedUptoCard
end Rows
end Go.Proofs.YtedkdkjjmkijaaaGreatDoor
