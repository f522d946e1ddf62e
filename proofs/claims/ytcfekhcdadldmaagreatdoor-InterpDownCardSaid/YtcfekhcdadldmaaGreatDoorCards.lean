/-
  DERIVED. GIVEN WITH THE SEED: THE CARDS: each row of YtcfekhcdadldmaaGreatDoorRows.lean that lists a variable, with what it lists TIED to the program's text (the seventh form; the later family's looks); each row that meets fmt, with fmt's text TOLD by the authors' own Lean function (tested against real Go, not proved from fmt's source: count such statements apart). THE CARD IS WHAT COUNTS. Prove the row's statement (the work); the ties are given (YtcfekhcdadldmaaGreatDoorTie.lean); close each card by the builder's one call (the guide's Derived/Test/ToyasCard.lean, 'card_holds'). Laid BY PROGRAM, IN A SANDBOX (cutbox-door.mjs). By AI agents, Wed Nov 11 2026. No macro, syntax, notation, axiom, sorry.
-/
import Derived.Test.YtcfekhcdadldmaaGreatDoorRows
import GoSem.ClaimSeven
namespace Go.Proofs.YtcfekhcdadldmaaGreatDoor
namespace Rows

/-- THE TIED CARD OF 'coillaw11.InterpRuns'. -/
def interpRunsCard : Claim7 := { stood := { row := interpRunsRow, standIns := [], harness := (true, "a0e9fc602b249d1f8ebfc3f311bf69447f48e56632c7793e2036106bfb94fef4"), looks := true }, kinds := [], alts := [], laidByText := true, laidKinds := [.data, .data, .data, .handle, .data, .listed], laidTests := true, laidLooks := .later }
def InterpRunsCardSaid : Prop := Claim7.holds Tryz.pinned (.plain (OpenSpec.ofChange interpRunsSpec)) interpRunsCard

/-- THE TIED CARD OF 'coillaw11.InterpShort'. -/
def interpShortCard : Claim7 := { stood := { row := interpShortRow, standIns := [], harness := (true, "a0e9fc602b249d1f8ebfc3f311bf69447f48e56632c7793e2036106bfb94fef4"), looks := true }, kinds := [], alts := [], laidByText := true, laidKinds := [.data, .data, .data, .handle, .data, .listed], laidTests := true, laidLooks := .later }
def InterpShortCardSaid : Prop := Claim7.holds Tryz.pinned (.plain (OpenSpec.ofChange interpShortSpec)) interpShortCard

/-- THE TIED CARD OF 'coillaw11.InterpDown'. -/
def interpDownCard : Claim7 := { stood := { row := interpDownRow, standIns := [], harness := (true, "a0e9fc602b249d1f8ebfc3f311bf69447f48e56632c7793e2036106bfb94fef4"), looks := true }, kinds := [], alts := [], laidByText := true, laidKinds := [.data, .data, .data, .handle, .data, .listed], laidTests := true, laidLooks := .later }
def InterpDownCardSaid : Prop := Claim7.holds Tryz.pinned (.plain (OpenSpec.ofChange interpDownSpec)) interpDownCard

/-- THE TIED CARD OF 'coillaw11.InterpSums'. -/
def interpSumsCard : Claim7 := { stood := { row := interpSumsRow, standIns := [], harness := (true, "a0e9fc602b249d1f8ebfc3f311bf69447f48e56632c7793e2036106bfb94fef4"), looks := true }, kinds := [], alts := [], laidByText := true, laidKinds := [.data, .data, .data, .handle, .data, .listed], laidTests := true, laidLooks := .later }
def InterpSumsCardSaid : Prop := Claim7.holds Tryz.pinned (.plain (OpenSpec.ofChange interpSumsSpec)) interpSumsCard

/-- THE TIED CARD OF 'coillaw11.InterpTexts'. -/
def interpTextsCard : Claim7 := { stood := { row := interpTextsRow, standIns := [], harness := (true, "a0e9fc602b249d1f8ebfc3f311bf69447f48e56632c7793e2036106bfb94fef4"), looks := true }, kinds := [], alts := [], laidByText := true, laidKinds := [.data, .data, .data, .handle, .data, .listed], laidTests := true, laidLooks := .later }
def InterpTextsCardSaid : Prop := Claim7.holds Tryz.pinned (.plain (OpenSpec.ofChange interpTextsSpec)) interpTextsCard

/-- THE TIED CARD OF 'coillaw11.InterpLoops'. -/
def interpLoopsCard : Claim7 := { stood := { row := interpLoopsRow, standIns := [], harness := (true, "a0e9fc602b249d1f8ebfc3f311bf69447f48e56632c7793e2036106bfb94fef4"), looks := true }, kinds := [], alts := [], laidByText := true, laidKinds := [.data, .data, .data, .handle, .data, .listed], laidTests := true, laidLooks := .later }
def InterpLoopsCardSaid : Prop := Claim7.holds Tryz.pinned (.plain (OpenSpec.ofChange interpLoopsSpec)) interpLoopsCard

/-- THE TIED CARD OF 'coillaw11.InterpDepth'. -/
def interpDepthCard : Claim7 := { stood := { row := interpDepthRow, standIns := [], harness := (true, "a0e9fc602b249d1f8ebfc3f311bf69447f48e56632c7793e2036106bfb94fef4"), looks := true }, kinds := [], alts := [], laidByText := true, laidKinds := [.data, .data, .data, .handle, .data, .listed], laidTests := true, laidLooks := .later }
def InterpDepthCardSaid : Prop := Claim7.holds Tryz.pinned (.plain (OpenSpec.ofChange interpDepthSpec)) interpDepthCard

/-- THE SECOND FORM's CARD OF 'coillaw11.InterpRuns'. -/
def interpRunsUptoCard : Claim7 := { stood := { row := interpRunsUptoRow, standIns := [], harness := (true, "a0e9fc602b249d1f8ebfc3f311bf69447f48e56632c7793e2036106bfb94fef4"), looks := true }, kinds := [], alts := [], laidByText := true, laidKinds := [.data, .data, .data, .handle, .data, .listed], laidTests := true, laidLooks := .later }
def InterpRunsUptoCardSaid : Prop := Claim7.holds Tryz.pinned (.plain (OpenSpec.upto interpRunsSpec)) interpRunsUptoCard

/-- THE SECOND FORM's CARD OF 'coillaw11.InterpShort'. -/
def interpShortUptoCard : Claim7 := { stood := { row := interpShortUptoRow, standIns := [], harness := (true, "a0e9fc602b249d1f8ebfc3f311bf69447f48e56632c7793e2036106bfb94fef4"), looks := true }, kinds := [], alts := [], laidByText := true, laidKinds := [.data, .data, .data, .handle, .data, .listed], laidTests := true, laidLooks := .later }
def InterpShortUptoCardSaid : Prop := Claim7.holds Tryz.pinned (.plain (OpenSpec.upto interpShortSpec)) interpShortUptoCard

/-- THE SECOND FORM's CARD OF 'coillaw11.InterpDown'. -/
def interpDownUptoCard : Claim7 := { stood := { row := interpDownUptoRow, standIns := [], harness := (true, "a0e9fc602b249d1f8ebfc3f311bf69447f48e56632c7793e2036106bfb94fef4"), looks := true }, kinds := [], alts := [], laidByText := true, laidKinds := [.data, .data, .data, .handle, .data, .listed], laidTests := true, laidLooks := .later }
def InterpDownUptoCardSaid : Prop := Claim7.holds Tryz.pinned (.plain (OpenSpec.upto interpDownSpec)) interpDownUptoCard

/-- THE SECOND FORM's CARD OF 'coillaw11.InterpSums'. -/
def interpSumsUptoCard : Claim7 := { stood := { row := interpSumsUptoRow, standIns := [], harness := (true, "a0e9fc602b249d1f8ebfc3f311bf69447f48e56632c7793e2036106bfb94fef4"), looks := true }, kinds := [], alts := [], laidByText := true, laidKinds := [.data, .data, .data, .handle, .data, .listed], laidTests := true, laidLooks := .later }
def InterpSumsUptoCardSaid : Prop := Claim7.holds Tryz.pinned (.plain (OpenSpec.upto interpSumsSpec)) interpSumsUptoCard

/-- THE SECOND FORM's CARD OF 'coillaw11.InterpTexts'. -/
def interpTextsUptoCard : Claim7 := { stood := { row := interpTextsUptoRow, standIns := [], harness := (true, "a0e9fc602b249d1f8ebfc3f311bf69447f48e56632c7793e2036106bfb94fef4"), looks := true }, kinds := [], alts := [], laidByText := true, laidKinds := [.data, .data, .data, .handle, .data, .listed], laidTests := true, laidLooks := .later }
def InterpTextsUptoCardSaid : Prop := Claim7.holds Tryz.pinned (.plain (OpenSpec.upto interpTextsSpec)) interpTextsUptoCard

/-- THE SECOND FORM's CARD OF 'coillaw11.InterpLoops'. -/
def interpLoopsUptoCard : Claim7 := { stood := { row := interpLoopsUptoRow, standIns := [], harness := (true, "a0e9fc602b249d1f8ebfc3f311bf69447f48e56632c7793e2036106bfb94fef4"), looks := true }, kinds := [], alts := [], laidByText := true, laidKinds := [.data, .data, .data, .handle, .data, .listed], laidTests := true, laidLooks := .later }
def InterpLoopsUptoCardSaid : Prop := Claim7.holds Tryz.pinned (.plain (OpenSpec.upto interpLoopsSpec)) interpLoopsUptoCard

/-- THE SECOND FORM's CARD OF 'coillaw11.InterpDepth'. -/
def interpDepthUptoCard : Claim7 := { stood := { row := interpDepthUptoRow, standIns := [], harness := (true, "a0e9fc602b249d1f8ebfc3f311bf69447f48e56632c7793e2036106bfb94fef4"), looks := true }, kinds := [], alts := [], laidByText := true, laidKinds := [.data, .data, .data, .handle, .data, .listed], laidTests := true, laidLooks := .later }
def InterpDepthUptoCardSaid : Prop := Claim7.holds Tryz.pinned (.plain (OpenSpec.upto interpDepthSpec)) interpDepthUptoCard
end Rows
end Go.Proofs.YtcfekhcdadldmaaGreatDoor
