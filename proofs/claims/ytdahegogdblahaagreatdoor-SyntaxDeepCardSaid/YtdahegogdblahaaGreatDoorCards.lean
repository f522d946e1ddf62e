/-
  DERIVED. GIVEN WITH THE SEED: THE CARDS: each row of YtdahegogdblahaaGreatDoorRows.lean that lists a variable, with what it lists TIED to the program's text (the seventh form; the later family's looks); each row that meets fmt, with fmt's text TOLD by the authors' own Lean function (tested against real Go, not proved from fmt's source: count such statements apart). THE CARD IS WHAT COUNTS. Prove the row's statement (the work); the ties are given (YtdahegogdblahaaGreatDoorTie.lean); close each card by the builder's one call (the guide's Derived/Test/ToyasCard.lean, 'card_holds'). Laid BY PROGRAM, IN A SANDBOX (cutbox-door.mjs). By AI agents, Wed Nov 11 2026. No macro, syntax, notation, axiom, sorry.
-/
import Derived.Test.YtdahegogdblahaaGreatDoorRows
import GoSem.ClaimSeven
namespace Go.Proofs.YtdahegogdblahaaGreatDoor
namespace Rows

/-- THE TIED CARD OF 'coillaw2.SyntaxTokens'. -/
def syntaxTokensCard : Claim7 := { stood := { row := syntaxTokensRow, standIns := [], harness := (true, "5678d34e36c4c51c75f3ca0ceb5ec74a8f1a771e8598e5f05e42bfa0e5cc5d65"), looks := false }, kinds := [], alts := [], laidByText := true, laidKinds := [.data, .data, .data], laidTests := true, laidLooks := .later }
def SyntaxTokensCardSaid : Prop := Claim7.holds Tryz.pinned (.plain (OpenSpec.ofChange syntaxTokensSpec)) syntaxTokensCard

/-- THE TIED CARD OF 'coillaw2.SyntaxParts'. -/
def syntaxPartsCard : Claim7 := { stood := { row := syntaxPartsRow, standIns := [], harness := (true, "5678d34e36c4c51c75f3ca0ceb5ec74a8f1a771e8598e5f05e42bfa0e5cc5d65"), looks := false }, kinds := [], alts := [], laidByText := true, laidKinds := [.data, .data, .data], laidTests := true, laidLooks := .later }
def SyntaxPartsCardSaid : Prop := Claim7.holds Tryz.pinned (.plain (OpenSpec.ofChange syntaxPartsSpec)) syntaxPartsCard

/-- THE TIED CARD OF 'coillaw2.SyntaxDeep'. -/
def syntaxDeepCard : Claim7 := { stood := { row := syntaxDeepRow, standIns := [], harness := (true, "5678d34e36c4c51c75f3ca0ceb5ec74a8f1a771e8598e5f05e42bfa0e5cc5d65"), looks := false }, kinds := [], alts := [], laidByText := true, laidKinds := [.data, .data, .data], laidTests := true, laidLooks := .later }
def SyntaxDeepCardSaid : Prop := Claim7.holds Tryz.pinned (.plain (OpenSpec.ofChange syntaxDeepSpec)) syntaxDeepCard

/-- THE TIED CARD OF 'coillaw2.SyntaxNamed'. -/
def syntaxNamedCard : Claim7 := { stood := { row := syntaxNamedRow, standIns := [], harness := (true, "5678d34e36c4c51c75f3ca0ceb5ec74a8f1a771e8598e5f05e42bfa0e5cc5d65"), looks := false }, kinds := [], alts := [], laidByText := true, laidKinds := [.data, .data, .data], laidTests := true, laidLooks := .later }
def SyntaxNamedCardSaid : Prop := Claim7.holds Tryz.pinned (.plain (OpenSpec.ofChange syntaxNamedSpec)) syntaxNamedCard

/-- THE SECOND FORM's CARD OF 'coillaw2.SyntaxTokens'. -/
def syntaxTokensUptoCard : Claim7 := { stood := { row := syntaxTokensUptoRow, standIns := [], harness := (true, "5678d34e36c4c51c75f3ca0ceb5ec74a8f1a771e8598e5f05e42bfa0e5cc5d65"), looks := false }, kinds := [], alts := [], laidByText := true, laidKinds := [.data, .data, .data], laidTests := true, laidLooks := .later }
def SyntaxTokensUptoCardSaid : Prop := Claim7.holds Tryz.pinned (.plain (OpenSpec.upto syntaxTokensSpec)) syntaxTokensUptoCard

/-- THE SECOND FORM's CARD OF 'coillaw2.SyntaxParts'. -/
def syntaxPartsUptoCard : Claim7 := { stood := { row := syntaxPartsUptoRow, standIns := [], harness := (true, "5678d34e36c4c51c75f3ca0ceb5ec74a8f1a771e8598e5f05e42bfa0e5cc5d65"), looks := false }, kinds := [], alts := [], laidByText := true, laidKinds := [.data, .data, .data], laidTests := true, laidLooks := .later }
def SyntaxPartsUptoCardSaid : Prop := Claim7.holds Tryz.pinned (.plain (OpenSpec.upto syntaxPartsSpec)) syntaxPartsUptoCard

/-- THE SECOND FORM's CARD OF 'coillaw2.SyntaxDeep'. -/
def syntaxDeepUptoCard : Claim7 := { stood := { row := syntaxDeepUptoRow, standIns := [], harness := (true, "5678d34e36c4c51c75f3ca0ceb5ec74a8f1a771e8598e5f05e42bfa0e5cc5d65"), looks := false }, kinds := [], alts := [], laidByText := true, laidKinds := [.data, .data, .data], laidTests := true, laidLooks := .later }
def SyntaxDeepUptoCardSaid : Prop := Claim7.holds Tryz.pinned (.plain (OpenSpec.upto syntaxDeepSpec)) syntaxDeepUptoCard

/-- THE SECOND FORM's CARD OF 'coillaw2.SyntaxNamed'. -/
def syntaxNamedUptoCard : Claim7 := { stood := { row := syntaxNamedUptoRow, standIns := [], harness := (true, "5678d34e36c4c51c75f3ca0ceb5ec74a8f1a771e8598e5f05e42bfa0e5cc5d65"), looks := false }, kinds := [], alts := [], laidByText := true, laidKinds := [.data, .data, .data], laidTests := true, laidLooks := .later }
def SyntaxNamedUptoCardSaid : Prop := Claim7.holds Tryz.pinned (.plain (OpenSpec.upto syntaxNamedSpec)) syntaxNamedUptoCard
end Rows
end Go.Proofs.YtdahegogdblahaaGreatDoor
