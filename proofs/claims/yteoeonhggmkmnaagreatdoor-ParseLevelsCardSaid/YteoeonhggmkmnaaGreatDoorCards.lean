/-
  DERIVED. GIVEN WITH THE SEED: THE CARDS: each row of YteoeonhggmkmnaaGreatDoorRows.lean that lists a variable, with what it lists TIED to the program's text (the seventh form; the later family's looks); each row that meets fmt, with fmt's text TOLD by the authors' own Lean function (tested against real Go, not proved from fmt's source: count such statements apart). THE CARD IS WHAT COUNTS. Prove the row's statement (the work); the ties are given (YteoeonhggmkmnaaGreatDoorTie.lean); close each card by the builder's one call (the guide's Derived/Test/ToyasCard.lean, 'card_holds'). Laid BY PROGRAM, IN A SANDBOX (cutbox-door.mjs). By AI agents, Wed Nov 11 2026. No macro, syntax, notation, axiom, sorry.
-/
import Derived.Test.YteoeonhggmkmnaaGreatDoorRows
import GoSem.ClaimSeven
namespace Go.Proofs.YteoeonhggmkmnaaGreatDoor
namespace Rows

/-- THE TIED CARD OF 'coillaw3.ParseRuns'. -/
def parseRunsCard : Claim7 := { stood := { row := parseRunsRow, standIns := [], harness := (true, "23d92d9761875201dcbe9b493a4ab3b4be1c87cab783e9681ec0cb073edad9d2"), looks := true }, kinds := [], alts := [], laidByText := true, laidKinds := [.data, .data, .data, .handle], laidTests := true, laidLooks := .later }
def ParseRunsCardSaid : Prop := Claim7.holds Tryz.pinned (.plain (OpenSpec.ofChange parseRunsSpec)) parseRunsCard

/-- THE TIED CARD OF 'coillaw3.ParseLevels'. -/
def parseLevelsCard : Claim7 := { stood := { row := parseLevelsRow, standIns := [], harness := (true, "23d92d9761875201dcbe9b493a4ab3b4be1c87cab783e9681ec0cb073edad9d2"), looks := true }, kinds := [], alts := [], laidByText := true, laidKinds := [.data, .data, .data, .handle], laidTests := true, laidLooks := .later }
def ParseLevelsCardSaid : Prop := Claim7.holds Tryz.pinned (.plain (OpenSpec.ofChange parseLevelsSpec)) parseLevelsCard

/-- THE SECOND FORM's CARD OF 'coillaw3.ParseRuns'. -/
def parseRunsUptoCard : Claim7 := { stood := { row := parseRunsUptoRow, standIns := [], harness := (true, "23d92d9761875201dcbe9b493a4ab3b4be1c87cab783e9681ec0cb073edad9d2"), looks := true }, kinds := [], alts := [], laidByText := true, laidKinds := [.data, .data, .data, .handle], laidTests := true, laidLooks := .later }
def ParseRunsUptoCardSaid : Prop := Claim7.holds Tryz.pinned (.plain (OpenSpec.upto parseRunsSpec)) parseRunsUptoCard

/-- THE SECOND FORM's CARD OF 'coillaw3.ParseLevels'. -/
def parseLevelsUptoCard : Claim7 := { stood := { row := parseLevelsUptoRow, standIns := [], harness := (true, "23d92d9761875201dcbe9b493a4ab3b4be1c87cab783e9681ec0cb073edad9d2"), looks := true }, kinds := [], alts := [], laidByText := true, laidKinds := [.data, .data, .data, .handle], laidTests := true, laidLooks := .later }
def ParseLevelsUptoCardSaid : Prop := Claim7.holds Tryz.pinned (.plain (OpenSpec.upto parseLevelsSpec)) parseLevelsUptoCard
end Rows
end Go.Proofs.YteoeonhggmkmnaaGreatDoor
