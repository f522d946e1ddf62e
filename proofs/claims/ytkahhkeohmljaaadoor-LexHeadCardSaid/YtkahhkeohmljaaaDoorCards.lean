/-
  DERIVED. GIVEN WITH THE SEED: THE CARDS: each row of YtkahhkeohmljaaaDoorRows.lean that lists a variable, with what it lists TIED to the program's text (the seventh form; the later family's looks); each row that meets fmt, with fmt's text TOLD by the authors' own Lean function (tested against real Go, not proved from fmt's source: count such statements apart). THE CARD IS WHAT COUNTS. Prove the row's statement (the work); the ties are given (YtkahhkeohmljaaaDoorTie.lean); close each card by the builder's one call (the guide's Derived/Test/ToyasCard.lean, 'card_holds'). Laid BY PROGRAM, IN A SANDBOX (cutbox-door.mjs). By AI agents, Wed Nov 11 2026. No macro, syntax, notation, axiom, sorry.
-/
import Derived.Test.YtkahhkeohmljaaaDoorRows
import GoSem.ClaimSeven
namespace Go.Proofs.YtkahhkeohmljaaaDoor
namespace Rows

/-- THE TIED CARD OF 'coillaw1.LexRuns'. -/
def lexRunsCard : Claim7 := { stood := { row := lexRunsRow, standIns := [], harness := (true, "e48e7cc77d2f1e56eda99efa5d215f6e2b4b501dc36cd9a519607cdfc34eb8bf"), looks := true }, kinds := [], alts := [], laidByText := true, laidKinds := [.data, .data, .data, .handle], laidTests := true, laidLooks := .later }
def LexRunsCardSaid : Prop := Claim7.holds Tryd.pinned (.plain (OpenSpec.ofChange lexRunsSpec)) lexRunsCard

/-- THE TIED CARD OF 'coillaw1.LexBlanks'. -/
def lexBlanksCard : Claim7 := { stood := { row := lexBlanksRow, standIns := [], harness := (true, "e48e7cc77d2f1e56eda99efa5d215f6e2b4b501dc36cd9a519607cdfc34eb8bf"), looks := true }, kinds := [], alts := [], laidByText := true, laidKinds := [.data, .data, .data, .handle], laidTests := true, laidLooks := .later }
def LexBlanksCardSaid : Prop := Claim7.holds Tryd.pinned (.plain (OpenSpec.ofChange lexBlanksSpec)) lexBlanksCard

/-- THE TIED CARD OF 'coillaw1.LexHead'. -/
def lexHeadCard : Claim7 := { stood := { row := lexHeadRow, standIns := [], harness := (true, "e48e7cc77d2f1e56eda99efa5d215f6e2b4b501dc36cd9a519607cdfc34eb8bf"), looks := true }, kinds := [], alts := [], laidByText := true, laidKinds := [.data, .data, .data, .handle], laidTests := true, laidLooks := .later }
def LexHeadCardSaid : Prop := Claim7.holds Tryd.pinned (.plain (OpenSpec.ofChange lexHeadSpec)) lexHeadCard

/-- THE SECOND FORM's CARD OF 'coillaw1.LexRuns'. -/
def lexRunsUptoCard : Claim7 := { stood := { row := lexRunsUptoRow, standIns := [], harness := (true, "e48e7cc77d2f1e56eda99efa5d215f6e2b4b501dc36cd9a519607cdfc34eb8bf"), looks := true }, kinds := [], alts := [], laidByText := true, laidKinds := [.data, .data, .data, .handle], laidTests := true, laidLooks := .later }
def LexRunsUptoCardSaid : Prop := Claim7.holds Tryd.pinned (.plain (OpenSpec.upto lexRunsSpec)) lexRunsUptoCard

/-- THE SECOND FORM's CARD OF 'coillaw1.LexBlanks'. -/
def lexBlanksUptoCard : Claim7 := { stood := { row := lexBlanksUptoRow, standIns := [], harness := (true, "e48e7cc77d2f1e56eda99efa5d215f6e2b4b501dc36cd9a519607cdfc34eb8bf"), looks := true }, kinds := [], alts := [], laidByText := true, laidKinds := [.data, .data, .data, .handle], laidTests := true, laidLooks := .later }
def LexBlanksUptoCardSaid : Prop := Claim7.holds Tryd.pinned (.plain (OpenSpec.upto lexBlanksSpec)) lexBlanksUptoCard

/-- THE SECOND FORM's CARD OF 'coillaw1.LexHead'. -/
def lexHeadUptoCard : Claim7 := { stood := { row := lexHeadUptoRow, standIns := [], harness := (true, "e48e7cc77d2f1e56eda99efa5d215f6e2b4b501dc36cd9a519607cdfc34eb8bf"), looks := true }, kinds := [], alts := [], laidByText := true, laidKinds := [.data, .data, .data, .handle], laidTests := true, laidLooks := .later }
def LexHeadUptoCardSaid : Prop := Claim7.holds Tryd.pinned (.plain (OpenSpec.upto lexHeadSpec)) lexHeadUptoCard
end Rows
end Go.Proofs.YtkahhkeohmljaaaDoor
