/-
  DERIVED. GIVEN WITH THE SEED: THE CARDS: each row of YtjkhmmdjgancmaaDoorRows.lean that lists a variable, with what it lists TIED to the program's text (the seventh form; the later family's looks); each row that meets fmt, with fmt's text TOLD by the authors' own Lean function (tested against real Go, not proved from fmt's source: count such statements apart). THE CARD IS WHAT COUNTS. Prove the row's statement (the work); the ties are given (YtjkhmmdjgancmaaDoorTie.lean); close each card by the builder's one call (the guide's Derived/Test/ToyasCard.lean, 'card_holds'). Laid BY PROGRAM, IN A SANDBOX (cutbox-door.mjs). By AI agents, Wed Nov 11 2026. No macro, syntax, notation, axiom, sorry.
-/
import Derived.Test.YtjkhmmdjgancmaaDoorRows
import GoSem.ClaimSeven
namespace Go.Proofs.YtjkhmmdjgancmaaDoor
namespace Rows

/-- THE TIED CARD OF 'catchpolelaw7.PrintSets'. -/
def printSetsCard : Claim7 := { stood := { row := printSetsRow, standIns := [], harness := (true, "4dbcf565bd31e81f78cfe5d9ba76615890627de69db7553fa0e7f94dc2931f0b"), looks := true }, kinds := [], alts := [], laidByText := true, laidKinds := [.data], laidTests := true, laidLooks := .later }
def PrintSetsCardSaid : Prop := Claim7.holds Tryd.pinned (.plain (OpenSpec.ofChange printSetsSpec)) printSetsCard

/-- THE TIED CARD OF 'catchpolelaw7.PrintSays'. -/
def printSaysCard : Claim7 := { stood := { row := printSaysRow, standIns := [], harness := (true, "4dbcf565bd31e81f78cfe5d9ba76615890627de69db7553fa0e7f94dc2931f0b"), looks := true }, kinds := [], alts := [], laidByText := true, laidKinds := [.data, .data, .data], laidTests := true, laidLooks := .later }
def PrintSaysCardSaid : Prop := Claim7.holds Tryd.pinned (.plain (OpenSpec.ofChange printSaysSpec)) printSaysCard

/-- THE SECOND FORM's CARD OF 'catchpolelaw7.PrintSets'. -/
def printSetsUptoCard : Claim7 := { stood := { row := printSetsUptoRow, standIns := [], harness := (true, "4dbcf565bd31e81f78cfe5d9ba76615890627de69db7553fa0e7f94dc2931f0b"), looks := true }, kinds := [], alts := [], laidByText := true, laidKinds := [.data], laidTests := true, laidLooks := .later }
def PrintSetsUptoCardSaid : Prop := Claim7.holds Tryd.pinned (.plain (OpenSpec.upto printSetsSpec)) printSetsUptoCard

/-- THE SECOND FORM's CARD OF 'catchpolelaw7.PrintSays'. -/
def printSaysUptoCard : Claim7 := { stood := { row := printSaysUptoRow, standIns := [], harness := (true, "4dbcf565bd31e81f78cfe5d9ba76615890627de69db7553fa0e7f94dc2931f0b"), looks := true }, kinds := [], alts := [], laidByText := true, laidKinds := [.data, .data, .data], laidTests := true, laidLooks := .later }
def PrintSaysUptoCardSaid : Prop := Claim7.holds Tryd.pinned (.plain (OpenSpec.upto printSaysSpec)) printSaysUptoCard
end Rows
end Go.Proofs.YtjkhmmdjgancmaaDoor
