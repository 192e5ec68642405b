/-
  DERIVED. GIVEN WITH THE SEED: THE CARDS: each row of YtgdkopcfkoikjaaDoorRows.lean that lists a variable, with what it lists TIED to the program's text (the seventh form; the later family's looks); each row that meets fmt, with fmt's text TOLD by the authors' own Lean function (tested against real Go, not proved from fmt's source: count such statements apart). THE CARD IS WHAT COUNTS. Prove the row's statement (the work); the ties are given (YtgdkopcfkoikjaaDoorTie.lean); close each card by the builder's one call (the guide's Derived/Test/ToyasCard.lean, 'card_holds'). Laid BY PROGRAM, IN A SANDBOX (cutbox-door.mjs). By AI agents, Wed Nov 11 2026. No macro, syntax, notation, axiom, sorry.
-/
import Derived.Test.YtgdkopcfkoikjaaDoorRows
import GoSem.ClaimSeven
namespace Go.Proofs.YtgdkopcfkoikjaaDoor
namespace Rows

/-- THE TIED CARD OF 'catchpolelaw1.BytesetSays'. -/
def bytesetSaysCard : Claim7 := { stood := { row := bytesetSaysRow, standIns := [], harness := (true, "3ba1d98b6356ee6961e2d9cb0aea5479531a08c42057fb3376af69fd78c811ce"), looks := false }, kinds := [], alts := [], laidByText := true, laidKinds := [.data], laidTests := true, laidLooks := .later }
def BytesetSaysCardSaid : Prop := Claim7.holds Tryd.pinned (.plain (OpenSpec.ofChange bytesetSaysSpec)) bytesetSaysCard

/-- THE SECOND FORM's CARD OF 'catchpolelaw1.BytesetSays'. -/
def bytesetSaysUptoCard : Claim7 := { stood := { row := bytesetSaysUptoRow, standIns := [], harness := (true, "3ba1d98b6356ee6961e2d9cb0aea5479531a08c42057fb3376af69fd78c811ce"), looks := false }, kinds := [], alts := [], laidByText := true, laidKinds := [.data], laidTests := true, laidLooks := .later }
def BytesetSaysUptoCardSaid : Prop := Claim7.holds Tryd.pinned (.plain (OpenSpec.upto bytesetSaysSpec)) bytesetSaysUptoCard
end Rows
end Go.Proofs.YtgdkopcfkoikjaaDoor
