/-
  DERIVED. GIVEN WITH THE SEED: THE CARDS: each row of YtjkhmmdjgancmaaGreatDoorRows.lean that lists a variable, with what it lists TIED to the program's text (the seventh form; the later family's looks); each row that meets fmt, with fmt's text TOLD by the authors' own Lean function (tested against real Go, not proved from fmt's source: count such statements apart). THE CARD IS WHAT COUNTS. Prove the row's statement (the work); the ties are given (YtjkhmmdjgancmaaGreatDoorTie.lean); close each card by the builder's one call (the guide's Derived/Test/ToyasCard.lean, 'card_holds'). Laid BY PROGRAM, IN A SANDBOX (cutbox-door.mjs). By AI agents, Wed Nov 11 2026. No macro, syntax, notation, axiom, sorry.
-/
import Derived.Test.YtjkhmmdjgancmaaGreatDoorRows
import GoSem.ClaimSeven
namespace Go.Proofs.YtjkhmmdjgancmaaGreatDoor
namespace Rows

/-- THE TIED CARD OF 'catchpolelaw7.PrintKnown'. -/
def printKnownCard : Claim7 := { stood := { row := printKnownRow, standIns := [], harness := (true, "ce02ebc729c227ae0ccf28b913903a1d7e62c33d5f938f29a07594c30d6ce1e1"), looks := true }, kinds := [], alts := [], laidByText := true, laidKinds := [.data, .data, .data], laidTests := true, laidLooks := .later }
def PrintKnownCardSaid : Prop := Claim7.holds Tryz.pinned (.plain (OpenSpec.ofChange printKnownSpec)) printKnownCard

/-- THE TIED CARD OF 'catchpolelaw7.PrintBack'. -/
def printBackCard : Claim7 := { stood := { row := printBackRow, standIns := [], harness := (true, "ce02ebc729c227ae0ccf28b913903a1d7e62c33d5f938f29a07594c30d6ce1e1"), looks := true }, kinds := [], alts := [], laidByText := true, laidKinds := [.data, .data, .data], laidTests := true, laidLooks := .later }
def PrintBackCardSaid : Prop := Claim7.holds Tryz.pinned (.plain (OpenSpec.ofChange printBackSpec)) printBackCard

/-- THE TIED CARD OF 'catchpolelaw7.PrintSettles'. -/
def printSettlesCard : Claim7 := { stood := { row := printSettlesRow, standIns := [], harness := (true, "ce02ebc729c227ae0ccf28b913903a1d7e62c33d5f938f29a07594c30d6ce1e1"), looks := true }, kinds := [], alts := [], laidByText := true, laidKinds := [.data, .data, .data], laidTests := true, laidLooks := .later }
def PrintSettlesCardSaid : Prop := Claim7.holds Tryz.pinned (.plain (OpenSpec.ofChange printSettlesSpec)) printSettlesCard

/-- THE SECOND FORM's CARD OF 'catchpolelaw7.PrintKnown'. -/
def printKnownUptoCard : Claim7 := { stood := { row := printKnownUptoRow, standIns := [], harness := (true, "ce02ebc729c227ae0ccf28b913903a1d7e62c33d5f938f29a07594c30d6ce1e1"), looks := true }, kinds := [], alts := [], laidByText := true, laidKinds := [.data, .data, .data], laidTests := true, laidLooks := .later }
def PrintKnownUptoCardSaid : Prop := Claim7.holds Tryz.pinned (.plain (OpenSpec.upto printKnownSpec)) printKnownUptoCard

/-- THE SECOND FORM's CARD OF 'catchpolelaw7.PrintBack'. -/
def printBackUptoCard : Claim7 := { stood := { row := printBackUptoRow, standIns := [], harness := (true, "ce02ebc729c227ae0ccf28b913903a1d7e62c33d5f938f29a07594c30d6ce1e1"), looks := true }, kinds := [], alts := [], laidByText := true, laidKinds := [.data, .data, .data], laidTests := true, laidLooks := .later }
def PrintBackUptoCardSaid : Prop := Claim7.holds Tryz.pinned (.plain (OpenSpec.upto printBackSpec)) printBackUptoCard

/-- THE SECOND FORM's CARD OF 'catchpolelaw7.PrintSettles'. -/
def printSettlesUptoCard : Claim7 := { stood := { row := printSettlesUptoRow, standIns := [], harness := (true, "ce02ebc729c227ae0ccf28b913903a1d7e62c33d5f938f29a07594c30d6ce1e1"), looks := true }, kinds := [], alts := [], laidByText := true, laidKinds := [.data, .data, .data], laidTests := true, laidLooks := .later }
def PrintSettlesUptoCardSaid : Prop := Claim7.holds Tryz.pinned (.plain (OpenSpec.upto printSettlesSpec)) printSettlesUptoCard
end Rows
end Go.Proofs.YtjkhmmdjgancmaaGreatDoor
