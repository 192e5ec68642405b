/-
  DERIVED. GIVEN WITH THE SEED: THE CARDS: each row of YtlgpbgcheeaalaaGreatDoorRows.lean that lists a variable, with what it lists TIED to the program's text (the seventh form; the later family's looks); each row that meets fmt, with fmt's text TOLD by the authors' own Lean function (tested against real Go, not proved from fmt's source: count such statements apart). THE CARD IS WHAT COUNTS. Prove the row's statement (the work); the ties are given (YtlgpbgcheeaalaaGreatDoorTie.lean); close each card by the builder's one call (the guide's Derived/Test/ToyasCard.lean, 'card_holds'). Laid BY PROGRAM, IN A SANDBOX (cutbox-door.mjs). By AI agents, Wed Nov 11 2026. No macro, syntax, notation, axiom, sorry.
-/
import Derived.Test.YtlgpbgcheeaalaaGreatDoorRows
import GoSem.ClaimSeven
namespace Go.Proofs.YtlgpbgcheeaalaaGreatDoor
namespace Rows

/-- THE TIED CARD OF 'catchpolelaw8.CoreKnown'. -/
def coreKnownCard : Claim7 := { stood := { row := coreKnownRow, standIns := [], harness := (true, "36cd6595ce6a1cbed9c500929d9c5468f6559116c947f7b1606d7312fee9c776"), looks := true }, kinds := [], alts := [], laidByText := true, laidKinds := [.data, .data, .data], laidTests := true, laidLooks := .later }
def CoreKnownCardSaid : Prop := Claim7.holds Tryz.pinned (.plain (OpenSpec.ofChange coreKnownSpec)) coreKnownCard

/-- THE TIED CARD OF 'catchpolelaw8.CoreSays'. -/
def coreSaysCard : Claim7 := { stood := { row := coreSaysRow, standIns := [], harness := (true, "36cd6595ce6a1cbed9c500929d9c5468f6559116c947f7b1606d7312fee9c776"), looks := true }, kinds := [], alts := [], laidByText := true, laidKinds := [.data, .data, .data], laidTests := true, laidLooks := .later }
def CoreSaysCardSaid : Prop := Claim7.holds Tryz.pinned (.plain (OpenSpec.ofChange coreSaysSpec)) coreSaysCard

/-- THE TIED CARD OF 'catchpolelaw8.CoreTexts'. -/
def coreTextsCard : Claim7 := { stood := { row := coreTextsRow, standIns := [], harness := (true, "36cd6595ce6a1cbed9c500929d9c5468f6559116c947f7b1606d7312fee9c776"), looks := true }, kinds := [], alts := [], laidByText := true, laidKinds := [.data, .data, .data], laidTests := true, laidLooks := .later }
def CoreTextsCardSaid : Prop := Claim7.holds Tryz.pinned (.plain (OpenSpec.ofChange coreTextsSpec)) coreTextsCard

/-- THE TIED CARD OF 'catchpolelaw8.CoreRows'. -/
def coreRowsCard : Claim7 := { stood := { row := coreRowsRow, standIns := [], harness := (true, "36cd6595ce6a1cbed9c500929d9c5468f6559116c947f7b1606d7312fee9c776"), looks := true }, kinds := [], alts := [], laidByText := true, laidKinds := [.data, .data, .data], laidTests := true, laidLooks := .later }
def CoreRowsCardSaid : Prop := Claim7.holds Tryz.pinned (.plain (OpenSpec.ofChange coreRowsSpec)) coreRowsCard

/-- THE TIED CARD OF 'catchpolelaw8.CoreGood'. -/
def coreGoodCard : Claim7 := { stood := { row := coreGoodRow, standIns := [], harness := (true, "36cd6595ce6a1cbed9c500929d9c5468f6559116c947f7b1606d7312fee9c776"), looks := true }, kinds := [], alts := [], laidByText := true, laidKinds := [.data, .data, .data], laidTests := true, laidLooks := .later }
def CoreGoodCardSaid : Prop := Claim7.holds Tryz.pinned (.plain (OpenSpec.ofChange coreGoodSpec)) coreGoodCard

/-- THE SECOND FORM's CARD OF 'catchpolelaw8.CoreKnown'. -/
def coreKnownUptoCard : Claim7 := { stood := { row := coreKnownUptoRow, standIns := [], harness := (true, "36cd6595ce6a1cbed9c500929d9c5468f6559116c947f7b1606d7312fee9c776"), looks := true }, kinds := [], alts := [], laidByText := true, laidKinds := [.data, .data, .data], laidTests := true, laidLooks := .later }
def CoreKnownUptoCardSaid : Prop := Claim7.holds Tryz.pinned (.plain (OpenSpec.upto coreKnownSpec)) coreKnownUptoCard

/-- THE SECOND FORM's CARD OF 'catchpolelaw8.CoreSays'. -/
def coreSaysUptoCard : Claim7 := { stood := { row := coreSaysUptoRow, standIns := [], harness := (true, "36cd6595ce6a1cbed9c500929d9c5468f6559116c947f7b1606d7312fee9c776"), looks := true }, kinds := [], alts := [], laidByText := true, laidKinds := [.data, .data, .data], laidTests := true, laidLooks := .later }
def CoreSaysUptoCardSaid : Prop := Claim7.holds Tryz.pinned (.plain (OpenSpec.upto coreSaysSpec)) coreSaysUptoCard

/-- THE SECOND FORM's CARD OF 'catchpolelaw8.CoreTexts'. -/
def coreTextsUptoCard : Claim7 := { stood := { row := coreTextsUptoRow, standIns := [], harness := (true, "36cd6595ce6a1cbed9c500929d9c5468f6559116c947f7b1606d7312fee9c776"), looks := true }, kinds := [], alts := [], laidByText := true, laidKinds := [.data, .data, .data], laidTests := true, laidLooks := .later }
def CoreTextsUptoCardSaid : Prop := Claim7.holds Tryz.pinned (.plain (OpenSpec.upto coreTextsSpec)) coreTextsUptoCard

/-- THE SECOND FORM's CARD OF 'catchpolelaw8.CoreRows'. -/
def coreRowsUptoCard : Claim7 := { stood := { row := coreRowsUptoRow, standIns := [], harness := (true, "36cd6595ce6a1cbed9c500929d9c5468f6559116c947f7b1606d7312fee9c776"), looks := true }, kinds := [], alts := [], laidByText := true, laidKinds := [.data, .data, .data], laidTests := true, laidLooks := .later }
def CoreRowsUptoCardSaid : Prop := Claim7.holds Tryz.pinned (.plain (OpenSpec.upto coreRowsSpec)) coreRowsUptoCard

/-- THE SECOND FORM's CARD OF 'catchpolelaw8.CoreGood'. -/
def coreGoodUptoCard : Claim7 := { stood := { row := coreGoodUptoRow, standIns := [], harness := (true, "36cd6595ce6a1cbed9c500929d9c5468f6559116c947f7b1606d7312fee9c776"), looks := true }, kinds := [], alts := [], laidByText := true, laidKinds := [.data, .data, .data], laidTests := true, laidLooks := .later }
def CoreGoodUptoCardSaid : Prop := Claim7.holds Tryz.pinned (.plain (OpenSpec.upto coreGoodSpec)) coreGoodUptoCard
end Rows
end Go.Proofs.YtlgpbgcheeaalaaGreatDoor
