/-
  DERIVED. GIVEN WITH THE SEED: THE CARDS: each row of YtnhlopbpggdneaaDoorRows.lean that lists a variable, with what it lists TIED to the program's text (the seventh form; the later family's looks); each row that meets fmt, with fmt's text TOLD by the authors' own Lean function (tested against real Go, not proved from fmt's source: count such statements apart). THE CARD IS WHAT COUNTS. Prove the row's statement (the work); the ties are given (YtnhlopbpggdneaaDoorTie.lean); close each card by the builder's one call (the guide's Derived/Test/ToyasCard.lean, 'card_holds'). Laid BY PROGRAM, IN A SANDBOX (cutbox-door.mjs). By AI agents, Wed Nov 11 2026. No macro, syntax, notation, axiom, sorry.
-/
import Derived.Test.YtnhlopbpggdneaaDoorRows
import GoSem.ClaimSeven
namespace Go.Proofs.YtnhlopbpggdneaaDoor
namespace Rows

/-- THE TIED CARD OF 'catchpolelaw3.BlockKnown'. -/
def blockKnownCard : Claim7 := { stood := { row := blockKnownRow, standIns := [], harness := (true, "1fce87244af08ba3893b27fa1a5c43391ece325293c59f11911b48a048952495"), looks := false }, kinds := [], alts := [], laidByText := true, laidKinds := [.data], laidTests := true, laidLooks := .later }
def BlockKnownCardSaid : Prop := Claim7.holds Tryd.pinned (.plain (OpenSpec.ofChange blockKnownSpec)) blockKnownCard

/-- THE TIED CARD OF 'catchpolelaw3.BlockSays'. -/
def blockSaysCard : Claim7 := { stood := { row := blockSaysRow, standIns := [], harness := (true, "1fce87244af08ba3893b27fa1a5c43391ece325293c59f11911b48a048952495"), looks := false }, kinds := [], alts := [], laidByText := true, laidKinds := [.data], laidTests := true, laidLooks := .later }
def BlockSaysCardSaid : Prop := Claim7.holds Tryd.pinned (.plain (OpenSpec.ofChange blockSaysSpec)) blockSaysCard

/-- THE TIED CARD OF 'catchpolelaw3.BlockApart'. -/
def blockApartCard : Claim7 := { stood := { row := blockApartRow, standIns := [], harness := (true, "1fce87244af08ba3893b27fa1a5c43391ece325293c59f11911b48a048952495"), looks := false }, kinds := [], alts := [], laidByText := true, laidKinds := [.data], laidTests := true, laidLooks := .later }
def BlockApartCardSaid : Prop := Claim7.holds Tryd.pinned (.plain (OpenSpec.ofChange blockApartSpec)) blockApartCard

/-- THE TIED CARD OF 'catchpolelaw3.BlockMore'. -/
def blockMoreCard : Claim7 := { stood := { row := blockMoreRow, standIns := [], harness := (true, "1fce87244af08ba3893b27fa1a5c43391ece325293c59f11911b48a048952495"), looks := false }, kinds := [], alts := [], laidByText := true, laidKinds := [.data], laidTests := true, laidLooks := .later }
def BlockMoreCardSaid : Prop := Claim7.holds Tryd.pinned (.plain (OpenSpec.ofChange blockMoreSpec)) blockMoreCard

/-- THE TIED CARD OF 'catchpolelaw3.BlockMaps'. -/
def blockMapsCard : Claim7 := { stood := { row := blockMapsRow, standIns := [], harness := (true, "1fce87244af08ba3893b27fa1a5c43391ece325293c59f11911b48a048952495"), looks := false }, kinds := [], alts := [], laidByText := true, laidKinds := [.data], laidTests := true, laidLooks := .later }
def BlockMapsCardSaid : Prop := Claim7.holds Tryd.pinned (.plain (OpenSpec.ofChange blockMapsSpec)) blockMapsCard

/-- THE SECOND FORM's CARD OF 'catchpolelaw3.BlockKnown'. -/
def blockKnownUptoCard : Claim7 := { stood := { row := blockKnownUptoRow, standIns := [], harness := (true, "1fce87244af08ba3893b27fa1a5c43391ece325293c59f11911b48a048952495"), looks := false }, kinds := [], alts := [], laidByText := true, laidKinds := [.data], laidTests := true, laidLooks := .later }
def BlockKnownUptoCardSaid : Prop := Claim7.holds Tryd.pinned (.plain (OpenSpec.upto blockKnownSpec)) blockKnownUptoCard

/-- THE SECOND FORM's CARD OF 'catchpolelaw3.BlockSays'. -/
def blockSaysUptoCard : Claim7 := { stood := { row := blockSaysUptoRow, standIns := [], harness := (true, "1fce87244af08ba3893b27fa1a5c43391ece325293c59f11911b48a048952495"), looks := false }, kinds := [], alts := [], laidByText := true, laidKinds := [.data], laidTests := true, laidLooks := .later }
def BlockSaysUptoCardSaid : Prop := Claim7.holds Tryd.pinned (.plain (OpenSpec.upto blockSaysSpec)) blockSaysUptoCard

/-- THE SECOND FORM's CARD OF 'catchpolelaw3.BlockApart'. -/
def blockApartUptoCard : Claim7 := { stood := { row := blockApartUptoRow, standIns := [], harness := (true, "1fce87244af08ba3893b27fa1a5c43391ece325293c59f11911b48a048952495"), looks := false }, kinds := [], alts := [], laidByText := true, laidKinds := [.data], laidTests := true, laidLooks := .later }
def BlockApartUptoCardSaid : Prop := Claim7.holds Tryd.pinned (.plain (OpenSpec.upto blockApartSpec)) blockApartUptoCard

/-- THE SECOND FORM's CARD OF 'catchpolelaw3.BlockMore'. -/
def blockMoreUptoCard : Claim7 := { stood := { row := blockMoreUptoRow, standIns := [], harness := (true, "1fce87244af08ba3893b27fa1a5c43391ece325293c59f11911b48a048952495"), looks := false }, kinds := [], alts := [], laidByText := true, laidKinds := [.data], laidTests := true, laidLooks := .later }
def BlockMoreUptoCardSaid : Prop := Claim7.holds Tryd.pinned (.plain (OpenSpec.upto blockMoreSpec)) blockMoreUptoCard

/-- THE SECOND FORM's CARD OF 'catchpolelaw3.BlockMaps'. -/
def blockMapsUptoCard : Claim7 := { stood := { row := blockMapsUptoRow, standIns := [], harness := (true, "1fce87244af08ba3893b27fa1a5c43391ece325293c59f11911b48a048952495"), looks := false }, kinds := [], alts := [], laidByText := true, laidKinds := [.data], laidTests := true, laidLooks := .later }
def BlockMapsUptoCardSaid : Prop := Claim7.holds Tryd.pinned (.plain (OpenSpec.upto blockMapsSpec)) blockMapsUptoCard
end Rows
end Go.Proofs.YtnhlopbpggdneaaDoor
