/-
  DERIVED. GIVEN WITH THE SEED: THE CARDS: each row of YtebodglhcnpfeaaDoorRows.lean that lists a variable, with what it lists TIED to the program's text (the seventh form; the later family's looks); each row that meets fmt, with fmt's text TOLD by the authors' own Lean function (tested against real Go, not proved from fmt's source: count such statements apart). THE CARD IS WHAT COUNTS. Prove the row's statement (the work); the ties are given (YtebodglhcnpfeaaDoorTie.lean); close each card by the builder's one call (the guide's Derived/Test/ToyasCard.lean, 'card_holds'). Laid BY PROGRAM, IN A SANDBOX (cutbox-door.mjs). By AI agents, Wed Nov 11 2026. No macro, syntax, notation, axiom, sorry.
-/
import Derived.Test.YtebodglhcnpfeaaDoorRows
import GoSem.ClaimSeven
namespace Go.Proofs.YtebodglhcnpfeaaDoor
namespace Rows

/-- THE TIED CARD OF 'catchpolelaw1.BytesetKnown'. -/
def bytesetKnownCard : Claim7 := { stood := { row := bytesetKnownRow, standIns := [], harness := (true, "bdf2d03d40e6d10f73a0229479808a11639a4b947683fbe5374f6f3642bba6ee"), looks := false }, kinds := [], alts := [], laidByText := true, laidKinds := [.data], laidTests := true, laidLooks := .later }
def BytesetKnownCardSaid : Prop := Claim7.holds Tryd.pinned (.plain (OpenSpec.ofChange bytesetKnownSpec)) bytesetKnownCard

/-- THE TIED CARD OF 'catchpolelaw1.BytesetSays'. -/
def bytesetSaysCard : Claim7 := { stood := { row := bytesetSaysRow, standIns := [], harness := (true, "bdf2d03d40e6d10f73a0229479808a11639a4b947683fbe5374f6f3642bba6ee"), looks := false }, kinds := [], alts := [], laidByText := true, laidKinds := [.data], laidTests := true, laidLooks := .later }
def BytesetSaysCardSaid : Prop := Claim7.holds Tryd.pinned (.plain (OpenSpec.ofChange bytesetSaysSpec)) bytesetSaysCard

/-- THE TIED CARD OF 'catchpolelaw1.BytesetLaws'. -/
def bytesetLawsCard : Claim7 := { stood := { row := bytesetLawsRow, standIns := [], harness := (true, "bdf2d03d40e6d10f73a0229479808a11639a4b947683fbe5374f6f3642bba6ee"), looks := false }, kinds := [], alts := [], laidByText := true, laidKinds := [.data], laidTests := true, laidLooks := .later }
def BytesetLawsCardSaid : Prop := Claim7.holds Tryd.pinned (.plain (OpenSpec.ofChange bytesetLawsSpec)) bytesetLawsCard

/-- THE TIED CARD OF 'catchpolelaw1.BytesetRuns'. -/
def bytesetRunsCard : Claim7 := { stood := { row := bytesetRunsRow, standIns := [], harness := (true, "bdf2d03d40e6d10f73a0229479808a11639a4b947683fbe5374f6f3642bba6ee"), looks := false }, kinds := [], alts := [], laidByText := true, laidKinds := [.data], laidTests := true, laidLooks := .later }
def BytesetRunsCardSaid : Prop := Claim7.holds Tryd.pinned (.plain (OpenSpec.ofChange bytesetRunsSpec)) bytesetRunsCard

/-- THE TIED CARD OF 'catchpolelaw1.BytesetList'. -/
def bytesetListCard : Claim7 := { stood := { row := bytesetListRow, standIns := [], harness := (true, "bdf2d03d40e6d10f73a0229479808a11639a4b947683fbe5374f6f3642bba6ee"), looks := false }, kinds := [], alts := [], laidByText := true, laidKinds := [.data], laidTests := true, laidLooks := .later }
def BytesetListCardSaid : Prop := Claim7.holds Tryd.pinned (.plain (OpenSpec.ofChange bytesetListSpec)) bytesetListCard

/-- THE SECOND FORM's CARD OF 'catchpolelaw1.BytesetKnown'. -/
def bytesetKnownUptoCard : Claim7 := { stood := { row := bytesetKnownUptoRow, standIns := [], harness := (true, "bdf2d03d40e6d10f73a0229479808a11639a4b947683fbe5374f6f3642bba6ee"), looks := false }, kinds := [], alts := [], laidByText := true, laidKinds := [.data], laidTests := true, laidLooks := .later }
def BytesetKnownUptoCardSaid : Prop := Claim7.holds Tryd.pinned (.plain (OpenSpec.upto bytesetKnownSpec)) bytesetKnownUptoCard

/-- THE SECOND FORM's CARD OF 'catchpolelaw1.BytesetSays'. -/
def bytesetSaysUptoCard : Claim7 := { stood := { row := bytesetSaysUptoRow, standIns := [], harness := (true, "bdf2d03d40e6d10f73a0229479808a11639a4b947683fbe5374f6f3642bba6ee"), looks := false }, kinds := [], alts := [], laidByText := true, laidKinds := [.data], laidTests := true, laidLooks := .later }
def BytesetSaysUptoCardSaid : Prop := Claim7.holds Tryd.pinned (.plain (OpenSpec.upto bytesetSaysSpec)) bytesetSaysUptoCard

/-- THE SECOND FORM's CARD OF 'catchpolelaw1.BytesetLaws'. -/
def bytesetLawsUptoCard : Claim7 := { stood := { row := bytesetLawsUptoRow, standIns := [], harness := (true, "bdf2d03d40e6d10f73a0229479808a11639a4b947683fbe5374f6f3642bba6ee"), looks := false }, kinds := [], alts := [], laidByText := true, laidKinds := [.data], laidTests := true, laidLooks := .later }
def BytesetLawsUptoCardSaid : Prop := Claim7.holds Tryd.pinned (.plain (OpenSpec.upto bytesetLawsSpec)) bytesetLawsUptoCard

/-- THE SECOND FORM's CARD OF 'catchpolelaw1.BytesetRuns'. -/
def bytesetRunsUptoCard : Claim7 := { stood := { row := bytesetRunsUptoRow, standIns := [], harness := (true, "bdf2d03d40e6d10f73a0229479808a11639a4b947683fbe5374f6f3642bba6ee"), looks := false }, kinds := [], alts := [], laidByText := true, laidKinds := [.data], laidTests := true, laidLooks := .later }
def BytesetRunsUptoCardSaid : Prop := Claim7.holds Tryd.pinned (.plain (OpenSpec.upto bytesetRunsSpec)) bytesetRunsUptoCard

/-- THE SECOND FORM's CARD OF 'catchpolelaw1.BytesetList'. -/
def bytesetListUptoCard : Claim7 := { stood := { row := bytesetListUptoRow, standIns := [], harness := (true, "bdf2d03d40e6d10f73a0229479808a11639a4b947683fbe5374f6f3642bba6ee"), looks := false }, kinds := [], alts := [], laidByText := true, laidKinds := [.data], laidTests := true, laidLooks := .later }
def BytesetListUptoCardSaid : Prop := Claim7.holds Tryd.pinned (.plain (OpenSpec.upto bytesetListSpec)) bytesetListUptoCard
end Rows
end Go.Proofs.YtebodglhcnpfeaaDoor
