/-
  DERIVED. GIVEN WITH THE SEED: THE CARDS: each row of YtonhmjfopidacaaDoorRows.lean that lists a variable, with what it lists TIED to the program's text (the seventh form; the later family's looks); each row that meets fmt, with fmt's text TOLD by the authors' own Lean function (tested against real Go, not proved from fmt's source: count such statements apart). THE CARD IS WHAT COUNTS. Prove the row's statement (the work); the ties are given (YtonhmjfopidacaaDoorTie.lean); close each card by the builder's one call (the guide's Derived/Test/ToyasCard.lean, 'card_holds'). Laid BY PROGRAM, IN A SANDBOX (cutbox-door.mjs). By AI agents, Wed Nov 11 2026. No macro, syntax, notation, axiom, sorry.
-/
import Derived.Test.YtonhmjfopidacaaDoorRows
import GoSem.ClaimSeven
namespace Go.Proofs.YtonhmjfopidacaaDoor
namespace Rows

/-- THE TIED CARD OF 'catchpolelaw12.CapsKnown'. -/
def capsKnownCard : Claim7 := { stood := { row := capsKnownRow, standIns := [], harness := (true, "19bb9abc36725d798d55811b0970c897558a03372d3f13b9a91084cfaee3925d"), looks := false }, kinds := [], alts := [], laidByText := true, laidKinds := [.data, .data, .data], laidTests := true, laidLooks := .later }
def CapsKnownCardSaid : Prop := Claim7.holds Tryd.pinned (.plain (OpenSpec.ofChange capsKnownSpec)) capsKnownCard

/-- THE TIED CARD OF 'catchpolelaw12.CapsSays'. -/
def capsSaysCard : Claim7 := { stood := { row := capsSaysRow, standIns := [], harness := (true, "19bb9abc36725d798d55811b0970c897558a03372d3f13b9a91084cfaee3925d"), looks := false }, kinds := [], alts := [], laidByText := true, laidKinds := [.data, .data, .data], laidTests := true, laidLooks := .later }
def CapsSaysCardSaid : Prop := Claim7.holds Tryd.pinned (.plain (OpenSpec.ofChange capsSaysSpec)) capsSaysCard

/-- THE TIED CARD OF 'catchpolelaw12.CapsInside'. -/
def capsInsideCard : Claim7 := { stood := { row := capsInsideRow, standIns := [], harness := (true, "19bb9abc36725d798d55811b0970c897558a03372d3f13b9a91084cfaee3925d"), looks := false }, kinds := [], alts := [], laidByText := true, laidKinds := [.data, .data, .data], laidTests := true, laidLooks := .later }
def CapsInsideCardSaid : Prop := Claim7.holds Tryd.pinned (.plain (OpenSpec.ofChange capsInsideSpec)) capsInsideCard

/-- THE TIED CARD OF 'catchpolelaw12.CapsRows'. -/
def capsRowsCard : Claim7 := { stood := { row := capsRowsRow, standIns := [], harness := (true, "19bb9abc36725d798d55811b0970c897558a03372d3f13b9a91084cfaee3925d"), looks := false }, kinds := [], alts := [], laidByText := true, laidKinds := [.data, .data, .data], laidTests := true, laidLooks := .later }
def CapsRowsCardSaid : Prop := Claim7.holds Tryd.pinned (.plain (OpenSpec.ofChange capsRowsSpec)) capsRowsCard

/-- THE TIED CARD OF 'catchpolelaw12.CapsFew'. -/
def capsFewCard : Claim7 := { stood := { row := capsFewRow, standIns := [], harness := (true, "19bb9abc36725d798d55811b0970c897558a03372d3f13b9a91084cfaee3925d"), looks := false }, kinds := [], alts := [], laidByText := true, laidKinds := [.data, .data, .data], laidTests := true, laidLooks := .later }
def CapsFewCardSaid : Prop := Claim7.holds Tryd.pinned (.plain (OpenSpec.ofChange capsFewSpec)) capsFewCard

/-- THE SECOND FORM's CARD OF 'catchpolelaw12.CapsKnown'. -/
def capsKnownUptoCard : Claim7 := { stood := { row := capsKnownUptoRow, standIns := [], harness := (true, "19bb9abc36725d798d55811b0970c897558a03372d3f13b9a91084cfaee3925d"), looks := false }, kinds := [], alts := [], laidByText := true, laidKinds := [.data, .data, .data], laidTests := true, laidLooks := .later }
def CapsKnownUptoCardSaid : Prop := Claim7.holds Tryd.pinned (.plain (OpenSpec.upto capsKnownSpec)) capsKnownUptoCard

/-- THE SECOND FORM's CARD OF 'catchpolelaw12.CapsSays'. -/
def capsSaysUptoCard : Claim7 := { stood := { row := capsSaysUptoRow, standIns := [], harness := (true, "19bb9abc36725d798d55811b0970c897558a03372d3f13b9a91084cfaee3925d"), looks := false }, kinds := [], alts := [], laidByText := true, laidKinds := [.data, .data, .data], laidTests := true, laidLooks := .later }
def CapsSaysUptoCardSaid : Prop := Claim7.holds Tryd.pinned (.plain (OpenSpec.upto capsSaysSpec)) capsSaysUptoCard

/-- THE SECOND FORM's CARD OF 'catchpolelaw12.CapsInside'. -/
def capsInsideUptoCard : Claim7 := { stood := { row := capsInsideUptoRow, standIns := [], harness := (true, "19bb9abc36725d798d55811b0970c897558a03372d3f13b9a91084cfaee3925d"), looks := false }, kinds := [], alts := [], laidByText := true, laidKinds := [.data, .data, .data], laidTests := true, laidLooks := .later }
def CapsInsideUptoCardSaid : Prop := Claim7.holds Tryd.pinned (.plain (OpenSpec.upto capsInsideSpec)) capsInsideUptoCard

/-- THE SECOND FORM's CARD OF 'catchpolelaw12.CapsRows'. -/
def capsRowsUptoCard : Claim7 := { stood := { row := capsRowsUptoRow, standIns := [], harness := (true, "19bb9abc36725d798d55811b0970c897558a03372d3f13b9a91084cfaee3925d"), looks := false }, kinds := [], alts := [], laidByText := true, laidKinds := [.data, .data, .data], laidTests := true, laidLooks := .later }
def CapsRowsUptoCardSaid : Prop := Claim7.holds Tryd.pinned (.plain (OpenSpec.upto capsRowsSpec)) capsRowsUptoCard

/-- THE SECOND FORM's CARD OF 'catchpolelaw12.CapsFew'. -/
def capsFewUptoCard : Claim7 := { stood := { row := capsFewUptoRow, standIns := [], harness := (true, "19bb9abc36725d798d55811b0970c897558a03372d3f13b9a91084cfaee3925d"), looks := false }, kinds := [], alts := [], laidByText := true, laidKinds := [.data, .data, .data], laidTests := true, laidLooks := .later }
def CapsFewUptoCardSaid : Prop := Claim7.holds Tryd.pinned (.plain (OpenSpec.upto capsFewSpec)) capsFewUptoCard
end Rows
end Go.Proofs.YtonhmjfopidacaaDoor
