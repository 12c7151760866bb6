/-
  DERIVED. GIVEN WITH THE SEED: THE CARDS: each row of YtfjpilehoeendaaDoorRows.lean that lists a variable, with what it lists TIED to the program's text (the seventh form; the later family's looks); each row that meets fmt, with fmt's text TOLD by the authors' own Lean function (tested against real Go, not proved from fmt's source: count such statements apart). THE CARD IS WHAT COUNTS. Prove the row's statement (the work); the ties are given (YtfjpilehoeendaaDoorTie.lean); close each card by the builder's one call (the guide's Derived/Test/ToyasCard.lean, 'card_holds'). Laid BY PROGRAM, IN A SANDBOX (cutbox-door.mjs). By AI agents, Wed Nov 11 2026. No macro, syntax, notation, axiom, sorry.
-/
import Derived.Test.YtfjpilehoeendaaDoorRows
import GoSem.ClaimSeven
namespace Go.Proofs.YtfjpilehoeendaaDoor
namespace Rows

/-- THE TIED CARD OF 'compositorlaw12.GroupBeginAgrees'. -/
def groupBeginAgreesCard : Claim7 := { stood := { row := groupBeginAgreesRow, standIns := [], harness := (true, "ea51d1728f820d5ddc2d0f9ce30781b3ad8c40fba4fd7438870554c1213a98dc"), looks := false }, kinds := [], alts := [], laidByText := true, laidKinds := [.data], laidTests := true, laidLooks := .later }
def GroupBeginAgreesCardSaid : Prop := Claim7.holds Tryd.pinned (.plain (OpenSpec.ofChange groupBeginAgreesSpec)) groupBeginAgreesCard

/-- THE TIED CARD OF 'compositorlaw12.GroupValidNeedsEachField'. -/
def groupValidNeedsEachFieldCard : Claim7 := { stood := { row := groupValidNeedsEachFieldRow, standIns := [], harness := (true, "ea51d1728f820d5ddc2d0f9ce30781b3ad8c40fba4fd7438870554c1213a98dc"), looks := false }, kinds := [], alts := [], laidByText := true, laidKinds := [.data], laidTests := true, laidLooks := .later }
def GroupValidNeedsEachFieldCardSaid : Prop := Claim7.holds Tryd.pinned (.plain (OpenSpec.ofChange groupValidNeedsEachFieldSpec)) groupValidNeedsEachFieldCard

/-- THE TIED CARD OF 'compositorlaw12.GroupStepAgrees'. -/
def groupStepAgreesCard : Claim7 := { stood := { row := groupStepAgreesRow, standIns := [], harness := (true, "ea51d1728f820d5ddc2d0f9ce30781b3ad8c40fba4fd7438870554c1213a98dc"), looks := false }, kinds := [], alts := [], laidByText := true, laidKinds := [.data], laidTests := true, laidLooks := .later }
def GroupStepAgreesCardSaid : Prop := Claim7.holds Tryd.pinned (.plain (OpenSpec.ofChange groupStepAgreesSpec)) groupStepAgreesCard

/-- THE TIED CARD OF 'compositorlaw12.GroupRejects'. -/
def groupRejectsCard : Claim7 := { stood := { row := groupRejectsRow, standIns := [], harness := (true, "ea51d1728f820d5ddc2d0f9ce30781b3ad8c40fba4fd7438870554c1213a98dc"), looks := false }, kinds := [], alts := [], laidByText := true, laidKinds := [.data], laidTests := true, laidLooks := .later }
def GroupRejectsCardSaid : Prop := Claim7.holds Tryd.pinned (.plain (OpenSpec.ofChange groupRejectsSpec)) groupRejectsCard

/-- THE TIED CARD OF 'compositorlaw12.GroupResultAgrees'. -/
def groupResultAgreesCard : Claim7 := { stood := { row := groupResultAgreesRow, standIns := [], harness := (true, "ea51d1728f820d5ddc2d0f9ce30781b3ad8c40fba4fd7438870554c1213a98dc"), looks := false }, kinds := [], alts := [], laidByText := true, laidKinds := [.data], laidTests := true, laidLooks := .later }
def GroupResultAgreesCardSaid : Prop := Claim7.holds Tryd.pinned (.plain (OpenSpec.ofChange groupResultAgreesSpec)) groupResultAgreesCard

/-- THE TIED CARD OF 'compositorlaw12.GroupStaysValid'. -/
def groupStaysValidCard : Claim7 := { stood := { row := groupStaysValidRow, standIns := [], harness := (true, "ea51d1728f820d5ddc2d0f9ce30781b3ad8c40fba4fd7438870554c1213a98dc"), looks := false }, kinds := [], alts := [], laidByText := true, laidKinds := [.data], laidTests := true, laidLooks := .later }
def GroupStaysValidCardSaid : Prop := Claim7.holds Tryd.pinned (.plain (OpenSpec.ofChange groupStaysValidSpec)) groupStaysValidCard

/-- THE TIED CARD OF 'compositorlaw12.GroupIsolatedIsPlain'. -/
def groupIsolatedIsPlainCard : Claim7 := { stood := { row := groupIsolatedIsPlainRow, standIns := [], harness := (true, "ea51d1728f820d5ddc2d0f9ce30781b3ad8c40fba4fd7438870554c1213a98dc"), looks := false }, kinds := [], alts := [], laidByText := true, laidKinds := [.data], laidTests := true, laidLooks := .later }
def GroupIsolatedIsPlainCardSaid : Prop := Claim7.holds Tryd.pinned (.plain (OpenSpec.ofChange groupIsolatedIsPlainSpec)) groupIsolatedIsPlainCard

/-- THE TIED CARD OF 'compositorlaw12.GroupEmptyIsTransparent'. -/
def groupEmptyIsTransparentCard : Claim7 := { stood := { row := groupEmptyIsTransparentRow, standIns := [], harness := (true, "ea51d1728f820d5ddc2d0f9ce30781b3ad8c40fba4fd7438870554c1213a98dc"), looks := false }, kinds := [], alts := [], laidByText := true, laidKinds := [.data], laidTests := true, laidLooks := .later }
def GroupEmptyIsTransparentCardSaid : Prop := Claim7.holds Tryd.pinned (.plain (OpenSpec.ofChange groupEmptyIsTransparentSpec)) groupEmptyIsTransparentCard

/-- THE TIED CARD OF 'compositorlaw12.GroupOfOneNormalElement'. -/
def groupOfOneNormalElementCard : Claim7 := { stood := { row := groupOfOneNormalElementRow, standIns := [], harness := (true, "ea51d1728f820d5ddc2d0f9ce30781b3ad8c40fba4fd7438870554c1213a98dc"), looks := false }, kinds := [], alts := [], laidByText := true, laidKinds := [.data], laidTests := true, laidLooks := .later }
def GroupOfOneNormalElementCardSaid : Prop := Claim7.holds Tryd.pinned (.plain (OpenSpec.ofChange groupOfOneNormalElementSpec)) groupOfOneNormalElementCard

/-- THE SECOND FORM's CARD OF 'compositorlaw12.GroupBeginAgrees'. -/
def groupBeginAgreesUptoCard : Claim7 := { stood := { row := groupBeginAgreesUptoRow, standIns := [], harness := (true, "ea51d1728f820d5ddc2d0f9ce30781b3ad8c40fba4fd7438870554c1213a98dc"), looks := false }, kinds := [], alts := [], laidByText := true, laidKinds := [.data], laidTests := true, laidLooks := .later }
def GroupBeginAgreesUptoCardSaid : Prop := Claim7.holds Tryd.pinned (.plain (OpenSpec.upto groupBeginAgreesSpec)) groupBeginAgreesUptoCard

/-- THE SECOND FORM's CARD OF 'compositorlaw12.GroupValidNeedsEachField'. -/
def groupValidNeedsEachFieldUptoCard : Claim7 := { stood := { row := groupValidNeedsEachFieldUptoRow, standIns := [], harness := (true, "ea51d1728f820d5ddc2d0f9ce30781b3ad8c40fba4fd7438870554c1213a98dc"), looks := false }, kinds := [], alts := [], laidByText := true, laidKinds := [.data], laidTests := true, laidLooks := .later }
def GroupValidNeedsEachFieldUptoCardSaid : Prop := Claim7.holds Tryd.pinned (.plain (OpenSpec.upto groupValidNeedsEachFieldSpec)) groupValidNeedsEachFieldUptoCard

/-- THE SECOND FORM's CARD OF 'compositorlaw12.GroupStepAgrees'. -/
def groupStepAgreesUptoCard : Claim7 := { stood := { row := groupStepAgreesUptoRow, standIns := [], harness := (true, "ea51d1728f820d5ddc2d0f9ce30781b3ad8c40fba4fd7438870554c1213a98dc"), looks := false }, kinds := [], alts := [], laidByText := true, laidKinds := [.data], laidTests := true, laidLooks := .later }
def GroupStepAgreesUptoCardSaid : Prop := Claim7.holds Tryd.pinned (.plain (OpenSpec.upto groupStepAgreesSpec)) groupStepAgreesUptoCard

/-- THE SECOND FORM's CARD OF 'compositorlaw12.GroupRejects'. -/
def groupRejectsUptoCard : Claim7 := { stood := { row := groupRejectsUptoRow, standIns := [], harness := (true, "ea51d1728f820d5ddc2d0f9ce30781b3ad8c40fba4fd7438870554c1213a98dc"), looks := false }, kinds := [], alts := [], laidByText := true, laidKinds := [.data], laidTests := true, laidLooks := .later }
def GroupRejectsUptoCardSaid : Prop := Claim7.holds Tryd.pinned (.plain (OpenSpec.upto groupRejectsSpec)) groupRejectsUptoCard

/-- THE SECOND FORM's CARD OF 'compositorlaw12.GroupResultAgrees'. -/
def groupResultAgreesUptoCard : Claim7 := { stood := { row := groupResultAgreesUptoRow, standIns := [], harness := (true, "ea51d1728f820d5ddc2d0f9ce30781b3ad8c40fba4fd7438870554c1213a98dc"), looks := false }, kinds := [], alts := [], laidByText := true, laidKinds := [.data], laidTests := true, laidLooks := .later }
def GroupResultAgreesUptoCardSaid : Prop := Claim7.holds Tryd.pinned (.plain (OpenSpec.upto groupResultAgreesSpec)) groupResultAgreesUptoCard

/-- THE SECOND FORM's CARD OF 'compositorlaw12.GroupStaysValid'. -/
def groupStaysValidUptoCard : Claim7 := { stood := { row := groupStaysValidUptoRow, standIns := [], harness := (true, "ea51d1728f820d5ddc2d0f9ce30781b3ad8c40fba4fd7438870554c1213a98dc"), looks := false }, kinds := [], alts := [], laidByText := true, laidKinds := [.data], laidTests := true, laidLooks := .later }
def GroupStaysValidUptoCardSaid : Prop := Claim7.holds Tryd.pinned (.plain (OpenSpec.upto groupStaysValidSpec)) groupStaysValidUptoCard

/-- THE SECOND FORM's CARD OF 'compositorlaw12.GroupIsolatedIsPlain'. -/
def groupIsolatedIsPlainUptoCard : Claim7 := { stood := { row := groupIsolatedIsPlainUptoRow, standIns := [], harness := (true, "ea51d1728f820d5ddc2d0f9ce30781b3ad8c40fba4fd7438870554c1213a98dc"), looks := false }, kinds := [], alts := [], laidByText := true, laidKinds := [.data], laidTests := true, laidLooks := .later }
def GroupIsolatedIsPlainUptoCardSaid : Prop := Claim7.holds Tryd.pinned (.plain (OpenSpec.upto groupIsolatedIsPlainSpec)) groupIsolatedIsPlainUptoCard

/-- THE SECOND FORM's CARD OF 'compositorlaw12.GroupEmptyIsTransparent'. -/
def groupEmptyIsTransparentUptoCard : Claim7 := { stood := { row := groupEmptyIsTransparentUptoRow, standIns := [], harness := (true, "ea51d1728f820d5ddc2d0f9ce30781b3ad8c40fba4fd7438870554c1213a98dc"), looks := false }, kinds := [], alts := [], laidByText := true, laidKinds := [.data], laidTests := true, laidLooks := .later }
def GroupEmptyIsTransparentUptoCardSaid : Prop := Claim7.holds Tryd.pinned (.plain (OpenSpec.upto groupEmptyIsTransparentSpec)) groupEmptyIsTransparentUptoCard

/-- THE SECOND FORM's CARD OF 'compositorlaw12.GroupOfOneNormalElement'. -/
def groupOfOneNormalElementUptoCard : Claim7 := { stood := { row := groupOfOneNormalElementUptoRow, standIns := [], harness := (true, "ea51d1728f820d5ddc2d0f9ce30781b3ad8c40fba4fd7438870554c1213a98dc"), looks := false }, kinds := [], alts := [], laidByText := true, laidKinds := [.data], laidTests := true, laidLooks := .later }
def GroupOfOneNormalElementUptoCardSaid : Prop := Claim7.holds Tryd.pinned (.plain (OpenSpec.upto groupOfOneNormalElementSpec)) groupOfOneNormalElementUptoCard
end Rows
end Go.Proofs.YtfjpilehoeendaaDoor
