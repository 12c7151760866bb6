/-
  DERIVED. GIVEN WITH THE SEED: THE CARDS: each row of YthkidembkknoeaaDoorRows.lean that lists a variable, with what it lists TIED to the program's text (the seventh form; the later family's looks); each row that meets fmt, with fmt's text TOLD by the authors' own Lean function (tested against real Go, not proved from fmt's source: count such statements apart). THE CARD IS WHAT COUNTS. Prove the row's statement (the work); the ties are given (YthkidembkknoeaaDoorTie.lean); close each card by the builder's one call (the guide's Derived/Test/ToyasCard.lean, 'card_holds'). Laid BY PROGRAM, IN A SANDBOX (cutbox-door.mjs). By AI agents, Wed Nov 11 2026. No macro, syntax, notation, axiom, sorry.
-/
import Derived.Test.YthkidembkknoeaaDoorRows
import GoSem.ClaimSeven
namespace Go.Proofs.YthkidembkknoeaaDoor
namespace Rows

/-- THE TIED CARD OF 'compositorlaw20.ValidateAcceptsScenes'. -/
def validateAcceptsScenesCard : Claim7 := { stood := { row := validateAcceptsScenesRow, standIns := [], harness := (true, "77e4e6f0d6ff53d0c946e3f6da432425907ed346a72e6231f7ebf91634a634d1"), looks := false }, kinds := [], alts := [], laidByText := true, laidKinds := [.data, .data], laidTests := true, laidLooks := .later }
def ValidateAcceptsScenesCardSaid : Prop := Claim7.holds Tryd.pinned (.plain (OpenSpec.ofChange validateAcceptsScenesSpec)) validateAcceptsScenesCard

/-- THE TIED CARD OF 'compositorlaw20.ValidateAgrees'. -/
def validateAgreesCard : Claim7 := { stood := { row := validateAgreesRow, standIns := [], harness := (true, "77e4e6f0d6ff53d0c946e3f6da432425907ed346a72e6231f7ebf91634a634d1"), looks := false }, kinds := [], alts := [], laidByText := true, laidKinds := [.data, .data], laidTests := true, laidLooks := .later }
def ValidateAgreesCardSaid : Prop := Claim7.holds Tryd.pinned (.plain (OpenSpec.ofChange validateAgreesSpec)) validateAgreesCard

/-- THE TIED CARD OF 'compositorlaw20.ValidateOpAgrees'. -/
def validateOpAgreesCard : Claim7 := { stood := { row := validateOpAgreesRow, standIns := [], harness := (true, "77e4e6f0d6ff53d0c946e3f6da432425907ed346a72e6231f7ebf91634a634d1"), looks := false }, kinds := [], alts := [], laidByText := true, laidKinds := [.data, .data], laidTests := true, laidLooks := .later }
def ValidateOpAgreesCardSaid : Prop := Claim7.holds Tryd.pinned (.plain (OpenSpec.ofChange validateOpAgreesSpec)) validateOpAgreesCard

/-- THE TIED CARD OF 'compositorlaw20.ValidateContexts'. -/
def validateContextsCard : Claim7 := { stood := { row := validateContextsRow, standIns := [], harness := (true, "77e4e6f0d6ff53d0c946e3f6da432425907ed346a72e6231f7ebf91634a634d1"), looks := false }, kinds := [], alts := [], laidByText := true, laidKinds := [.data, .data], laidTests := true, laidLooks := .later }
def ValidateContextsCardSaid : Prop := Claim7.holds Tryd.pinned (.plain (OpenSpec.ofChange validateContextsSpec)) validateContextsCard

/-- THE TIED CARD OF 'compositorlaw20.ValidateNesting'. -/
def validateNestingCard : Claim7 := { stood := { row := validateNestingRow, standIns := [], harness := (true, "77e4e6f0d6ff53d0c946e3f6da432425907ed346a72e6231f7ebf91634a634d1"), looks := false }, kinds := [], alts := [], laidByText := true, laidKinds := [.data, .data], laidTests := true, laidLooks := .later }
def ValidateNestingCardSaid : Prop := Claim7.holds Tryd.pinned (.plain (OpenSpec.ofChange validateNestingSpec)) validateNestingCard

/-- THE TIED CARD OF 'compositorlaw20.ValidateSeesUnusedImages'. -/
def validateSeesUnusedImagesCard : Claim7 := { stood := { row := validateSeesUnusedImagesRow, standIns := [], harness := (true, "77e4e6f0d6ff53d0c946e3f6da432425907ed346a72e6231f7ebf91634a634d1"), looks := false }, kinds := [], alts := [], laidByText := true, laidKinds := [.data, .data], laidTests := true, laidLooks := .later }
def ValidateSeesUnusedImagesCardSaid : Prop := Claim7.holds Tryd.pinned (.plain (OpenSpec.ofChange validateSeesUnusedImagesSpec)) validateSeesUnusedImagesCard

/-- THE TIED CARD OF 'compositorlaw20.ValidateLargeCanvases'. -/
def validateLargeCanvasesCard : Claim7 := { stood := { row := validateLargeCanvasesRow, standIns := [], harness := (true, "77e4e6f0d6ff53d0c946e3f6da432425907ed346a72e6231f7ebf91634a634d1"), looks := false }, kinds := [], alts := [], laidByText := true, laidKinds := [.data, .data], laidTests := true, laidLooks := .later }
def ValidateLargeCanvasesCardSaid : Prop := Claim7.holds Tryd.pinned (.plain (OpenSpec.ofChange validateLargeCanvasesSpec)) validateLargeCanvasesCard

/-- THE SECOND FORM's CARD OF 'compositorlaw20.ValidateAcceptsScenes'. -/
def validateAcceptsScenesUptoCard : Claim7 := { stood := { row := validateAcceptsScenesUptoRow, standIns := [], harness := (true, "77e4e6f0d6ff53d0c946e3f6da432425907ed346a72e6231f7ebf91634a634d1"), looks := false }, kinds := [], alts := [], laidByText := true, laidKinds := [.data, .data], laidTests := true, laidLooks := .later }
def ValidateAcceptsScenesUptoCardSaid : Prop := Claim7.holds Tryd.pinned (.plain (OpenSpec.upto validateAcceptsScenesSpec)) validateAcceptsScenesUptoCard

/-- THE SECOND FORM's CARD OF 'compositorlaw20.ValidateAgrees'. -/
def validateAgreesUptoCard : Claim7 := { stood := { row := validateAgreesUptoRow, standIns := [], harness := (true, "77e4e6f0d6ff53d0c946e3f6da432425907ed346a72e6231f7ebf91634a634d1"), looks := false }, kinds := [], alts := [], laidByText := true, laidKinds := [.data, .data], laidTests := true, laidLooks := .later }
def ValidateAgreesUptoCardSaid : Prop := Claim7.holds Tryd.pinned (.plain (OpenSpec.upto validateAgreesSpec)) validateAgreesUptoCard

/-- THE SECOND FORM's CARD OF 'compositorlaw20.ValidateOpAgrees'. -/
def validateOpAgreesUptoCard : Claim7 := { stood := { row := validateOpAgreesUptoRow, standIns := [], harness := (true, "77e4e6f0d6ff53d0c946e3f6da432425907ed346a72e6231f7ebf91634a634d1"), looks := false }, kinds := [], alts := [], laidByText := true, laidKinds := [.data, .data], laidTests := true, laidLooks := .later }
def ValidateOpAgreesUptoCardSaid : Prop := Claim7.holds Tryd.pinned (.plain (OpenSpec.upto validateOpAgreesSpec)) validateOpAgreesUptoCard

/-- THE SECOND FORM's CARD OF 'compositorlaw20.ValidateContexts'. -/
def validateContextsUptoCard : Claim7 := { stood := { row := validateContextsUptoRow, standIns := [], harness := (true, "77e4e6f0d6ff53d0c946e3f6da432425907ed346a72e6231f7ebf91634a634d1"), looks := false }, kinds := [], alts := [], laidByText := true, laidKinds := [.data, .data], laidTests := true, laidLooks := .later }
def ValidateContextsUptoCardSaid : Prop := Claim7.holds Tryd.pinned (.plain (OpenSpec.upto validateContextsSpec)) validateContextsUptoCard

/-- THE SECOND FORM's CARD OF 'compositorlaw20.ValidateNesting'. -/
def validateNestingUptoCard : Claim7 := { stood := { row := validateNestingUptoRow, standIns := [], harness := (true, "77e4e6f0d6ff53d0c946e3f6da432425907ed346a72e6231f7ebf91634a634d1"), looks := false }, kinds := [], alts := [], laidByText := true, laidKinds := [.data, .data], laidTests := true, laidLooks := .later }
def ValidateNestingUptoCardSaid : Prop := Claim7.holds Tryd.pinned (.plain (OpenSpec.upto validateNestingSpec)) validateNestingUptoCard

/-- THE SECOND FORM's CARD OF 'compositorlaw20.ValidateSeesUnusedImages'. -/
def validateSeesUnusedImagesUptoCard : Claim7 := { stood := { row := validateSeesUnusedImagesUptoRow, standIns := [], harness := (true, "77e4e6f0d6ff53d0c946e3f6da432425907ed346a72e6231f7ebf91634a634d1"), looks := false }, kinds := [], alts := [], laidByText := true, laidKinds := [.data, .data], laidTests := true, laidLooks := .later }
def ValidateSeesUnusedImagesUptoCardSaid : Prop := Claim7.holds Tryd.pinned (.plain (OpenSpec.upto validateSeesUnusedImagesSpec)) validateSeesUnusedImagesUptoCard

/-- THE SECOND FORM's CARD OF 'compositorlaw20.ValidateLargeCanvases'. -/
def validateLargeCanvasesUptoCard : Claim7 := { stood := { row := validateLargeCanvasesUptoRow, standIns := [], harness := (true, "77e4e6f0d6ff53d0c946e3f6da432425907ed346a72e6231f7ebf91634a634d1"), looks := false }, kinds := [], alts := [], laidByText := true, laidKinds := [.data, .data], laidTests := true, laidLooks := .later }
def ValidateLargeCanvasesUptoCardSaid : Prop := Claim7.holds Tryd.pinned (.plain (OpenSpec.upto validateLargeCanvasesSpec)) validateLargeCanvasesUptoCard
end Rows
end Go.Proofs.YthkidembkknoeaaDoor
