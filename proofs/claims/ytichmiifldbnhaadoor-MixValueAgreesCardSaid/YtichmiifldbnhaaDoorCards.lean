/-
  DERIVED. GIVEN WITH THE SEED: THE CARDS: each row of YtichmiifldbnhaaDoorRows.lean that lists a variable, with what it lists TIED to the program's text (the seventh form; the later family's looks); each row that meets fmt, with fmt's text TOLD by the authors' own Lean function (tested against real Go, not proved from fmt's source: count such statements apart). THE CARD IS WHAT COUNTS. Prove the row's statement (the work); the ties are given (YtichmiifldbnhaaDoorTie.lean); close each card by the builder's one call (the guide's Derived/Test/ToyasCard.lean, 'card_holds'). Laid BY PROGRAM, IN A SANDBOX (cutbox-door.mjs). By AI agents, Wed Nov 11 2026. No macro, syntax, notation, axiom, sorry.
-/
import Derived.Test.YtichmiifldbnhaaDoorRows
import GoSem.ClaimSeven
namespace Go.Proofs.YtichmiifldbnhaaDoor
namespace Rows

/-- THE TIED CARD OF 'compositorlaw08.MixAgrees'. -/
def mixAgreesCard : Claim7 := { stood := { row := mixAgreesRow, standIns := [], harness := (true, "edd807a285611bd9503a0016e71a7e81a80355f952bee5e7540dc40d3d2da22e"), looks := false }, kinds := [], alts := [], laidByText := true, laidKinds := [.data], laidTests := true, laidLooks := .later }
def MixAgreesCardSaid : Prop := Claim7.holds Tryd.pinned (.plain (OpenSpec.ofChange mixAgreesSpec)) mixAgreesCard

/-- THE TIED CARD OF 'compositorlaw08.MixAgreesForAll'. -/
def mixAgreesForAllCard : Claim7 := { stood := { row := mixAgreesForAllRow, standIns := [], harness := (true, "edd807a285611bd9503a0016e71a7e81a80355f952bee5e7540dc40d3d2da22e"), looks := false }, kinds := [], alts := [], laidByText := true, laidKinds := [.data], laidTests := true, laidLooks := .later }
def MixAgreesForAllCardSaid : Prop := Claim7.holds Tryd.pinned (.plain (OpenSpec.ofChange mixAgreesForAllSpec)) mixAgreesForAllCard

/-- THE TIED CARD OF 'compositorlaw08.MixValueAgrees'. -/
def mixValueAgreesCard : Claim7 := { stood := { row := mixValueAgreesRow, standIns := [], harness := (true, "edd807a285611bd9503a0016e71a7e81a80355f952bee5e7540dc40d3d2da22e"), looks := false }, kinds := [], alts := [], laidByText := true, laidKinds := [.data], laidTests := true, laidLooks := .later }
def MixValueAgreesCardSaid : Prop := Claim7.holds Tryd.pinned (.plain (OpenSpec.ofChange mixValueAgreesSpec)) mixValueAgreesCard

/-- THE TIED CARD OF 'compositorlaw08.MixColourBelowAlpha'. -/
def mixColourBelowAlphaCard : Claim7 := { stood := { row := mixColourBelowAlphaRow, standIns := [], harness := (true, "edd807a285611bd9503a0016e71a7e81a80355f952bee5e7540dc40d3d2da22e"), looks := false }, kinds := [], alts := [], laidByText := true, laidKinds := [.data], laidTests := true, laidLooks := .later }
def MixColourBelowAlphaCardSaid : Prop := Claim7.holds Tryd.pinned (.plain (OpenSpec.ofChange mixColourBelowAlphaSpec)) mixColourBelowAlphaCard

/-- THE TIED CARD OF 'compositorlaw08.MixOfOpaqueColours'. -/
def mixOfOpaqueColoursCard : Claim7 := { stood := { row := mixOfOpaqueColoursRow, standIns := [], harness := (true, "edd807a285611bd9503a0016e71a7e81a80355f952bee5e7540dc40d3d2da22e"), looks := false }, kinds := [], alts := [], laidByText := true, laidKinds := [.data], laidTests := true, laidLooks := .later }
def MixOfOpaqueColoursCardSaid : Prop := Claim7.holds Tryd.pinned (.plain (OpenSpec.ofChange mixOfOpaqueColoursSpec)) mixOfOpaqueColoursCard

/-- THE TIED CARD OF 'compositorlaw08.MixNormalIsTheClassic'. -/
def mixNormalIsTheClassicCard : Claim7 := { stood := { row := mixNormalIsTheClassicRow, standIns := [], harness := (true, "edd807a285611bd9503a0016e71a7e81a80355f952bee5e7540dc40d3d2da22e"), looks := false }, kinds := [], alts := [], laidByText := true, laidKinds := [.data], laidTests := true, laidLooks := .later }
def MixNormalIsTheClassicCardSaid : Prop := Claim7.holds Tryd.pinned (.plain (OpenSpec.ofChange mixNormalIsTheClassicSpec)) mixNormalIsTheClassicCard

/-- THE TIED CARD OF 'compositorlaw08.MixIgnoresModeWithoutOverlap'. -/
def mixIgnoresModeWithoutOverlapCard : Claim7 := { stood := { row := mixIgnoresModeWithoutOverlapRow, standIns := [], harness := (true, "edd807a285611bd9503a0016e71a7e81a80355f952bee5e7540dc40d3d2da22e"), looks := false }, kinds := [], alts := [], laidByText := true, laidKinds := [.data], laidTests := true, laidLooks := .later }
def MixIgnoresModeWithoutOverlapCardSaid : Prop := Claim7.holds Tryd.pinned (.plain (OpenSpec.ofChange mixIgnoresModeWithoutOverlapSpec)) mixIgnoresModeWithoutOverlapCard

/-- THE SECOND FORM's CARD OF 'compositorlaw08.MixAgrees'. -/
def mixAgreesUptoCard : Claim7 := { stood := { row := mixAgreesUptoRow, standIns := [], harness := (true, "edd807a285611bd9503a0016e71a7e81a80355f952bee5e7540dc40d3d2da22e"), looks := false }, kinds := [], alts := [], laidByText := true, laidKinds := [.data], laidTests := true, laidLooks := .later }
def MixAgreesUptoCardSaid : Prop := Claim7.holds Tryd.pinned (.plain (OpenSpec.upto mixAgreesSpec)) mixAgreesUptoCard

/-- THE SECOND FORM's CARD OF 'compositorlaw08.MixAgreesForAll'. -/
def mixAgreesForAllUptoCard : Claim7 := { stood := { row := mixAgreesForAllUptoRow, standIns := [], harness := (true, "edd807a285611bd9503a0016e71a7e81a80355f952bee5e7540dc40d3d2da22e"), looks := false }, kinds := [], alts := [], laidByText := true, laidKinds := [.data], laidTests := true, laidLooks := .later }
def MixAgreesForAllUptoCardSaid : Prop := Claim7.holds Tryd.pinned (.plain (OpenSpec.upto mixAgreesForAllSpec)) mixAgreesForAllUptoCard

/-- THE SECOND FORM's CARD OF 'compositorlaw08.MixValueAgrees'. -/
def mixValueAgreesUptoCard : Claim7 := { stood := { row := mixValueAgreesUptoRow, standIns := [], harness := (true, "edd807a285611bd9503a0016e71a7e81a80355f952bee5e7540dc40d3d2da22e"), looks := false }, kinds := [], alts := [], laidByText := true, laidKinds := [.data], laidTests := true, laidLooks := .later }
def MixValueAgreesUptoCardSaid : Prop := Claim7.holds Tryd.pinned (.plain (OpenSpec.upto mixValueAgreesSpec)) mixValueAgreesUptoCard

/-- THE SECOND FORM's CARD OF 'compositorlaw08.MixColourBelowAlpha'. -/
def mixColourBelowAlphaUptoCard : Claim7 := { stood := { row := mixColourBelowAlphaUptoRow, standIns := [], harness := (true, "edd807a285611bd9503a0016e71a7e81a80355f952bee5e7540dc40d3d2da22e"), looks := false }, kinds := [], alts := [], laidByText := true, laidKinds := [.data], laidTests := true, laidLooks := .later }
def MixColourBelowAlphaUptoCardSaid : Prop := Claim7.holds Tryd.pinned (.plain (OpenSpec.upto mixColourBelowAlphaSpec)) mixColourBelowAlphaUptoCard

/-- THE SECOND FORM's CARD OF 'compositorlaw08.MixOfOpaqueColours'. -/
def mixOfOpaqueColoursUptoCard : Claim7 := { stood := { row := mixOfOpaqueColoursUptoRow, standIns := [], harness := (true, "edd807a285611bd9503a0016e71a7e81a80355f952bee5e7540dc40d3d2da22e"), looks := false }, kinds := [], alts := [], laidByText := true, laidKinds := [.data], laidTests := true, laidLooks := .later }
def MixOfOpaqueColoursUptoCardSaid : Prop := Claim7.holds Tryd.pinned (.plain (OpenSpec.upto mixOfOpaqueColoursSpec)) mixOfOpaqueColoursUptoCard

/-- THE SECOND FORM's CARD OF 'compositorlaw08.MixNormalIsTheClassic'. -/
def mixNormalIsTheClassicUptoCard : Claim7 := { stood := { row := mixNormalIsTheClassicUptoRow, standIns := [], harness := (true, "edd807a285611bd9503a0016e71a7e81a80355f952bee5e7540dc40d3d2da22e"), looks := false }, kinds := [], alts := [], laidByText := true, laidKinds := [.data], laidTests := true, laidLooks := .later }
def MixNormalIsTheClassicUptoCardSaid : Prop := Claim7.holds Tryd.pinned (.plain (OpenSpec.upto mixNormalIsTheClassicSpec)) mixNormalIsTheClassicUptoCard

/-- THE SECOND FORM's CARD OF 'compositorlaw08.MixIgnoresModeWithoutOverlap'. -/
def mixIgnoresModeWithoutOverlapUptoCard : Claim7 := { stood := { row := mixIgnoresModeWithoutOverlapUptoRow, standIns := [], harness := (true, "edd807a285611bd9503a0016e71a7e81a80355f952bee5e7540dc40d3d2da22e"), looks := false }, kinds := [], alts := [], laidByText := true, laidKinds := [.data], laidTests := true, laidLooks := .later }
def MixIgnoresModeWithoutOverlapUptoCardSaid : Prop := Claim7.holds Tryd.pinned (.plain (OpenSpec.upto mixIgnoresModeWithoutOverlapSpec)) mixIgnoresModeWithoutOverlapUptoCard
end Rows
end Go.Proofs.YtichmiifldbnhaaDoor
