/-
  DERIVED. GIVEN WITH THE SEED: THE CARDS: each row of YtfmohdcdkjbcfaaDoorRows.lean that lists a variable, with what it lists TIED to the program's text (the seventh form; the later family's looks); each row that meets fmt, with fmt's text TOLD by the authors' own Lean function (tested against real Go, not proved from fmt's source: count such statements apart). THE CARD IS WHAT COUNTS. Prove the row's statement (the work); the ties are given (YtfmohdcdkjbcfaaDoorTie.lean); close each card by the builder's one call (the guide's Derived/Test/ToyasCard.lean, 'card_holds'). Laid BY PROGRAM, IN A SANDBOX (cutbox-door.mjs). By AI agents, Wed Nov 11 2026. No macro, syntax, notation, axiom, sorry.
-/
import Derived.Test.YtfmohdcdkjbcfaaDoorRows
import GoSem.ClaimSeven
namespace Go.Proofs.YtfmohdcdkjbcfaaDoor
namespace Rows

/-- THE TIED CARD OF 'compositorlaw07.OperatorNames'. -/
def operatorNamesCard : Claim7 := { stood := { row := operatorNamesRow, standIns := [], harness := (true, "7c2fc807ebbfcf50aecc76f7f5ca031eb37ed5c9d362c37ee998af3916915972"), looks := false }, kinds := [], alts := [], laidByText := true, laidKinds := [.data], laidTests := true, laidLooks := .later }
def OperatorNamesCardSaid : Prop := Claim7.holds Tryd.pinned (.plain (OpenSpec.ofChange operatorNamesSpec)) operatorNamesCard

/-- THE TIED CARD OF 'compositorlaw07.OperatorFactorsAgree'. -/
def operatorFactorsAgreeCard : Claim7 := { stood := { row := operatorFactorsAgreeRow, standIns := [], harness := (true, "7c2fc807ebbfcf50aecc76f7f5ca031eb37ed5c9d362c37ee998af3916915972"), looks := false }, kinds := [], alts := [], laidByText := true, laidKinds := [.data], laidTests := true, laidLooks := .later }
def OperatorFactorsAgreeCardSaid : Prop := Claim7.holds Tryd.pinned (.plain (OpenSpec.ofChange operatorFactorsAgreeSpec)) operatorFactorsAgreeCard

/-- THE TIED CARD OF 'compositorlaw07.OperatorAlphaBelowShape'. -/
def operatorAlphaBelowShapeCard : Claim7 := { stood := { row := operatorAlphaBelowShapeRow, standIns := [], harness := (true, "7c2fc807ebbfcf50aecc76f7f5ca031eb37ed5c9d362c37ee998af3916915972"), looks := false }, kinds := [], alts := [], laidByText := true, laidKinds := [.data], laidTests := true, laidLooks := .later }
def OperatorAlphaBelowShapeCardSaid : Prop := Claim7.holds Tryd.pinned (.plain (OpenSpec.ofChange operatorAlphaBelowShapeSpec)) operatorAlphaBelowShapeCard

/-- THE TIED CARD OF 'compositorlaw07.OperatorNeutralAndFresh'. -/
def operatorNeutralAndFreshCard : Claim7 := { stood := { row := operatorNeutralAndFreshRow, standIns := [], harness := (true, "7c2fc807ebbfcf50aecc76f7f5ca031eb37ed5c9d362c37ee998af3916915972"), looks := false }, kinds := [], alts := [], laidByText := true, laidKinds := [.data], laidTests := true, laidLooks := .later }
def OperatorNeutralAndFreshCardSaid : Prop := Claim7.holds Tryd.pinned (.plain (OpenSpec.ofChange operatorNeutralAndFreshSpec)) operatorNeutralAndFreshCard

/-- THE TIED CARD OF 'compositorlaw07.OperatorDuals'. -/
def operatorDualsCard : Claim7 := { stood := { row := operatorDualsRow, standIns := [], harness := (true, "7c2fc807ebbfcf50aecc76f7f5ca031eb37ed5c9d362c37ee998af3916915972"), looks := false }, kinds := [], alts := [], laidByText := true, laidKinds := [.data], laidTests := true, laidLooks := .later }
def OperatorDualsCardSaid : Prop := Claim7.holds Tryd.pinned (.plain (OpenSpec.ofChange operatorDualsSpec)) operatorDualsCard

/-- THE TIED CARD OF 'compositorlaw07.OperatorOfOpaquePixels'. -/
def operatorOfOpaquePixelsCard : Claim7 := { stood := { row := operatorOfOpaquePixelsRow, standIns := [], harness := (true, "7c2fc807ebbfcf50aecc76f7f5ca031eb37ed5c9d362c37ee998af3916915972"), looks := false }, kinds := [], alts := [], laidByText := true, laidKinds := [.data], laidTests := true, laidLooks := .later }
def OperatorOfOpaquePixelsCardSaid : Prop := Claim7.holds Tryd.pinned (.plain (OpenSpec.ofChange operatorOfOpaquePixelsSpec)) operatorOfOpaquePixelsCard

/-- THE TIED CARD OF 'compositorlaw07.OperatorUnion'. -/
def operatorUnionCard : Claim7 := { stood := { row := operatorUnionRow, standIns := [], harness := (true, "7c2fc807ebbfcf50aecc76f7f5ca031eb37ed5c9d362c37ee998af3916915972"), looks := false }, kinds := [], alts := [], laidByText := true, laidKinds := [.data], laidTests := true, laidLooks := .later }
def OperatorUnionCardSaid : Prop := Claim7.holds Tryd.pinned (.plain (OpenSpec.ofChange operatorUnionSpec)) operatorUnionCard

/-- THE SECOND FORM's CARD OF 'compositorlaw07.OperatorNames'. -/
def operatorNamesUptoCard : Claim7 := { stood := { row := operatorNamesUptoRow, standIns := [], harness := (true, "7c2fc807ebbfcf50aecc76f7f5ca031eb37ed5c9d362c37ee998af3916915972"), looks := false }, kinds := [], alts := [], laidByText := true, laidKinds := [.data], laidTests := true, laidLooks := .later }
def OperatorNamesUptoCardSaid : Prop := Claim7.holds Tryd.pinned (.plain (OpenSpec.upto operatorNamesSpec)) operatorNamesUptoCard

/-- THE SECOND FORM's CARD OF 'compositorlaw07.OperatorFactorsAgree'. -/
def operatorFactorsAgreeUptoCard : Claim7 := { stood := { row := operatorFactorsAgreeUptoRow, standIns := [], harness := (true, "7c2fc807ebbfcf50aecc76f7f5ca031eb37ed5c9d362c37ee998af3916915972"), looks := false }, kinds := [], alts := [], laidByText := true, laidKinds := [.data], laidTests := true, laidLooks := .later }
def OperatorFactorsAgreeUptoCardSaid : Prop := Claim7.holds Tryd.pinned (.plain (OpenSpec.upto operatorFactorsAgreeSpec)) operatorFactorsAgreeUptoCard

/-- THE SECOND FORM's CARD OF 'compositorlaw07.OperatorAlphaBelowShape'. -/
def operatorAlphaBelowShapeUptoCard : Claim7 := { stood := { row := operatorAlphaBelowShapeUptoRow, standIns := [], harness := (true, "7c2fc807ebbfcf50aecc76f7f5ca031eb37ed5c9d362c37ee998af3916915972"), looks := false }, kinds := [], alts := [], laidByText := true, laidKinds := [.data], laidTests := true, laidLooks := .later }
def OperatorAlphaBelowShapeUptoCardSaid : Prop := Claim7.holds Tryd.pinned (.plain (OpenSpec.upto operatorAlphaBelowShapeSpec)) operatorAlphaBelowShapeUptoCard

/-- THE SECOND FORM's CARD OF 'compositorlaw07.OperatorNeutralAndFresh'. -/
def operatorNeutralAndFreshUptoCard : Claim7 := { stood := { row := operatorNeutralAndFreshUptoRow, standIns := [], harness := (true, "7c2fc807ebbfcf50aecc76f7f5ca031eb37ed5c9d362c37ee998af3916915972"), looks := false }, kinds := [], alts := [], laidByText := true, laidKinds := [.data], laidTests := true, laidLooks := .later }
def OperatorNeutralAndFreshUptoCardSaid : Prop := Claim7.holds Tryd.pinned (.plain (OpenSpec.upto operatorNeutralAndFreshSpec)) operatorNeutralAndFreshUptoCard

/-- THE SECOND FORM's CARD OF 'compositorlaw07.OperatorDuals'. -/
def operatorDualsUptoCard : Claim7 := { stood := { row := operatorDualsUptoRow, standIns := [], harness := (true, "7c2fc807ebbfcf50aecc76f7f5ca031eb37ed5c9d362c37ee998af3916915972"), looks := false }, kinds := [], alts := [], laidByText := true, laidKinds := [.data], laidTests := true, laidLooks := .later }
def OperatorDualsUptoCardSaid : Prop := Claim7.holds Tryd.pinned (.plain (OpenSpec.upto operatorDualsSpec)) operatorDualsUptoCard

/-- THE SECOND FORM's CARD OF 'compositorlaw07.OperatorOfOpaquePixels'. -/
def operatorOfOpaquePixelsUptoCard : Claim7 := { stood := { row := operatorOfOpaquePixelsUptoRow, standIns := [], harness := (true, "7c2fc807ebbfcf50aecc76f7f5ca031eb37ed5c9d362c37ee998af3916915972"), looks := false }, kinds := [], alts := [], laidByText := true, laidKinds := [.data], laidTests := true, laidLooks := .later }
def OperatorOfOpaquePixelsUptoCardSaid : Prop := Claim7.holds Tryd.pinned (.plain (OpenSpec.upto operatorOfOpaquePixelsSpec)) operatorOfOpaquePixelsUptoCard

/-- THE SECOND FORM's CARD OF 'compositorlaw07.OperatorUnion'. -/
def operatorUnionUptoCard : Claim7 := { stood := { row := operatorUnionUptoRow, standIns := [], harness := (true, "7c2fc807ebbfcf50aecc76f7f5ca031eb37ed5c9d362c37ee998af3916915972"), looks := false }, kinds := [], alts := [], laidByText := true, laidKinds := [.data], laidTests := true, laidLooks := .later }
def OperatorUnionUptoCardSaid : Prop := Claim7.holds Tryd.pinned (.plain (OpenSpec.upto operatorUnionSpec)) operatorUnionUptoCard
end Rows
end Go.Proofs.YtfmohdcdkjbcfaaDoor
