/-
  DERIVED. GIVEN WITH THE SEED: THE CARDS: each row of YtpjhdjakpbabhaaGreatDoorRows.lean that lists a variable, with what it lists TIED to the program's text (the seventh form; the later family's looks); each row that meets fmt, with fmt's text TOLD by the authors' own Lean function (tested against real Go, not proved from fmt's source: count such statements apart). THE CARD IS WHAT COUNTS. Prove the row's statement (the work); the ties are given (YtpjhdjakpbabhaaGreatDoorTie.lean); close each card by the builder's one call (the guide's Derived/Test/ToyasCard.lean, 'card_holds'). Laid BY PROGRAM, IN A SANDBOX (cutbox-door.mjs). By AI agents, Wed Nov 11 2026. No macro, syntax, notation, axiom, sorry.
-/
import Derived.Test.YtpjhdjakpbabhaaGreatDoorRows
import GoSem.ClaimSeven
namespace Go.Proofs.YtpjhdjakpbabhaaGreatDoor
namespace Rows

/-- THE TIED CARD OF 'compositorlaw16.SpanCompositeIsPixelByPixel'. -/
def spanCompositeIsPixelByPixelCard : Claim7 := { stood := { row := spanCompositeIsPixelByPixelRow, standIns := [], harness := (true, "a6bfc4f909538c301b36cdb9a7a793e4f0c49cd03dcc9751010351e6e416aa9e"), looks := false }, kinds := [], alts := [], laidByText := true, laidKinds := [.data], laidTests := true, laidLooks := .later }
def SpanCompositeIsPixelByPixelCardSaid : Prop := Claim7.holds Tryz.pinned (.plain (OpenSpec.ofChange spanCompositeIsPixelByPixelSpec)) spanCompositeIsPixelByPixelCard

/-- THE TIED CARD OF 'compositorlaw16.SpanStepIsPixelByPixel'. -/
def spanStepIsPixelByPixelCard : Claim7 := { stood := { row := spanStepIsPixelByPixelRow, standIns := [], harness := (true, "a6bfc4f909538c301b36cdb9a7a793e4f0c49cd03dcc9751010351e6e416aa9e"), looks := false }, kinds := [], alts := [], laidByText := true, laidKinds := [.data], laidTests := true, laidLooks := .later }
def SpanStepIsPixelByPixelCardSaid : Prop := Claim7.holds Tryz.pinned (.plain (OpenSpec.ofChange spanStepIsPixelByPixelSpec)) spanStepIsPixelByPixelCard

/-- THE TIED CARD OF 'compositorlaw16.SpanRejects'. -/
def spanRejectsCard : Claim7 := { stood := { row := spanRejectsRow, standIns := [], harness := (true, "a6bfc4f909538c301b36cdb9a7a793e4f0c49cd03dcc9751010351e6e416aa9e"), looks := false }, kinds := [], alts := [], laidByText := true, laidKinds := [.data], laidTests := true, laidLooks := .later }
def SpanRejectsCardSaid : Prop := Claim7.holds Tryz.pinned (.plain (OpenSpec.ofChange spanRejectsSpec)) spanRejectsCard

/-- THE TIED CARD OF 'compositorlaw16.SpanOfNothing'. -/
def spanOfNothingCard : Claim7 := { stood := { row := spanOfNothingRow, standIns := [], harness := (true, "a6bfc4f909538c301b36cdb9a7a793e4f0c49cd03dcc9751010351e6e416aa9e"), looks := false }, kinds := [], alts := [], laidByText := true, laidKinds := [.data], laidTests := true, laidLooks := .later }
def SpanOfNothingCardSaid : Prop := Claim7.holds Tryz.pinned (.plain (OpenSpec.ofChange spanOfNothingSpec)) spanOfNothingCard

/-- THE SECOND FORM's CARD OF 'compositorlaw16.SpanCompositeIsPixelByPixel'. -/
def spanCompositeIsPixelByPixelUptoCard : Claim7 := { stood := { row := spanCompositeIsPixelByPixelUptoRow, standIns := [], harness := (true, "a6bfc4f909538c301b36cdb9a7a793e4f0c49cd03dcc9751010351e6e416aa9e"), looks := false }, kinds := [], alts := [], laidByText := true, laidKinds := [.data], laidTests := true, laidLooks := .later }
def SpanCompositeIsPixelByPixelUptoCardSaid : Prop := Claim7.holds Tryz.pinned (.plain (OpenSpec.upto spanCompositeIsPixelByPixelSpec)) spanCompositeIsPixelByPixelUptoCard

/-- THE SECOND FORM's CARD OF 'compositorlaw16.SpanStepIsPixelByPixel'. -/
def spanStepIsPixelByPixelUptoCard : Claim7 := { stood := { row := spanStepIsPixelByPixelUptoRow, standIns := [], harness := (true, "a6bfc4f909538c301b36cdb9a7a793e4f0c49cd03dcc9751010351e6e416aa9e"), looks := false }, kinds := [], alts := [], laidByText := true, laidKinds := [.data], laidTests := true, laidLooks := .later }
def SpanStepIsPixelByPixelUptoCardSaid : Prop := Claim7.holds Tryz.pinned (.plain (OpenSpec.upto spanStepIsPixelByPixelSpec)) spanStepIsPixelByPixelUptoCard

/-- THE SECOND FORM's CARD OF 'compositorlaw16.SpanRejects'. -/
def spanRejectsUptoCard : Claim7 := { stood := { row := spanRejectsUptoRow, standIns := [], harness := (true, "a6bfc4f909538c301b36cdb9a7a793e4f0c49cd03dcc9751010351e6e416aa9e"), looks := false }, kinds := [], alts := [], laidByText := true, laidKinds := [.data], laidTests := true, laidLooks := .later }
def SpanRejectsUptoCardSaid : Prop := Claim7.holds Tryz.pinned (.plain (OpenSpec.upto spanRejectsSpec)) spanRejectsUptoCard

/-- THE SECOND FORM's CARD OF 'compositorlaw16.SpanOfNothing'. -/
def spanOfNothingUptoCard : Claim7 := { stood := { row := spanOfNothingUptoRow, standIns := [], harness := (true, "a6bfc4f909538c301b36cdb9a7a793e4f0c49cd03dcc9751010351e6e416aa9e"), looks := false }, kinds := [], alts := [], laidByText := true, laidKinds := [.data], laidTests := true, laidLooks := .later }
def SpanOfNothingUptoCardSaid : Prop := Claim7.holds Tryz.pinned (.plain (OpenSpec.upto spanOfNothingSpec)) spanOfNothingUptoCard
end Rows
end Go.Proofs.YtpjhdjakpbabhaaGreatDoor
