/-
  DERIVED. GIVEN WITH THE SEED: THE CARDS: each row of YtpjhdjakpbabhaaDoorRows.lean that lists a variable, with what it lists TIED to the program's text (the seventh form; the later family's looks); each row that meets fmt, with fmt's text TOLD by the authors' own Lean function (tested against real Go, not proved from fmt's source: count such statements apart). THE CARD IS WHAT COUNTS. Prove the row's statement (the work); the ties are given (YtpjhdjakpbabhaaDoorTie.lean); close each card by the builder's one call (the guide's Derived/Test/ToyasCard.lean, 'card_holds'). Laid BY PROGRAM, IN A SANDBOX (cutbox-door.mjs). By AI agents, Wed Nov 11 2026. No macro, syntax, notation, axiom, sorry.
-/
import Derived.Test.YtpjhdjakpbabhaaDoorRows
import GoSem.ClaimSeven
namespace Go.Proofs.YtpjhdjakpbabhaaDoor
namespace Rows

/-- THE TIED CARD OF 'compositorlaw16.SpanClassifyAgrees'. -/
def spanClassifyAgreesCard : Claim7 := { stood := { row := spanClassifyAgreesRow, standIns := [], harness := (true, "d91edacfe3a8a4fe63cde10b0671ff62e4094b801f9968f5d1058b48a71cd421"), looks := false }, kinds := [], alts := [], laidByText := true, laidKinds := [.data], laidTests := true, laidLooks := .later }
def SpanClassifyAgreesCardSaid : Prop := Claim7.holds Tryd.pinned (.plain (OpenSpec.ofChange spanClassifyAgreesSpec)) spanClassifyAgreesCard

/-- THE TIED CARD OF 'compositorlaw16.SpanScaleIsPixelByPixel'. -/
def spanScaleIsPixelByPixelCard : Claim7 := { stood := { row := spanScaleIsPixelByPixelRow, standIns := [], harness := (true, "d91edacfe3a8a4fe63cde10b0671ff62e4094b801f9968f5d1058b48a71cd421"), looks := false }, kinds := [], alts := [], laidByText := true, laidKinds := [.data], laidTests := true, laidLooks := .later }
def SpanScaleIsPixelByPixelCardSaid : Prop := Claim7.holds Tryd.pinned (.plain (OpenSpec.ofChange spanScaleIsPixelByPixelSpec)) spanScaleIsPixelByPixelCard

/-- THE SECOND FORM's CARD OF 'compositorlaw16.SpanClassifyAgrees'. -/
def spanClassifyAgreesUptoCard : Claim7 := { stood := { row := spanClassifyAgreesUptoRow, standIns := [], harness := (true, "d91edacfe3a8a4fe63cde10b0671ff62e4094b801f9968f5d1058b48a71cd421"), looks := false }, kinds := [], alts := [], laidByText := true, laidKinds := [.data], laidTests := true, laidLooks := .later }
def SpanClassifyAgreesUptoCardSaid : Prop := Claim7.holds Tryd.pinned (.plain (OpenSpec.upto spanClassifyAgreesSpec)) spanClassifyAgreesUptoCard

/-- THE SECOND FORM's CARD OF 'compositorlaw16.SpanScaleIsPixelByPixel'. -/
def spanScaleIsPixelByPixelUptoCard : Claim7 := { stood := { row := spanScaleIsPixelByPixelUptoRow, standIns := [], harness := (true, "d91edacfe3a8a4fe63cde10b0671ff62e4094b801f9968f5d1058b48a71cd421"), looks := false }, kinds := [], alts := [], laidByText := true, laidKinds := [.data], laidTests := true, laidLooks := .later }
def SpanScaleIsPixelByPixelUptoCardSaid : Prop := Claim7.holds Tryd.pinned (.plain (OpenSpec.upto spanScaleIsPixelByPixelSpec)) spanScaleIsPixelByPixelUptoCard
end Rows
end Go.Proofs.YtpjhdjakpbabhaaDoor
