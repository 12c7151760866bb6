/-
  No cell of these rows narrows 'for every input' (looked for: loops, veiled, ifaces, maps, wideKeys, modest, calm, conditions, laid).
  DERIVED. THE GIVEN ROWS OF THIS SEAT. 13 by the template 'for every input the law returns true; each argument reads behind the call as it read before'; 0 by the template 'total and deterministic' (their statements: YtfeopnnobbcjjaaTotals.lean).
  GIVEN WITH THE SEED: the statements are not yours to turn. If you find one false, say at which input.
  Laid BY PROGRAM, IN A SANDBOX (cutbox-rows.mjs): the forced cells as the released guide's own fill.sh prints them over the translation ad1f216674171813… (all of the seat's roots in one cut). By AI agents, Wed Nov 11 2026. No macro, syntax, notation, axiom, sorry.
-/
import Derived.Test.YtfeopnnobbcjjaaChecked
import GoSem.Claim
import GoSem.ClaimJoined
import GoSem.ClaimMapViews
import Derived.JoinedTies
import Derived.KernelRfl
namespace Go.Proofs.Ytfeopnnobbcjjaa
/- THE CELL 'sum', in the pinned program and in every row, IS THE sha256 OF THE DUMP (.gsa) THAT YtfeopnnobbcjjaaProg.lean LOADS. Nothing in Lean hashes anything: it is a label: what it is worth is what the hold of that sum in a sandbox is worth. -/
noncomputable def Try.pinned : Pinned := { name := "ytfeopnnobbcjjaa", sum := "ad1f2166741718136e5dcd3e94e46a69af255670b0335d221c2ed8eaf1b46794", checked := Try.checked }
namespace Rows
def none {H : Type} : Left H := { results := [], args := [] }

/-- 'compositorlaw01.RoundHalfAgrees': WHATEVER THE INPUT: true; the input reads as it did. -/
def roundHalfAgreesSpec : ChangeSpec := { name := "roundHalfAgrees", fn := fun _ => fun
  | [d1, d2, d3] => { results := [.lit (.bool true)], args := [d1, d2, d3] }
  | _ => none }
def roundHalfAgreesRow : OpenClaim := { program := "ytfeopnnobbcjjaa", sum := "ad1f2166741718136e5dcd3e94e46a69af255670b0335d221c2ed8eaf1b46794", func := "compositor/compositorlaw01.RoundHalfAgrees", spec := "roundHalfAgrees", named := ["math/bits.divideError", "math/bits.overflowError"], apart := false }
def RoundHalfAgreesSaid : Prop := roundHalfAgreesRow.holds Try.pinned (OpenSpec.ofChange roundHalfAgreesSpec)

/-- ITS FALSE NEIGHBOUR: 'it returns false'. Refute it at one input. -/
def roundHalfAgreesWrong : ChangeSpec := { name := "roundHalfAgrees", fn := fun _ => fun
  | [d1, d2, d3] => { results := [.lit (.bool false)], args := [d1, d2, d3] }
  | _ => none }
def RoundHalfAgreesWrongFalsely : Prop := roundHalfAgreesRow.holds Try.pinned (OpenSpec.ofChange roundHalfAgreesWrong)

/-- 'compositorlaw01.RoundHalfIsNearest': WHATEVER THE INPUT: true; the input reads as it did. -/
def roundHalfIsNearestSpec : ChangeSpec := { name := "roundHalfIsNearest", fn := fun _ => fun
  | [d1, d2] => { results := [.lit (.bool true)], args := [d1, d2] }
  | _ => none }
def roundHalfIsNearestRow : OpenClaim := { program := "ytfeopnnobbcjjaa", sum := "ad1f2166741718136e5dcd3e94e46a69af255670b0335d221c2ed8eaf1b46794", func := "compositor/compositorlaw01.RoundHalfIsNearest", spec := "roundHalfIsNearest", named := ["math/bits.divideError", "math/bits.overflowError"], apart := false }
def RoundHalfIsNearestSaid : Prop := roundHalfIsNearestRow.holds Try.pinned (OpenSpec.ofChange roundHalfIsNearestSpec)

/-- ITS FALSE NEIGHBOUR: 'it returns false'. Refute it at one input. -/
def roundHalfIsNearestWrong : ChangeSpec := { name := "roundHalfIsNearest", fn := fun _ => fun
  | [d1, d2] => { results := [.lit (.bool false)], args := [d1, d2] }
  | _ => none }
def RoundHalfIsNearestWrongFalsely : Prop := roundHalfIsNearestRow.holds Try.pinned (OpenSpec.ofChange roundHalfIsNearestWrong)

/-- 'compositorlaw01.RoundHalfIsMonotone': WHATEVER THE INPUT: true; the input reads as it did. -/
def roundHalfIsMonotoneSpec : ChangeSpec := { name := "roundHalfIsMonotone", fn := fun _ => fun
  | [d1, d2] => { results := [.lit (.bool true)], args := [d1, d2] }
  | _ => none }
def roundHalfIsMonotoneRow : OpenClaim := { program := "ytfeopnnobbcjjaa", sum := "ad1f2166741718136e5dcd3e94e46a69af255670b0335d221c2ed8eaf1b46794", func := "compositor/compositorlaw01.RoundHalfIsMonotone", spec := "roundHalfIsMonotone", named := ["math/bits.divideError", "math/bits.overflowError"], apart := false }
def RoundHalfIsMonotoneSaid : Prop := roundHalfIsMonotoneRow.holds Try.pinned (OpenSpec.ofChange roundHalfIsMonotoneSpec)

/-- ITS FALSE NEIGHBOUR: 'it returns false'. Refute it at one input. -/
def roundHalfIsMonotoneWrong : ChangeSpec := { name := "roundHalfIsMonotone", fn := fun _ => fun
  | [d1, d2] => { results := [.lit (.bool false)], args := [d1, d2] }
  | _ => none }
def RoundHalfIsMonotoneWrongFalsely : Prop := roundHalfIsMonotoneRow.holds Try.pinned (OpenSpec.ofChange roundHalfIsMonotoneWrong)

/-- 'compositorlaw01.RoundFastDivisions': WHATEVER THE INPUT: true; the input reads as it did. -/
def roundFastDivisionsSpec : ChangeSpec := { name := "roundFastDivisions", fn := fun _ => fun
  | [d1, d2, d3, d4] => { results := [.lit (.bool true)], args := [d1, d2, d3, d4] }
  | _ => none }
def roundFastDivisionsRow : OpenClaim := { program := "ytfeopnnobbcjjaa", sum := "ad1f2166741718136e5dcd3e94e46a69af255670b0335d221c2ed8eaf1b46794", func := "compositor/compositorlaw01.RoundFastDivisions", spec := "roundFastDivisions", named := ["math/bits.divideError", "math/bits.overflowError"], apart := false }
def RoundFastDivisionsSaid : Prop := roundFastDivisionsRow.holds Try.pinned (OpenSpec.ofChange roundFastDivisionsSpec)

/-- ITS FALSE NEIGHBOUR: 'it returns false'. Refute it at one input. -/
def roundFastDivisionsWrong : ChangeSpec := { name := "roundFastDivisions", fn := fun _ => fun
  | [d1, d2, d3, d4] => { results := [.lit (.bool false)], args := [d1, d2, d3, d4] }
  | _ => none }
def RoundFastDivisionsWrongFalsely : Prop := roundFastDivisionsRow.holds Try.pinned (OpenSpec.ofChange roundFastDivisionsWrong)

/-- 'compositorlaw01.RoundMulDivAgrees': WHATEVER THE INPUT: true; the input reads as it did. -/
def roundMulDivAgreesSpec : ChangeSpec := { name := "roundMulDivAgrees", fn := fun _ => fun
  | [d1, d2, d3, d4] => { results := [.lit (.bool true)], args := [d1, d2, d3, d4] }
  | _ => none }
def roundMulDivAgreesRow : OpenClaim := { program := "ytfeopnnobbcjjaa", sum := "ad1f2166741718136e5dcd3e94e46a69af255670b0335d221c2ed8eaf1b46794", func := "compositor/compositorlaw01.RoundMulDivAgrees", spec := "roundMulDivAgrees", inPlace := ["math/bits.Add64"], named := ["math/bits.divideError", "math/bits.overflowError"], apart := false }
def RoundMulDivAgreesSaid : Prop := roundMulDivAgreesRow.holds Try.pinned (OpenSpec.ofChange roundMulDivAgreesSpec)

/-- ITS FALSE NEIGHBOUR: 'it returns false'. Refute it at one input. -/
def roundMulDivAgreesWrong : ChangeSpec := { name := "roundMulDivAgrees", fn := fun _ => fun
  | [d1, d2, d3, d4] => { results := [.lit (.bool false)], args := [d1, d2, d3, d4] }
  | _ => none }
def RoundMulDivAgreesWrongFalsely : Prop := roundMulDivAgreesRow.holds Try.pinned (OpenSpec.ofChange roundMulDivAgreesWrong)

/-- 'compositorlaw01.RoundMulDivCancels': WHATEVER THE INPUT: true; the input reads as it did. -/
def roundMulDivCancelsSpec : ChangeSpec := { name := "roundMulDivCancels", fn := fun _ => fun
  | [d1, d2, d3] => { results := [.lit (.bool true)], args := [d1, d2, d3] }
  | _ => none }
def roundMulDivCancelsRow : OpenClaim := { program := "ytfeopnnobbcjjaa", sum := "ad1f2166741718136e5dcd3e94e46a69af255670b0335d221c2ed8eaf1b46794", func := "compositor/compositorlaw01.RoundMulDivCancels", spec := "roundMulDivCancels", named := ["math/bits.divideError", "math/bits.overflowError"], apart := false }
def RoundMulDivCancelsSaid : Prop := roundMulDivCancelsRow.holds Try.pinned (OpenSpec.ofChange roundMulDivCancelsSpec)

/-- ITS FALSE NEIGHBOUR: 'it returns false'. Refute it at one input. -/
def roundMulDivCancelsWrong : ChangeSpec := { name := "roundMulDivCancels", fn := fun _ => fun
  | [d1, d2, d3] => { results := [.lit (.bool false)], args := [d1, d2, d3] }
  | _ => none }
def RoundMulDivCancelsWrongFalsely : Prop := roundMulDivCancelsRow.holds Try.pinned (OpenSpec.ofChange roundMulDivCancelsWrong)

/-- 'compositorlaw01.RoundSqrt': WHATEVER THE INPUT: true; the input reads as it did. -/
def roundSqrtSpec : ChangeSpec := { name := "roundSqrt", fn := fun _ => fun
  | [d1, d2] => { results := [.lit (.bool true)], args := [d1, d2] }
  | _ => none }
def roundSqrtRow : OpenClaim := { program := "ytfeopnnobbcjjaa", sum := "ad1f2166741718136e5dcd3e94e46a69af255670b0335d221c2ed8eaf1b46794", func := "compositor/compositorlaw01.RoundSqrt", spec := "roundSqrt", named := ["math/bits.divideError", "math/bits.overflowError"], apart := false }
def RoundSqrtSaid : Prop := roundSqrtRow.holds Try.pinned (OpenSpec.ofChange roundSqrtSpec)

/-- ITS FALSE NEIGHBOUR: 'it returns false'. Refute it at one input. -/
def roundSqrtWrong : ChangeSpec := { name := "roundSqrt", fn := fun _ => fun
  | [d1, d2] => { results := [.lit (.bool false)], args := [d1, d2] }
  | _ => none }
def RoundSqrtWrongFalsely : Prop := roundSqrtRow.holds Try.pinned (OpenSpec.ofChange roundSqrtWrong)

/-- 'compositorlaw02.WideSumsAgree': WHATEVER THE INPUT: true; the input reads as it did. -/
def wideSumsAgreeSpec : ChangeSpec := { name := "wideSumsAgree", fn := fun _ => fun
  | [d1, d2, d3, d4] => { results := [.lit (.bool true)], args := [d1, d2, d3, d4] }
  | _ => none }
def wideSumsAgreeRow : OpenClaim := { program := "ytfeopnnobbcjjaa", sum := "ad1f2166741718136e5dcd3e94e46a69af255670b0335d221c2ed8eaf1b46794", func := "compositor/compositorlaw02.WideSumsAgree", spec := "wideSumsAgree", inPlace := ["math/bits.Add64", "math/bits.Sub64"], named := ["math/bits.divideError", "math/bits.overflowError"], apart := false }
def WideSumsAgreeSaid : Prop := wideSumsAgreeRow.holds Try.pinned (OpenSpec.ofChange wideSumsAgreeSpec)

/-- ITS FALSE NEIGHBOUR: 'it returns false'. Refute it at one input. -/
def wideSumsAgreeWrong : ChangeSpec := { name := "wideSumsAgree", fn := fun _ => fun
  | [d1, d2, d3, d4] => { results := [.lit (.bool false)], args := [d1, d2, d3, d4] }
  | _ => none }
def WideSumsAgreeWrongFalsely : Prop := wideSumsAgreeRow.holds Try.pinned (OpenSpec.ofChange wideSumsAgreeWrong)

/-- 'compositorlaw02.WideMulSmallAgrees': WHATEVER THE INPUT: true; the input reads as it did. -/
def wideMulSmallAgreesSpec : ChangeSpec := { name := "wideMulSmallAgrees", fn := fun _ => fun
  | [d1, d2, d3, d4] => { results := [.lit (.bool true)], args := [d1, d2, d3, d4] }
  | _ => none }
def wideMulSmallAgreesRow : OpenClaim := { program := "ytfeopnnobbcjjaa", sum := "ad1f2166741718136e5dcd3e94e46a69af255670b0335d221c2ed8eaf1b46794", func := "compositor/compositorlaw02.WideMulSmallAgrees", spec := "wideMulSmallAgrees", inPlace := ["math/bits.Add64"], named := ["math/bits.divideError", "math/bits.overflowError"], apart := false }
def WideMulSmallAgreesSaid : Prop := wideMulSmallAgreesRow.holds Try.pinned (OpenSpec.ofChange wideMulSmallAgreesSpec)

/-- ITS FALSE NEIGHBOUR: 'it returns false'. Refute it at one input. -/
def wideMulSmallAgreesWrong : ChangeSpec := { name := "wideMulSmallAgrees", fn := fun _ => fun
  | [d1, d2, d3, d4] => { results := [.lit (.bool false)], args := [d1, d2, d3, d4] }
  | _ => none }
def WideMulSmallAgreesWrongFalsely : Prop := wideMulSmallAgreesRow.holds Try.pinned (OpenSpec.ofChange wideMulSmallAgreesWrong)

/-- 'compositorlaw02.WideDivides': WHATEVER THE INPUT: true; the input reads as it did. -/
def wideDividesSpec : ChangeSpec := { name := "wideDivides", fn := fun _ => fun
  | [d1, d2, d3] => { results := [.lit (.bool true)], args := [d1, d2, d3] }
  | _ => none }
def wideDividesRow : OpenClaim := { program := "ytfeopnnobbcjjaa", sum := "ad1f2166741718136e5dcd3e94e46a69af255670b0335d221c2ed8eaf1b46794", func := "compositor/compositorlaw02.WideDivides", spec := "wideDivides", inPlace := ["math/bits.Add64"], named := ["math/bits.divideError", "math/bits.overflowError"], apart := false }
def WideDividesSaid : Prop := wideDividesRow.holds Try.pinned (OpenSpec.ofChange wideDividesSpec)

/-- ITS FALSE NEIGHBOUR: 'it returns false'. Refute it at one input. -/
def wideDividesWrong : ChangeSpec := { name := "wideDivides", fn := fun _ => fun
  | [d1, d2, d3] => { results := [.lit (.bool false)], args := [d1, d2, d3] }
  | _ => none }
def WideDividesWrongFalsely : Prop := wideDividesRow.holds Try.pinned (OpenSpec.ofChange wideDividesWrong)

/-- 'compositorlaw02.WideHalfAgrees': WHATEVER THE INPUT: true; the input reads as it did. -/
def wideHalfAgreesSpec : ChangeSpec := { name := "wideHalfAgrees", fn := fun _ => fun
  | [d1, d2, d3] => { results := [.lit (.bool true)], args := [d1, d2, d3] }
  | _ => none }
def wideHalfAgreesRow : OpenClaim := { program := "ytfeopnnobbcjjaa", sum := "ad1f2166741718136e5dcd3e94e46a69af255670b0335d221c2ed8eaf1b46794", func := "compositor/compositorlaw02.WideHalfAgrees", spec := "wideHalfAgrees", inPlace := ["math/bits.Add64"], named := ["math/bits.divideError", "math/bits.overflowError"], apart := false }
def WideHalfAgreesSaid : Prop := wideHalfAgreesRow.holds Try.pinned (OpenSpec.ofChange wideHalfAgreesSpec)

/-- ITS FALSE NEIGHBOUR: 'it returns false'. Refute it at one input. -/
def wideHalfAgreesWrong : ChangeSpec := { name := "wideHalfAgrees", fn := fun _ => fun
  | [d1, d2, d3] => { results := [.lit (.bool false)], args := [d1, d2, d3] }
  | _ => none }
def WideHalfAgreesWrongFalsely : Prop := wideHalfAgreesRow.holds Try.pinned (OpenSpec.ofChange wideHalfAgreesWrong)

/-- 'compositorlaw02.WideSqrt': WHATEVER THE INPUT: true; the input reads as it did. -/
def wideSqrtSpec : ChangeSpec := { name := "wideSqrt", fn := fun _ => fun
  | [d1, d2, d3] => { results := [.lit (.bool true)], args := [d1, d2, d3] }
  | _ => none }
def wideSqrtRow : OpenClaim := { program := "ytfeopnnobbcjjaa", sum := "ad1f2166741718136e5dcd3e94e46a69af255670b0335d221c2ed8eaf1b46794", func := "compositor/compositorlaw02.WideSqrt", spec := "wideSqrt", named := ["math/bits.divideError", "math/bits.overflowError"], apart := false }
def WideSqrtSaid : Prop := wideSqrtRow.holds Try.pinned (OpenSpec.ofChange wideSqrtSpec)

/-- ITS FALSE NEIGHBOUR: 'it returns false'. Refute it at one input. -/
def wideSqrtWrong : ChangeSpec := { name := "wideSqrt", fn := fun _ => fun
  | [d1, d2, d3] => { results := [.lit (.bool false)], args := [d1, d2, d3] }
  | _ => none }
def WideSqrtWrongFalsely : Prop := wideSqrtRow.holds Try.pinned (OpenSpec.ofChange wideSqrtWrong)

/-- 'compositorlaw02.WideIsARing': WHATEVER THE INPUT: true; the input reads as it did. -/
def wideIsARingSpec : ChangeSpec := { name := "wideIsARing", fn := fun _ => fun
  | [d1, d2, d3, d4, d5] => { results := [.lit (.bool true)], args := [d1, d2, d3, d4, d5] }
  | _ => none }
def wideIsARingRow : OpenClaim := { program := "ytfeopnnobbcjjaa", sum := "ad1f2166741718136e5dcd3e94e46a69af255670b0335d221c2ed8eaf1b46794", func := "compositor/compositorlaw02.WideIsARing", spec := "wideIsARing", inPlace := ["math/bits.Add64", "math/bits.Sub64"], named := ["math/bits.divideError", "math/bits.overflowError"], apart := false }
def WideIsARingSaid : Prop := wideIsARingRow.holds Try.pinned (OpenSpec.ofChange wideIsARingSpec)

/-- ITS FALSE NEIGHBOUR: 'it returns false'. Refute it at one input. -/
def wideIsARingWrong : ChangeSpec := { name := "wideIsARing", fn := fun _ => fun
  | [d1, d2, d3, d4, d5] => { results := [.lit (.bool false)], args := [d1, d2, d3, d4, d5] }
  | _ => none }
def WideIsARingWrongFalsely : Prop := wideIsARingRow.holds Try.pinned (OpenSpec.ofChange wideIsARingWrong)

/- THE SECOND FORM. 'bulk': how many values and letters a reading holds, each counted each time it is reached (what is shared counts as often as it is met; a slice's spare places count too). A statement '..UptoSaid' is the law's where the arguments, and the package variables that the reading takes, are together of bulk at most 1048576: NARROWER than '..Said'. Prove '..Said' where nothing that the law and all that it calls make is longer than what came in: it says more and counts as full. Else prove '..UptoSaid'. A law counts once. -/
mutual
def uptoBulk {H : Type} : DataW H → Nat
  | .lit (.string bytes) => bytes.length + 1
  | .lit _ => 1
  | .nil => 1
  | .ptr d => uptoBulk d + 1
  | .slice elems spare => uptoBulkAll elems + uptoBulkAll spare + 1
  | .agg parts => uptoBulkAll parts + 1
  | .iface _ d => uptoBulk d + 1
  | .map entries => uptoBulkEntries entries + 1
  | .held _ => 1
def uptoBulkAll {H : Type} : List (DataW H) → Nat
  | [] => 0
  | d :: r => uptoBulk d + uptoBulkAll r
def uptoBulkEntries {H : Type} : List (Lit × DataW H) → Nat
  | [] => 0
  | x :: r => uptoBulkEntry x + uptoBulkEntries r
def uptoBulkEntry {H : Type} : Lit × DataW H → Nat
  | (.string bytes, d) => bytes.length + uptoBulk d + 1
  | (_, d) => uptoBulk d + 1
 end
def uptoSmall : (H : Type) → List (DataW H) → Bool := fun _ ds => decide (uptoBulkAll ds ≤ 1048576)
def OpenSpec.upto (s : _root_.Go.ChangeSpec) : _root_.Go.OpenSpec := { _root_.Go.OpenSpec.ofChange s with cond := some uptoSmall }

/-- 'compositorlaw01.RoundHalfAgrees', WHERE WHAT IT READS IS OF BULK AT MOST 1048576: true; the input reads as it did. -/
def roundHalfAgreesUptoRow : OpenClaim := { program := "ytfeopnnobbcjjaa", sum := "ad1f2166741718136e5dcd3e94e46a69af255670b0335d221c2ed8eaf1b46794", func := "compositor/compositorlaw01.RoundHalfAgrees", spec := "roundHalfAgrees", named := ["math/bits.divideError", "math/bits.overflowError"], apart := false, narrowed := true }
def RoundHalfAgreesUptoSaid : Prop := roundHalfAgreesUptoRow.holds Try.pinned (OpenSpec.upto roundHalfAgreesSpec)

/-- 'compositorlaw01.RoundHalfIsNearest', WHERE WHAT IT READS IS OF BULK AT MOST 1048576: true; the input reads as it did. -/
def roundHalfIsNearestUptoRow : OpenClaim := { program := "ytfeopnnobbcjjaa", sum := "ad1f2166741718136e5dcd3e94e46a69af255670b0335d221c2ed8eaf1b46794", func := "compositor/compositorlaw01.RoundHalfIsNearest", spec := "roundHalfIsNearest", named := ["math/bits.divideError", "math/bits.overflowError"], apart := false, narrowed := true }
def RoundHalfIsNearestUptoSaid : Prop := roundHalfIsNearestUptoRow.holds Try.pinned (OpenSpec.upto roundHalfIsNearestSpec)

/-- 'compositorlaw01.RoundHalfIsMonotone', WHERE WHAT IT READS IS OF BULK AT MOST 1048576: true; the input reads as it did. -/
def roundHalfIsMonotoneUptoRow : OpenClaim := { program := "ytfeopnnobbcjjaa", sum := "ad1f2166741718136e5dcd3e94e46a69af255670b0335d221c2ed8eaf1b46794", func := "compositor/compositorlaw01.RoundHalfIsMonotone", spec := "roundHalfIsMonotone", named := ["math/bits.divideError", "math/bits.overflowError"], apart := false, narrowed := true }
def RoundHalfIsMonotoneUptoSaid : Prop := roundHalfIsMonotoneUptoRow.holds Try.pinned (OpenSpec.upto roundHalfIsMonotoneSpec)

/-- 'compositorlaw01.RoundFastDivisions', WHERE WHAT IT READS IS OF BULK AT MOST 1048576: true; the input reads as it did. -/
def roundFastDivisionsUptoRow : OpenClaim := { program := "ytfeopnnobbcjjaa", sum := "ad1f2166741718136e5dcd3e94e46a69af255670b0335d221c2ed8eaf1b46794", func := "compositor/compositorlaw01.RoundFastDivisions", spec := "roundFastDivisions", named := ["math/bits.divideError", "math/bits.overflowError"], apart := false, narrowed := true }
def RoundFastDivisionsUptoSaid : Prop := roundFastDivisionsUptoRow.holds Try.pinned (OpenSpec.upto roundFastDivisionsSpec)

/-- 'compositorlaw01.RoundMulDivAgrees', WHERE WHAT IT READS IS OF BULK AT MOST 1048576: true; the input reads as it did. -/
def roundMulDivAgreesUptoRow : OpenClaim := { program := "ytfeopnnobbcjjaa", sum := "ad1f2166741718136e5dcd3e94e46a69af255670b0335d221c2ed8eaf1b46794", func := "compositor/compositorlaw01.RoundMulDivAgrees", spec := "roundMulDivAgrees", inPlace := ["math/bits.Add64"], named := ["math/bits.divideError", "math/bits.overflowError"], apart := false, narrowed := true }
def RoundMulDivAgreesUptoSaid : Prop := roundMulDivAgreesUptoRow.holds Try.pinned (OpenSpec.upto roundMulDivAgreesSpec)

/-- 'compositorlaw01.RoundMulDivCancels', WHERE WHAT IT READS IS OF BULK AT MOST 1048576: true; the input reads as it did. -/
def roundMulDivCancelsUptoRow : OpenClaim := { program := "ytfeopnnobbcjjaa", sum := "ad1f2166741718136e5dcd3e94e46a69af255670b0335d221c2ed8eaf1b46794", func := "compositor/compositorlaw01.RoundMulDivCancels", spec := "roundMulDivCancels", named := ["math/bits.divideError", "math/bits.overflowError"], apart := false, narrowed := true }
def RoundMulDivCancelsUptoSaid : Prop := roundMulDivCancelsUptoRow.holds Try.pinned (OpenSpec.upto roundMulDivCancelsSpec)

/-- 'compositorlaw01.RoundSqrt', WHERE WHAT IT READS IS OF BULK AT MOST 1048576: true; the input reads as it did. -/
def roundSqrtUptoRow : OpenClaim := { program := "ytfeopnnobbcjjaa", sum := "ad1f2166741718136e5dcd3e94e46a69af255670b0335d221c2ed8eaf1b46794", func := "compositor/compositorlaw01.RoundSqrt", spec := "roundSqrt", named := ["math/bits.divideError", "math/bits.overflowError"], apart := false, narrowed := true }
def RoundSqrtUptoSaid : Prop := roundSqrtUptoRow.holds Try.pinned (OpenSpec.upto roundSqrtSpec)

/-- 'compositorlaw02.WideSumsAgree', WHERE WHAT IT READS IS OF BULK AT MOST 1048576: true; the input reads as it did. -/
def wideSumsAgreeUptoRow : OpenClaim := { program := "ytfeopnnobbcjjaa", sum := "ad1f2166741718136e5dcd3e94e46a69af255670b0335d221c2ed8eaf1b46794", func := "compositor/compositorlaw02.WideSumsAgree", spec := "wideSumsAgree", inPlace := ["math/bits.Add64", "math/bits.Sub64"], named := ["math/bits.divideError", "math/bits.overflowError"], apart := false, narrowed := true }
def WideSumsAgreeUptoSaid : Prop := wideSumsAgreeUptoRow.holds Try.pinned (OpenSpec.upto wideSumsAgreeSpec)

/-- 'compositorlaw02.WideMulSmallAgrees', WHERE WHAT IT READS IS OF BULK AT MOST 1048576: true; the input reads as it did. -/
def wideMulSmallAgreesUptoRow : OpenClaim := { program := "ytfeopnnobbcjjaa", sum := "ad1f2166741718136e5dcd3e94e46a69af255670b0335d221c2ed8eaf1b46794", func := "compositor/compositorlaw02.WideMulSmallAgrees", spec := "wideMulSmallAgrees", inPlace := ["math/bits.Add64"], named := ["math/bits.divideError", "math/bits.overflowError"], apart := false, narrowed := true }
def WideMulSmallAgreesUptoSaid : Prop := wideMulSmallAgreesUptoRow.holds Try.pinned (OpenSpec.upto wideMulSmallAgreesSpec)

/-- 'compositorlaw02.WideDivides', WHERE WHAT IT READS IS OF BULK AT MOST 1048576: true; the input reads as it did. -/
def wideDividesUptoRow : OpenClaim := { program := "ytfeopnnobbcjjaa", sum := "ad1f2166741718136e5dcd3e94e46a69af255670b0335d221c2ed8eaf1b46794", func := "compositor/compositorlaw02.WideDivides", spec := "wideDivides", inPlace := ["math/bits.Add64"], named := ["math/bits.divideError", "math/bits.overflowError"], apart := false, narrowed := true }
def WideDividesUptoSaid : Prop := wideDividesUptoRow.holds Try.pinned (OpenSpec.upto wideDividesSpec)

/-- 'compositorlaw02.WideHalfAgrees', WHERE WHAT IT READS IS OF BULK AT MOST 1048576: true; the input reads as it did. -/
def wideHalfAgreesUptoRow : OpenClaim := { program := "ytfeopnnobbcjjaa", sum := "ad1f2166741718136e5dcd3e94e46a69af255670b0335d221c2ed8eaf1b46794", func := "compositor/compositorlaw02.WideHalfAgrees", spec := "wideHalfAgrees", inPlace := ["math/bits.Add64"], named := ["math/bits.divideError", "math/bits.overflowError"], apart := false, narrowed := true }
def WideHalfAgreesUptoSaid : Prop := wideHalfAgreesUptoRow.holds Try.pinned (OpenSpec.upto wideHalfAgreesSpec)

/-- 'compositorlaw02.WideSqrt', WHERE WHAT IT READS IS OF BULK AT MOST 1048576: true; the input reads as it did. -/
def wideSqrtUptoRow : OpenClaim := { program := "ytfeopnnobbcjjaa", sum := "ad1f2166741718136e5dcd3e94e46a69af255670b0335d221c2ed8eaf1b46794", func := "compositor/compositorlaw02.WideSqrt", spec := "wideSqrt", named := ["math/bits.divideError", "math/bits.overflowError"], apart := false, narrowed := true }
def WideSqrtUptoSaid : Prop := wideSqrtUptoRow.holds Try.pinned (OpenSpec.upto wideSqrtSpec)

/-- 'compositorlaw02.WideIsARing', WHERE WHAT IT READS IS OF BULK AT MOST 1048576: true; the input reads as it did. -/
def wideIsARingUptoRow : OpenClaim := { program := "ytfeopnnobbcjjaa", sum := "ad1f2166741718136e5dcd3e94e46a69af255670b0335d221c2ed8eaf1b46794", func := "compositor/compositorlaw02.WideIsARing", spec := "wideIsARing", inPlace := ["math/bits.Add64", "math/bits.Sub64"], named := ["math/bits.divideError", "math/bits.overflowError"], apart := false, narrowed := true }
def WideIsARingUptoSaid : Prop := wideIsARingUptoRow.holds Try.pinned (OpenSpec.upto wideIsARingSpec)

end Rows
end Go.Proofs.Ytfeopnnobbcjjaa
