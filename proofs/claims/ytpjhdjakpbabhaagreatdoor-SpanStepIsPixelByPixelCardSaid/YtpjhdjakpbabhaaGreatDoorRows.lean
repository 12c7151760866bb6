/-
  NARROWER THAN 'FOR EVERY INPUT', by the rows' own cells (each row's printed sentence says how): SpanCompositeIsPixelByPixel: laid · SpanStepIsPixelByPixel: laid · SpanRejects: laid · SpanOfNothing: laid.
  DERIVED. THE GIVEN ROWS OF THIS SEAT. 4 by the template 'for every input the law returns true; each argument reads behind the call as it read before'; 0 by the template 'total and deterministic' (their statements: YtpjhdjakpbabhaaGreatDoorTotals.lean).
  GIVEN WITH THE SEED: the statements are not yours to turn. If you find one false, say at which input.
  Laid BY PROGRAM, IN A SANDBOX (cutbox-rows.mjs): the forced cells as the released guide's own fill.sh prints them over the translation dec9fc24a7626beb… (all of the seat's roots in one cut). By AI agents, Wed Nov 11 2026. No macro, syntax, notation, axiom, sorry.
-/
import Derived.Test.YtpjhdjakpbabhaaGreatDoorChecked
import GoSem.Claim
import GoSem.ClaimJoined
import GoSem.ClaimMapViews
import Derived.JoinedTies
import Derived.KernelRfl
namespace Go.Proofs.YtpjhdjakpbabhaaGreatDoor
/- THE CELL 'sum', in the pinned program and in every row, IS THE sha256 OF THE DUMP (.gsa) THAT YtpjhdjakpbabhaaGreatDoorProg.lean LOADS. Nothing in Lean hashes anything: it is a label: what it is worth is what the hold of that sum in a sandbox is worth. -/
noncomputable def Tryz.pinned : Pinned := { name := "ytpjhdjakpbabhaagreatdoor", sum := "dec9fc24a7626beb249121d0a02f92396c86379443787532b7c37f5c91240668", checked := Tryz.checked }
namespace Rows
def none {H : Type} : Left H := { results := [], args := [] }

/- WHAT THE LISTED PACKAGE-LEVEL VARIABLES READ AS WHEN THE CALL BEGINS. Each datum BY PROGRAM (the guide's laid-datum.mjs) off the statement by which the dump's own 'gosem.cut.vars' lays the variable. In a bare row this is a premise. The card (YtpjhdjakpbabhaaGreatDoorCards.lean) ties it to the program's text. -/
def laid_compositor_operator_table {H : Type} : DataW H := .agg [.agg [.lit (.string []), .lit (.int .i64 0), .lit (.int .i64 0), .lit (.int .i64 0), .lit (.bool false), .lit (.bool false)], .agg [.lit (.string [99, 108, 101, 97, 114]), .lit (.int .i64 0), .lit (.int .i64 0), .lit (.int .i64 0), .lit (.bool false), .lit (.bool false)], .agg [.lit (.string [115, 114, 99]), .lit (.int .i64 1), .lit (.int .i64 0), .lit (.int .i64 1), .lit (.bool false), .lit (.bool true)], .agg [.lit (.string [100, 115, 116]), .lit (.int .i64 0), .lit (.int .i64 1), .lit (.int .i64 2), .lit (.bool true), .lit (.bool false)], .agg [.lit (.string [115, 114, 99, 45, 111, 118, 101, 114]), .lit (.int .i64 1), .lit (.int .i64 3), .lit (.int .i64 3), .lit (.bool true), .lit (.bool true)], .agg [.lit (.string [100, 115, 116, 45, 111, 118, 101, 114]), .lit (.int .i64 3), .lit (.int .i64 1), .lit (.int .i64 3), .lit (.bool true), .lit (.bool true)], .agg [.lit (.string [115, 114, 99, 45, 105, 110]), .lit (.int .i64 2), .lit (.int .i64 0), .lit (.int .i64 4), .lit (.bool false), .lit (.bool false)], .agg [.lit (.string [100, 115, 116, 45, 105, 110]), .lit (.int .i64 0), .lit (.int .i64 2), .lit (.int .i64 4), .lit (.bool false), .lit (.bool false)], .agg [.lit (.string [115, 114, 99, 45, 111, 117, 116]), .lit (.int .i64 3), .lit (.int .i64 0), .lit (.int .i64 1), .lit (.bool false), .lit (.bool true)], .agg [.lit (.string [100, 115, 116, 45, 111, 117, 116]), .lit (.int .i64 0), .lit (.int .i64 3), .lit (.int .i64 2), .lit (.bool true), .lit (.bool false)], .agg [.lit (.string [115, 114, 99, 45, 97, 116, 111, 112]), .lit (.int .i64 2), .lit (.int .i64 3), .lit (.int .i64 2), .lit (.bool true), .lit (.bool false)], .agg [.lit (.string [100, 115, 116, 45, 97, 116, 111, 112]), .lit (.int .i64 3), .lit (.int .i64 2), .lit (.int .i64 1), .lit (.bool false), .lit (.bool true)], .agg [.lit (.string [120, 111, 114]), .lit (.int .i64 3), .lit (.int .i64 3), .lit (.int .i64 3), .lit (.bool true), .lit (.bool true)]]

/-- 'compositorlaw16.SpanCompositeIsPixelByPixel': WHATEVER THE INPUT: true; the input reads as it did. -/
def spanCompositeIsPixelByPixelSpec : ChangeSpec := { name := "spanCompositeIsPixelByPixel", fn := fun _ => fun
  | [d1, d2, d3, d4, d5, d6] => { results := [.lit (.bool true)], args := [d1, d2, d3, d4, d5, d6] }
  | _ => none }
def spanCompositeIsPixelByPixelRow : OpenClaim := { program := "ytpjhdjakpbabhaagreatdoor", sum := "dec9fc24a7626beb249121d0a02f92396c86379443787532b7c37f5c91240668", func := "compositor/compositorlaw16.SpanCompositeIsPixelByPixel", spec := "spanCompositeIsPixelByPixel", inPlace := ["math/bits.Add64", "math/bits.Sub64"], unfollowed := true, recurses := true, named := ["compositor/operator.table", "math/bits.divideError", "math/bits.overflowError"], apart := false, laid := [("compositor/operator.table", laid_compositor_operator_table)] }
def SpanCompositeIsPixelByPixelSaid : Prop := spanCompositeIsPixelByPixelRow.holds Tryz.pinned (OpenSpec.ofChange spanCompositeIsPixelByPixelSpec)

/-- ITS FALSE NEIGHBOUR: 'it returns false'. Refute it at one input. -/
def spanCompositeIsPixelByPixelWrong : ChangeSpec := { name := "spanCompositeIsPixelByPixel", fn := fun _ => fun
  | [d1, d2, d3, d4, d5, d6] => { results := [.lit (.bool false)], args := [d1, d2, d3, d4, d5, d6] }
  | _ => none }
def SpanCompositeIsPixelByPixelWrongFalsely : Prop := spanCompositeIsPixelByPixelRow.holds Tryz.pinned (OpenSpec.ofChange spanCompositeIsPixelByPixelWrong)

/-- 'compositorlaw16.SpanStepIsPixelByPixel': WHATEVER THE INPUT: true; the input reads as it did. -/
def spanStepIsPixelByPixelSpec : ChangeSpec := { name := "spanStepIsPixelByPixel", fn := fun _ => fun
  | [d1, d2, d3, d4, d5, d6, d7, d8, d9] => { results := [.lit (.bool true)], args := [d1, d2, d3, d4, d5, d6, d7, d8, d9] }
  | _ => none }
def spanStepIsPixelByPixelRow : OpenClaim := { program := "ytpjhdjakpbabhaagreatdoor", sum := "dec9fc24a7626beb249121d0a02f92396c86379443787532b7c37f5c91240668", func := "compositor/compositorlaw16.SpanStepIsPixelByPixel", spec := "spanStepIsPixelByPixel", inPlace := ["math/bits.Add64", "math/bits.Sub64"], unfollowed := true, recurses := true, named := ["compositor/operator.table", "math/bits.divideError", "math/bits.overflowError"], apart := false, laid := [("compositor/operator.table", laid_compositor_operator_table)] }
def SpanStepIsPixelByPixelSaid : Prop := spanStepIsPixelByPixelRow.holds Tryz.pinned (OpenSpec.ofChange spanStepIsPixelByPixelSpec)

/-- ITS FALSE NEIGHBOUR: 'it returns false'. Refute it at one input. -/
def spanStepIsPixelByPixelWrong : ChangeSpec := { name := "spanStepIsPixelByPixel", fn := fun _ => fun
  | [d1, d2, d3, d4, d5, d6, d7, d8, d9] => { results := [.lit (.bool false)], args := [d1, d2, d3, d4, d5, d6, d7, d8, d9] }
  | _ => none }
def SpanStepIsPixelByPixelWrongFalsely : Prop := spanStepIsPixelByPixelRow.holds Tryz.pinned (OpenSpec.ofChange spanStepIsPixelByPixelWrong)

/-- 'compositorlaw16.SpanRejects': WHATEVER THE INPUT: true; the input reads as it did. -/
def spanRejectsSpec : ChangeSpec := { name := "spanRejects", fn := fun _ => fun
  | [d1, d2, d3, d4, d5, d6, d7, d8] => { results := [.lit (.bool true)], args := [d1, d2, d3, d4, d5, d6, d7, d8] }
  | _ => none }
def spanRejectsRow : OpenClaim := { program := "ytpjhdjakpbabhaagreatdoor", sum := "dec9fc24a7626beb249121d0a02f92396c86379443787532b7c37f5c91240668", func := "compositor/compositorlaw16.SpanRejects", spec := "spanRejects", inPlace := ["math/bits.Add64", "math/bits.Sub64"], unfollowed := true, recurses := true, named := ["compositor/operator.table", "math/bits.divideError", "math/bits.overflowError"], apart := false, laid := [("compositor/operator.table", laid_compositor_operator_table)] }
def SpanRejectsSaid : Prop := spanRejectsRow.holds Tryz.pinned (OpenSpec.ofChange spanRejectsSpec)

/-- ITS FALSE NEIGHBOUR: 'it returns false'. Refute it at one input. -/
def spanRejectsWrong : ChangeSpec := { name := "spanRejects", fn := fun _ => fun
  | [d1, d2, d3, d4, d5, d6, d7, d8] => { results := [.lit (.bool false)], args := [d1, d2, d3, d4, d5, d6, d7, d8] }
  | _ => none }
def SpanRejectsWrongFalsely : Prop := spanRejectsRow.holds Tryz.pinned (OpenSpec.ofChange spanRejectsWrong)

/-- 'compositorlaw16.SpanOfNothing': WHATEVER THE INPUT: true; the input reads as it did. -/
def spanOfNothingSpec : ChangeSpec := { name := "spanOfNothing", fn := fun _ => fun
  | [d1, d2, d3, d4, d5] => { results := [.lit (.bool true)], args := [d1, d2, d3, d4, d5] }
  | _ => none }
def spanOfNothingRow : OpenClaim := { program := "ytpjhdjakpbabhaagreatdoor", sum := "dec9fc24a7626beb249121d0a02f92396c86379443787532b7c37f5c91240668", func := "compositor/compositorlaw16.SpanOfNothing", spec := "spanOfNothing", inPlace := ["math/bits.Add64", "math/bits.Sub64"], unfollowed := true, recurses := true, named := ["compositor/operator.table", "math/bits.divideError", "math/bits.overflowError"], apart := false, laid := [("compositor/operator.table", laid_compositor_operator_table)] }
def SpanOfNothingSaid : Prop := spanOfNothingRow.holds Tryz.pinned (OpenSpec.ofChange spanOfNothingSpec)

/-- ITS FALSE NEIGHBOUR: 'it returns false'. Refute it at one input. -/
def spanOfNothingWrong : ChangeSpec := { name := "spanOfNothing", fn := fun _ => fun
  | [d1, d2, d3, d4, d5] => { results := [.lit (.bool false)], args := [d1, d2, d3, d4, d5] }
  | _ => none }
def SpanOfNothingWrongFalsely : Prop := spanOfNothingRow.holds Tryz.pinned (OpenSpec.ofChange spanOfNothingWrong)

/- THE SECOND FORM. 'bulk': how many values and letters a reading holds, each counted each time it is reached (what is shared counts as often as it is met; a slice's spare places count too). A statement '..UptoSaid' is the law's where the arguments, and the package variables that the reading takes, are together of bulk at most 1048576: NARROWER than '..Said'. Prove '..Said' where nothing that the law and all that it calls make is longer than what came in: it says more and counts as full. Else prove '..UptoSaid'. A law counts once. -/
mutual
def uptoBulk {H : Type} : DataW H → Nat
  | .lit (.string bytes) => bytes.length + 1
  | .lit _ => 1
  | .nil => 1
  | .ptr d => uptoBulk d + 1
  | .slice elems spare => uptoBulkAll elems + uptoBulkAll spare + 1
  | .agg parts => uptoBulkAll parts + 1
  | .iface _ d => uptoBulk d + 1
  | .map entries => uptoBulkEntries entries + 1
  | .held _ => 1
def uptoBulkAll {H : Type} : List (DataW H) → Nat
  | [] => 0
  | d :: r => uptoBulk d + uptoBulkAll r
def uptoBulkEntries {H : Type} : List (Lit × DataW H) → Nat
  | [] => 0
  | x :: r => uptoBulkEntry x + uptoBulkEntries r
def uptoBulkEntry {H : Type} : Lit × DataW H → Nat
  | (.string bytes, d) => bytes.length + uptoBulk d + 1
  | (_, d) => uptoBulk d + 1
 end
def uptoSmall : (H : Type) → List (DataW H) → Bool := fun _ ds => decide (uptoBulkAll ds ≤ 1048576)
def OpenSpec.upto (s : _root_.Go.ChangeSpec) : _root_.Go.OpenSpec := { _root_.Go.OpenSpec.ofChange s with cond := some uptoSmall }

/-- 'compositorlaw16.SpanCompositeIsPixelByPixel', WHERE WHAT IT READS IS OF BULK AT MOST 1048576: true; the input reads as it did. -/
def spanCompositeIsPixelByPixelUptoRow : OpenClaim := { program := "ytpjhdjakpbabhaagreatdoor", sum := "dec9fc24a7626beb249121d0a02f92396c86379443787532b7c37f5c91240668", func := "compositor/compositorlaw16.SpanCompositeIsPixelByPixel", spec := "spanCompositeIsPixelByPixel", inPlace := ["math/bits.Add64", "math/bits.Sub64"], unfollowed := true, recurses := true, named := ["compositor/operator.table", "math/bits.divideError", "math/bits.overflowError"], apart := false, laid := [("compositor/operator.table", laid_compositor_operator_table)], narrowed := true }
def SpanCompositeIsPixelByPixelUptoSaid : Prop := spanCompositeIsPixelByPixelUptoRow.holds Tryz.pinned (OpenSpec.upto spanCompositeIsPixelByPixelSpec)

/-- 'compositorlaw16.SpanStepIsPixelByPixel', WHERE WHAT IT READS IS OF BULK AT MOST 1048576: true; the input reads as it did. -/
def spanStepIsPixelByPixelUptoRow : OpenClaim := { program := "ytpjhdjakpbabhaagreatdoor", sum := "dec9fc24a7626beb249121d0a02f92396c86379443787532b7c37f5c91240668", func := "compositor/compositorlaw16.SpanStepIsPixelByPixel", spec := "spanStepIsPixelByPixel", inPlace := ["math/bits.Add64", "math/bits.Sub64"], unfollowed := true, recurses := true, named := ["compositor/operator.table", "math/bits.divideError", "math/bits.overflowError"], apart := false, laid := [("compositor/operator.table", laid_compositor_operator_table)], narrowed := true }
def SpanStepIsPixelByPixelUptoSaid : Prop := spanStepIsPixelByPixelUptoRow.holds Tryz.pinned (OpenSpec.upto spanStepIsPixelByPixelSpec)

/-- 'compositorlaw16.SpanRejects', WHERE WHAT IT READS IS OF BULK AT MOST 1048576: true; the input reads as it did. -/
def spanRejectsUptoRow : OpenClaim := { program := "ytpjhdjakpbabhaagreatdoor", sum := "dec9fc24a7626beb249121d0a02f92396c86379443787532b7c37f5c91240668", func := "compositor/compositorlaw16.SpanRejects", spec := "spanRejects", inPlace := ["math/bits.Add64", "math/bits.Sub64"], unfollowed := true, recurses := true, named := ["compositor/operator.table", "math/bits.divideError", "math/bits.overflowError"], apart := false, laid := [("compositor/operator.table", laid_compositor_operator_table)], narrowed := true }
def SpanRejectsUptoSaid : Prop := spanRejectsUptoRow.holds Tryz.pinned (OpenSpec.upto spanRejectsSpec)

/-- 'compositorlaw16.SpanOfNothing', WHERE WHAT IT READS IS OF BULK AT MOST 1048576: true; the input reads as it did. -/
def spanOfNothingUptoRow : OpenClaim := { program := "ytpjhdjakpbabhaagreatdoor", sum := "dec9fc24a7626beb249121d0a02f92396c86379443787532b7c37f5c91240668", func := "compositor/compositorlaw16.SpanOfNothing", spec := "spanOfNothing", inPlace := ["math/bits.Add64", "math/bits.Sub64"], unfollowed := true, recurses := true, named := ["compositor/operator.table", "math/bits.divideError", "math/bits.overflowError"], apart := false, laid := [("compositor/operator.table", laid_compositor_operator_table)], narrowed := true }
def SpanOfNothingUptoSaid : Prop := spanOfNothingUptoRow.holds Tryz.pinned (OpenSpec.upto spanOfNothingSpec)

end Rows
end Go.Proofs.YtpjhdjakpbabhaaGreatDoor
