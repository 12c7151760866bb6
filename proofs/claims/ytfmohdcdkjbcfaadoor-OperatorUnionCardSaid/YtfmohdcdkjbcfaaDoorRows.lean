/-
  NARROWER THAN 'FOR EVERY INPUT', by the rows' own cells (each row's printed sentence says how): OperatorNames: laid · OperatorFactorsAgree: laid · OperatorAlphaBelowShape: laid · OperatorNeutralAndFresh: laid · OperatorDuals: laid · OperatorOfOpaquePixels: laid · OperatorUnion: laid.
  DERIVED. THE GIVEN ROWS OF THIS SEAT. 7 by the template 'for every input the law returns true; each argument reads behind the call as it read before'; 0 by the template 'total and deterministic' (their statements: YtfmohdcdkjbcfaaDoorTotals.lean).
  GIVEN WITH THE SEED: the statements are not yours to turn. If you find one false, say at which input.
  Laid BY PROGRAM, IN A SANDBOX (cutbox-rows.mjs): the forced cells as the released guide's own fill.sh prints them over the translation 6148ebf412c5b848… (all of the seat's roots in one cut). By AI agents, Wed Nov 11 2026. No macro, syntax, notation, axiom, sorry.
-/
import Derived.Test.YtfmohdcdkjbcfaaDoorChecked
import GoSem.Claim
import GoSem.ClaimJoined
import GoSem.ClaimMapViews
import Derived.JoinedTies
import Derived.KernelRfl
namespace Go.Proofs.YtfmohdcdkjbcfaaDoor
/- THE CELL 'sum', in the pinned program and in every row, IS THE sha256 OF THE DUMP (.gsa) THAT YtfmohdcdkjbcfaaDoorProg.lean LOADS. Nothing in Lean hashes anything: it is a label: what it is worth is what the hold of that sum in a sandbox is worth. -/
noncomputable def Tryd.pinned : Pinned := { name := "ytfmohdcdkjbcfaadoor", sum := "6148ebf412c5b848b05969defed4a5c498cb803d856762f7579481fee888d5e7", checked := Tryd.checked }
namespace Rows
def none {H : Type} : Left H := { results := [], args := [] }

/- WHAT THE LISTED PACKAGE-LEVEL VARIABLES READ AS WHEN THE CALL BEGINS. Each datum BY PROGRAM (the guide's laid-datum.mjs) off the statement by which the dump's own 'gosem.cut.vars' lays the variable. In a bare row this is a premise. The card (YtfmohdcdkjbcfaaDoorCards.lean) ties it to the program's text. -/
def laid_compositor_operator_table {H : Type} : DataW H := .agg [.agg [.lit (.string []), .lit (.int .i64 0), .lit (.int .i64 0), .lit (.int .i64 0), .lit (.bool false), .lit (.bool false)], .agg [.lit (.string [99, 108, 101, 97, 114]), .lit (.int .i64 0), .lit (.int .i64 0), .lit (.int .i64 0), .lit (.bool false), .lit (.bool false)], .agg [.lit (.string [115, 114, 99]), .lit (.int .i64 1), .lit (.int .i64 0), .lit (.int .i64 1), .lit (.bool false), .lit (.bool true)], .agg [.lit (.string [100, 115, 116]), .lit (.int .i64 0), .lit (.int .i64 1), .lit (.int .i64 2), .lit (.bool true), .lit (.bool false)], .agg [.lit (.string [115, 114, 99, 45, 111, 118, 101, 114]), .lit (.int .i64 1), .lit (.int .i64 3), .lit (.int .i64 3), .lit (.bool true), .lit (.bool true)], .agg [.lit (.string [100, 115, 116, 45, 111, 118, 101, 114]), .lit (.int .i64 3), .lit (.int .i64 1), .lit (.int .i64 3), .lit (.bool true), .lit (.bool true)], .agg [.lit (.string [115, 114, 99, 45, 105, 110]), .lit (.int .i64 2), .lit (.int .i64 0), .lit (.int .i64 4), .lit (.bool false), .lit (.bool false)], .agg [.lit (.string [100, 115, 116, 45, 105, 110]), .lit (.int .i64 0), .lit (.int .i64 2), .lit (.int .i64 4), .lit (.bool false), .lit (.bool false)], .agg [.lit (.string [115, 114, 99, 45, 111, 117, 116]), .lit (.int .i64 3), .lit (.int .i64 0), .lit (.int .i64 1), .lit (.bool false), .lit (.bool true)], .agg [.lit (.string [100, 115, 116, 45, 111, 117, 116]), .lit (.int .i64 0), .lit (.int .i64 3), .lit (.int .i64 2), .lit (.bool true), .lit (.bool false)], .agg [.lit (.string [115, 114, 99, 45, 97, 116, 111, 112]), .lit (.int .i64 2), .lit (.int .i64 3), .lit (.int .i64 2), .lit (.bool true), .lit (.bool false)], .agg [.lit (.string [100, 115, 116, 45, 97, 116, 111, 112]), .lit (.int .i64 3), .lit (.int .i64 2), .lit (.int .i64 1), .lit (.bool false), .lit (.bool true)], .agg [.lit (.string [120, 111, 114]), .lit (.int .i64 3), .lit (.int .i64 3), .lit (.int .i64 3), .lit (.bool true), .lit (.bool true)]]

/-- 'compositorlaw07.OperatorNames': WHATEVER THE INPUT: true; the input reads as it did. -/
def operatorNamesSpec : ChangeSpec := { name := "operatorNames", fn := fun _ => fun
  | [d1, d2] => { results := [.lit (.bool true)], args := [d1, d2] }
  | _ => none }
def operatorNamesRow : OpenClaim := { program := "ytfmohdcdkjbcfaadoor", sum := "6148ebf412c5b848b05969defed4a5c498cb803d856762f7579481fee888d5e7", func := "compositor/compositorlaw07.OperatorNames", spec := "operatorNames", named := ["compositor/operator.table"], apart := false, laid := [("compositor/operator.table", laid_compositor_operator_table)] }
def OperatorNamesSaid : Prop := operatorNamesRow.holds Tryd.pinned (OpenSpec.ofChange operatorNamesSpec)

/-- ITS FALSE NEIGHBOUR: 'it returns false'. Refute it at one input. -/
def operatorNamesWrong : ChangeSpec := { name := "operatorNames", fn := fun _ => fun
  | [d1, d2] => { results := [.lit (.bool false)], args := [d1, d2] }
  | _ => none }
def OperatorNamesWrongFalsely : Prop := operatorNamesRow.holds Tryd.pinned (OpenSpec.ofChange operatorNamesWrong)

/-- 'compositorlaw07.OperatorFactorsAgree': WHATEVER THE INPUT: true; the input reads as it did. -/
def operatorFactorsAgreeSpec : ChangeSpec := { name := "operatorFactorsAgree", fn := fun _ => fun
  | [d1, d2, d3, d4, d5, d6, d7] => { results := [.lit (.bool true)], args := [d1, d2, d3, d4, d5, d6, d7] }
  | _ => none }
def operatorFactorsAgreeRow : OpenClaim := { program := "ytfmohdcdkjbcfaadoor", sum := "6148ebf412c5b848b05969defed4a5c498cb803d856762f7579481fee888d5e7", func := "compositor/compositorlaw07.OperatorFactorsAgree", spec := "operatorFactorsAgree", named := ["compositor/operator.table"], apart := false, laid := [("compositor/operator.table", laid_compositor_operator_table)] }
def OperatorFactorsAgreeSaid : Prop := operatorFactorsAgreeRow.holds Tryd.pinned (OpenSpec.ofChange operatorFactorsAgreeSpec)

/-- ITS FALSE NEIGHBOUR: 'it returns false'. Refute it at one input. -/
def operatorFactorsAgreeWrong : ChangeSpec := { name := "operatorFactorsAgree", fn := fun _ => fun
  | [d1, d2, d3, d4, d5, d6, d7] => { results := [.lit (.bool false)], args := [d1, d2, d3, d4, d5, d6, d7] }
  | _ => none }
def OperatorFactorsAgreeWrongFalsely : Prop := operatorFactorsAgreeRow.holds Tryd.pinned (OpenSpec.ofChange operatorFactorsAgreeWrong)

/-- 'compositorlaw07.OperatorAlphaBelowShape': WHATEVER THE INPUT: true; the input reads as it did. -/
def operatorAlphaBelowShapeSpec : ChangeSpec := { name := "operatorAlphaBelowShape", fn := fun _ => fun
  | [d1, d2, d3, d4, d5, d6] => { results := [.lit (.bool true)], args := [d1, d2, d3, d4, d5, d6] }
  | _ => none }
def operatorAlphaBelowShapeRow : OpenClaim := { program := "ytfmohdcdkjbcfaadoor", sum := "6148ebf412c5b848b05969defed4a5c498cb803d856762f7579481fee888d5e7", func := "compositor/compositorlaw07.OperatorAlphaBelowShape", spec := "operatorAlphaBelowShape", named := ["compositor/operator.table"], apart := false, laid := [("compositor/operator.table", laid_compositor_operator_table)] }
def OperatorAlphaBelowShapeSaid : Prop := operatorAlphaBelowShapeRow.holds Tryd.pinned (OpenSpec.ofChange operatorAlphaBelowShapeSpec)

/-- ITS FALSE NEIGHBOUR: 'it returns false'. Refute it at one input. -/
def operatorAlphaBelowShapeWrong : ChangeSpec := { name := "operatorAlphaBelowShape", fn := fun _ => fun
  | [d1, d2, d3, d4, d5, d6] => { results := [.lit (.bool false)], args := [d1, d2, d3, d4, d5, d6] }
  | _ => none }
def OperatorAlphaBelowShapeWrongFalsely : Prop := operatorAlphaBelowShapeRow.holds Tryd.pinned (OpenSpec.ofChange operatorAlphaBelowShapeWrong)

/-- 'compositorlaw07.OperatorNeutralAndFresh': WHATEVER THE INPUT: true; the input reads as it did. -/
def operatorNeutralAndFreshSpec : ChangeSpec := { name := "operatorNeutralAndFresh", fn := fun _ => fun
  | [d1, d2, d3, d4] => { results := [.lit (.bool true)], args := [d1, d2, d3, d4] }
  | _ => none }
def operatorNeutralAndFreshRow : OpenClaim := { program := "ytfmohdcdkjbcfaadoor", sum := "6148ebf412c5b848b05969defed4a5c498cb803d856762f7579481fee888d5e7", func := "compositor/compositorlaw07.OperatorNeutralAndFresh", spec := "operatorNeutralAndFresh", named := ["compositor/operator.table"], apart := false, laid := [("compositor/operator.table", laid_compositor_operator_table)] }
def OperatorNeutralAndFreshSaid : Prop := operatorNeutralAndFreshRow.holds Tryd.pinned (OpenSpec.ofChange operatorNeutralAndFreshSpec)

/-- ITS FALSE NEIGHBOUR: 'it returns false'. Refute it at one input. -/
def operatorNeutralAndFreshWrong : ChangeSpec := { name := "operatorNeutralAndFresh", fn := fun _ => fun
  | [d1, d2, d3, d4] => { results := [.lit (.bool false)], args := [d1, d2, d3, d4] }
  | _ => none }
def OperatorNeutralAndFreshWrongFalsely : Prop := operatorNeutralAndFreshRow.holds Tryd.pinned (OpenSpec.ofChange operatorNeutralAndFreshWrong)

/-- 'compositorlaw07.OperatorDuals': WHATEVER THE INPUT: true; the input reads as it did. -/
def operatorDualsSpec : ChangeSpec := { name := "operatorDuals", fn := fun _ => fun
  | [d1, d2, d3, d4] => { results := [.lit (.bool true)], args := [d1, d2, d3, d4] }
  | _ => none }
def operatorDualsRow : OpenClaim := { program := "ytfmohdcdkjbcfaadoor", sum := "6148ebf412c5b848b05969defed4a5c498cb803d856762f7579481fee888d5e7", func := "compositor/compositorlaw07.OperatorDuals", spec := "operatorDuals", named := ["compositor/operator.table"], apart := false, laid := [("compositor/operator.table", laid_compositor_operator_table)] }
def OperatorDualsSaid : Prop := operatorDualsRow.holds Tryd.pinned (OpenSpec.ofChange operatorDualsSpec)

/-- ITS FALSE NEIGHBOUR: 'it returns false'. Refute it at one input. -/
def operatorDualsWrong : ChangeSpec := { name := "operatorDuals", fn := fun _ => fun
  | [d1, d2, d3, d4] => { results := [.lit (.bool false)], args := [d1, d2, d3, d4] }
  | _ => none }
def OperatorDualsWrongFalsely : Prop := operatorDualsRow.holds Tryd.pinned (OpenSpec.ofChange operatorDualsWrong)

/-- 'compositorlaw07.OperatorOfOpaquePixels': WHATEVER THE INPUT: true; the input reads as it did. -/
def operatorOfOpaquePixelsSpec : ChangeSpec := { name := "operatorOfOpaquePixels", fn := fun _ => fun
  | [d1, d2, d3, d4] => { results := [.lit (.bool true)], args := [d1, d2, d3, d4] }
  | _ => none }
def operatorOfOpaquePixelsRow : OpenClaim := { program := "ytfmohdcdkjbcfaadoor", sum := "6148ebf412c5b848b05969defed4a5c498cb803d856762f7579481fee888d5e7", func := "compositor/compositorlaw07.OperatorOfOpaquePixels", spec := "operatorOfOpaquePixels", named := ["compositor/operator.table"], apart := false, laid := [("compositor/operator.table", laid_compositor_operator_table)] }
def OperatorOfOpaquePixelsSaid : Prop := operatorOfOpaquePixelsRow.holds Tryd.pinned (OpenSpec.ofChange operatorOfOpaquePixelsSpec)

/-- ITS FALSE NEIGHBOUR: 'it returns false'. Refute it at one input. -/
def operatorOfOpaquePixelsWrong : ChangeSpec := { name := "operatorOfOpaquePixels", fn := fun _ => fun
  | [d1, d2, d3, d4] => { results := [.lit (.bool false)], args := [d1, d2, d3, d4] }
  | _ => none }
def OperatorOfOpaquePixelsWrongFalsely : Prop := operatorOfOpaquePixelsRow.holds Tryd.pinned (OpenSpec.ofChange operatorOfOpaquePixelsWrong)

/-- 'compositorlaw07.OperatorUnion': WHATEVER THE INPUT: true; the input reads as it did. -/
def operatorUnionSpec : ChangeSpec := { name := "operatorUnion", fn := fun _ => fun
  | [d1, d2, d3] => { results := [.lit (.bool true)], args := [d1, d2, d3] }
  | _ => none }
def operatorUnionRow : OpenClaim := { program := "ytfmohdcdkjbcfaadoor", sum := "6148ebf412c5b848b05969defed4a5c498cb803d856762f7579481fee888d5e7", func := "compositor/compositorlaw07.OperatorUnion", spec := "operatorUnion", named := ["compositor/operator.table"], apart := false, laid := [("compositor/operator.table", laid_compositor_operator_table)] }
def OperatorUnionSaid : Prop := operatorUnionRow.holds Tryd.pinned (OpenSpec.ofChange operatorUnionSpec)

/-- ITS FALSE NEIGHBOUR: 'it returns false'. Refute it at one input. -/
def operatorUnionWrong : ChangeSpec := { name := "operatorUnion", fn := fun _ => fun
  | [d1, d2, d3] => { results := [.lit (.bool false)], args := [d1, d2, d3] }
  | _ => none }
def OperatorUnionWrongFalsely : Prop := operatorUnionRow.holds Tryd.pinned (OpenSpec.ofChange operatorUnionWrong)

/- THE SECOND FORM. 'bulk': how many values and letters a reading holds, each counted each time it is reached (what is shared counts as often as it is met; a slice's spare places count too). A statement '..UptoSaid' is the law's where the arguments, and the package variables that the reading takes, are together of bulk at most 1048576: NARROWER than '..Said'. Prove '..Said' where nothing that the law and all that it calls make is longer than what came in: it says more and counts as full. Else prove '..UptoSaid'. A law counts once. -/
mutual
def uptoBulk {H : Type} : DataW H → Nat
  | .lit (.string bytes) => bytes.length + 1
  | .lit _ => 1
  | .nil => 1
  | .ptr d => uptoBulk d + 1
  | .slice elems spare => uptoBulkAll elems + uptoBulkAll spare + 1
  | .agg parts => uptoBulkAll parts + 1
  | .iface _ d => uptoBulk d + 1
  | .map entries => uptoBulkEntries entries + 1
  | .held _ => 1
def uptoBulkAll {H : Type} : List (DataW H) → Nat
  | [] => 0
  | d :: r => uptoBulk d + uptoBulkAll r
def uptoBulkEntries {H : Type} : List (Lit × DataW H) → Nat
  | [] => 0
  | x :: r => uptoBulkEntry x + uptoBulkEntries r
def uptoBulkEntry {H : Type} : Lit × DataW H → Nat
  | (.string bytes, d) => bytes.length + uptoBulk d + 1
  | (_, d) => uptoBulk d + 1
 end
def uptoSmall : (H : Type) → List (DataW H) → Bool := fun _ ds => decide (uptoBulkAll ds ≤ 1048576)
def OpenSpec.upto (s : _root_.Go.ChangeSpec) : _root_.Go.OpenSpec := { _root_.Go.OpenSpec.ofChange s with cond := some uptoSmall }

/-- 'compositorlaw07.OperatorNames', WHERE WHAT IT READS IS OF BULK AT MOST 1048576: true; the input reads as it did. -/
def operatorNamesUptoRow : OpenClaim := { program := "ytfmohdcdkjbcfaadoor", sum := "6148ebf412c5b848b05969defed4a5c498cb803d856762f7579481fee888d5e7", func := "compositor/compositorlaw07.OperatorNames", spec := "operatorNames", named := ["compositor/operator.table"], apart := false, laid := [("compositor/operator.table", laid_compositor_operator_table)], narrowed := true }
def OperatorNamesUptoSaid : Prop := operatorNamesUptoRow.holds Tryd.pinned (OpenSpec.upto operatorNamesSpec)

/-- 'compositorlaw07.OperatorFactorsAgree', WHERE WHAT IT READS IS OF BULK AT MOST 1048576: true; the input reads as it did. -/
def operatorFactorsAgreeUptoRow : OpenClaim := { program := "ytfmohdcdkjbcfaadoor", sum := "6148ebf412c5b848b05969defed4a5c498cb803d856762f7579481fee888d5e7", func := "compositor/compositorlaw07.OperatorFactorsAgree", spec := "operatorFactorsAgree", named := ["compositor/operator.table"], apart := false, laid := [("compositor/operator.table", laid_compositor_operator_table)], narrowed := true }
def OperatorFactorsAgreeUptoSaid : Prop := operatorFactorsAgreeUptoRow.holds Tryd.pinned (OpenSpec.upto operatorFactorsAgreeSpec)

/-- 'compositorlaw07.OperatorAlphaBelowShape', WHERE WHAT IT READS IS OF BULK AT MOST 1048576: true; the input reads as it did. -/
def operatorAlphaBelowShapeUptoRow : OpenClaim := { program := "ytfmohdcdkjbcfaadoor", sum := "6148ebf412c5b848b05969defed4a5c498cb803d856762f7579481fee888d5e7", func := "compositor/compositorlaw07.OperatorAlphaBelowShape", spec := "operatorAlphaBelowShape", named := ["compositor/operator.table"], apart := false, laid := [("compositor/operator.table", laid_compositor_operator_table)], narrowed := true }
def OperatorAlphaBelowShapeUptoSaid : Prop := operatorAlphaBelowShapeUptoRow.holds Tryd.pinned (OpenSpec.upto operatorAlphaBelowShapeSpec)

/-- 'compositorlaw07.OperatorNeutralAndFresh', WHERE WHAT IT READS IS OF BULK AT MOST 1048576: true; the input reads as it did. -/
def operatorNeutralAndFreshUptoRow : OpenClaim := { program := "ytfmohdcdkjbcfaadoor", sum := "6148ebf412c5b848b05969defed4a5c498cb803d856762f7579481fee888d5e7", func := "compositor/compositorlaw07.OperatorNeutralAndFresh", spec := "operatorNeutralAndFresh", named := ["compositor/operator.table"], apart := false, laid := [("compositor/operator.table", laid_compositor_operator_table)], narrowed := true }
def OperatorNeutralAndFreshUptoSaid : Prop := operatorNeutralAndFreshUptoRow.holds Tryd.pinned (OpenSpec.upto operatorNeutralAndFreshSpec)

/-- 'compositorlaw07.OperatorDuals', WHERE WHAT IT READS IS OF BULK AT MOST 1048576: true; the input reads as it did. -/
def operatorDualsUptoRow : OpenClaim := { program := "ytfmohdcdkjbcfaadoor", sum := "6148ebf412c5b848b05969defed4a5c498cb803d856762f7579481fee888d5e7", func := "compositor/compositorlaw07.OperatorDuals", spec := "operatorDuals", named := ["compositor/operator.table"], apart := false, laid := [("compositor/operator.table", laid_compositor_operator_table)], narrowed := true }
def OperatorDualsUptoSaid : Prop := operatorDualsUptoRow.holds Tryd.pinned (OpenSpec.upto operatorDualsSpec)

/-- 'compositorlaw07.OperatorOfOpaquePixels', WHERE WHAT IT READS IS OF BULK AT MOST 1048576: true; the input reads as it did. -/
def operatorOfOpaquePixelsUptoRow : OpenClaim := { program := "ytfmohdcdkjbcfaadoor", sum := "6148ebf412c5b848b05969defed4a5c498cb803d856762f7579481fee888d5e7", func := "compositor/compositorlaw07.OperatorOfOpaquePixels", spec := "operatorOfOpaquePixels", named := ["compositor/operator.table"], apart := false, laid := [("compositor/operator.table", laid_compositor_operator_table)], narrowed := true }
def OperatorOfOpaquePixelsUptoSaid : Prop := operatorOfOpaquePixelsUptoRow.holds Tryd.pinned (OpenSpec.upto operatorOfOpaquePixelsSpec)

/-- 'compositorlaw07.OperatorUnion', WHERE WHAT IT READS IS OF BULK AT MOST 1048576: true; the input reads as it did. -/
def operatorUnionUptoRow : OpenClaim := { program := "ytfmohdcdkjbcfaadoor", sum := "6148ebf412c5b848b05969defed4a5c498cb803d856762f7579481fee888d5e7", func := "compositor/compositorlaw07.OperatorUnion", spec := "operatorUnion", named := ["compositor/operator.table"], apart := false, laid := [("compositor/operator.table", laid_compositor_operator_table)], narrowed := true }
def OperatorUnionUptoSaid : Prop := operatorUnionUptoRow.holds Tryd.pinned (OpenSpec.upto operatorUnionSpec)

end Rows
end Go.Proofs.YtfmohdcdkjbcfaaDoor
