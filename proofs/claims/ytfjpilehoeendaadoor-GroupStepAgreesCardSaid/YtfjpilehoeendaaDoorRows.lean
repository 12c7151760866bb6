/-
  NARROWER THAN 'FOR EVERY INPUT', by the rows' own cells (each row's printed sentence says how): GroupBeginAgrees: laid · GroupValidNeedsEachField: laid · GroupStepAgrees: laid · GroupRejects: laid · GroupResultAgrees: laid · GroupStaysValid: laid · GroupIsolatedIsPlain: laid · GroupEmptyIsTransparent: laid · GroupOfOneNormalElement: laid.
  DERIVED. THE GIVEN ROWS OF THIS SEAT. 9 by the template 'for every input the law returns true; each argument reads behind the call as it read before'; 0 by the template 'total and deterministic' (their statements: YtfjpilehoeendaaDoorTotals.lean).
  GIVEN WITH THE SEED: the statements are not yours to turn. If you find one false, say at which input.
  Laid BY PROGRAM, IN A SANDBOX (cutbox-rows.mjs): the forced cells as the released guide's own fill.sh prints them over the translation c113c22c42a80d1d… (all of the seat's roots in one cut). By AI agents, Wed Nov 11 2026. No macro, syntax, notation, axiom, sorry.
-/
import Derived.Test.YtfjpilehoeendaaDoorChecked
import GoSem.Claim
import GoSem.ClaimJoined
import GoSem.ClaimMapViews
import Derived.JoinedTies
import Derived.KernelRfl
namespace Go.Proofs.YtfjpilehoeendaaDoor
/- THE CELL 'sum', in the pinned program and in every row, IS THE sha256 OF THE DUMP (.gsa) THAT YtfjpilehoeendaaDoorProg.lean LOADS. Nothing in Lean hashes anything: it is a label: what it is worth is what the hold of that sum in a sandbox is worth. -/
noncomputable def Tryd.pinned : Pinned := { name := "ytfjpilehoeendaadoor", sum := "c113c22c42a80d1d715af84504e6b51d0b068354f7b6981d5b8a7cf3137be625", checked := Tryd.checked }
namespace Rows
def none {H : Type} : Left H := { results := [], args := [] }

/- WHAT THE LISTED PACKAGE-LEVEL VARIABLES READ AS WHEN THE CALL BEGINS. Each datum BY PROGRAM (the guide's laid-datum.mjs) off the statement by which the dump's own 'gosem.cut.vars' lays the variable. In a bare row this is a premise. The card (YtfjpilehoeendaaDoorCards.lean) ties it to the program's text. -/
def laid_compositor_operator_table {H : Type} : DataW H := .agg [.agg [.lit (.string []), .lit (.int .i64 0), .lit (.int .i64 0), .lit (.int .i64 0), .lit (.bool false), .lit (.bool false)], .agg [.lit (.string [99, 108, 101, 97, 114]), .lit (.int .i64 0), .lit (.int .i64 0), .lit (.int .i64 0), .lit (.bool false), .lit (.bool false)], .agg [.lit (.string [115, 114, 99]), .lit (.int .i64 1), .lit (.int .i64 0), .lit (.int .i64 1), .lit (.bool false), .lit (.bool true)], .agg [.lit (.string [100, 115, 116]), .lit (.int .i64 0), .lit (.int .i64 1), .lit (.int .i64 2), .lit (.bool true), .lit (.bool false)], .agg [.lit (.string [115, 114, 99, 45, 111, 118, 101, 114]), .lit (.int .i64 1), .lit (.int .i64 3), .lit (.int .i64 3), .lit (.bool true), .lit (.bool true)], .agg [.lit (.string [100, 115, 116, 45, 111, 118, 101, 114]), .lit (.int .i64 3), .lit (.int .i64 1), .lit (.int .i64 3), .lit (.bool true), .lit (.bool true)], .agg [.lit (.string [115, 114, 99, 45, 105, 110]), .lit (.int .i64 2), .lit (.int .i64 0), .lit (.int .i64 4), .lit (.bool false), .lit (.bool false)], .agg [.lit (.string [100, 115, 116, 45, 105, 110]), .lit (.int .i64 0), .lit (.int .i64 2), .lit (.int .i64 4), .lit (.bool false), .lit (.bool false)], .agg [.lit (.string [115, 114, 99, 45, 111, 117, 116]), .lit (.int .i64 3), .lit (.int .i64 0), .lit (.int .i64 1), .lit (.bool false), .lit (.bool true)], .agg [.lit (.string [100, 115, 116, 45, 111, 117, 116]), .lit (.int .i64 0), .lit (.int .i64 3), .lit (.int .i64 2), .lit (.bool true), .lit (.bool false)], .agg [.lit (.string [115, 114, 99, 45, 97, 116, 111, 112]), .lit (.int .i64 2), .lit (.int .i64 3), .lit (.int .i64 2), .lit (.bool true), .lit (.bool false)], .agg [.lit (.string [100, 115, 116, 45, 97, 116, 111, 112]), .lit (.int .i64 3), .lit (.int .i64 2), .lit (.int .i64 1), .lit (.bool false), .lit (.bool true)], .agg [.lit (.string [120, 111, 114]), .lit (.int .i64 3), .lit (.int .i64 3), .lit (.int .i64 3), .lit (.bool true), .lit (.bool true)]]

/-- 'compositorlaw12.GroupBeginAgrees': WHATEVER THE INPUT: true; the input reads as it did. -/
def groupBeginAgreesSpec : ChangeSpec := { name := "groupBeginAgrees", fn := fun _ => fun
  | [d1, d2, d3, d4, d5, d6, d7, d8, d9] => { results := [.lit (.bool true)], args := [d1, d2, d3, d4, d5, d6, d7, d8, d9] }
  | _ => none }
def groupBeginAgreesRow : OpenClaim := { program := "ytfjpilehoeendaadoor", sum := "c113c22c42a80d1d715af84504e6b51d0b068354f7b6981d5b8a7cf3137be625", func := "compositor/compositorlaw12.GroupBeginAgrees", spec := "groupBeginAgrees", inPlace := ["math/bits.Add64", "math/bits.Sub64"], named := ["compositor/operator.table", "math/bits.divideError", "math/bits.overflowError"], apart := false, laid := [("compositor/operator.table", laid_compositor_operator_table)] }
def GroupBeginAgreesSaid : Prop := groupBeginAgreesRow.holds Tryd.pinned (OpenSpec.ofChange groupBeginAgreesSpec)

/-- ITS FALSE NEIGHBOUR: 'it returns false'. Refute it at one input. -/
def groupBeginAgreesWrong : ChangeSpec := { name := "groupBeginAgrees", fn := fun _ => fun
  | [d1, d2, d3, d4, d5, d6, d7, d8, d9] => { results := [.lit (.bool false)], args := [d1, d2, d3, d4, d5, d6, d7, d8, d9] }
  | _ => none }
def GroupBeginAgreesWrongFalsely : Prop := groupBeginAgreesRow.holds Tryd.pinned (OpenSpec.ofChange groupBeginAgreesWrong)

/-- 'compositorlaw12.GroupValidNeedsEachField': WHATEVER THE INPUT: true; the input reads as it did. -/
def groupValidNeedsEachFieldSpec : ChangeSpec := { name := "groupValidNeedsEachField", fn := fun _ => fun
  | [d1, d2, d3, d4, d5] => { results := [.lit (.bool true)], args := [d1, d2, d3, d4, d5] }
  | _ => none }
def groupValidNeedsEachFieldRow : OpenClaim := { program := "ytfjpilehoeendaadoor", sum := "c113c22c42a80d1d715af84504e6b51d0b068354f7b6981d5b8a7cf3137be625", func := "compositor/compositorlaw12.GroupValidNeedsEachField", spec := "groupValidNeedsEachField", inPlace := ["math/bits.Add64", "math/bits.Sub64"], named := ["compositor/operator.table", "math/bits.divideError", "math/bits.overflowError"], apart := false, laid := [("compositor/operator.table", laid_compositor_operator_table)] }
def GroupValidNeedsEachFieldSaid : Prop := groupValidNeedsEachFieldRow.holds Tryd.pinned (OpenSpec.ofChange groupValidNeedsEachFieldSpec)

/-- ITS FALSE NEIGHBOUR: 'it returns false'. Refute it at one input. -/
def groupValidNeedsEachFieldWrong : ChangeSpec := { name := "groupValidNeedsEachField", fn := fun _ => fun
  | [d1, d2, d3, d4, d5] => { results := [.lit (.bool false)], args := [d1, d2, d3, d4, d5] }
  | _ => none }
def GroupValidNeedsEachFieldWrongFalsely : Prop := groupValidNeedsEachFieldRow.holds Tryd.pinned (OpenSpec.ofChange groupValidNeedsEachFieldWrong)

/-- 'compositorlaw12.GroupStepAgrees': WHATEVER THE INPUT: true; the input reads as it did. -/
def groupStepAgreesSpec : ChangeSpec := { name := "groupStepAgrees", fn := fun _ => fun
  | [d1, d2, d3, d4, d5, d6, d7, d8] => { results := [.lit (.bool true)], args := [d1, d2, d3, d4, d5, d6, d7, d8] }
  | _ => none }
def groupStepAgreesRow : OpenClaim := { program := "ytfjpilehoeendaadoor", sum := "c113c22c42a80d1d715af84504e6b51d0b068354f7b6981d5b8a7cf3137be625", func := "compositor/compositorlaw12.GroupStepAgrees", spec := "groupStepAgrees", inPlace := ["math/bits.Add64", "math/bits.Sub64"], named := ["compositor/operator.table", "math/bits.divideError", "math/bits.overflowError"], apart := false, laid := [("compositor/operator.table", laid_compositor_operator_table)] }
def GroupStepAgreesSaid : Prop := groupStepAgreesRow.holds Tryd.pinned (OpenSpec.ofChange groupStepAgreesSpec)

/-- ITS FALSE NEIGHBOUR: 'it returns false'. Refute it at one input. -/
def groupStepAgreesWrong : ChangeSpec := { name := "groupStepAgrees", fn := fun _ => fun
  | [d1, d2, d3, d4, d5, d6, d7, d8] => { results := [.lit (.bool false)], args := [d1, d2, d3, d4, d5, d6, d7, d8] }
  | _ => none }
def GroupStepAgreesWrongFalsely : Prop := groupStepAgreesRow.holds Tryd.pinned (OpenSpec.ofChange groupStepAgreesWrong)

/-- 'compositorlaw12.GroupRejects': WHATEVER THE INPUT: true; the input reads as it did. -/
def groupRejectsSpec : ChangeSpec := { name := "groupRejects", fn := fun _ => fun
  | [d1, d2, d3, d4, d5, d6, d7, d8, d9] => { results := [.lit (.bool true)], args := [d1, d2, d3, d4, d5, d6, d7, d8, d9] }
  | _ => none }
def groupRejectsRow : OpenClaim := { program := "ytfjpilehoeendaadoor", sum := "c113c22c42a80d1d715af84504e6b51d0b068354f7b6981d5b8a7cf3137be625", func := "compositor/compositorlaw12.GroupRejects", spec := "groupRejects", inPlace := ["math/bits.Add64", "math/bits.Sub64"], named := ["compositor/operator.table", "math/bits.divideError", "math/bits.overflowError"], apart := false, laid := [("compositor/operator.table", laid_compositor_operator_table)] }
def GroupRejectsSaid : Prop := groupRejectsRow.holds Tryd.pinned (OpenSpec.ofChange groupRejectsSpec)

/-- ITS FALSE NEIGHBOUR: 'it returns false'. Refute it at one input. -/
def groupRejectsWrong : ChangeSpec := { name := "groupRejects", fn := fun _ => fun
  | [d1, d2, d3, d4, d5, d6, d7, d8, d9] => { results := [.lit (.bool false)], args := [d1, d2, d3, d4, d5, d6, d7, d8, d9] }
  | _ => none }
def GroupRejectsWrongFalsely : Prop := groupRejectsRow.holds Tryd.pinned (OpenSpec.ofChange groupRejectsWrong)

/-- 'compositorlaw12.GroupResultAgrees': WHATEVER THE INPUT: true; the input reads as it did. -/
def groupResultAgreesSpec : ChangeSpec := { name := "groupResultAgrees", fn := fun _ => fun
  | [d1, d2, d3, d4] => { results := [.lit (.bool true)], args := [d1, d2, d3, d4] }
  | _ => none }
def groupResultAgreesRow : OpenClaim := { program := "ytfjpilehoeendaadoor", sum := "c113c22c42a80d1d715af84504e6b51d0b068354f7b6981d5b8a7cf3137be625", func := "compositor/compositorlaw12.GroupResultAgrees", spec := "groupResultAgrees", inPlace := ["math/bits.Add64", "math/bits.Sub64"], named := ["compositor/operator.table", "math/bits.divideError", "math/bits.overflowError"], apart := false, laid := [("compositor/operator.table", laid_compositor_operator_table)] }
def GroupResultAgreesSaid : Prop := groupResultAgreesRow.holds Tryd.pinned (OpenSpec.ofChange groupResultAgreesSpec)

/-- ITS FALSE NEIGHBOUR: 'it returns false'. Refute it at one input. -/
def groupResultAgreesWrong : ChangeSpec := { name := "groupResultAgrees", fn := fun _ => fun
  | [d1, d2, d3, d4] => { results := [.lit (.bool false)], args := [d1, d2, d3, d4] }
  | _ => none }
def GroupResultAgreesWrongFalsely : Prop := groupResultAgreesRow.holds Tryd.pinned (OpenSpec.ofChange groupResultAgreesWrong)

/-- 'compositorlaw12.GroupStaysValid': WHATEVER THE INPUT: true; the input reads as it did. -/
def groupStaysValidSpec : ChangeSpec := { name := "groupStaysValid", fn := fun _ => fun
  | [d1, d2, d3, d4, d5, d6, d7, d8, d9] => { results := [.lit (.bool true)], args := [d1, d2, d3, d4, d5, d6, d7, d8, d9] }
  | _ => none }
def groupStaysValidRow : OpenClaim := { program := "ytfjpilehoeendaadoor", sum := "c113c22c42a80d1d715af84504e6b51d0b068354f7b6981d5b8a7cf3137be625", func := "compositor/compositorlaw12.GroupStaysValid", spec := "groupStaysValid", inPlace := ["math/bits.Add64", "math/bits.Sub64"], named := ["compositor/operator.table", "math/bits.divideError", "math/bits.overflowError"], apart := false, laid := [("compositor/operator.table", laid_compositor_operator_table)] }
def GroupStaysValidSaid : Prop := groupStaysValidRow.holds Tryd.pinned (OpenSpec.ofChange groupStaysValidSpec)

/-- ITS FALSE NEIGHBOUR: 'it returns false'. Refute it at one input. -/
def groupStaysValidWrong : ChangeSpec := { name := "groupStaysValid", fn := fun _ => fun
  | [d1, d2, d3, d4, d5, d6, d7, d8, d9] => { results := [.lit (.bool false)], args := [d1, d2, d3, d4, d5, d6, d7, d8, d9] }
  | _ => none }
def GroupStaysValidWrongFalsely : Prop := groupStaysValidRow.holds Tryd.pinned (OpenSpec.ofChange groupStaysValidWrong)

/-- 'compositorlaw12.GroupIsolatedIsPlain': WHATEVER THE INPUT: true; the input reads as it did. -/
def groupIsolatedIsPlainSpec : ChangeSpec := { name := "groupIsolatedIsPlain", fn := fun _ => fun
  | [d1, d2, d3, d4] => { results := [.lit (.bool true)], args := [d1, d2, d3, d4] }
  | _ => none }
def groupIsolatedIsPlainRow : OpenClaim := { program := "ytfjpilehoeendaadoor", sum := "c113c22c42a80d1d715af84504e6b51d0b068354f7b6981d5b8a7cf3137be625", func := "compositor/compositorlaw12.GroupIsolatedIsPlain", spec := "groupIsolatedIsPlain", inPlace := ["math/bits.Add64", "math/bits.Sub64"], unfollowed := true, recurses := true, named := ["compositor/operator.table", "math/bits.divideError", "math/bits.overflowError"], apart := false, laid := [("compositor/operator.table", laid_compositor_operator_table)] }
def GroupIsolatedIsPlainSaid : Prop := groupIsolatedIsPlainRow.holds Tryd.pinned (OpenSpec.ofChange groupIsolatedIsPlainSpec)

/-- ITS FALSE NEIGHBOUR: 'it returns false'. Refute it at one input. -/
def groupIsolatedIsPlainWrong : ChangeSpec := { name := "groupIsolatedIsPlain", fn := fun _ => fun
  | [d1, d2, d3, d4] => { results := [.lit (.bool false)], args := [d1, d2, d3, d4] }
  | _ => none }
def GroupIsolatedIsPlainWrongFalsely : Prop := groupIsolatedIsPlainRow.holds Tryd.pinned (OpenSpec.ofChange groupIsolatedIsPlainWrong)

/-- 'compositorlaw12.GroupEmptyIsTransparent': WHATEVER THE INPUT: true; the input reads as it did. -/
def groupEmptyIsTransparentSpec : ChangeSpec := { name := "groupEmptyIsTransparent", fn := fun _ => fun
  | [d1, d2, d3, d4, d5, d6] => { results := [.lit (.bool true)], args := [d1, d2, d3, d4, d5, d6] }
  | _ => none }
def groupEmptyIsTransparentRow : OpenClaim := { program := "ytfjpilehoeendaadoor", sum := "c113c22c42a80d1d715af84504e6b51d0b068354f7b6981d5b8a7cf3137be625", func := "compositor/compositorlaw12.GroupEmptyIsTransparent", spec := "groupEmptyIsTransparent", inPlace := ["math/bits.Add64", "math/bits.Sub64"], named := ["compositor/operator.table", "math/bits.divideError", "math/bits.overflowError"], apart := false, laid := [("compositor/operator.table", laid_compositor_operator_table)] }
def GroupEmptyIsTransparentSaid : Prop := groupEmptyIsTransparentRow.holds Tryd.pinned (OpenSpec.ofChange groupEmptyIsTransparentSpec)

/-- ITS FALSE NEIGHBOUR: 'it returns false'. Refute it at one input. -/
def groupEmptyIsTransparentWrong : ChangeSpec := { name := "groupEmptyIsTransparent", fn := fun _ => fun
  | [d1, d2, d3, d4, d5, d6] => { results := [.lit (.bool false)], args := [d1, d2, d3, d4, d5, d6] }
  | _ => none }
def GroupEmptyIsTransparentWrongFalsely : Prop := groupEmptyIsTransparentRow.holds Tryd.pinned (OpenSpec.ofChange groupEmptyIsTransparentWrong)

/-- 'compositorlaw12.GroupOfOneNormalElement': WHATEVER THE INPUT: true; the input reads as it did. -/
def groupOfOneNormalElementSpec : ChangeSpec := { name := "groupOfOneNormalElement", fn := fun _ => fun
  | [d1, d2, d3, d4, d5, d6, d7, d8] => { results := [.lit (.bool true)], args := [d1, d2, d3, d4, d5, d6, d7, d8] }
  | _ => none }
def groupOfOneNormalElementRow : OpenClaim := { program := "ytfjpilehoeendaadoor", sum := "c113c22c42a80d1d715af84504e6b51d0b068354f7b6981d5b8a7cf3137be625", func := "compositor/compositorlaw12.GroupOfOneNormalElement", spec := "groupOfOneNormalElement", inPlace := ["math/bits.Add64", "math/bits.Sub64"], named := ["compositor/operator.table", "math/bits.divideError", "math/bits.overflowError"], apart := false, laid := [("compositor/operator.table", laid_compositor_operator_table)] }
def GroupOfOneNormalElementSaid : Prop := groupOfOneNormalElementRow.holds Tryd.pinned (OpenSpec.ofChange groupOfOneNormalElementSpec)

/-- ITS FALSE NEIGHBOUR: 'it returns false'. Refute it at one input. -/
def groupOfOneNormalElementWrong : ChangeSpec := { name := "groupOfOneNormalElement", fn := fun _ => fun
  | [d1, d2, d3, d4, d5, d6, d7, d8] => { results := [.lit (.bool false)], args := [d1, d2, d3, d4, d5, d6, d7, d8] }
  | _ => none }
def GroupOfOneNormalElementWrongFalsely : Prop := groupOfOneNormalElementRow.holds Tryd.pinned (OpenSpec.ofChange groupOfOneNormalElementWrong)

/- THE SECOND FORM. 'bulk': how many values and letters a reading holds, each counted each time it is reached (what is shared counts as often as it is met; a slice's spare places count too). A statement '..UptoSaid' is the law's where the arguments, and the package variables that the reading takes, are together of bulk at most 1048576: NARROWER than '..Said'. Prove '..Said' where nothing that the law and all that it calls make is longer than what came in: it says more and counts as full. Else prove '..UptoSaid'. A law counts once. -/
mutual
def uptoBulk {H : Type} : DataW H → Nat
  | .lit (.string bytes) => bytes.length + 1
  | .lit _ => 1
  | .nil => 1
  | .ptr d => uptoBulk d + 1
  | .slice elems spare => uptoBulkAll elems + uptoBulkAll spare + 1
  | .agg parts => uptoBulkAll parts + 1
  | .iface _ d => uptoBulk d + 1
  | .map entries => uptoBulkEntries entries + 1
  | .held _ => 1
def uptoBulkAll {H : Type} : List (DataW H) → Nat
  | [] => 0
  | d :: r => uptoBulk d + uptoBulkAll r
def uptoBulkEntries {H : Type} : List (Lit × DataW H) → Nat
  | [] => 0
  | x :: r => uptoBulkEntry x + uptoBulkEntries r
def uptoBulkEntry {H : Type} : Lit × DataW H → Nat
  | (.string bytes, d) => bytes.length + uptoBulk d + 1
  | (_, d) => uptoBulk d + 1
 end
def uptoSmall : (H : Type) → List (DataW H) → Bool := fun _ ds => decide (uptoBulkAll ds ≤ 1048576)
def OpenSpec.upto (s : _root_.Go.ChangeSpec) : _root_.Go.OpenSpec := { _root_.Go.OpenSpec.ofChange s with cond := some uptoSmall }

/-- 'compositorlaw12.GroupBeginAgrees', WHERE WHAT IT READS IS OF BULK AT MOST 1048576: true; the input reads as it did. -/
def groupBeginAgreesUptoRow : OpenClaim := { program := "ytfjpilehoeendaadoor", sum := "c113c22c42a80d1d715af84504e6b51d0b068354f7b6981d5b8a7cf3137be625", func := "compositor/compositorlaw12.GroupBeginAgrees", spec := "groupBeginAgrees", inPlace := ["math/bits.Add64", "math/bits.Sub64"], named := ["compositor/operator.table", "math/bits.divideError", "math/bits.overflowError"], apart := false, laid := [("compositor/operator.table", laid_compositor_operator_table)], narrowed := true }
def GroupBeginAgreesUptoSaid : Prop := groupBeginAgreesUptoRow.holds Tryd.pinned (OpenSpec.upto groupBeginAgreesSpec)

/-- 'compositorlaw12.GroupValidNeedsEachField', WHERE WHAT IT READS IS OF BULK AT MOST 1048576: true; the input reads as it did. -/
def groupValidNeedsEachFieldUptoRow : OpenClaim := { program := "ytfjpilehoeendaadoor", sum := "c113c22c42a80d1d715af84504e6b51d0b068354f7b6981d5b8a7cf3137be625", func := "compositor/compositorlaw12.GroupValidNeedsEachField", spec := "groupValidNeedsEachField", inPlace := ["math/bits.Add64", "math/bits.Sub64"], named := ["compositor/operator.table", "math/bits.divideError", "math/bits.overflowError"], apart := false, laid := [("compositor/operator.table", laid_compositor_operator_table)], narrowed := true }
def GroupValidNeedsEachFieldUptoSaid : Prop := groupValidNeedsEachFieldUptoRow.holds Tryd.pinned (OpenSpec.upto groupValidNeedsEachFieldSpec)

/-- 'compositorlaw12.GroupStepAgrees', WHERE WHAT IT READS IS OF BULK AT MOST 1048576: true; the input reads as it did. -/
def groupStepAgreesUptoRow : OpenClaim := { program := "ytfjpilehoeendaadoor", sum := "c113c22c42a80d1d715af84504e6b51d0b068354f7b6981d5b8a7cf3137be625", func := "compositor/compositorlaw12.GroupStepAgrees", spec := "groupStepAgrees", inPlace := ["math/bits.Add64", "math/bits.Sub64"], named := ["compositor/operator.table", "math/bits.divideError", "math/bits.overflowError"], apart := false, laid := [("compositor/operator.table", laid_compositor_operator_table)], narrowed := true }
def GroupStepAgreesUptoSaid : Prop := groupStepAgreesUptoRow.holds Tryd.pinned (OpenSpec.upto groupStepAgreesSpec)

/-- 'compositorlaw12.GroupRejects', WHERE WHAT IT READS IS OF BULK AT MOST 1048576: true; the input reads as it did. -/
def groupRejectsUptoRow : OpenClaim := { program := "ytfjpilehoeendaadoor", sum := "c113c22c42a80d1d715af84504e6b51d0b068354f7b6981d5b8a7cf3137be625", func := "compositor/compositorlaw12.GroupRejects", spec := "groupRejects", inPlace := ["math/bits.Add64", "math/bits.Sub64"], named := ["compositor/operator.table", "math/bits.divideError", "math/bits.overflowError"], apart := false, laid := [("compositor/operator.table", laid_compositor_operator_table)], narrowed := true }
def GroupRejectsUptoSaid : Prop := groupRejectsUptoRow.holds Tryd.pinned (OpenSpec.upto groupRejectsSpec)

/-- 'compositorlaw12.GroupResultAgrees', WHERE WHAT IT READS IS OF BULK AT MOST 1048576: true; the input reads as it did. -/
def groupResultAgreesUptoRow : OpenClaim := { program := "ytfjpilehoeendaadoor", sum := "c113c22c42a80d1d715af84504e6b51d0b068354f7b6981d5b8a7cf3137be625", func := "compositor/compositorlaw12.GroupResultAgrees", spec := "groupResultAgrees", inPlace := ["math/bits.Add64", "math/bits.Sub64"], named := ["compositor/operator.table", "math/bits.divideError", "math/bits.overflowError"], apart := false, laid := [("compositor/operator.table", laid_compositor_operator_table)], narrowed := true }
def GroupResultAgreesUptoSaid : Prop := groupResultAgreesUptoRow.holds Tryd.pinned (OpenSpec.upto groupResultAgreesSpec)

/-- 'compositorlaw12.GroupStaysValid', WHERE WHAT IT READS IS OF BULK AT MOST 1048576: true; the input reads as it did. -/
def groupStaysValidUptoRow : OpenClaim := { program := "ytfjpilehoeendaadoor", sum := "c113c22c42a80d1d715af84504e6b51d0b068354f7b6981d5b8a7cf3137be625", func := "compositor/compositorlaw12.GroupStaysValid", spec := "groupStaysValid", inPlace := ["math/bits.Add64", "math/bits.Sub64"], named := ["compositor/operator.table", "math/bits.divideError", "math/bits.overflowError"], apart := false, laid := [("compositor/operator.table", laid_compositor_operator_table)], narrowed := true }
def GroupStaysValidUptoSaid : Prop := groupStaysValidUptoRow.holds Tryd.pinned (OpenSpec.upto groupStaysValidSpec)

/-- 'compositorlaw12.GroupIsolatedIsPlain', WHERE WHAT IT READS IS OF BULK AT MOST 1048576: true; the input reads as it did. -/
def groupIsolatedIsPlainUptoRow : OpenClaim := { program := "ytfjpilehoeendaadoor", sum := "c113c22c42a80d1d715af84504e6b51d0b068354f7b6981d5b8a7cf3137be625", func := "compositor/compositorlaw12.GroupIsolatedIsPlain", spec := "groupIsolatedIsPlain", inPlace := ["math/bits.Add64", "math/bits.Sub64"], unfollowed := true, recurses := true, named := ["compositor/operator.table", "math/bits.divideError", "math/bits.overflowError"], apart := false, laid := [("compositor/operator.table", laid_compositor_operator_table)], narrowed := true }
def GroupIsolatedIsPlainUptoSaid : Prop := groupIsolatedIsPlainUptoRow.holds Tryd.pinned (OpenSpec.upto groupIsolatedIsPlainSpec)

/-- 'compositorlaw12.GroupEmptyIsTransparent', WHERE WHAT IT READS IS OF BULK AT MOST 1048576: true; the input reads as it did. -/
def groupEmptyIsTransparentUptoRow : OpenClaim := { program := "ytfjpilehoeendaadoor", sum := "c113c22c42a80d1d715af84504e6b51d0b068354f7b6981d5b8a7cf3137be625", func := "compositor/compositorlaw12.GroupEmptyIsTransparent", spec := "groupEmptyIsTransparent", inPlace := ["math/bits.Add64", "math/bits.Sub64"], named := ["compositor/operator.table", "math/bits.divideError", "math/bits.overflowError"], apart := false, laid := [("compositor/operator.table", laid_compositor_operator_table)], narrowed := true }
def GroupEmptyIsTransparentUptoSaid : Prop := groupEmptyIsTransparentUptoRow.holds Tryd.pinned (OpenSpec.upto groupEmptyIsTransparentSpec)

/-- 'compositorlaw12.GroupOfOneNormalElement', WHERE WHAT IT READS IS OF BULK AT MOST 1048576: true; the input reads as it did. -/
def groupOfOneNormalElementUptoRow : OpenClaim := { program := "ytfjpilehoeendaadoor", sum := "c113c22c42a80d1d715af84504e6b51d0b068354f7b6981d5b8a7cf3137be625", func := "compositor/compositorlaw12.GroupOfOneNormalElement", spec := "groupOfOneNormalElement", inPlace := ["math/bits.Add64", "math/bits.Sub64"], named := ["compositor/operator.table", "math/bits.divideError", "math/bits.overflowError"], apart := false, laid := [("compositor/operator.table", laid_compositor_operator_table)], narrowed := true }
def GroupOfOneNormalElementUptoSaid : Prop := groupOfOneNormalElementUptoRow.holds Tryd.pinned (OpenSpec.upto groupOfOneNormalElementSpec)

end Rows
end Go.Proofs.YtfjpilehoeendaaDoor
