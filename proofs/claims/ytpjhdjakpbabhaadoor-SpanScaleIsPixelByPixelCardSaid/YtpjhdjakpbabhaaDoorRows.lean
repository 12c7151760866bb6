/-
  NARROWER THAN 'FOR EVERY INPUT', by the rows' own cells (each row's printed sentence says how): SpanClassifyAgrees: laid · SpanScaleIsPixelByPixel: laid.
  DERIVED. THE GIVEN ROWS OF THIS SEAT. 2 by the template 'for every input the law returns true; each argument reads behind the call as it read before'; 0 by the template 'total and deterministic' (their statements: YtpjhdjakpbabhaaDoorTotals.lean).
  GIVEN WITH THE SEED: the statements are not yours to turn. If you find one false, say at which input.
  Laid BY PROGRAM, IN A SANDBOX (cutbox-rows.mjs): the forced cells as the released guide's own fill.sh prints them over the translation 437100d97a2570c8… (all of the seat's roots in one cut). By AI agents, Wed Nov 11 2026. No macro, syntax, notation, axiom, sorry.
-/
import Derived.Test.YtpjhdjakpbabhaaDoorChecked
import GoSem.Claim
import GoSem.ClaimJoined
import GoSem.ClaimMapViews
import Derived.JoinedTies
import Derived.KernelRfl
namespace Go.Proofs.YtpjhdjakpbabhaaDoor
/- THE CELL 'sum', in the pinned program and in every row, IS THE sha256 OF THE DUMP (.gsa) THAT YtpjhdjakpbabhaaDoorProg.lean LOADS. Nothing in Lean hashes anything: it is a label: what it is worth is what the hold of that sum in a sandbox is worth. -/
noncomputable def Tryd.pinned : Pinned := { name := "ytpjhdjakpbabhaadoor", sum := "437100d97a2570c8559b632a4c45b068330c70b422910ef0efc92d61a4d13429", checked := Tryd.checked }
namespace Rows
def none {H : Type} : Left H := { results := [], args := [] }

/- WHAT THE LISTED PACKAGE-LEVEL VARIABLES READ AS WHEN THE CALL BEGINS. Each datum BY PROGRAM (the guide's laid-datum.mjs) off the statement by which the dump's own 'gosem.cut.vars' lays the variable. In a bare row this is a premise. The card (YtpjhdjakpbabhaaDoorCards.lean) ties it to the program's text. -/
def laid_compositor_operator_table {H : Type} : DataW H := .agg [.agg [.lit (.string []), .lit (.int .i64 0), .lit (.int .i64 0), .lit (.int .i64 0), .lit (.bool false), .lit (.bool false)], .agg [.lit (.string [99, 108, 101, 97, 114]), .lit (.int .i64 0), .lit (.int .i64 0), .lit (.int .i64 0), .lit (.bool false), .lit (.bool false)], .agg [.lit (.string [115, 114, 99]), .lit (.int .i64 1), .lit (.int .i64 0), .lit (.int .i64 1), .lit (.bool false), .lit (.bool true)], .agg [.lit (.string [100, 115, 116]), .lit (.int .i64 0), .lit (.int .i64 1), .lit (.int .i64 2), .lit (.bool true), .lit (.bool false)], .agg [.lit (.string [115, 114, 99, 45, 111, 118, 101, 114]), .lit (.int .i64 1), .lit (.int .i64 3), .lit (.int .i64 3), .lit (.bool true), .lit (.bool true)], .agg [.lit (.string [100, 115, 116, 45, 111, 118, 101, 114]), .lit (.int .i64 3), .lit (.int .i64 1), .lit (.int .i64 3), .lit (.bool true), .lit (.bool true)], .agg [.lit (.string [115, 114, 99, 45, 105, 110]), .lit (.int .i64 2), .lit (.int .i64 0), .lit (.int .i64 4), .lit (.bool false), .lit (.bool false)], .agg [.lit (.string [100, 115, 116, 45, 105, 110]), .lit (.int .i64 0), .lit (.int .i64 2), .lit (.int .i64 4), .lit (.bool false), .lit (.bool false)], .agg [.lit (.string [115, 114, 99, 45, 111, 117, 116]), .lit (.int .i64 3), .lit (.int .i64 0), .lit (.int .i64 1), .lit (.bool false), .lit (.bool true)], .agg [.lit (.string [100, 115, 116, 45, 111, 117, 116]), .lit (.int .i64 0), .lit (.int .i64 3), .lit (.int .i64 2), .lit (.bool true), .lit (.bool false)], .agg [.lit (.string [115, 114, 99, 45, 97, 116, 111, 112]), .lit (.int .i64 2), .lit (.int .i64 3), .lit (.int .i64 2), .lit (.bool true), .lit (.bool false)], .agg [.lit (.string [100, 115, 116, 45, 97, 116, 111, 112]), .lit (.int .i64 3), .lit (.int .i64 2), .lit (.int .i64 1), .lit (.bool false), .lit (.bool true)], .agg [.lit (.string [120, 111, 114]), .lit (.int .i64 3), .lit (.int .i64 3), .lit (.int .i64 3), .lit (.bool true), .lit (.bool true)]]

/-- 'compositorlaw16.SpanClassifyAgrees': WHATEVER THE INPUT: true; the input reads as it did. -/
def spanClassifyAgreesSpec : ChangeSpec := { name := "spanClassifyAgrees", fn := fun _ => fun
  | [d1, d2, d3, d4, d5] => { results := [.lit (.bool true)], args := [d1, d2, d3, d4, d5] }
  | _ => none }
def spanClassifyAgreesRow : OpenClaim := { program := "ytpjhdjakpbabhaadoor", sum := "437100d97a2570c8559b632a4c45b068330c70b422910ef0efc92d61a4d13429", func := "compositor/compositorlaw16.SpanClassifyAgrees", spec := "spanClassifyAgrees", inPlace := ["math/bits.Add64", "math/bits.Sub64"], unfollowed := true, recurses := true, named := ["compositor/operator.table", "math/bits.divideError", "math/bits.overflowError"], apart := false, laid := [("compositor/operator.table", laid_compositor_operator_table)] }
def SpanClassifyAgreesSaid : Prop := spanClassifyAgreesRow.holds Tryd.pinned (OpenSpec.ofChange spanClassifyAgreesSpec)

/-- ITS FALSE NEIGHBOUR: 'it returns false'. Refute it at one input. -/
def spanClassifyAgreesWrong : ChangeSpec := { name := "spanClassifyAgrees", fn := fun _ => fun
  | [d1, d2, d3, d4, d5] => { results := [.lit (.bool false)], args := [d1, d2, d3, d4, d5] }
  | _ => none }
def SpanClassifyAgreesWrongFalsely : Prop := spanClassifyAgreesRow.holds Tryd.pinned (OpenSpec.ofChange spanClassifyAgreesWrong)

/-- 'compositorlaw16.SpanScaleIsPixelByPixel': WHATEVER THE INPUT: true; the input reads as it did. -/
def spanScaleIsPixelByPixelSpec : ChangeSpec := { name := "spanScaleIsPixelByPixel", fn := fun _ => fun
  | [d1, d2, d3, d4, d5, d6] => { results := [.lit (.bool true)], args := [d1, d2, d3, d4, d5, d6] }
  | _ => none }
def spanScaleIsPixelByPixelRow : OpenClaim := { program := "ytpjhdjakpbabhaadoor", sum := "437100d97a2570c8559b632a4c45b068330c70b422910ef0efc92d61a4d13429", func := "compositor/compositorlaw16.SpanScaleIsPixelByPixel", spec := "spanScaleIsPixelByPixel", inPlace := ["math/bits.Add64", "math/bits.Sub64"], unfollowed := true, recurses := true, named := ["compositor/operator.table", "math/bits.divideError", "math/bits.overflowError"], apart := false, laid := [("compositor/operator.table", laid_compositor_operator_table)] }
def SpanScaleIsPixelByPixelSaid : Prop := spanScaleIsPixelByPixelRow.holds Tryd.pinned (OpenSpec.ofChange spanScaleIsPixelByPixelSpec)

/-- ITS FALSE NEIGHBOUR: 'it returns false'. Refute it at one input. -/
def spanScaleIsPixelByPixelWrong : ChangeSpec := { name := "spanScaleIsPixelByPixel", fn := fun _ => fun
  | [d1, d2, d3, d4, d5, d6] => { results := [.lit (.bool false)], args := [d1, d2, d3, d4, d5, d6] }
  | _ => none }
def SpanScaleIsPixelByPixelWrongFalsely : Prop := spanScaleIsPixelByPixelRow.holds Tryd.pinned (OpenSpec.ofChange spanScaleIsPixelByPixelWrong)

/- THE SECOND FORM. 'bulk': how many values and letters a reading holds, each counted each time it is reached (what is shared counts as often as it is met; a slice's spare places count too). A statement '..UptoSaid' is the law's where the arguments, and the package variables that the reading takes, are together of bulk at most 1048576: NARROWER than '..Said'. Prove '..Said' where nothing that the law and all that it calls make is longer than what came in: it says more and counts as full. Else prove '..UptoSaid'. A law counts once. -/
mutual
def uptoBulk {H : Type} : DataW H → Nat
  | .lit (.string bytes) => bytes.length + 1
  | .lit _ => 1
  | .nil => 1
  | .ptr d => uptoBulk d + 1
  | .slice elems spare => uptoBulkAll elems + uptoBulkAll spare + 1
  | .agg parts => uptoBulkAll parts + 1
  | .iface _ d => uptoBulk d + 1
  | .map entries => uptoBulkEntries entries + 1
  | .held _ => 1
def uptoBulkAll {H : Type} : List (DataW H) → Nat
  | [] => 0
  | d :: r => uptoBulk d + uptoBulkAll r
def uptoBulkEntries {H : Type} : List (Lit × DataW H) → Nat
  | [] => 0
  | x :: r => uptoBulkEntry x + uptoBulkEntries r
def uptoBulkEntry {H : Type} : Lit × DataW H → Nat
  | (.string bytes, d) => bytes.length + uptoBulk d + 1
  | (_, d) => uptoBulk d + 1
 end
def uptoSmall : (H : Type) → List (DataW H) → Bool := fun _ ds => decide (uptoBulkAll ds ≤ 1048576)
def OpenSpec.upto (s : _root_.Go.ChangeSpec) : _root_.Go.OpenSpec := { _root_.Go.OpenSpec.ofChange s with cond := some uptoSmall }

/-- 'compositorlaw16.SpanClassifyAgrees', WHERE WHAT IT READS IS OF BULK AT MOST 1048576: true; the input reads as it did. -/
def spanClassifyAgreesUptoRow : OpenClaim := { program := "ytpjhdjakpbabhaadoor", sum := "437100d97a2570c8559b632a4c45b068330c70b422910ef0efc92d61a4d13429", func := "compositor/compositorlaw16.SpanClassifyAgrees", spec := "spanClassifyAgrees", inPlace := ["math/bits.Add64", "math/bits.Sub64"], unfollowed := true, recurses := true, named := ["compositor/operator.table", "math/bits.divideError", "math/bits.overflowError"], apart := false, laid := [("compositor/operator.table", laid_compositor_operator_table)], narrowed := true }
def SpanClassifyAgreesUptoSaid : Prop := spanClassifyAgreesUptoRow.holds Tryd.pinned (OpenSpec.upto spanClassifyAgreesSpec)

/-- 'compositorlaw16.SpanScaleIsPixelByPixel', WHERE WHAT IT READS IS OF BULK AT MOST 1048576: true; the input reads as it did. -/
def spanScaleIsPixelByPixelUptoRow : OpenClaim := { program := "ytpjhdjakpbabhaadoor", sum := "437100d97a2570c8559b632a4c45b068330c70b422910ef0efc92d61a4d13429", func := "compositor/compositorlaw16.SpanScaleIsPixelByPixel", spec := "spanScaleIsPixelByPixel", inPlace := ["math/bits.Add64", "math/bits.Sub64"], unfollowed := true, recurses := true, named := ["compositor/operator.table", "math/bits.divideError", "math/bits.overflowError"], apart := false, laid := [("compositor/operator.table", laid_compositor_operator_table)], narrowed := true }
def SpanScaleIsPixelByPixelUptoSaid : Prop := spanScaleIsPixelByPixelUptoRow.holds Tryd.pinned (OpenSpec.upto spanScaleIsPixelByPixelSpec)

end Rows
end Go.Proofs.YtpjhdjakpbabhaaDoor
