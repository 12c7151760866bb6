/-
  NARROWER THAN 'FOR EVERY INPUT', by the rows' own cells (each row's printed sentence says how): KnockoutOfTheFirst: laid · KnockoutKeepsOrder: laid.
  DERIVED. THE GIVEN ROWS OF THIS SEAT. 2 by the template 'for every input the law returns true; each argument reads behind the call as it read before'; 0 by the template 'total and deterministic' (their statements: YtoofajneoefpjaaDoorTotals.lean).
  GIVEN WITH THE SEED: the statements are not yours to turn. If you find one false, say at which input.
  Laid BY PROGRAM, IN A SANDBOX (cutbox-rows.mjs): the forced cells as the released guide's own fill.sh prints them over the translation fd281e75fd794807… (all of the seat's roots in one cut). By AI agents, Wed Nov 11 2026. No macro, syntax, notation, axiom, sorry.
-/
import Derived.Test.YtoofajneoefpjaaDoorChecked
import GoSem.Claim
import GoSem.ClaimJoined
import GoSem.ClaimMapViews
import Derived.JoinedTies
import Derived.KernelRfl
namespace Go.Proofs.YtoofajneoefpjaaDoor
/- THE CELL 'sum', in the pinned program and in every row, IS THE sha256 OF THE DUMP (.gsa) THAT YtoofajneoefpjaaDoorProg.lean LOADS. Nothing in Lean hashes anything: it is a label: what it is worth is what the hold of that sum in a sandbox is worth. -/
noncomputable def Tryd.pinned : Pinned := { name := "ytoofajneoefpjaadoor", sum := "fd281e75fd79480784b9a355b458434838242a9565a3764db731901466cf54c8", checked := Tryd.checked }
namespace Rows
def none {H : Type} : Left H := { results := [], args := [] }

/- WHAT THE LISTED PACKAGE-LEVEL VARIABLES READ AS WHEN THE CALL BEGINS. Each datum BY PROGRAM (the guide's laid-datum.mjs) off the statement by which the dump's own 'gosem.cut.vars' lays the variable. In a bare row this is a premise. The card (YtoofajneoefpjaaDoorCards.lean) ties it to the program's text. -/
def laid_compositor_operator_table {H : Type} : DataW H := .agg [.agg [.lit (.string []), .lit (.int .i64 0), .lit (.int .i64 0), .lit (.int .i64 0), .lit (.bool false), .lit (.bool false)], .agg [.lit (.string [99, 108, 101, 97, 114]), .lit (.int .i64 0), .lit (.int .i64 0), .lit (.int .i64 0), .lit (.bool false), .lit (.bool false)], .agg [.lit (.string [115, 114, 99]), .lit (.int .i64 1), .lit (.int .i64 0), .lit (.int .i64 1), .lit (.bool false), .lit (.bool true)], .agg [.lit (.string [100, 115, 116]), .lit (.int .i64 0), .lit (.int .i64 1), .lit (.int .i64 2), .lit (.bool true), .lit (.bool false)], .agg [.lit (.string [115, 114, 99, 45, 111, 118, 101, 114]), .lit (.int .i64 1), .lit (.int .i64 3), .lit (.int .i64 3), .lit (.bool true), .lit (.bool true)], .agg [.lit (.string [100, 115, 116, 45, 111, 118, 101, 114]), .lit (.int .i64 3), .lit (.int .i64 1), .lit (.int .i64 3), .lit (.bool true), .lit (.bool true)], .agg [.lit (.string [115, 114, 99, 45, 105, 110]), .lit (.int .i64 2), .lit (.int .i64 0), .lit (.int .i64 4), .lit (.bool false), .lit (.bool false)], .agg [.lit (.string [100, 115, 116, 45, 105, 110]), .lit (.int .i64 0), .lit (.int .i64 2), .lit (.int .i64 4), .lit (.bool false), .lit (.bool false)], .agg [.lit (.string [115, 114, 99, 45, 111, 117, 116]), .lit (.int .i64 3), .lit (.int .i64 0), .lit (.int .i64 1), .lit (.bool false), .lit (.bool true)], .agg [.lit (.string [100, 115, 116, 45, 111, 117, 116]), .lit (.int .i64 0), .lit (.int .i64 3), .lit (.int .i64 2), .lit (.bool true), .lit (.bool false)], .agg [.lit (.string [115, 114, 99, 45, 97, 116, 111, 112]), .lit (.int .i64 2), .lit (.int .i64 3), .lit (.int .i64 2), .lit (.bool true), .lit (.bool false)], .agg [.lit (.string [100, 115, 116, 45, 97, 116, 111, 112]), .lit (.int .i64 3), .lit (.int .i64 2), .lit (.int .i64 1), .lit (.bool false), .lit (.bool true)], .agg [.lit (.string [120, 111, 114]), .lit (.int .i64 3), .lit (.int .i64 3), .lit (.int .i64 3), .lit (.bool true), .lit (.bool true)]]

/-- 'compositorlaw10.KnockoutOfTheFirst': WHATEVER THE INPUT: true; the input reads as it did. -/
def knockoutOfTheFirstSpec : ChangeSpec := { name := "knockoutOfTheFirst", fn := fun _ => fun
  | [d1, d2, d3, d4] => { results := [.lit (.bool true)], args := [d1, d2, d3, d4] }
  | _ => none }
def knockoutOfTheFirstRow : OpenClaim := { program := "ytoofajneoefpjaadoor", sum := "fd281e75fd79480784b9a355b458434838242a9565a3764db731901466cf54c8", func := "compositor/compositorlaw10.KnockoutOfTheFirst", spec := "knockoutOfTheFirst", inPlace := ["math/bits.Add64", "math/bits.Sub64"], named := ["math/bits.divideError", "math/bits.overflowError", "compositor/operator.table"], apart := false, laid := [("compositor/operator.table", laid_compositor_operator_table)] }
def KnockoutOfTheFirstSaid : Prop := knockoutOfTheFirstRow.holds Tryd.pinned (OpenSpec.ofChange knockoutOfTheFirstSpec)

/-- ITS FALSE NEIGHBOUR: 'it returns false'. Refute it at one input. -/
def knockoutOfTheFirstWrong : ChangeSpec := { name := "knockoutOfTheFirst", fn := fun _ => fun
  | [d1, d2, d3, d4] => { results := [.lit (.bool false)], args := [d1, d2, d3, d4] }
  | _ => none }
def KnockoutOfTheFirstWrongFalsely : Prop := knockoutOfTheFirstRow.holds Tryd.pinned (OpenSpec.ofChange knockoutOfTheFirstWrong)

/-- 'compositorlaw10.KnockoutKeepsOrder': WHATEVER THE INPUT: true; the input reads as it did. -/
def knockoutKeepsOrderSpec : ChangeSpec := { name := "knockoutKeepsOrder", fn := fun _ => fun
  | [d1, d2, d3, d4, d5] => { results := [.lit (.bool true)], args := [d1, d2, d3, d4, d5] }
  | _ => none }
def knockoutKeepsOrderRow : OpenClaim := { program := "ytoofajneoefpjaadoor", sum := "fd281e75fd79480784b9a355b458434838242a9565a3764db731901466cf54c8", func := "compositor/compositorlaw10.KnockoutKeepsOrder", spec := "knockoutKeepsOrder", inPlace := ["math/bits.Add64", "math/bits.Sub64"], named := ["math/bits.divideError", "math/bits.overflowError", "compositor/operator.table"], apart := false, laid := [("compositor/operator.table", laid_compositor_operator_table)] }
def KnockoutKeepsOrderSaid : Prop := knockoutKeepsOrderRow.holds Tryd.pinned (OpenSpec.ofChange knockoutKeepsOrderSpec)

/-- ITS FALSE NEIGHBOUR: 'it returns false'. Refute it at one input. -/
def knockoutKeepsOrderWrong : ChangeSpec := { name := "knockoutKeepsOrder", fn := fun _ => fun
  | [d1, d2, d3, d4, d5] => { results := [.lit (.bool false)], args := [d1, d2, d3, d4, d5] }
  | _ => none }
def KnockoutKeepsOrderWrongFalsely : Prop := knockoutKeepsOrderRow.holds Tryd.pinned (OpenSpec.ofChange knockoutKeepsOrderWrong)

/- THE SECOND FORM. 'bulk': how many values and letters a reading holds, each counted each time it is reached (what is shared counts as often as it is met; a slice's spare places count too). A statement '..UptoSaid' is the law's where the arguments, and the package variables that the reading takes, are together of bulk at most 1048576: NARROWER than '..Said'. Prove '..Said' where nothing that the law and all that it calls make is longer than what came in: it says more and counts as full. Else prove '..UptoSaid'. A law counts once. -/
mutual
def uptoBulk {H : Type} : DataW H → Nat
  | .lit (.string bytes) => bytes.length + 1
  | .lit _ => 1
  | .nil => 1
  | .ptr d => uptoBulk d + 1
  | .slice elems spare => uptoBulkAll elems + uptoBulkAll spare + 1
  | .agg parts => uptoBulkAll parts + 1
  | .iface _ d => uptoBulk d + 1
  | .map entries => uptoBulkEntries entries + 1
  | .held _ => 1
def uptoBulkAll {H : Type} : List (DataW H) → Nat
  | [] => 0
  | d :: r => uptoBulk d + uptoBulkAll r
def uptoBulkEntries {H : Type} : List (Lit × DataW H) → Nat
  | [] => 0
  | x :: r => uptoBulkEntry x + uptoBulkEntries r
def uptoBulkEntry {H : Type} : Lit × DataW H → Nat
  | (.string bytes, d) => bytes.length + uptoBulk d + 1
  | (_, d) => uptoBulk d + 1
 end
def uptoSmall : (H : Type) → List (DataW H) → Bool := fun _ ds => decide (uptoBulkAll ds ≤ 1048576)
def OpenSpec.upto (s : _root_.Go.ChangeSpec) : _root_.Go.OpenSpec := { _root_.Go.OpenSpec.ofChange s with cond := some uptoSmall }

/-- 'compositorlaw10.KnockoutOfTheFirst', WHERE WHAT IT READS IS OF BULK AT MOST 1048576: true; the input reads as it did. -/
def knockoutOfTheFirstUptoRow : OpenClaim := { program := "ytoofajneoefpjaadoor", sum := "fd281e75fd79480784b9a355b458434838242a9565a3764db731901466cf54c8", func := "compositor/compositorlaw10.KnockoutOfTheFirst", spec := "knockoutOfTheFirst", inPlace := ["math/bits.Add64", "math/bits.Sub64"], named := ["math/bits.divideError", "math/bits.overflowError", "compositor/operator.table"], apart := false, laid := [("compositor/operator.table", laid_compositor_operator_table)], narrowed := true }
def KnockoutOfTheFirstUptoSaid : Prop := knockoutOfTheFirstUptoRow.holds Tryd.pinned (OpenSpec.upto knockoutOfTheFirstSpec)

/-- 'compositorlaw10.KnockoutKeepsOrder', WHERE WHAT IT READS IS OF BULK AT MOST 1048576: true; the input reads as it did. -/
def knockoutKeepsOrderUptoRow : OpenClaim := { program := "ytoofajneoefpjaadoor", sum := "fd281e75fd79480784b9a355b458434838242a9565a3764db731901466cf54c8", func := "compositor/compositorlaw10.KnockoutKeepsOrder", spec := "knockoutKeepsOrder", inPlace := ["math/bits.Add64", "math/bits.Sub64"], named := ["math/bits.divideError", "math/bits.overflowError", "compositor/operator.table"], apart := false, laid := [("compositor/operator.table", laid_compositor_operator_table)], narrowed := true }
def KnockoutKeepsOrderUptoSaid : Prop := knockoutKeepsOrderUptoRow.holds Tryd.pinned (OpenSpec.upto knockoutKeepsOrderSpec)

end Rows
end Go.Proofs.YtoofajneoefpjaaDoor
