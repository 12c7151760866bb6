/-
  No cell of these rows narrows 'for every input' (looked for: loops, veiled, ifaces, maps, wideKeys, modest, calm, conditions, laid).
  DERIVED. THE GIVEN ROWS OF THIS SEAT. 4 by the template 'for every input the law returns true; each argument reads behind the call as it read before'; 0 by the template 'total and deterministic' (their statements: YtdcjengjiiiccaaTotals.lean).
  GIVEN WITH THE SEED: the statements are not yours to turn. If you find one false, say at which input.
  Laid BY PROGRAM, IN A SANDBOX (cutbox-rows.mjs): the forced cells as the released guide's own fill.sh prints them over the translation d456bed134ff625d… (all of the seat's roots in one cut). By AI agents, Wed Nov 11 2026. No macro, syntax, notation, axiom, sorry.
-/
import Derived.Test.YtdcjengjiiiccaaChecked
import GoSem.Claim
import GoSem.ClaimJoined
import GoSem.ClaimMapViews
import Derived.JoinedTies
import Derived.KernelRfl
namespace Go.Proofs.Ytdcjengjiiiccaa
/- THE CELL 'sum', in the pinned program and in every row, IS THE sha256 OF THE DUMP (.gsa) THAT YtdcjengjiiiccaaProg.lean LOADS. Nothing in Lean hashes anything: it is a label: what it is worth is what the hold of that sum in a sandbox is worth. -/
noncomputable def Try.pinned : Pinned := { name := "ytdcjengjiiiccaa", sum := "d456bed134ff625d6dfad82b8d594b10fd7d28c72cccc67b139e1209ff770894", checked := Try.checked }
namespace Rows
def none {H : Type} : Left H := { results := [], args := [] }

/-- 'compositorlaw11.ScaleAgrees': WHATEVER THE INPUT: true; the input reads as it did. -/
def scaleAgreesSpec : ChangeSpec := { name := "scaleAgrees", fn := fun _ => fun
  | [d1, d2, d3, d4, d5, d6, d7, d8] => { results := [.lit (.bool true)], args := [d1, d2, d3, d4, d5, d6, d7, d8] }
  | _ => none }
def scaleAgreesRow : OpenClaim := { program := "ytdcjengjiiiccaa", sum := "d456bed134ff625d6dfad82b8d594b10fd7d28c72cccc67b139e1209ff770894", func := "compositor/compositorlaw11.ScaleAgrees", spec := "scaleAgrees", apart := false }
def ScaleAgreesSaid : Prop := scaleAgreesRow.holds Try.pinned (OpenSpec.ofChange scaleAgreesSpec)

/-- ITS FALSE NEIGHBOUR: 'it returns false'. Refute it at one input. -/
def scaleAgreesWrong : ChangeSpec := { name := "scaleAgrees", fn := fun _ => fun
  | [d1, d2, d3, d4, d5, d6, d7, d8] => { results := [.lit (.bool false)], args := [d1, d2, d3, d4, d5, d6, d7, d8] }
  | _ => none }
def ScaleAgreesWrongFalsely : Prop := scaleAgreesRow.holds Try.pinned (OpenSpec.ofChange scaleAgreesWrong)

/-- 'compositorlaw11.ScaleStaysValid': WHATEVER THE INPUT: true; the input reads as it did. -/
def scaleStaysValidSpec : ChangeSpec := { name := "scaleStaysValid", fn := fun _ => fun
  | [d1, d2, d3, d4] => { results := [.lit (.bool true)], args := [d1, d2, d3, d4] }
  | _ => none }
def scaleStaysValidRow : OpenClaim := { program := "ytdcjengjiiiccaa", sum := "d456bed134ff625d6dfad82b8d594b10fd7d28c72cccc67b139e1209ff770894", func := "compositor/compositorlaw11.ScaleStaysValid", spec := "scaleStaysValid", apart := false }
def ScaleStaysValidSaid : Prop := scaleStaysValidRow.holds Try.pinned (OpenSpec.ofChange scaleStaysValidSpec)

/-- ITS FALSE NEIGHBOUR: 'it returns false'. Refute it at one input. -/
def scaleStaysValidWrong : ChangeSpec := { name := "scaleStaysValid", fn := fun _ => fun
  | [d1, d2, d3, d4] => { results := [.lit (.bool false)], args := [d1, d2, d3, d4] }
  | _ => none }
def ScaleStaysValidWrongFalsely : Prop := scaleStaysValidRow.holds Try.pinned (OpenSpec.ofChange scaleStaysValidWrong)

/-- 'compositorlaw11.ScaleIsMonotone': WHATEVER THE INPUT: true; the input reads as it did. -/
def scaleIsMonotoneSpec : ChangeSpec := { name := "scaleIsMonotone", fn := fun _ => fun
  | [d1, d2, d3, d4] => { results := [.lit (.bool true)], args := [d1, d2, d3, d4] }
  | _ => none }
def scaleIsMonotoneRow : OpenClaim := { program := "ytdcjengjiiiccaa", sum := "d456bed134ff625d6dfad82b8d594b10fd7d28c72cccc67b139e1209ff770894", func := "compositor/compositorlaw11.ScaleIsMonotone", spec := "scaleIsMonotone", apart := false }
def ScaleIsMonotoneSaid : Prop := scaleIsMonotoneRow.holds Try.pinned (OpenSpec.ofChange scaleIsMonotoneSpec)

/-- ITS FALSE NEIGHBOUR: 'it returns false'. Refute it at one input. -/
def scaleIsMonotoneWrong : ChangeSpec := { name := "scaleIsMonotone", fn := fun _ => fun
  | [d1, d2, d3, d4] => { results := [.lit (.bool false)], args := [d1, d2, d3, d4] }
  | _ => none }
def ScaleIsMonotoneWrongFalsely : Prop := scaleIsMonotoneRow.holds Try.pinned (OpenSpec.ofChange scaleIsMonotoneWrong)

/-- 'compositorlaw11.ScaleTwice': WHATEVER THE INPUT: true; the input reads as it did. -/
def scaleTwiceSpec : ChangeSpec := { name := "scaleTwice", fn := fun _ => fun
  | [d1, d2, d3, d4] => { results := [.lit (.bool true)], args := [d1, d2, d3, d4] }
  | _ => none }
def scaleTwiceRow : OpenClaim := { program := "ytdcjengjiiiccaa", sum := "d456bed134ff625d6dfad82b8d594b10fd7d28c72cccc67b139e1209ff770894", func := "compositor/compositorlaw11.ScaleTwice", spec := "scaleTwice", apart := false }
def ScaleTwiceSaid : Prop := scaleTwiceRow.holds Try.pinned (OpenSpec.ofChange scaleTwiceSpec)

/-- ITS FALSE NEIGHBOUR: 'it returns false'. Refute it at one input. -/
def scaleTwiceWrong : ChangeSpec := { name := "scaleTwice", fn := fun _ => fun
  | [d1, d2, d3, d4] => { results := [.lit (.bool false)], args := [d1, d2, d3, d4] }
  | _ => none }
def ScaleTwiceWrongFalsely : Prop := scaleTwiceRow.holds Try.pinned (OpenSpec.ofChange scaleTwiceWrong)

/- THE SECOND FORM. 'bulk': how many values and letters a reading holds, each counted each time it is reached (what is shared counts as often as it is met; a slice's spare places count too). A statement '..UptoSaid' is the law's where the arguments, and the package variables that the reading takes, are together of bulk at most 1048576: NARROWER than '..Said'. Prove '..Said' where nothing that the law and all that it calls make is longer than what came in: it says more and counts as full. Else prove '..UptoSaid'. A law counts once. -/
mutual
def uptoBulk {H : Type} : DataW H → Nat
  | .lit (.string bytes) => bytes.length + 1
  | .lit _ => 1
  | .nil => 1
  | .ptr d => uptoBulk d + 1
  | .slice elems spare => uptoBulkAll elems + uptoBulkAll spare + 1
  | .agg parts => uptoBulkAll parts + 1
  | .iface _ d => uptoBulk d + 1
  | .map entries => uptoBulkEntries entries + 1
  | .held _ => 1
def uptoBulkAll {H : Type} : List (DataW H) → Nat
  | [] => 0
  | d :: r => uptoBulk d + uptoBulkAll r
def uptoBulkEntries {H : Type} : List (Lit × DataW H) → Nat
  | [] => 0
  | x :: r => uptoBulkEntry x + uptoBulkEntries r
def uptoBulkEntry {H : Type} : Lit × DataW H → Nat
  | (.string bytes, d) => bytes.length + uptoBulk d + 1
  | (_, d) => uptoBulk d + 1
 end
def uptoSmall : (H : Type) → List (DataW H) → Bool := fun _ ds => decide (uptoBulkAll ds ≤ 1048576)
def OpenSpec.upto (s : _root_.Go.ChangeSpec) : _root_.Go.OpenSpec := { _root_.Go.OpenSpec.ofChange s with cond := some uptoSmall }

/-- 'compositorlaw11.ScaleAgrees', WHERE WHAT IT READS IS OF BULK AT MOST 1048576: true; the input reads as it did. -/
def scaleAgreesUptoRow : OpenClaim := { program := "ytdcjengjiiiccaa", sum := "d456bed134ff625d6dfad82b8d594b10fd7d28c72cccc67b139e1209ff770894", func := "compositor/compositorlaw11.ScaleAgrees", spec := "scaleAgrees", apart := false, narrowed := true }
def ScaleAgreesUptoSaid : Prop := scaleAgreesUptoRow.holds Try.pinned (OpenSpec.upto scaleAgreesSpec)

/-- 'compositorlaw11.ScaleStaysValid', WHERE WHAT IT READS IS OF BULK AT MOST 1048576: true; the input reads as it did. -/
def scaleStaysValidUptoRow : OpenClaim := { program := "ytdcjengjiiiccaa", sum := "d456bed134ff625d6dfad82b8d594b10fd7d28c72cccc67b139e1209ff770894", func := "compositor/compositorlaw11.ScaleStaysValid", spec := "scaleStaysValid", apart := false, narrowed := true }
def ScaleStaysValidUptoSaid : Prop := scaleStaysValidUptoRow.holds Try.pinned (OpenSpec.upto scaleStaysValidSpec)

/-- 'compositorlaw11.ScaleIsMonotone', WHERE WHAT IT READS IS OF BULK AT MOST 1048576: true; the input reads as it did. -/
def scaleIsMonotoneUptoRow : OpenClaim := { program := "ytdcjengjiiiccaa", sum := "d456bed134ff625d6dfad82b8d594b10fd7d28c72cccc67b139e1209ff770894", func := "compositor/compositorlaw11.ScaleIsMonotone", spec := "scaleIsMonotone", apart := false, narrowed := true }
def ScaleIsMonotoneUptoSaid : Prop := scaleIsMonotoneUptoRow.holds Try.pinned (OpenSpec.upto scaleIsMonotoneSpec)

/-- 'compositorlaw11.ScaleTwice', WHERE WHAT IT READS IS OF BULK AT MOST 1048576: true; the input reads as it did. -/
def scaleTwiceUptoRow : OpenClaim := { program := "ytdcjengjiiiccaa", sum := "d456bed134ff625d6dfad82b8d594b10fd7d28c72cccc67b139e1209ff770894", func := "compositor/compositorlaw11.ScaleTwice", spec := "scaleTwice", apart := false, narrowed := true }
def ScaleTwiceUptoSaid : Prop := scaleTwiceUptoRow.holds Try.pinned (OpenSpec.upto scaleTwiceSpec)

end Rows
end Go.Proofs.Ytdcjengjiiiccaa
