/-
  No cell of these rows narrows 'for every input' (looked for: loops, veiled, ifaces, maps, wideKeys, modest, calm, conditions, laid).
  DERIVED. THE GIVEN ROWS OF THIS SEAT. 5 by the template 'for every input the law returns true; each argument reads behind the call as it read before'; 0 by the template 'total and deterministic' (their statements: YtjieldpnnopljaaTotals.lean).
  GIVEN WITH THE SEED: the statements are not yours to turn. If you find one false, say at which input.
  Laid BY PROGRAM, IN A SANDBOX (cutbox-rows.mjs): the forced cells as the released guide's own fill.sh prints them over the translation 913543621bb1b7c9… (all of the seat's roots in one cut). By AI agents, Wed Nov 11 2026. No macro, syntax, notation, axiom, sorry.
-/
import Derived.Test.YtjieldpnnopljaaChecked
import GoSem.Claim
import GoSem.ClaimJoined
import GoSem.ClaimMapViews
import Derived.JoinedTies
import Derived.KernelRfl
namespace Go.Proofs.Ytjieldpnnopljaa
/- THE CELL 'sum', in the pinned program and in every row, IS THE sha256 OF THE DUMP (.gsa) THAT YtjieldpnnopljaaProg.lean LOADS. Nothing in Lean hashes anything: it is a label: what it is worth is what the hold of that sum in a sandbox is worth. -/
noncomputable def Try.pinned : Pinned := { name := "ytjieldpnnopljaa", sum := "913543621bb1b7c93c12dea18dcdc4e016f003b253a4ca0b3bb3ebc071582aea", checked := Try.checked }
namespace Rows
def none {H : Type} : Left H := { results := [], args := [] }

/-- 'compositorlaw14.PlaneValidAgrees': WHATEVER THE INPUT: true; the input reads as it did. -/
def planeValidAgreesSpec : ChangeSpec := { name := "planeValidAgrees", fn := fun _ => fun
  | [d1, d2, d3, d4, d5, d6, d7] => { results := [.lit (.bool true)], args := [d1, d2, d3, d4, d5, d6, d7] }
  | _ => none }
def planeValidAgreesRow : OpenClaim := { program := "ytjieldpnnopljaa", sum := "913543621bb1b7c93c12dea18dcdc4e016f003b253a4ca0b3bb3ebc071582aea", func := "compositor/compositorlaw14.PlaneValidAgrees", spec := "planeValidAgrees", apart := false }
def PlaneValidAgreesSaid : Prop := planeValidAgreesRow.holds Try.pinned (OpenSpec.ofChange planeValidAgreesSpec)

/-- ITS FALSE NEIGHBOUR: 'it returns false'. Refute it at one input. -/
def planeValidAgreesWrong : ChangeSpec := { name := "planeValidAgrees", fn := fun _ => fun
  | [d1, d2, d3, d4, d5, d6, d7] => { results := [.lit (.bool false)], args := [d1, d2, d3, d4, d5, d6, d7] }
  | _ => none }
def PlaneValidAgreesWrongFalsely : Prop := planeValidAgreesRow.holds Try.pinned (OpenSpec.ofChange planeValidAgreesWrong)

/-- 'compositorlaw14.PlaneNewRejects': WHATEVER THE INPUT: true; the input reads as it did. -/
def planeNewRejectsSpec : ChangeSpec := { name := "planeNewRejects", fn := fun _ => fun
  | [d] => { results := [.lit (.bool true)], args := [d] }
  | _ => none }
def planeNewRejectsRow : OpenClaim := { program := "ytjieldpnnopljaa", sum := "913543621bb1b7c93c12dea18dcdc4e016f003b253a4ca0b3bb3ebc071582aea", func := "compositor/compositorlaw14.PlaneNewRejects", spec := "planeNewRejects", apart := false }
def PlaneNewRejectsSaid : Prop := planeNewRejectsRow.holds Try.pinned (OpenSpec.ofChange planeNewRejectsSpec)

/-- ITS FALSE NEIGHBOUR: 'it returns false'. Refute it at one input. -/
def planeNewRejectsWrong : ChangeSpec := { name := "planeNewRejects", fn := fun _ => fun
  | [d] => { results := [.lit (.bool false)], args := [d] }
  | _ => none }
def PlaneNewRejectsWrongFalsely : Prop := planeNewRejectsRow.holds Try.pinned (OpenSpec.ofChange planeNewRejectsWrong)

/-- 'compositorlaw14.PlaneReadsAndWrites': WHATEVER THE INPUT: true; the input reads as it did. -/
def planeReadsAndWritesSpec : ChangeSpec := { name := "planeReadsAndWrites", fn := fun _ => fun
  | [d1, d2, d3, d4, d5, d6] => { results := [.lit (.bool true)], args := [d1, d2, d3, d4, d5, d6] }
  | _ => none }
def planeReadsAndWritesRow : OpenClaim := { program := "ytjieldpnnopljaa", sum := "913543621bb1b7c93c12dea18dcdc4e016f003b253a4ca0b3bb3ebc071582aea", func := "compositor/compositorlaw14.PlaneReadsAndWrites", spec := "planeReadsAndWrites", apart := false }
def PlaneReadsAndWritesSaid : Prop := planeReadsAndWritesRow.holds Try.pinned (OpenSpec.ofChange planeReadsAndWritesSpec)

/-- ITS FALSE NEIGHBOUR: 'it returns false'. Refute it at one input. -/
def planeReadsAndWritesWrong : ChangeSpec := { name := "planeReadsAndWrites", fn := fun _ => fun
  | [d1, d2, d3, d4, d5, d6] => { results := [.lit (.bool false)], args := [d1, d2, d3, d4, d5, d6] }
  | _ => none }
def PlaneReadsAndWritesWrongFalsely : Prop := planeReadsAndWritesRow.holds Try.pinned (OpenSpec.ofChange planeReadsAndWritesWrong)

/-- 'compositorlaw14.PlaneCompacts': WHATEVER THE INPUT: true; the input reads as it did. -/
def planeCompactsSpec : ChangeSpec := { name := "planeCompacts", fn := fun _ => fun
  | [d1, d2] => { results := [.lit (.bool true)], args := [d1, d2] }
  | _ => none }
def planeCompactsRow : OpenClaim := { program := "ytjieldpnnopljaa", sum := "913543621bb1b7c93c12dea18dcdc4e016f003b253a4ca0b3bb3ebc071582aea", func := "compositor/compositorlaw14.PlaneCompacts", spec := "planeCompacts", apart := false }
def PlaneCompactsSaid : Prop := planeCompactsRow.holds Try.pinned (OpenSpec.ofChange planeCompactsSpec)

/-- ITS FALSE NEIGHBOUR: 'it returns false'. Refute it at one input. -/
def planeCompactsWrong : ChangeSpec := { name := "planeCompacts", fn := fun _ => fun
  | [d1, d2] => { results := [.lit (.bool false)], args := [d1, d2] }
  | _ => none }
def PlaneCompactsWrongFalsely : Prop := planeCompactsRow.holds Try.pinned (OpenSpec.ofChange planeCompactsWrong)

/-- 'compositorlaw14.PlaneEqualAgrees': WHATEVER THE INPUT: true; the input reads as it did. -/
def planeEqualAgreesSpec : ChangeSpec := { name := "planeEqualAgrees", fn := fun _ => fun
  | [d1, d2, d3, d4, d5, d6] => { results := [.lit (.bool true)], args := [d1, d2, d3, d4, d5, d6] }
  | _ => none }
def planeEqualAgreesRow : OpenClaim := { program := "ytjieldpnnopljaa", sum := "913543621bb1b7c93c12dea18dcdc4e016f003b253a4ca0b3bb3ebc071582aea", func := "compositor/compositorlaw14.PlaneEqualAgrees", spec := "planeEqualAgrees", apart := false }
def PlaneEqualAgreesSaid : Prop := planeEqualAgreesRow.holds Try.pinned (OpenSpec.ofChange planeEqualAgreesSpec)

/-- ITS FALSE NEIGHBOUR: 'it returns false'. Refute it at one input. -/
def planeEqualAgreesWrong : ChangeSpec := { name := "planeEqualAgrees", fn := fun _ => fun
  | [d1, d2, d3, d4, d5, d6] => { results := [.lit (.bool false)], args := [d1, d2, d3, d4, d5, d6] }
  | _ => none }
def PlaneEqualAgreesWrongFalsely : Prop := planeEqualAgreesRow.holds Try.pinned (OpenSpec.ofChange planeEqualAgreesWrong)

/- THE SECOND FORM. 'bulk': how many values and letters a reading holds, each counted each time it is reached (what is shared counts as often as it is met; a slice's spare places count too). A statement '..UptoSaid' is the law's where the arguments, and the package variables that the reading takes, are together of bulk at most 1048576: NARROWER than '..Said'. Prove '..Said' where nothing that the law and all that it calls make is longer than what came in: it says more and counts as full. Else prove '..UptoSaid'. A law counts once. -/
mutual
def uptoBulk {H : Type} : DataW H → Nat
  | .lit (.string bytes) => bytes.length + 1
  | .lit _ => 1
  | .nil => 1
  | .ptr d => uptoBulk d + 1
  | .slice elems spare => uptoBulkAll elems + uptoBulkAll spare + 1
  | .agg parts => uptoBulkAll parts + 1
  | .iface _ d => uptoBulk d + 1
  | .map entries => uptoBulkEntries entries + 1
  | .held _ => 1
def uptoBulkAll {H : Type} : List (DataW H) → Nat
  | [] => 0
  | d :: r => uptoBulk d + uptoBulkAll r
def uptoBulkEntries {H : Type} : List (Lit × DataW H) → Nat
  | [] => 0
  | x :: r => uptoBulkEntry x + uptoBulkEntries r
def uptoBulkEntry {H : Type} : Lit × DataW H → Nat
  | (.string bytes, d) => bytes.length + uptoBulk d + 1
  | (_, d) => uptoBulk d + 1
 end
def uptoSmall : (H : Type) → List (DataW H) → Bool := fun _ ds => decide (uptoBulkAll ds ≤ 1048576)
def OpenSpec.upto (s : _root_.Go.ChangeSpec) : _root_.Go.OpenSpec := { _root_.Go.OpenSpec.ofChange s with cond := some uptoSmall }

/-- 'compositorlaw14.PlaneValidAgrees', WHERE WHAT IT READS IS OF BULK AT MOST 1048576: true; the input reads as it did. -/
def planeValidAgreesUptoRow : OpenClaim := { program := "ytjieldpnnopljaa", sum := "913543621bb1b7c93c12dea18dcdc4e016f003b253a4ca0b3bb3ebc071582aea", func := "compositor/compositorlaw14.PlaneValidAgrees", spec := "planeValidAgrees", apart := false, narrowed := true }
def PlaneValidAgreesUptoSaid : Prop := planeValidAgreesUptoRow.holds Try.pinned (OpenSpec.upto planeValidAgreesSpec)

/-- 'compositorlaw14.PlaneNewRejects', WHERE WHAT IT READS IS OF BULK AT MOST 1048576: true; the input reads as it did. -/
def planeNewRejectsUptoRow : OpenClaim := { program := "ytjieldpnnopljaa", sum := "913543621bb1b7c93c12dea18dcdc4e016f003b253a4ca0b3bb3ebc071582aea", func := "compositor/compositorlaw14.PlaneNewRejects", spec := "planeNewRejects", apart := false, narrowed := true }
def PlaneNewRejectsUptoSaid : Prop := planeNewRejectsUptoRow.holds Try.pinned (OpenSpec.upto planeNewRejectsSpec)

/-- 'compositorlaw14.PlaneReadsAndWrites', WHERE WHAT IT READS IS OF BULK AT MOST 1048576: true; the input reads as it did. -/
def planeReadsAndWritesUptoRow : OpenClaim := { program := "ytjieldpnnopljaa", sum := "913543621bb1b7c93c12dea18dcdc4e016f003b253a4ca0b3bb3ebc071582aea", func := "compositor/compositorlaw14.PlaneReadsAndWrites", spec := "planeReadsAndWrites", apart := false, narrowed := true }
def PlaneReadsAndWritesUptoSaid : Prop := planeReadsAndWritesUptoRow.holds Try.pinned (OpenSpec.upto planeReadsAndWritesSpec)

/-- 'compositorlaw14.PlaneCompacts', WHERE WHAT IT READS IS OF BULK AT MOST 1048576: true; the input reads as it did. -/
def planeCompactsUptoRow : OpenClaim := { program := "ytjieldpnnopljaa", sum := "913543621bb1b7c93c12dea18dcdc4e016f003b253a4ca0b3bb3ebc071582aea", func := "compositor/compositorlaw14.PlaneCompacts", spec := "planeCompacts", apart := false, narrowed := true }
def PlaneCompactsUptoSaid : Prop := planeCompactsUptoRow.holds Try.pinned (OpenSpec.upto planeCompactsSpec)

/-- 'compositorlaw14.PlaneEqualAgrees', WHERE WHAT IT READS IS OF BULK AT MOST 1048576: true; the input reads as it did. -/
def planeEqualAgreesUptoRow : OpenClaim := { program := "ytjieldpnnopljaa", sum := "913543621bb1b7c93c12dea18dcdc4e016f003b253a4ca0b3bb3ebc071582aea", func := "compositor/compositorlaw14.PlaneEqualAgrees", spec := "planeEqualAgrees", apart := false, narrowed := true }
def PlaneEqualAgreesUptoSaid : Prop := planeEqualAgreesUptoRow.holds Try.pinned (OpenSpec.upto planeEqualAgreesSpec)

end Rows
end Go.Proofs.Ytjieldpnnopljaa
