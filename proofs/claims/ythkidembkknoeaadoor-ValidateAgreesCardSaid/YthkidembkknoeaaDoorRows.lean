/-
  NARROWER THAN 'FOR EVERY INPUT', by the rows' own cells (each row's printed sentence says how): ValidateAcceptsScenes: laid · ValidateAgrees: laid · ValidateOpAgrees: laid · ValidateContexts: laid · ValidateNesting: laid · ValidateSeesUnusedImages: laid · ValidateLargeCanvases: laid.
  DERIVED. THE GIVEN ROWS OF THIS SEAT. 7 by the template 'for every input the law returns true; each argument reads behind the call as it read before'; 0 by the template 'total and deterministic' (their statements: YthkidembkknoeaaDoorTotals.lean).
  GIVEN WITH THE SEED: the statements are not yours to turn. If you find one false, say at which input.
  Laid BY PROGRAM, IN A SANDBOX (cutbox-rows.mjs): the forced cells as the released guide's own fill.sh prints them over the translation b61a2ba7bec32ac7… (all of the seat's roots in one cut). By AI agents, Wed Nov 11 2026. No macro, syntax, notation, axiom, sorry.
-/
import Derived.Test.YthkidembkknoeaaDoorChecked
import GoSem.Claim
import GoSem.ClaimJoined
import GoSem.ClaimMapViews
import Derived.JoinedTies
import Derived.KernelRfl
namespace Go.Proofs.YthkidembkknoeaaDoor
/- THE CELL 'sum', in the pinned program and in every row, IS THE sha256 OF THE DUMP (.gsa) THAT YthkidembkknoeaaDoorProg.lean LOADS. Nothing in Lean hashes anything: it is a label: what it is worth is what the hold of that sum in a sandbox is worth. -/
noncomputable def Tryd.pinned : Pinned := { name := "ythkidembkknoeaadoor", sum := "b61a2ba7bec32ac7391d5ea5d1275b48f0b12bdd53f3dd9bc4143a2bbfc6c499", checked := Tryd.checked }
namespace Rows
def none {H : Type} : Left H := { results := [], args := [] }

/- WHAT THE LISTED PACKAGE-LEVEL VARIABLES READ AS WHEN THE CALL BEGINS. Each datum BY PROGRAM (the guide's laid-datum.mjs) off the statement by which the dump's own 'gosem.cut.vars' lays the variable. In a bare row this is a premise. The card (YthkidembkknoeaaDoorCards.lean) ties it to the program's text. -/
def laid_compositor_operator_table {H : Type} : DataW H := .agg [.agg [.lit (.string []), .lit (.int .i64 0), .lit (.int .i64 0), .lit (.int .i64 0), .lit (.bool false), .lit (.bool false)], .agg [.lit (.string [99, 108, 101, 97, 114]), .lit (.int .i64 0), .lit (.int .i64 0), .lit (.int .i64 0), .lit (.bool false), .lit (.bool false)], .agg [.lit (.string [115, 114, 99]), .lit (.int .i64 1), .lit (.int .i64 0), .lit (.int .i64 1), .lit (.bool false), .lit (.bool true)], .agg [.lit (.string [100, 115, 116]), .lit (.int .i64 0), .lit (.int .i64 1), .lit (.int .i64 2), .lit (.bool true), .lit (.bool false)], .agg [.lit (.string [115, 114, 99, 45, 111, 118, 101, 114]), .lit (.int .i64 1), .lit (.int .i64 3), .lit (.int .i64 3), .lit (.bool true), .lit (.bool true)], .agg [.lit (.string [100, 115, 116, 45, 111, 118, 101, 114]), .lit (.int .i64 3), .lit (.int .i64 1), .lit (.int .i64 3), .lit (.bool true), .lit (.bool true)], .agg [.lit (.string [115, 114, 99, 45, 105, 110]), .lit (.int .i64 2), .lit (.int .i64 0), .lit (.int .i64 4), .lit (.bool false), .lit (.bool false)], .agg [.lit (.string [100, 115, 116, 45, 105, 110]), .lit (.int .i64 0), .lit (.int .i64 2), .lit (.int .i64 4), .lit (.bool false), .lit (.bool false)], .agg [.lit (.string [115, 114, 99, 45, 111, 117, 116]), .lit (.int .i64 3), .lit (.int .i64 0), .lit (.int .i64 1), .lit (.bool false), .lit (.bool true)], .agg [.lit (.string [100, 115, 116, 45, 111, 117, 116]), .lit (.int .i64 0), .lit (.int .i64 3), .lit (.int .i64 2), .lit (.bool true), .lit (.bool false)], .agg [.lit (.string [115, 114, 99, 45, 97, 116, 111, 112]), .lit (.int .i64 2), .lit (.int .i64 3), .lit (.int .i64 2), .lit (.bool true), .lit (.bool false)], .agg [.lit (.string [100, 115, 116, 45, 97, 116, 111, 112]), .lit (.int .i64 3), .lit (.int .i64 2), .lit (.int .i64 1), .lit (.bool false), .lit (.bool true)], .agg [.lit (.string [120, 111, 114]), .lit (.int .i64 3), .lit (.int .i64 3), .lit (.int .i64 3), .lit (.bool true), .lit (.bool true)]]
def laid_compositor_blend_names {H : Type} : DataW H := .agg [.lit (.string []), .lit (.string [110, 111, 114, 109, 97, 108]), .lit (.string [109, 117, 108, 116, 105, 112, 108, 121]), .lit (.string [115, 99, 114, 101, 101, 110]), .lit (.string [111, 118, 101, 114, 108, 97, 121]), .lit (.string [100, 97, 114, 107, 101, 110]), .lit (.string [108, 105, 103, 104, 116, 101, 110]), .lit (.string [99, 111, 108, 111, 114, 45, 100, 111, 100, 103, 101]), .lit (.string [99, 111, 108, 111, 114, 45, 98, 117, 114, 110]), .lit (.string [104, 97, 114, 100, 45, 108, 105, 103, 104, 116]), .lit (.string [115, 111, 102, 116, 45, 108, 105, 103, 104, 116]), .lit (.string [100, 105, 102, 102, 101, 114, 101, 110, 99, 101]), .lit (.string [101, 120, 99, 108, 117, 115, 105, 111, 110])]

/-- 'compositorlaw20.ValidateAcceptsScenes': WHATEVER THE INPUT: true; the input reads as it did. -/
def validateAcceptsScenesSpec : ChangeSpec := { name := "validateAcceptsScenes", fn := fun _ => fun
  | [d1, d2] => { results := [.lit (.bool true)], args := [d1, d2] }
  | _ => none }
def validateAcceptsScenesRow : OpenClaim := { program := "ythkidembkknoeaadoor", sum := "b61a2ba7bec32ac7391d5ea5d1275b48f0b12bdd53f3dd9bc4143a2bbfc6c499", func := "compositor/compositorlaw20.ValidateAcceptsScenes", spec := "validateAcceptsScenes", unfollowed := true, recurses := true, named := ["compositor/operator.table", "compositor/blend.names"], apart := false, laid := [("compositor/operator.table", laid_compositor_operator_table), ("compositor/blend.names", laid_compositor_blend_names)] }
def ValidateAcceptsScenesSaid : Prop := validateAcceptsScenesRow.holds Tryd.pinned (OpenSpec.ofChange validateAcceptsScenesSpec)

/-- ITS FALSE NEIGHBOUR: 'it returns false'. Refute it at one input. -/
def validateAcceptsScenesWrong : ChangeSpec := { name := "validateAcceptsScenes", fn := fun _ => fun
  | [d1, d2] => { results := [.lit (.bool false)], args := [d1, d2] }
  | _ => none }
def ValidateAcceptsScenesWrongFalsely : Prop := validateAcceptsScenesRow.holds Tryd.pinned (OpenSpec.ofChange validateAcceptsScenesWrong)

/-- 'compositorlaw20.ValidateAgrees': WHATEVER THE INPUT: true; the input reads as it did. -/
def validateAgreesSpec : ChangeSpec := { name := "validateAgrees", fn := fun _ => fun
  | [d1, d2, d3, d4, d5, d6] => { results := [.lit (.bool true)], args := [d1, d2, d3, d4, d5, d6] }
  | _ => none }
def validateAgreesRow : OpenClaim := { program := "ythkidembkknoeaadoor", sum := "b61a2ba7bec32ac7391d5ea5d1275b48f0b12bdd53f3dd9bc4143a2bbfc6c499", func := "compositor/compositorlaw20.ValidateAgrees", spec := "validateAgrees", unfollowed := true, recurses := true, named := ["compositor/operator.table", "compositor/blend.names"], apart := false, laid := [("compositor/operator.table", laid_compositor_operator_table), ("compositor/blend.names", laid_compositor_blend_names)] }
def ValidateAgreesSaid : Prop := validateAgreesRow.holds Tryd.pinned (OpenSpec.ofChange validateAgreesSpec)

/-- ITS FALSE NEIGHBOUR: 'it returns false'. Refute it at one input. -/
def validateAgreesWrong : ChangeSpec := { name := "validateAgrees", fn := fun _ => fun
  | [d1, d2, d3, d4, d5, d6] => { results := [.lit (.bool false)], args := [d1, d2, d3, d4, d5, d6] }
  | _ => none }
def ValidateAgreesWrongFalsely : Prop := validateAgreesRow.holds Tryd.pinned (OpenSpec.ofChange validateAgreesWrong)

/-- 'compositorlaw20.ValidateOpAgrees': WHATEVER THE INPUT: true; the input reads as it did. -/
def validateOpAgreesSpec : ChangeSpec := { name := "validateOpAgrees", fn := fun _ => fun
  | [d1, d2, d3, d4, d5, d6] => { results := [.lit (.bool true)], args := [d1, d2, d3, d4, d5, d6] }
  | _ => none }
def validateOpAgreesRow : OpenClaim := { program := "ythkidembkknoeaadoor", sum := "b61a2ba7bec32ac7391d5ea5d1275b48f0b12bdd53f3dd9bc4143a2bbfc6c499", func := "compositor/compositorlaw20.ValidateOpAgrees", spec := "validateOpAgrees", unfollowed := true, recurses := true, named := ["compositor/operator.table", "compositor/blend.names"], apart := false, laid := [("compositor/operator.table", laid_compositor_operator_table), ("compositor/blend.names", laid_compositor_blend_names)] }
def ValidateOpAgreesSaid : Prop := validateOpAgreesRow.holds Tryd.pinned (OpenSpec.ofChange validateOpAgreesSpec)

/-- ITS FALSE NEIGHBOUR: 'it returns false'. Refute it at one input. -/
def validateOpAgreesWrong : ChangeSpec := { name := "validateOpAgrees", fn := fun _ => fun
  | [d1, d2, d3, d4, d5, d6] => { results := [.lit (.bool false)], args := [d1, d2, d3, d4, d5, d6] }
  | _ => none }
def ValidateOpAgreesWrongFalsely : Prop := validateOpAgreesRow.holds Tryd.pinned (OpenSpec.ofChange validateOpAgreesWrong)

/-- 'compositorlaw20.ValidateContexts': WHATEVER THE INPUT: true; the input reads as it did. -/
def validateContextsSpec : ChangeSpec := { name := "validateContexts", fn := fun _ => fun
  | [d1, d2, d3, d4] => { results := [.lit (.bool true)], args := [d1, d2, d3, d4] }
  | _ => none }
def validateContextsRow : OpenClaim := { program := "ythkidembkknoeaadoor", sum := "b61a2ba7bec32ac7391d5ea5d1275b48f0b12bdd53f3dd9bc4143a2bbfc6c499", func := "compositor/compositorlaw20.ValidateContexts", spec := "validateContexts", unfollowed := true, recurses := true, named := ["compositor/operator.table", "compositor/blend.names"], apart := false, laid := [("compositor/operator.table", laid_compositor_operator_table), ("compositor/blend.names", laid_compositor_blend_names)] }
def ValidateContextsSaid : Prop := validateContextsRow.holds Tryd.pinned (OpenSpec.ofChange validateContextsSpec)

/-- ITS FALSE NEIGHBOUR: 'it returns false'. Refute it at one input. -/
def validateContextsWrong : ChangeSpec := { name := "validateContexts", fn := fun _ => fun
  | [d1, d2, d3, d4] => { results := [.lit (.bool false)], args := [d1, d2, d3, d4] }
  | _ => none }
def ValidateContextsWrongFalsely : Prop := validateContextsRow.holds Tryd.pinned (OpenSpec.ofChange validateContextsWrong)

/-- 'compositorlaw20.ValidateNesting': WHATEVER THE INPUT: true; the input reads as it did. -/
def validateNestingSpec : ChangeSpec := { name := "validateNesting", fn := fun _ => fun
  | [d1, d2, d3] => { results := [.lit (.bool true)], args := [d1, d2, d3] }
  | _ => none }
def validateNestingRow : OpenClaim := { program := "ythkidembkknoeaadoor", sum := "b61a2ba7bec32ac7391d5ea5d1275b48f0b12bdd53f3dd9bc4143a2bbfc6c499", func := "compositor/compositorlaw20.ValidateNesting", spec := "validateNesting", unfollowed := true, recurses := true, named := ["compositor/operator.table", "compositor/blend.names"], apart := false, laid := [("compositor/operator.table", laid_compositor_operator_table), ("compositor/blend.names", laid_compositor_blend_names)] }
def ValidateNestingSaid : Prop := validateNestingRow.holds Tryd.pinned (OpenSpec.ofChange validateNestingSpec)

/-- ITS FALSE NEIGHBOUR: 'it returns false'. Refute it at one input. -/
def validateNestingWrong : ChangeSpec := { name := "validateNesting", fn := fun _ => fun
  | [d1, d2, d3] => { results := [.lit (.bool false)], args := [d1, d2, d3] }
  | _ => none }
def ValidateNestingWrongFalsely : Prop := validateNestingRow.holds Tryd.pinned (OpenSpec.ofChange validateNestingWrong)

/-- 'compositorlaw20.ValidateSeesUnusedImages': WHATEVER THE INPUT: true; the input reads as it did. -/
def validateSeesUnusedImagesSpec : ChangeSpec := { name := "validateSeesUnusedImages", fn := fun _ => fun
  | [d1, d2, d3] => { results := [.lit (.bool true)], args := [d1, d2, d3] }
  | _ => none }
def validateSeesUnusedImagesRow : OpenClaim := { program := "ythkidembkknoeaadoor", sum := "b61a2ba7bec32ac7391d5ea5d1275b48f0b12bdd53f3dd9bc4143a2bbfc6c499", func := "compositor/compositorlaw20.ValidateSeesUnusedImages", spec := "validateSeesUnusedImages", unfollowed := true, recurses := true, named := ["compositor/operator.table", "compositor/blend.names"], apart := false, laid := [("compositor/operator.table", laid_compositor_operator_table), ("compositor/blend.names", laid_compositor_blend_names)] }
def ValidateSeesUnusedImagesSaid : Prop := validateSeesUnusedImagesRow.holds Tryd.pinned (OpenSpec.ofChange validateSeesUnusedImagesSpec)

/-- ITS FALSE NEIGHBOUR: 'it returns false'. Refute it at one input. -/
def validateSeesUnusedImagesWrong : ChangeSpec := { name := "validateSeesUnusedImages", fn := fun _ => fun
  | [d1, d2, d3] => { results := [.lit (.bool false)], args := [d1, d2, d3] }
  | _ => none }
def ValidateSeesUnusedImagesWrongFalsely : Prop := validateSeesUnusedImagesRow.holds Tryd.pinned (OpenSpec.ofChange validateSeesUnusedImagesWrong)

/-- 'compositorlaw20.ValidateLargeCanvases': WHATEVER THE INPUT: true; the input reads as it did. -/
def validateLargeCanvasesSpec : ChangeSpec := { name := "validateLargeCanvases", fn := fun _ => fun
  | [d1, d2, d3] => { results := [.lit (.bool true)], args := [d1, d2, d3] }
  | _ => none }
def validateLargeCanvasesRow : OpenClaim := { program := "ythkidembkknoeaadoor", sum := "b61a2ba7bec32ac7391d5ea5d1275b48f0b12bdd53f3dd9bc4143a2bbfc6c499", func := "compositor/compositorlaw20.ValidateLargeCanvases", spec := "validateLargeCanvases", unfollowed := true, recurses := true, named := ["compositor/operator.table", "compositor/blend.names"], apart := false, laid := [("compositor/operator.table", laid_compositor_operator_table), ("compositor/blend.names", laid_compositor_blend_names)] }
def ValidateLargeCanvasesSaid : Prop := validateLargeCanvasesRow.holds Tryd.pinned (OpenSpec.ofChange validateLargeCanvasesSpec)

/-- ITS FALSE NEIGHBOUR: 'it returns false'. Refute it at one input. -/
def validateLargeCanvasesWrong : ChangeSpec := { name := "validateLargeCanvases", fn := fun _ => fun
  | [d1, d2, d3] => { results := [.lit (.bool false)], args := [d1, d2, d3] }
  | _ => none }
def ValidateLargeCanvasesWrongFalsely : Prop := validateLargeCanvasesRow.holds Tryd.pinned (OpenSpec.ofChange validateLargeCanvasesWrong)

/- THE SECOND FORM. 'bulk': how many values and letters a reading holds, each counted each time it is reached (what is shared counts as often as it is met; a slice's spare places count too). A statement '..UptoSaid' is the law's where the arguments, and the package variables that the reading takes, are together of bulk at most 1048576: NARROWER than '..Said'. Prove '..Said' where nothing that the law and all that it calls make is longer than what came in: it says more and counts as full. Else prove '..UptoSaid'. A law counts once. -/
mutual
def uptoBulk {H : Type} : DataW H → Nat
  | .lit (.string bytes) => bytes.length + 1
  | .lit _ => 1
  | .nil => 1
  | .ptr d => uptoBulk d + 1
  | .slice elems spare => uptoBulkAll elems + uptoBulkAll spare + 1
  | .agg parts => uptoBulkAll parts + 1
  | .iface _ d => uptoBulk d + 1
  | .map entries => uptoBulkEntries entries + 1
  | .held _ => 1
def uptoBulkAll {H : Type} : List (DataW H) → Nat
  | [] => 0
  | d :: r => uptoBulk d + uptoBulkAll r
def uptoBulkEntries {H : Type} : List (Lit × DataW H) → Nat
  | [] => 0
  | x :: r => uptoBulkEntry x + uptoBulkEntries r
def uptoBulkEntry {H : Type} : Lit × DataW H → Nat
  | (.string bytes, d) => bytes.length + uptoBulk d + 1
  | (_, d) => uptoBulk d + 1
 end
def uptoSmall : (H : Type) → List (DataW H) → Bool := fun _ ds => decide (uptoBulkAll ds ≤ 1048576)
def OpenSpec.upto (s : _root_.Go.ChangeSpec) : _root_.Go.OpenSpec := { _root_.Go.OpenSpec.ofChange s with cond := some uptoSmall }

/-- 'compositorlaw20.ValidateAcceptsScenes', WHERE WHAT IT READS IS OF BULK AT MOST 1048576: true; the input reads as it did. -/
def validateAcceptsScenesUptoRow : OpenClaim := { program := "ythkidembkknoeaadoor", sum := "b61a2ba7bec32ac7391d5ea5d1275b48f0b12bdd53f3dd9bc4143a2bbfc6c499", func := "compositor/compositorlaw20.ValidateAcceptsScenes", spec := "validateAcceptsScenes", unfollowed := true, recurses := true, named := ["compositor/operator.table", "compositor/blend.names"], apart := false, laid := [("compositor/operator.table", laid_compositor_operator_table), ("compositor/blend.names", laid_compositor_blend_names)], narrowed := true }
def ValidateAcceptsScenesUptoSaid : Prop := validateAcceptsScenesUptoRow.holds Tryd.pinned (OpenSpec.upto validateAcceptsScenesSpec)

/-- 'compositorlaw20.ValidateAgrees', WHERE WHAT IT READS IS OF BULK AT MOST 1048576: true; the input reads as it did. -/
def validateAgreesUptoRow : OpenClaim := { program := "ythkidembkknoeaadoor", sum := "b61a2ba7bec32ac7391d5ea5d1275b48f0b12bdd53f3dd9bc4143a2bbfc6c499", func := "compositor/compositorlaw20.ValidateAgrees", spec := "validateAgrees", unfollowed := true, recurses := true, named := ["compositor/operator.table", "compositor/blend.names"], apart := false, laid := [("compositor/operator.table", laid_compositor_operator_table), ("compositor/blend.names", laid_compositor_blend_names)], narrowed := true }
def ValidateAgreesUptoSaid : Prop := validateAgreesUptoRow.holds Tryd.pinned (OpenSpec.upto validateAgreesSpec)

/-- 'compositorlaw20.ValidateOpAgrees', WHERE WHAT IT READS IS OF BULK AT MOST 1048576: true; the input reads as it did. -/
def validateOpAgreesUptoRow : OpenClaim := { program := "ythkidembkknoeaadoor", sum := "b61a2ba7bec32ac7391d5ea5d1275b48f0b12bdd53f3dd9bc4143a2bbfc6c499", func := "compositor/compositorlaw20.ValidateOpAgrees", spec := "validateOpAgrees", unfollowed := true, recurses := true, named := ["compositor/operator.table", "compositor/blend.names"], apart := false, laid := [("compositor/operator.table", laid_compositor_operator_table), ("compositor/blend.names", laid_compositor_blend_names)], narrowed := true }
def ValidateOpAgreesUptoSaid : Prop := validateOpAgreesUptoRow.holds Tryd.pinned (OpenSpec.upto validateOpAgreesSpec)

/-- 'compositorlaw20.ValidateContexts', WHERE WHAT IT READS IS OF BULK AT MOST 1048576: true; the input reads as it did. -/
def validateContextsUptoRow : OpenClaim := { program := "ythkidembkknoeaadoor", sum := "b61a2ba7bec32ac7391d5ea5d1275b48f0b12bdd53f3dd9bc4143a2bbfc6c499", func := "compositor/compositorlaw20.ValidateContexts", spec := "validateContexts", unfollowed := true, recurses := true, named := ["compositor/operator.table", "compositor/blend.names"], apart := false, laid := [("compositor/operator.table", laid_compositor_operator_table), ("compositor/blend.names", laid_compositor_blend_names)], narrowed := true }
def ValidateContextsUptoSaid : Prop := validateContextsUptoRow.holds Tryd.pinned (OpenSpec.upto validateContextsSpec)

/-- 'compositorlaw20.ValidateNesting', WHERE WHAT IT READS IS OF BULK AT MOST 1048576: true; the input reads as it did. -/
def validateNestingUptoRow : OpenClaim := { program := "ythkidembkknoeaadoor", sum := "b61a2ba7bec32ac7391d5ea5d1275b48f0b12bdd53f3dd9bc4143a2bbfc6c499", func := "compositor/compositorlaw20.ValidateNesting", spec := "validateNesting", unfollowed := true, recurses := true, named := ["compositor/operator.table", "compositor/blend.names"], apart := false, laid := [("compositor/operator.table", laid_compositor_operator_table), ("compositor/blend.names", laid_compositor_blend_names)], narrowed := true }
def ValidateNestingUptoSaid : Prop := validateNestingUptoRow.holds Tryd.pinned (OpenSpec.upto validateNestingSpec)

/-- 'compositorlaw20.ValidateSeesUnusedImages', WHERE WHAT IT READS IS OF BULK AT MOST 1048576: true; the input reads as it did. -/
def validateSeesUnusedImagesUptoRow : OpenClaim := { program := "ythkidembkknoeaadoor", sum := "b61a2ba7bec32ac7391d5ea5d1275b48f0b12bdd53f3dd9bc4143a2bbfc6c499", func := "compositor/compositorlaw20.ValidateSeesUnusedImages", spec := "validateSeesUnusedImages", unfollowed := true, recurses := true, named := ["compositor/operator.table", "compositor/blend.names"], apart := false, laid := [("compositor/operator.table", laid_compositor_operator_table), ("compositor/blend.names", laid_compositor_blend_names)], narrowed := true }
def ValidateSeesUnusedImagesUptoSaid : Prop := validateSeesUnusedImagesUptoRow.holds Tryd.pinned (OpenSpec.upto validateSeesUnusedImagesSpec)

/-- 'compositorlaw20.ValidateLargeCanvases', WHERE WHAT IT READS IS OF BULK AT MOST 1048576: true; the input reads as it did. -/
def validateLargeCanvasesUptoRow : OpenClaim := { program := "ythkidembkknoeaadoor", sum := "b61a2ba7bec32ac7391d5ea5d1275b48f0b12bdd53f3dd9bc4143a2bbfc6c499", func := "compositor/compositorlaw20.ValidateLargeCanvases", spec := "validateLargeCanvases", unfollowed := true, recurses := true, named := ["compositor/operator.table", "compositor/blend.names"], apart := false, laid := [("compositor/operator.table", laid_compositor_operator_table), ("compositor/blend.names", laid_compositor_blend_names)], narrowed := true }
def ValidateLargeCanvasesUptoSaid : Prop := validateLargeCanvasesUptoRow.holds Tryd.pinned (OpenSpec.upto validateLargeCanvasesSpec)

end Rows
end Go.Proofs.YthkidembkknoeaaDoor
