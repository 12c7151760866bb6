/-
  No cell of these rows narrows 'for every input' (looked for: loops, veiled, ifaces, maps, wideKeys, modest, calm, conditions, laid).
  DERIVED. THE GIVEN ROWS OF THIS SEAT. 5 by the template 'for every input the law returns true; each argument reads behind the call as it read before'; 0 by the template 'total and deterministic' (their statements: YtdpmigbenkndbaaTotals.lean).
  GIVEN WITH THE SEED: the statements are not yours to turn. If you find one false, say at which input.
  Laid BY PROGRAM, IN A SANDBOX (cutbox-rows.mjs): the forced cells as the released guide's own fill.sh prints them over the translation 7b3c876ed187968b… (all of the seat's roots in one cut). By AI agents, Wed Nov 11 2026. No macro, syntax, notation, axiom, sorry.
-/
import Derived.Test.YtdpmigbenkndbaaChecked
import GoSem.Claim
import GoSem.ClaimJoined
import GoSem.ClaimMapViews
import Derived.JoinedTies
import Derived.KernelRfl
namespace Go.Proofs.Ytdpmigbenkndbaa
/- THE CELL 'sum', in the pinned program and in every row, IS THE sha256 OF THE DUMP (.gsa) THAT YtdpmigbenkndbaaProg.lean LOADS. Nothing in Lean hashes anything: it is a label: what it is worth is what the hold of that sum in a sandbox is worth. -/
noncomputable def Try.pinned : Pinned := { name := "ytdpmigbenkndbaa", sum := "7b3c876ed187968bd214747fb1ef91743941c6719e190ba47a91665227c9c826", checked := Try.checked }
namespace Rows
def none {H : Type} : Left H := { results := [], args := [] }

/-- 'compositorlaw17.TileCountAgrees': WHATEVER THE INPUT: true; the input reads as it did. -/
def tileCountAgreesSpec : ChangeSpec := { name := "tileCountAgrees", fn := fun _ => fun
  | [d1, d2, d3, d4, d5, d6, d7, d8] => { results := [.lit (.bool true)], args := [d1, d2, d3, d4, d5, d6, d7, d8] }
  | _ => none }
def tileCountAgreesRow : OpenClaim := { program := "ytdpmigbenkndbaa", sum := "7b3c876ed187968bd214747fb1ef91743941c6719e190ba47a91665227c9c826", func := "compositor/compositorlaw17.TileCountAgrees", spec := "tileCountAgrees", apart := false }
def TileCountAgreesSaid : Prop := tileCountAgreesRow.holds Try.pinned (OpenSpec.ofChange tileCountAgreesSpec)

/-- ITS FALSE NEIGHBOUR: 'it returns false'. Refute it at one input. -/
def tileCountAgreesWrong : ChangeSpec := { name := "tileCountAgrees", fn := fun _ => fun
  | [d1, d2, d3, d4, d5, d6, d7, d8] => { results := [.lit (.bool false)], args := [d1, d2, d3, d4, d5, d6, d7, d8] }
  | _ => none }
def TileCountAgreesWrongFalsely : Prop := tileCountAgreesRow.holds Try.pinned (OpenSpec.ofChange tileCountAgreesWrong)

/-- 'compositorlaw17.TileIndexAgrees': WHATEVER THE INPUT: true; the input reads as it did. -/
def tileIndexAgreesSpec : ChangeSpec := { name := "tileIndexAgrees", fn := fun _ => fun
  | [d1, d2, d3, d4, d5, d6] => { results := [.lit (.bool true)], args := [d1, d2, d3, d4, d5, d6] }
  | _ => none }
def tileIndexAgreesRow : OpenClaim := { program := "ytdpmigbenkndbaa", sum := "7b3c876ed187968bd214747fb1ef91743941c6719e190ba47a91665227c9c826", func := "compositor/compositorlaw17.TileIndexAgrees", spec := "tileIndexAgrees", apart := false }
def TileIndexAgreesSaid : Prop := tileIndexAgreesRow.holds Try.pinned (OpenSpec.ofChange tileIndexAgreesSpec)

/-- ITS FALSE NEIGHBOUR: 'it returns false'. Refute it at one input. -/
def tileIndexAgreesWrong : ChangeSpec := { name := "tileIndexAgrees", fn := fun _ => fun
  | [d1, d2, d3, d4, d5, d6] => { results := [.lit (.bool false)], args := [d1, d2, d3, d4, d5, d6] }
  | _ => none }
def TileIndexAgreesWrongFalsely : Prop := tileIndexAgreesRow.holds Try.pinned (OpenSpec.ofChange tileIndexAgreesWrong)

/-- 'compositorlaw17.TilesCoverOnce': WHATEVER THE INPUT: true; the input reads as it did. -/
def tilesCoverOnceSpec : ChangeSpec := { name := "tilesCoverOnce", fn := fun _ => fun
  | [d1, d2, d3, d4, d5] => { results := [.lit (.bool true)], args := [d1, d2, d3, d4, d5] }
  | _ => none }
def tilesCoverOnceRow : OpenClaim := { program := "ytdpmigbenkndbaa", sum := "7b3c876ed187968bd214747fb1ef91743941c6719e190ba47a91665227c9c826", func := "compositor/compositorlaw17.TilesCoverOnce", spec := "tilesCoverOnce", apart := false }
def TilesCoverOnceSaid : Prop := tilesCoverOnceRow.holds Try.pinned (OpenSpec.ofChange tilesCoverOnceSpec)

/-- ITS FALSE NEIGHBOUR: 'it returns false'. Refute it at one input. -/
def tilesCoverOnceWrong : ChangeSpec := { name := "tilesCoverOnce", fn := fun _ => fun
  | [d1, d2, d3, d4, d5] => { results := [.lit (.bool false)], args := [d1, d2, d3, d4, d5] }
  | _ => none }
def TilesCoverOnceWrongFalsely : Prop := tilesCoverOnceRow.holds Try.pinned (OpenSpec.ofChange tilesCoverOnceWrong)

/-- 'compositorlaw17.TileOrderAgrees': WHATEVER THE INPUT: true; the input reads as it did. -/
def tileOrderAgreesSpec : ChangeSpec := { name := "tileOrderAgrees", fn := fun _ => fun
  | [d1, d2, d3, d4] => { results := [.lit (.bool true)], args := [d1, d2, d3, d4] }
  | _ => none }
def tileOrderAgreesRow : OpenClaim := { program := "ytdpmigbenkndbaa", sum := "7b3c876ed187968bd214747fb1ef91743941c6719e190ba47a91665227c9c826", func := "compositor/compositorlaw17.TileOrderAgrees", spec := "tileOrderAgrees", apart := false }
def TileOrderAgreesSaid : Prop := tileOrderAgreesRow.holds Try.pinned (OpenSpec.ofChange tileOrderAgreesSpec)

/-- ITS FALSE NEIGHBOUR: 'it returns false'. Refute it at one input. -/
def tileOrderAgreesWrong : ChangeSpec := { name := "tileOrderAgrees", fn := fun _ => fun
  | [d1, d2, d3, d4] => { results := [.lit (.bool false)], args := [d1, d2, d3, d4] }
  | _ => none }
def TileOrderAgreesWrongFalsely : Prop := tileOrderAgreesRow.holds Try.pinned (OpenSpec.ofChange tileOrderAgreesWrong)

/-- 'compositorlaw17.TileOrderRejects': WHATEVER THE INPUT: true; the input reads as it did. -/
def tileOrderRejectsSpec : ChangeSpec := { name := "tileOrderRejects", fn := fun _ => fun
  | [d1, d2, d3, d4] => { results := [.lit (.bool true)], args := [d1, d2, d3, d4] }
  | _ => none }
def tileOrderRejectsRow : OpenClaim := { program := "ytdpmigbenkndbaa", sum := "7b3c876ed187968bd214747fb1ef91743941c6719e190ba47a91665227c9c826", func := "compositor/compositorlaw17.TileOrderRejects", spec := "tileOrderRejects", apart := false }
def TileOrderRejectsSaid : Prop := tileOrderRejectsRow.holds Try.pinned (OpenSpec.ofChange tileOrderRejectsSpec)

/-- ITS FALSE NEIGHBOUR: 'it returns false'. Refute it at one input. -/
def tileOrderRejectsWrong : ChangeSpec := { name := "tileOrderRejects", fn := fun _ => fun
  | [d1, d2, d3, d4] => { results := [.lit (.bool false)], args := [d1, d2, d3, d4] }
  | _ => none }
def TileOrderRejectsWrongFalsely : Prop := tileOrderRejectsRow.holds Try.pinned (OpenSpec.ofChange tileOrderRejectsWrong)

/- THE SECOND FORM. 'bulk': how many values and letters a reading holds, each counted each time it is reached (what is shared counts as often as it is met; a slice's spare places count too). A statement '..UptoSaid' is the law's where the arguments, and the package variables that the reading takes, are together of bulk at most 1048576: NARROWER than '..Said'. Prove '..Said' where nothing that the law and all that it calls make is longer than what came in: it says more and counts as full. Else prove '..UptoSaid'. A law counts once. -/
mutual
def uptoBulk {H : Type} : DataW H → Nat
  | .lit (.string bytes) => bytes.length + 1
  | .lit _ => 1
  | .nil => 1
  | .ptr d => uptoBulk d + 1
  | .slice elems spare => uptoBulkAll elems + uptoBulkAll spare + 1
  | .agg parts => uptoBulkAll parts + 1
  | .iface _ d => uptoBulk d + 1
  | .map entries => uptoBulkEntries entries + 1
  | .held _ => 1
def uptoBulkAll {H : Type} : List (DataW H) → Nat
  | [] => 0
  | d :: r => uptoBulk d + uptoBulkAll r
def uptoBulkEntries {H : Type} : List (Lit × DataW H) → Nat
  | [] => 0
  | x :: r => uptoBulkEntry x + uptoBulkEntries r
def uptoBulkEntry {H : Type} : Lit × DataW H → Nat
  | (.string bytes, d) => bytes.length + uptoBulk d + 1
  | (_, d) => uptoBulk d + 1
 end
def uptoSmall : (H : Type) → List (DataW H) → Bool := fun _ ds => decide (uptoBulkAll ds ≤ 1048576)
def OpenSpec.upto (s : _root_.Go.ChangeSpec) : _root_.Go.OpenSpec := { _root_.Go.OpenSpec.ofChange s with cond := some uptoSmall }

/-- 'compositorlaw17.TileCountAgrees', WHERE WHAT IT READS IS OF BULK AT MOST 1048576: true; the input reads as it did. -/
def tileCountAgreesUptoRow : OpenClaim := { program := "ytdpmigbenkndbaa", sum := "7b3c876ed187968bd214747fb1ef91743941c6719e190ba47a91665227c9c826", func := "compositor/compositorlaw17.TileCountAgrees", spec := "tileCountAgrees", apart := false, narrowed := true }
def TileCountAgreesUptoSaid : Prop := tileCountAgreesUptoRow.holds Try.pinned (OpenSpec.upto tileCountAgreesSpec)

/-- 'compositorlaw17.TileIndexAgrees', WHERE WHAT IT READS IS OF BULK AT MOST 1048576: true; the input reads as it did. -/
def tileIndexAgreesUptoRow : OpenClaim := { program := "ytdpmigbenkndbaa", sum := "7b3c876ed187968bd214747fb1ef91743941c6719e190ba47a91665227c9c826", func := "compositor/compositorlaw17.TileIndexAgrees", spec := "tileIndexAgrees", apart := false, narrowed := true }
def TileIndexAgreesUptoSaid : Prop := tileIndexAgreesUptoRow.holds Try.pinned (OpenSpec.upto tileIndexAgreesSpec)

/-- 'compositorlaw17.TilesCoverOnce', WHERE WHAT IT READS IS OF BULK AT MOST 1048576: true; the input reads as it did. -/
def tilesCoverOnceUptoRow : OpenClaim := { program := "ytdpmigbenkndbaa", sum := "7b3c876ed187968bd214747fb1ef91743941c6719e190ba47a91665227c9c826", func := "compositor/compositorlaw17.TilesCoverOnce", spec := "tilesCoverOnce", apart := false, narrowed := true }
def TilesCoverOnceUptoSaid : Prop := tilesCoverOnceUptoRow.holds Try.pinned (OpenSpec.upto tilesCoverOnceSpec)

/-- 'compositorlaw17.TileOrderAgrees', WHERE WHAT IT READS IS OF BULK AT MOST 1048576: true; the input reads as it did. -/
def tileOrderAgreesUptoRow : OpenClaim := { program := "ytdpmigbenkndbaa", sum := "7b3c876ed187968bd214747fb1ef91743941c6719e190ba47a91665227c9c826", func := "compositor/compositorlaw17.TileOrderAgrees", spec := "tileOrderAgrees", apart := false, narrowed := true }
def TileOrderAgreesUptoSaid : Prop := tileOrderAgreesUptoRow.holds Try.pinned (OpenSpec.upto tileOrderAgreesSpec)

/-- 'compositorlaw17.TileOrderRejects', WHERE WHAT IT READS IS OF BULK AT MOST 1048576: true; the input reads as it did. -/
def tileOrderRejectsUptoRow : OpenClaim := { program := "ytdpmigbenkndbaa", sum := "7b3c876ed187968bd214747fb1ef91743941c6719e190ba47a91665227c9c826", func := "compositor/compositorlaw17.TileOrderRejects", spec := "tileOrderRejects", apart := false, narrowed := true }
def TileOrderRejectsUptoSaid : Prop := tileOrderRejectsUptoRow.holds Try.pinned (OpenSpec.upto tileOrderRejectsSpec)

end Rows
end Go.Proofs.Ytdpmigbenkndbaa
