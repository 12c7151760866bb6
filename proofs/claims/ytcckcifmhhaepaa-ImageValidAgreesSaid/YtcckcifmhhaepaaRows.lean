/-
  No cell of these rows narrows 'for every input' (looked for: loops, veiled, ifaces, maps, wideKeys, modest, calm, conditions, laid).
  DERIVED. THE GIVEN ROWS OF THIS SEAT. 8 by the template 'for every input the law returns true; each argument reads behind the call as it read before'; 0 by the template 'total and deterministic' (their statements: YtcckcifmhhaepaaTotals.lean).
  GIVEN WITH THE SEED: the statements are not yours to turn. If you find one false, say at which input.
  Laid BY PROGRAM, IN A SANDBOX (cutbox-rows.mjs): the forced cells as the released guide's own fill.sh prints them over the translation 3ee57a131ef113ac… (all of the seat's roots in one cut). By AI agents, Wed Nov 11 2026. No macro, syntax, notation, axiom, sorry.
-/
import Derived.Test.YtcckcifmhhaepaaChecked
import GoSem.Claim
import GoSem.ClaimJoined
import GoSem.ClaimMapViews
import Derived.JoinedTies
import Derived.KernelRfl
namespace Go.Proofs.Ytcckcifmhhaepaa
/- THE CELL 'sum', in the pinned program and in every row, IS THE sha256 OF THE DUMP (.gsa) THAT YtcckcifmhhaepaaProg.lean LOADS. Nothing in Lean hashes anything: it is a label: what it is worth is what the hold of that sum in a sandbox is worth. -/
noncomputable def Try.pinned : Pinned := { name := "ytcckcifmhhaepaa", sum := "3ee57a131ef113ac5262a49f7985cc3525388389e32fae4df2be80bda345c734", checked := Try.checked }
namespace Rows
def none {H : Type} : Left H := { results := [], args := [] }

/-- 'compositorlaw15.ImageValidAgrees': WHATEVER THE INPUT: true; the input reads as it did. -/
def imageValidAgreesSpec : ChangeSpec := { name := "imageValidAgrees", fn := fun _ => fun
  | [d1, d2, d3, d4, d5, d6] => { results := [.lit (.bool true)], args := [d1, d2, d3, d4, d5, d6] }
  | _ => none }
def imageValidAgreesRow : OpenClaim := { program := "ytcckcifmhhaepaa", sum := "3ee57a131ef113ac5262a49f7985cc3525388389e32fae4df2be80bda345c734", func := "compositor/compositorlaw15.ImageValidAgrees", spec := "imageValidAgrees", unfollowed := true, recurses := true, apart := false }
def ImageValidAgreesSaid : Prop := imageValidAgreesRow.holds Try.pinned (OpenSpec.ofChange imageValidAgreesSpec)

/-- ITS FALSE NEIGHBOUR: 'it returns false'. Refute it at one input. -/
def imageValidAgreesWrong : ChangeSpec := { name := "imageValidAgrees", fn := fun _ => fun
  | [d1, d2, d3, d4, d5, d6] => { results := [.lit (.bool false)], args := [d1, d2, d3, d4, d5, d6] }
  | _ => none }
def ImageValidAgreesWrongFalsely : Prop := imageValidAgreesRow.holds Try.pinned (OpenSpec.ofChange imageValidAgreesWrong)

/-- 'compositorlaw15.ImageOfAgrees': WHATEVER THE INPUT: true; the input reads as it did. -/
def imageOfAgreesSpec : ChangeSpec := { name := "imageOfAgrees", fn := fun _ => fun
  | [d1, d2, d3, d4, d5, d6, d7, d8] => { results := [.lit (.bool true)], args := [d1, d2, d3, d4, d5, d6, d7, d8] }
  | _ => none }
def imageOfAgreesRow : OpenClaim := { program := "ytcckcifmhhaepaa", sum := "3ee57a131ef113ac5262a49f7985cc3525388389e32fae4df2be80bda345c734", func := "compositor/compositorlaw15.ImageOfAgrees", spec := "imageOfAgrees", unfollowed := true, recurses := true, apart := false }
def ImageOfAgreesSaid : Prop := imageOfAgreesRow.holds Try.pinned (OpenSpec.ofChange imageOfAgreesSpec)

/-- ITS FALSE NEIGHBOUR: 'it returns false'. Refute it at one input. -/
def imageOfAgreesWrong : ChangeSpec := { name := "imageOfAgrees", fn := fun _ => fun
  | [d1, d2, d3, d4, d5, d6, d7, d8] => { results := [.lit (.bool false)], args := [d1, d2, d3, d4, d5, d6, d7, d8] }
  | _ => none }
def ImageOfAgreesWrongFalsely : Prop := imageOfAgreesRow.holds Try.pinned (OpenSpec.ofChange imageOfAgreesWrong)

/-- 'compositorlaw15.ImageReads': WHATEVER THE INPUT: true; the input reads as it did. -/
def imageReadsSpec : ChangeSpec := { name := "imageReads", fn := fun _ => fun
  | [d1, d2, d3, d4, d5, d6] => { results := [.lit (.bool true)], args := [d1, d2, d3, d4, d5, d6] }
  | _ => none }
def imageReadsRow : OpenClaim := { program := "ytcckcifmhhaepaa", sum := "3ee57a131ef113ac5262a49f7985cc3525388389e32fae4df2be80bda345c734", func := "compositor/compositorlaw15.ImageReads", spec := "imageReads", unfollowed := true, recurses := true, apart := false }
def ImageReadsSaid : Prop := imageReadsRow.holds Try.pinned (OpenSpec.ofChange imageReadsSpec)

/-- ITS FALSE NEIGHBOUR: 'it returns false'. Refute it at one input. -/
def imageReadsWrong : ChangeSpec := { name := "imageReads", fn := fun _ => fun
  | [d1, d2, d3, d4, d5, d6] => { results := [.lit (.bool false)], args := [d1, d2, d3, d4, d5, d6] }
  | _ => none }
def ImageReadsWrongFalsely : Prop := imageReadsRow.holds Try.pinned (OpenSpec.ofChange imageReadsWrong)

/-- 'compositorlaw15.ImageOfPixels': WHATEVER THE INPUT: true; the input reads as it did. -/
def imageOfPixelsSpec : ChangeSpec := { name := "imageOfPixels", fn := fun _ => fun
  | [d1, d2, d3, d4] => { results := [.lit (.bool true)], args := [d1, d2, d3, d4] }
  | _ => none }
def imageOfPixelsRow : OpenClaim := { program := "ytcckcifmhhaepaa", sum := "3ee57a131ef113ac5262a49f7985cc3525388389e32fae4df2be80bda345c734", func := "compositor/compositorlaw15.ImageOfPixels", spec := "imageOfPixels", unfollowed := true, recurses := true, apart := false }
def ImageOfPixelsSaid : Prop := imageOfPixelsRow.holds Try.pinned (OpenSpec.ofChange imageOfPixelsSpec)

/-- ITS FALSE NEIGHBOUR: 'it returns false'. Refute it at one input. -/
def imageOfPixelsWrong : ChangeSpec := { name := "imageOfPixels", fn := fun _ => fun
  | [d1, d2, d3, d4] => { results := [.lit (.bool false)], args := [d1, d2, d3, d4] }
  | _ => none }
def ImageOfPixelsWrongFalsely : Prop := imageOfPixelsRow.holds Try.pinned (OpenSpec.ofChange imageOfPixelsWrong)

/-- 'compositorlaw15.ImageConverts': WHATEVER THE INPUT: true; the input reads as it did. -/
def imageConvertsSpec : ChangeSpec := { name := "imageConverts", fn := fun _ => fun
  | [d1, d2, d3, d4, d5, d6] => { results := [.lit (.bool true)], args := [d1, d2, d3, d4, d5, d6] }
  | _ => none }
def imageConvertsRow : OpenClaim := { program := "ytcckcifmhhaepaa", sum := "3ee57a131ef113ac5262a49f7985cc3525388389e32fae4df2be80bda345c734", func := "compositor/compositorlaw15.ImageConverts", spec := "imageConverts", unfollowed := true, recurses := true, apart := false }
def ImageConvertsSaid : Prop := imageConvertsRow.holds Try.pinned (OpenSpec.ofChange imageConvertsSpec)

/-- ITS FALSE NEIGHBOUR: 'it returns false'. Refute it at one input. -/
def imageConvertsWrong : ChangeSpec := { name := "imageConverts", fn := fun _ => fun
  | [d1, d2, d3, d4, d5, d6] => { results := [.lit (.bool false)], args := [d1, d2, d3, d4, d5, d6] }
  | _ => none }
def ImageConvertsWrongFalsely : Prop := imageConvertsRow.holds Try.pinned (OpenSpec.ofChange imageConvertsWrong)

/-- 'compositorlaw15.ImageWidensAndNarrows': WHATEVER THE INPUT: true; the input reads as it did. -/
def imageWidensAndNarrowsSpec : ChangeSpec := { name := "imageWidensAndNarrows", fn := fun _ => fun
  | [d1, d2] => { results := [.lit (.bool true)], args := [d1, d2] }
  | _ => none }
def imageWidensAndNarrowsRow : OpenClaim := { program := "ytcckcifmhhaepaa", sum := "3ee57a131ef113ac5262a49f7985cc3525388389e32fae4df2be80bda345c734", func := "compositor/compositorlaw15.ImageWidensAndNarrows", spec := "imageWidensAndNarrows", unfollowed := true, recurses := true, apart := false }
def ImageWidensAndNarrowsSaid : Prop := imageWidensAndNarrowsRow.holds Try.pinned (OpenSpec.ofChange imageWidensAndNarrowsSpec)

/-- ITS FALSE NEIGHBOUR: 'it returns false'. Refute it at one input. -/
def imageWidensAndNarrowsWrong : ChangeSpec := { name := "imageWidensAndNarrows", fn := fun _ => fun
  | [d1, d2] => { results := [.lit (.bool false)], args := [d1, d2] }
  | _ => none }
def ImageWidensAndNarrowsWrongFalsely : Prop := imageWidensAndNarrowsRow.holds Try.pinned (OpenSpec.ofChange imageWidensAndNarrowsWrong)

/-- 'compositorlaw15.ImageReplaces': WHATEVER THE INPUT: true; the input reads as it did. -/
def imageReplacesSpec : ChangeSpec := { name := "imageReplaces", fn := fun _ => fun
  | [d1, d2, d3, d4, d5, d6, d7, d8] => { results := [.lit (.bool true)], args := [d1, d2, d3, d4, d5, d6, d7, d8] }
  | _ => none }
def imageReplacesRow : OpenClaim := { program := "ytcckcifmhhaepaa", sum := "3ee57a131ef113ac5262a49f7985cc3525388389e32fae4df2be80bda345c734", func := "compositor/compositorlaw15.ImageReplaces", spec := "imageReplaces", unfollowed := true, recurses := true, apart := false }
def ImageReplacesSaid : Prop := imageReplacesRow.holds Try.pinned (OpenSpec.ofChange imageReplacesSpec)

/-- ITS FALSE NEIGHBOUR: 'it returns false'. Refute it at one input. -/
def imageReplacesWrong : ChangeSpec := { name := "imageReplaces", fn := fun _ => fun
  | [d1, d2, d3, d4, d5, d6, d7, d8] => { results := [.lit (.bool false)], args := [d1, d2, d3, d4, d5, d6, d7, d8] }
  | _ => none }
def ImageReplacesWrongFalsely : Prop := imageReplacesRow.holds Try.pinned (OpenSpec.ofChange imageReplacesWrong)

/-- 'compositorlaw15.ImageReplaceRejects': WHATEVER THE INPUT: true; the input reads as it did. -/
def imageReplaceRejectsSpec : ChangeSpec := { name := "imageReplaceRejects", fn := fun _ => fun
  | [d1, d2, d3, d4, d5] => { results := [.lit (.bool true)], args := [d1, d2, d3, d4, d5] }
  | _ => none }
def imageReplaceRejectsRow : OpenClaim := { program := "ytcckcifmhhaepaa", sum := "3ee57a131ef113ac5262a49f7985cc3525388389e32fae4df2be80bda345c734", func := "compositor/compositorlaw15.ImageReplaceRejects", spec := "imageReplaceRejects", unfollowed := true, recurses := true, apart := false }
def ImageReplaceRejectsSaid : Prop := imageReplaceRejectsRow.holds Try.pinned (OpenSpec.ofChange imageReplaceRejectsSpec)

/-- ITS FALSE NEIGHBOUR: 'it returns false'. Refute it at one input. -/
def imageReplaceRejectsWrong : ChangeSpec := { name := "imageReplaceRejects", fn := fun _ => fun
  | [d1, d2, d3, d4, d5] => { results := [.lit (.bool false)], args := [d1, d2, d3, d4, d5] }
  | _ => none }
def ImageReplaceRejectsWrongFalsely : Prop := imageReplaceRejectsRow.holds Try.pinned (OpenSpec.ofChange imageReplaceRejectsWrong)

/- THE SECOND FORM. 'bulk': how many values and letters a reading holds, each counted each time it is reached (what is shared counts as often as it is met; a slice's spare places count too). A statement '..UptoSaid' is the law's where the arguments, and the package variables that the reading takes, are together of bulk at most 1048576: NARROWER than '..Said'. Prove '..Said' where nothing that the law and all that it calls make is longer than what came in: it says more and counts as full. Else prove '..UptoSaid'. A law counts once. -/
mutual
def uptoBulk {H : Type} : DataW H → Nat
  | .lit (.string bytes) => bytes.length + 1
  | .lit _ => 1
  | .nil => 1
  | .ptr d => uptoBulk d + 1
  | .slice elems spare => uptoBulkAll elems + uptoBulkAll spare + 1
  | .agg parts => uptoBulkAll parts + 1
  | .iface _ d => uptoBulk d + 1
  | .map entries => uptoBulkEntries entries + 1
  | .held _ => 1
def uptoBulkAll {H : Type} : List (DataW H) → Nat
  | [] => 0
  | d :: r => uptoBulk d + uptoBulkAll r
def uptoBulkEntries {H : Type} : List (Lit × DataW H) → Nat
  | [] => 0
  | x :: r => uptoBulkEntry x + uptoBulkEntries r
def uptoBulkEntry {H : Type} : Lit × DataW H → Nat
  | (.string bytes, d) => bytes.length + uptoBulk d + 1
  | (_, d) => uptoBulk d + 1
 end
def uptoSmall : (H : Type) → List (DataW H) → Bool := fun _ ds => decide (uptoBulkAll ds ≤ 1048576)
def OpenSpec.upto (s : _root_.Go.ChangeSpec) : _root_.Go.OpenSpec := { _root_.Go.OpenSpec.ofChange s with cond := some uptoSmall }

/-- 'compositorlaw15.ImageValidAgrees', WHERE WHAT IT READS IS OF BULK AT MOST 1048576: true; the input reads as it did. -/
def imageValidAgreesUptoRow : OpenClaim := { program := "ytcckcifmhhaepaa", sum := "3ee57a131ef113ac5262a49f7985cc3525388389e32fae4df2be80bda345c734", func := "compositor/compositorlaw15.ImageValidAgrees", spec := "imageValidAgrees", unfollowed := true, recurses := true, apart := false, narrowed := true }
def ImageValidAgreesUptoSaid : Prop := imageValidAgreesUptoRow.holds Try.pinned (OpenSpec.upto imageValidAgreesSpec)

/-- 'compositorlaw15.ImageOfAgrees', WHERE WHAT IT READS IS OF BULK AT MOST 1048576: true; the input reads as it did. -/
def imageOfAgreesUptoRow : OpenClaim := { program := "ytcckcifmhhaepaa", sum := "3ee57a131ef113ac5262a49f7985cc3525388389e32fae4df2be80bda345c734", func := "compositor/compositorlaw15.ImageOfAgrees", spec := "imageOfAgrees", unfollowed := true, recurses := true, apart := false, narrowed := true }
def ImageOfAgreesUptoSaid : Prop := imageOfAgreesUptoRow.holds Try.pinned (OpenSpec.upto imageOfAgreesSpec)

/-- 'compositorlaw15.ImageReads', WHERE WHAT IT READS IS OF BULK AT MOST 1048576: true; the input reads as it did. -/
def imageReadsUptoRow : OpenClaim := { program := "ytcckcifmhhaepaa", sum := "3ee57a131ef113ac5262a49f7985cc3525388389e32fae4df2be80bda345c734", func := "compositor/compositorlaw15.ImageReads", spec := "imageReads", unfollowed := true, recurses := true, apart := false, narrowed := true }
def ImageReadsUptoSaid : Prop := imageReadsUptoRow.holds Try.pinned (OpenSpec.upto imageReadsSpec)

/-- 'compositorlaw15.ImageOfPixels', WHERE WHAT IT READS IS OF BULK AT MOST 1048576: true; the input reads as it did. -/
def imageOfPixelsUptoRow : OpenClaim := { program := "ytcckcifmhhaepaa", sum := "3ee57a131ef113ac5262a49f7985cc3525388389e32fae4df2be80bda345c734", func := "compositor/compositorlaw15.ImageOfPixels", spec := "imageOfPixels", unfollowed := true, recurses := true, apart := false, narrowed := true }
def ImageOfPixelsUptoSaid : Prop := imageOfPixelsUptoRow.holds Try.pinned (OpenSpec.upto imageOfPixelsSpec)

/-- 'compositorlaw15.ImageConverts', WHERE WHAT IT READS IS OF BULK AT MOST 1048576: true; the input reads as it did. -/
def imageConvertsUptoRow : OpenClaim := { program := "ytcckcifmhhaepaa", sum := "3ee57a131ef113ac5262a49f7985cc3525388389e32fae4df2be80bda345c734", func := "compositor/compositorlaw15.ImageConverts", spec := "imageConverts", unfollowed := true, recurses := true, apart := false, narrowed := true }
def ImageConvertsUptoSaid : Prop := imageConvertsUptoRow.holds Try.pinned (OpenSpec.upto imageConvertsSpec)

/-- 'compositorlaw15.ImageWidensAndNarrows', WHERE WHAT IT READS IS OF BULK AT MOST 1048576: true; the input reads as it did. -/
def imageWidensAndNarrowsUptoRow : OpenClaim := { program := "ytcckcifmhhaepaa", sum := "3ee57a131ef113ac5262a49f7985cc3525388389e32fae4df2be80bda345c734", func := "compositor/compositorlaw15.ImageWidensAndNarrows", spec := "imageWidensAndNarrows", unfollowed := true, recurses := true, apart := false, narrowed := true }
def ImageWidensAndNarrowsUptoSaid : Prop := imageWidensAndNarrowsUptoRow.holds Try.pinned (OpenSpec.upto imageWidensAndNarrowsSpec)

/-- 'compositorlaw15.ImageReplaces', WHERE WHAT IT READS IS OF BULK AT MOST 1048576: true; the input reads as it did. -/
def imageReplacesUptoRow : OpenClaim := { program := "ytcckcifmhhaepaa", sum := "3ee57a131ef113ac5262a49f7985cc3525388389e32fae4df2be80bda345c734", func := "compositor/compositorlaw15.ImageReplaces", spec := "imageReplaces", unfollowed := true, recurses := true, apart := false, narrowed := true }
def ImageReplacesUptoSaid : Prop := imageReplacesUptoRow.holds Try.pinned (OpenSpec.upto imageReplacesSpec)

/-- 'compositorlaw15.ImageReplaceRejects', WHERE WHAT IT READS IS OF BULK AT MOST 1048576: true; the input reads as it did. -/
def imageReplaceRejectsUptoRow : OpenClaim := { program := "ytcckcifmhhaepaa", sum := "3ee57a131ef113ac5262a49f7985cc3525388389e32fae4df2be80bda345c734", func := "compositor/compositorlaw15.ImageReplaceRejects", spec := "imageReplaceRejects", unfollowed := true, recurses := true, apart := false, narrowed := true }
def ImageReplaceRejectsUptoSaid : Prop := imageReplaceRejectsUptoRow.holds Try.pinned (OpenSpec.upto imageReplaceRejectsSpec)

end Rows
end Go.Proofs.Ytcckcifmhhaepaa
