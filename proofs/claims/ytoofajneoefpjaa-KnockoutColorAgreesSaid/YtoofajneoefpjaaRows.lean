/-
  No cell of these rows narrows 'for every input' (looked for: loops, veiled, ifaces, maps, wideKeys, modest, calm, conditions, laid).
  DERIVED. THE GIVEN ROWS OF THIS SEAT. 3 by the template 'for every input the law returns true; each argument reads behind the call as it read before'; 0 by the template 'total and deterministic' (their statements: YtoofajneoefpjaaTotals.lean).
  GIVEN WITH THE SEED: the statements are not yours to turn. If you find one false, say at which input.
  Laid BY PROGRAM, IN A SANDBOX (cutbox-rows.mjs): the forced cells as the released guide's own fill.sh prints them over the translation e3575959e5ef27f4… (all of the seat's roots in one cut). By AI agents, Wed Nov 11 2026. No macro, syntax, notation, axiom, sorry.
-/
import Derived.Test.YtoofajneoefpjaaChecked
import GoSem.Claim
import GoSem.ClaimJoined
import GoSem.ClaimMapViews
import Derived.JoinedTies
import Derived.KernelRfl
namespace Go.Proofs.Ytoofajneoefpjaa
/- THE CELL 'sum', in the pinned program and in every row, IS THE sha256 OF THE DUMP (.gsa) THAT YtoofajneoefpjaaProg.lean LOADS. Nothing in Lean hashes anything: it is a label: what it is worth is what the hold of that sum in a sandbox is worth. -/
noncomputable def Try.pinned : Pinned := { name := "ytoofajneoefpjaa", sum := "e3575959e5ef27f4c01740136a39b06428cc366204ab32141f09ce9d83e7db9e", checked := Try.checked }
namespace Rows
def none {H : Type} : Left H := { results := [], args := [] }

/-- 'compositorlaw10.KnockoutColorAgrees': WHATEVER THE INPUT: true; the input reads as it did. -/
def knockoutColorAgreesSpec : ChangeSpec := { name := "knockoutColorAgrees", fn := fun _ => fun
  | [d1, d2, d3, d4, d5, d6, d7] => { results := [.lit (.bool true)], args := [d1, d2, d3, d4, d5, d6, d7] }
  | _ => none }
def knockoutColorAgreesRow : OpenClaim := { program := "ytoofajneoefpjaa", sum := "e3575959e5ef27f4c01740136a39b06428cc366204ab32141f09ce9d83e7db9e", func := "compositor/compositorlaw10.KnockoutColorAgrees", spec := "knockoutColorAgrees", inPlace := ["math/bits.Add64", "math/bits.Sub64"], named := ["math/bits.divideError", "math/bits.overflowError"], apart := false }
def KnockoutColorAgreesSaid : Prop := knockoutColorAgreesRow.holds Try.pinned (OpenSpec.ofChange knockoutColorAgreesSpec)

/-- ITS FALSE NEIGHBOUR: 'it returns false'. Refute it at one input. -/
def knockoutColorAgreesWrong : ChangeSpec := { name := "knockoutColorAgrees", fn := fun _ => fun
  | [d1, d2, d3, d4, d5, d6, d7] => { results := [.lit (.bool false)], args := [d1, d2, d3, d4, d5, d6, d7] }
  | _ => none }
def KnockoutColorAgreesWrongFalsely : Prop := knockoutColorAgreesRow.holds Try.pinned (OpenSpec.ofChange knockoutColorAgreesWrong)

/-- 'compositorlaw10.KnockoutAlphaAgrees': WHATEVER THE INPUT: true; the input reads as it did. -/
def knockoutAlphaAgreesSpec : ChangeSpec := { name := "knockoutAlphaAgrees", fn := fun _ => fun
  | [d1, d2, d3, d4, d5, d6] => { results := [.lit (.bool true)], args := [d1, d2, d3, d4, d5, d6] }
  | _ => none }
def knockoutAlphaAgreesRow : OpenClaim := { program := "ytoofajneoefpjaa", sum := "e3575959e5ef27f4c01740136a39b06428cc366204ab32141f09ce9d83e7db9e", func := "compositor/compositorlaw10.KnockoutAlphaAgrees", spec := "knockoutAlphaAgrees", inPlace := ["math/bits.Add64", "math/bits.Sub64"], named := ["math/bits.divideError", "math/bits.overflowError"], apart := false }
def KnockoutAlphaAgreesSaid : Prop := knockoutAlphaAgreesRow.holds Try.pinned (OpenSpec.ofChange knockoutAlphaAgreesSpec)

/-- ITS FALSE NEIGHBOUR: 'it returns false'. Refute it at one input. -/
def knockoutAlphaAgreesWrong : ChangeSpec := { name := "knockoutAlphaAgrees", fn := fun _ => fun
  | [d1, d2, d3, d4, d5, d6] => { results := [.lit (.bool false)], args := [d1, d2, d3, d4, d5, d6] }
  | _ => none }
def KnockoutAlphaAgreesWrongFalsely : Prop := knockoutAlphaAgreesRow.holds Try.pinned (OpenSpec.ofChange knockoutAlphaAgreesWrong)

/-- 'compositorlaw10.KnockoutReplaces': WHATEVER THE INPUT: true; the input reads as it did. -/
def knockoutReplacesSpec : ChangeSpec := { name := "knockoutReplaces", fn := fun _ => fun
  | [d1, d2, d3, d4, d5, d6] => { results := [.lit (.bool true)], args := [d1, d2, d3, d4, d5, d6] }
  | _ => none }
def knockoutReplacesRow : OpenClaim := { program := "ytoofajneoefpjaa", sum := "e3575959e5ef27f4c01740136a39b06428cc366204ab32141f09ce9d83e7db9e", func := "compositor/compositorlaw10.KnockoutReplaces", spec := "knockoutReplaces", inPlace := ["math/bits.Add64", "math/bits.Sub64"], named := ["math/bits.divideError", "math/bits.overflowError"], apart := false }
def KnockoutReplacesSaid : Prop := knockoutReplacesRow.holds Try.pinned (OpenSpec.ofChange knockoutReplacesSpec)

/-- ITS FALSE NEIGHBOUR: 'it returns false'. Refute it at one input. -/
def knockoutReplacesWrong : ChangeSpec := { name := "knockoutReplaces", fn := fun _ => fun
  | [d1, d2, d3, d4, d5, d6] => { results := [.lit (.bool false)], args := [d1, d2, d3, d4, d5, d6] }
  | _ => none }
def KnockoutReplacesWrongFalsely : Prop := knockoutReplacesRow.holds Try.pinned (OpenSpec.ofChange knockoutReplacesWrong)

/- THE SECOND FORM. 'bulk': how many values and letters a reading holds, each counted each time it is reached (what is shared counts as often as it is met; a slice's spare places count too). A statement '..UptoSaid' is the law's where the arguments, and the package variables that the reading takes, are together of bulk at most 1048576: NARROWER than '..Said'. Prove '..Said' where nothing that the law and all that it calls make is longer than what came in: it says more and counts as full. Else prove '..UptoSaid'. A law counts once. -/
mutual
def uptoBulk {H : Type} : DataW H → Nat
  | .lit (.string bytes) => bytes.length + 1
  | .lit _ => 1
  | .nil => 1
  | .ptr d => uptoBulk d + 1
  | .slice elems spare => uptoBulkAll elems + uptoBulkAll spare + 1
  | .agg parts => uptoBulkAll parts + 1
  | .iface _ d => uptoBulk d + 1
  | .map entries => uptoBulkEntries entries + 1
  | .held _ => 1
def uptoBulkAll {H : Type} : List (DataW H) → Nat
  | [] => 0
  | d :: r => uptoBulk d + uptoBulkAll r
def uptoBulkEntries {H : Type} : List (Lit × DataW H) → Nat
  | [] => 0
  | x :: r => uptoBulkEntry x + uptoBulkEntries r
def uptoBulkEntry {H : Type} : Lit × DataW H → Nat
  | (.string bytes, d) => bytes.length + uptoBulk d + 1
  | (_, d) => uptoBulk d + 1
 end
def uptoSmall : (H : Type) → List (DataW H) → Bool := fun _ ds => decide (uptoBulkAll ds ≤ 1048576)
def OpenSpec.upto (s : _root_.Go.ChangeSpec) : _root_.Go.OpenSpec := { _root_.Go.OpenSpec.ofChange s with cond := some uptoSmall }

/-- 'compositorlaw10.KnockoutColorAgrees', WHERE WHAT IT READS IS OF BULK AT MOST 1048576: true; the input reads as it did. -/
def knockoutColorAgreesUptoRow : OpenClaim := { program := "ytoofajneoefpjaa", sum := "e3575959e5ef27f4c01740136a39b06428cc366204ab32141f09ce9d83e7db9e", func := "compositor/compositorlaw10.KnockoutColorAgrees", spec := "knockoutColorAgrees", inPlace := ["math/bits.Add64", "math/bits.Sub64"], named := ["math/bits.divideError", "math/bits.overflowError"], apart := false, narrowed := true }
def KnockoutColorAgreesUptoSaid : Prop := knockoutColorAgreesUptoRow.holds Try.pinned (OpenSpec.upto knockoutColorAgreesSpec)

/-- 'compositorlaw10.KnockoutAlphaAgrees', WHERE WHAT IT READS IS OF BULK AT MOST 1048576: true; the input reads as it did. -/
def knockoutAlphaAgreesUptoRow : OpenClaim := { program := "ytoofajneoefpjaa", sum := "e3575959e5ef27f4c01740136a39b06428cc366204ab32141f09ce9d83e7db9e", func := "compositor/compositorlaw10.KnockoutAlphaAgrees", spec := "knockoutAlphaAgrees", inPlace := ["math/bits.Add64", "math/bits.Sub64"], named := ["math/bits.divideError", "math/bits.overflowError"], apart := false, narrowed := true }
def KnockoutAlphaAgreesUptoSaid : Prop := knockoutAlphaAgreesUptoRow.holds Try.pinned (OpenSpec.upto knockoutAlphaAgreesSpec)

/-- 'compositorlaw10.KnockoutReplaces', WHERE WHAT IT READS IS OF BULK AT MOST 1048576: true; the input reads as it did. -/
def knockoutReplacesUptoRow : OpenClaim := { program := "ytoofajneoefpjaa", sum := "e3575959e5ef27f4c01740136a39b06428cc366204ab32141f09ce9d83e7db9e", func := "compositor/compositorlaw10.KnockoutReplaces", spec := "knockoutReplaces", inPlace := ["math/bits.Add64", "math/bits.Sub64"], named := ["math/bits.divideError", "math/bits.overflowError"], apart := false, narrowed := true }
def KnockoutReplacesUptoSaid : Prop := knockoutReplacesUptoRow.holds Try.pinned (OpenSpec.upto knockoutReplacesSpec)

end Rows
end Go.Proofs.Ytoofajneoefpjaa
