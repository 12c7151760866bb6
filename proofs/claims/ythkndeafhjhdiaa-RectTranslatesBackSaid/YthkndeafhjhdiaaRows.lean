/-
  No cell of these rows narrows 'for every input' (looked for: loops, veiled, ifaces, maps, wideKeys, modest, calm, conditions, laid).
  DERIVED. THE GIVEN ROWS OF THIS SEAT. 6 by the template 'for every input the law returns true; each argument reads behind the call as it read before'; 0 by the template 'total and deterministic' (their statements: YthkndeafhjhdiaaTotals.lean).
  GIVEN WITH THE SEED: the statements are not yours to turn. If you find one false, say at which input.
  Laid BY PROGRAM, IN A SANDBOX (cutbox-rows.mjs): the forced cells as the released guide's own fill.sh prints them over the translation 5c4200781a04315f… (all of the seat's roots in one cut). By AI agents, Wed Nov 11 2026. No macro, syntax, notation, axiom, sorry.
-/
import Derived.Test.YthkndeafhjhdiaaChecked
import GoSem.Claim
import GoSem.ClaimJoined
import GoSem.ClaimMapViews
import Derived.JoinedTies
import Derived.KernelRfl
namespace Go.Proofs.Ythkndeafhjhdiaa
/- THE CELL 'sum', in the pinned program and in every row, IS THE sha256 OF THE DUMP (.gsa) THAT YthkndeafhjhdiaaProg.lean LOADS. Nothing in Lean hashes anything: it is a label: what it is worth is what the hold of that sum in a sandbox is worth. -/
noncomputable def Try.pinned : Pinned := { name := "ythkndeafhjhdiaa", sum := "5c4200781a04315f6d7f2eec6831b13347b8fee913f0d8ccaf202111f59183a3", checked := Try.checked }
namespace Rows
def none {H : Type} : Left H := { results := [], args := [] }

/-- 'compositorlaw13.RectBasicsAgree': WHATEVER THE INPUT: true; the input reads as it did. -/
def rectBasicsAgreeSpec : ChangeSpec := { name := "rectBasicsAgree", fn := fun _ => fun
  | [d1, d2, d3, d4, d5, d6] => { results := [.lit (.bool true)], args := [d1, d2, d3, d4, d5, d6] }
  | _ => none }
def rectBasicsAgreeRow : OpenClaim := { program := "ythkndeafhjhdiaa", sum := "5c4200781a04315f6d7f2eec6831b13347b8fee913f0d8ccaf202111f59183a3", func := "compositor/compositorlaw13.RectBasicsAgree", spec := "rectBasicsAgree", apart := false }
def RectBasicsAgreeSaid : Prop := rectBasicsAgreeRow.holds Try.pinned (OpenSpec.ofChange rectBasicsAgreeSpec)

/-- ITS FALSE NEIGHBOUR: 'it returns false'. Refute it at one input. -/
def rectBasicsAgreeWrong : ChangeSpec := { name := "rectBasicsAgree", fn := fun _ => fun
  | [d1, d2, d3, d4, d5, d6] => { results := [.lit (.bool false)], args := [d1, d2, d3, d4, d5, d6] }
  | _ => none }
def RectBasicsAgreeWrongFalsely : Prop := rectBasicsAgreeRow.holds Try.pinned (OpenSpec.ofChange rectBasicsAgreeWrong)

/-- 'compositorlaw13.RectCombinesAgree': WHATEVER THE INPUT: true; the input reads as it did. -/
def rectCombinesAgreeSpec : ChangeSpec := { name := "rectCombinesAgree", fn := fun _ => fun
  | [d1, d2, d3, d4, d5, d6, d7] => { results := [.lit (.bool true)], args := [d1, d2, d3, d4, d5, d6, d7] }
  | _ => none }
def rectCombinesAgreeRow : OpenClaim := { program := "ythkndeafhjhdiaa", sum := "5c4200781a04315f6d7f2eec6831b13347b8fee913f0d8ccaf202111f59183a3", func := "compositor/compositorlaw13.RectCombinesAgree", spec := "rectCombinesAgree", apart := false }
def RectCombinesAgreeSaid : Prop := rectCombinesAgreeRow.holds Try.pinned (OpenSpec.ofChange rectCombinesAgreeSpec)

/-- ITS FALSE NEIGHBOUR: 'it returns false'. Refute it at one input. -/
def rectCombinesAgreeWrong : ChangeSpec := { name := "rectCombinesAgree", fn := fun _ => fun
  | [d1, d2, d3, d4, d5, d6, d7] => { results := [.lit (.bool false)], args := [d1, d2, d3, d4, d5, d6, d7] }
  | _ => none }
def RectCombinesAgreeWrongFalsely : Prop := rectCombinesAgreeRow.holds Try.pinned (OpenSpec.ofChange rectCombinesAgreeWrong)

/-- 'compositorlaw13.RectIntersectsPoints': WHATEVER THE INPUT: true; the input reads as it did. -/
def rectIntersectsPointsSpec : ChangeSpec := { name := "rectIntersectsPoints", fn := fun _ => fun
  | [d1, d2, d3, d4] => { results := [.lit (.bool true)], args := [d1, d2, d3, d4] }
  | _ => none }
def rectIntersectsPointsRow : OpenClaim := { program := "ythkndeafhjhdiaa", sum := "5c4200781a04315f6d7f2eec6831b13347b8fee913f0d8ccaf202111f59183a3", func := "compositor/compositorlaw13.RectIntersectsPoints", spec := "rectIntersectsPoints", apart := false }
def RectIntersectsPointsSaid : Prop := rectIntersectsPointsRow.holds Try.pinned (OpenSpec.ofChange rectIntersectsPointsSpec)

/-- ITS FALSE NEIGHBOUR: 'it returns false'. Refute it at one input. -/
def rectIntersectsPointsWrong : ChangeSpec := { name := "rectIntersectsPoints", fn := fun _ => fun
  | [d1, d2, d3, d4] => { results := [.lit (.bool false)], args := [d1, d2, d3, d4] }
  | _ => none }
def RectIntersectsPointsWrongFalsely : Prop := rectIntersectsPointsRow.holds Try.pinned (OpenSpec.ofChange rectIntersectsPointsWrong)

/-- 'compositorlaw13.RectSubtractAgrees': WHATEVER THE INPUT: true; the input reads as it did. -/
def rectSubtractAgreesSpec : ChangeSpec := { name := "rectSubtractAgrees", fn := fun _ => fun
  | [d1, d2, d3, d4] => { results := [.lit (.bool true)], args := [d1, d2, d3, d4] }
  | _ => none }
def rectSubtractAgreesRow : OpenClaim := { program := "ythkndeafhjhdiaa", sum := "5c4200781a04315f6d7f2eec6831b13347b8fee913f0d8ccaf202111f59183a3", func := "compositor/compositorlaw13.RectSubtractAgrees", spec := "rectSubtractAgrees", apart := false }
def RectSubtractAgreesSaid : Prop := rectSubtractAgreesRow.holds Try.pinned (OpenSpec.ofChange rectSubtractAgreesSpec)

/-- ITS FALSE NEIGHBOUR: 'it returns false'. Refute it at one input. -/
def rectSubtractAgreesWrong : ChangeSpec := { name := "rectSubtractAgrees", fn := fun _ => fun
  | [d1, d2, d3, d4] => { results := [.lit (.bool false)], args := [d1, d2, d3, d4] }
  | _ => none }
def RectSubtractAgreesWrongFalsely : Prop := rectSubtractAgreesRow.holds Try.pinned (OpenSpec.ofChange rectSubtractAgreesWrong)

/-- 'compositorlaw13.RectSubtractsPoints': WHATEVER THE INPUT: true; the input reads as it did. -/
def rectSubtractsPointsSpec : ChangeSpec := { name := "rectSubtractsPoints", fn := fun _ => fun
  | [d1, d2, d3, d4] => { results := [.lit (.bool true)], args := [d1, d2, d3, d4] }
  | _ => none }
def rectSubtractsPointsRow : OpenClaim := { program := "ythkndeafhjhdiaa", sum := "5c4200781a04315f6d7f2eec6831b13347b8fee913f0d8ccaf202111f59183a3", func := "compositor/compositorlaw13.RectSubtractsPoints", spec := "rectSubtractsPoints", apart := false }
def RectSubtractsPointsSaid : Prop := rectSubtractsPointsRow.holds Try.pinned (OpenSpec.ofChange rectSubtractsPointsSpec)

/-- ITS FALSE NEIGHBOUR: 'it returns false'. Refute it at one input. -/
def rectSubtractsPointsWrong : ChangeSpec := { name := "rectSubtractsPoints", fn := fun _ => fun
  | [d1, d2, d3, d4] => { results := [.lit (.bool false)], args := [d1, d2, d3, d4] }
  | _ => none }
def RectSubtractsPointsWrongFalsely : Prop := rectSubtractsPointsRow.holds Try.pinned (OpenSpec.ofChange rectSubtractsPointsWrong)

/-- 'compositorlaw13.RectTranslatesBack': WHATEVER THE INPUT: true; the input reads as it did. -/
def rectTranslatesBackSpec : ChangeSpec := { name := "rectTranslatesBack", fn := fun _ => fun
  | [d1, d2, d3, d4, d5] => { results := [.lit (.bool true)], args := [d1, d2, d3, d4, d5] }
  | _ => none }
def rectTranslatesBackRow : OpenClaim := { program := "ythkndeafhjhdiaa", sum := "5c4200781a04315f6d7f2eec6831b13347b8fee913f0d8ccaf202111f59183a3", func := "compositor/compositorlaw13.RectTranslatesBack", spec := "rectTranslatesBack", apart := false }
def RectTranslatesBackSaid : Prop := rectTranslatesBackRow.holds Try.pinned (OpenSpec.ofChange rectTranslatesBackSpec)

/-- ITS FALSE NEIGHBOUR: 'it returns false'. Refute it at one input. -/
def rectTranslatesBackWrong : ChangeSpec := { name := "rectTranslatesBack", fn := fun _ => fun
  | [d1, d2, d3, d4, d5] => { results := [.lit (.bool false)], args := [d1, d2, d3, d4, d5] }
  | _ => none }
def RectTranslatesBackWrongFalsely : Prop := rectTranslatesBackRow.holds Try.pinned (OpenSpec.ofChange rectTranslatesBackWrong)

/- THE SECOND FORM. 'bulk': how many values and letters a reading holds, each counted each time it is reached (what is shared counts as often as it is met; a slice's spare places count too). A statement '..UptoSaid' is the law's where the arguments, and the package variables that the reading takes, are together of bulk at most 1048576: NARROWER than '..Said'. Prove '..Said' where nothing that the law and all that it calls make is longer than what came in: it says more and counts as full. Else prove '..UptoSaid'. A law counts once. -/
mutual
def uptoBulk {H : Type} : DataW H → Nat
  | .lit (.string bytes) => bytes.length + 1
  | .lit _ => 1
  | .nil => 1
  | .ptr d => uptoBulk d + 1
  | .slice elems spare => uptoBulkAll elems + uptoBulkAll spare + 1
  | .agg parts => uptoBulkAll parts + 1
  | .iface _ d => uptoBulk d + 1
  | .map entries => uptoBulkEntries entries + 1
  | .held _ => 1
def uptoBulkAll {H : Type} : List (DataW H) → Nat
  | [] => 0
  | d :: r => uptoBulk d + uptoBulkAll r
def uptoBulkEntries {H : Type} : List (Lit × DataW H) → Nat
  | [] => 0
  | x :: r => uptoBulkEntry x + uptoBulkEntries r
def uptoBulkEntry {H : Type} : Lit × DataW H → Nat
  | (.string bytes, d) => bytes.length + uptoBulk d + 1
  | (_, d) => uptoBulk d + 1
 end
def uptoSmall : (H : Type) → List (DataW H) → Bool := fun _ ds => decide (uptoBulkAll ds ≤ 1048576)
def OpenSpec.upto (s : _root_.Go.ChangeSpec) : _root_.Go.OpenSpec := { _root_.Go.OpenSpec.ofChange s with cond := some uptoSmall }

/-- 'compositorlaw13.RectBasicsAgree', WHERE WHAT IT READS IS OF BULK AT MOST 1048576: true; the input reads as it did. -/
def rectBasicsAgreeUptoRow : OpenClaim := { program := "ythkndeafhjhdiaa", sum := "5c4200781a04315f6d7f2eec6831b13347b8fee913f0d8ccaf202111f59183a3", func := "compositor/compositorlaw13.RectBasicsAgree", spec := "rectBasicsAgree", apart := false, narrowed := true }
def RectBasicsAgreeUptoSaid : Prop := rectBasicsAgreeUptoRow.holds Try.pinned (OpenSpec.upto rectBasicsAgreeSpec)

/-- 'compositorlaw13.RectCombinesAgree', WHERE WHAT IT READS IS OF BULK AT MOST 1048576: true; the input reads as it did. -/
def rectCombinesAgreeUptoRow : OpenClaim := { program := "ythkndeafhjhdiaa", sum := "5c4200781a04315f6d7f2eec6831b13347b8fee913f0d8ccaf202111f59183a3", func := "compositor/compositorlaw13.RectCombinesAgree", spec := "rectCombinesAgree", apart := false, narrowed := true }
def RectCombinesAgreeUptoSaid : Prop := rectCombinesAgreeUptoRow.holds Try.pinned (OpenSpec.upto rectCombinesAgreeSpec)

/-- 'compositorlaw13.RectIntersectsPoints', WHERE WHAT IT READS IS OF BULK AT MOST 1048576: true; the input reads as it did. -/
def rectIntersectsPointsUptoRow : OpenClaim := { program := "ythkndeafhjhdiaa", sum := "5c4200781a04315f6d7f2eec6831b13347b8fee913f0d8ccaf202111f59183a3", func := "compositor/compositorlaw13.RectIntersectsPoints", spec := "rectIntersectsPoints", apart := false, narrowed := true }
def RectIntersectsPointsUptoSaid : Prop := rectIntersectsPointsUptoRow.holds Try.pinned (OpenSpec.upto rectIntersectsPointsSpec)

/-- 'compositorlaw13.RectSubtractAgrees', WHERE WHAT IT READS IS OF BULK AT MOST 1048576: true; the input reads as it did. -/
def rectSubtractAgreesUptoRow : OpenClaim := { program := "ythkndeafhjhdiaa", sum := "5c4200781a04315f6d7f2eec6831b13347b8fee913f0d8ccaf202111f59183a3", func := "compositor/compositorlaw13.RectSubtractAgrees", spec := "rectSubtractAgrees", apart := false, narrowed := true }
def RectSubtractAgreesUptoSaid : Prop := rectSubtractAgreesUptoRow.holds Try.pinned (OpenSpec.upto rectSubtractAgreesSpec)

/-- 'compositorlaw13.RectSubtractsPoints', WHERE WHAT IT READS IS OF BULK AT MOST 1048576: true; the input reads as it did. -/
def rectSubtractsPointsUptoRow : OpenClaim := { program := "ythkndeafhjhdiaa", sum := "5c4200781a04315f6d7f2eec6831b13347b8fee913f0d8ccaf202111f59183a3", func := "compositor/compositorlaw13.RectSubtractsPoints", spec := "rectSubtractsPoints", apart := false, narrowed := true }
def RectSubtractsPointsUptoSaid : Prop := rectSubtractsPointsUptoRow.holds Try.pinned (OpenSpec.upto rectSubtractsPointsSpec)

/-- 'compositorlaw13.RectTranslatesBack', WHERE WHAT IT READS IS OF BULK AT MOST 1048576: true; the input reads as it did. -/
def rectTranslatesBackUptoRow : OpenClaim := { program := "ythkndeafhjhdiaa", sum := "5c4200781a04315f6d7f2eec6831b13347b8fee913f0d8ccaf202111f59183a3", func := "compositor/compositorlaw13.RectTranslatesBack", spec := "rectTranslatesBack", apart := false, narrowed := true }
def RectTranslatesBackUptoSaid : Prop := rectTranslatesBackUptoRow.holds Try.pinned (OpenSpec.upto rectTranslatesBackSpec)

end Rows
end Go.Proofs.Ythkndeafhjhdiaa
