import Derived.Test.YtcckcifmhhaepaaRe
namespace Go.Proofs.Ytcckcifmhhaepaa
open Go.RowKit PR QR
set_option linter.unusedVariables false
def itP (f : FuncId) (l : List (List Value)) (ok : List Int → Prop) (S : List (List Int) → Prop) (N : Nat) : Prop := QR.IterOK Try.prog f l ok S N
theorem itP_ok : (⟨itP, nthI, lnI, snocL, lenOkP⟩ : QR.IterW).OK Try.prog := ⟨fun _ _ _ _ _ h => h, rfl, rfl, rfl, rfl⟩
end Go.Proofs.Ytcckcifmhhaepaa
