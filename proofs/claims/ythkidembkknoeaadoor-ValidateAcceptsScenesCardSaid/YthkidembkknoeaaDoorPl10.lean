import Derived.Test.YthkidembkknoeaaDoorPl09
namespace Go.Proofs.YthkidembkknoeaaDoor
open Go.RowKit PR QR
set_option linter.unusedVariables false
def itP (f:FuncId) (l:List (List Value)) (ok:List Int->Prop) (S:List (List Int)->Prop) (N:Nat):Prop:=QR.ym5 Tryd.prog f l ok S N
theorem vz0:(⟨itP,nthI,lnI,jv9,jr7⟩:QR.jw0).OK Tryd.prog:=⟨λ _ _ _ _ _ h=>h,rfl,rfl,rfl,rfl⟩
end Go.Proofs.YthkidembkknoeaaDoor
