import Derived.Test.YthkidembkknoeaaDoorPm09
namespace Go.Proofs.YthkidembkknoeaaDoor
open Go.RowKit PR QR
set_option linter.unusedVariables false
def itP (f:FuncId) (l:List (List Value)) (ok:List Int->Prop) (S:List (List Int)->Prop) (N:Nat):Prop:=QR.yt3 Tryd.prog f l ok S N
theorem yc0:(⟨itP,nthI,lnI,jx7,jt5⟩:QR.jx8).OK Tryd.prog:=⟨λ _ _ _ _ _ h=>h,rfl,rfl,rfl,rfl⟩
end Go.Proofs.YthkidembkknoeaaDoor
