import Derived.Test.YtpjhdjakpbabhaaGreatDoorRs
namespace Go.Proofs.YtpjhdjakpbabhaaGreatDoor
open Go.RowKit PR QR
set_option linter.unusedVariables false
set_option linter.unusedSimpArgs false
structure R4 where
  a : Int
  b : Int
  c : Int
  d : Int
instance : DecidableEq R4 := fun x y => if h : x.a = y.a ∧ x.b = y.b ∧ x.c = y.c ∧ x.d = y.d then isTrue (by cases x; cases y; simp_all) else isFalse (fun e => h (by subst e; simp))
end Go.Proofs.YtpjhdjakpbabhaaGreatDoor
