import Derived.Test.YtpjhdjakpbabhaaGreatDoorZ0
import Derived.Test.YtpjhdjakpbabhaaGreatDoorRs
import Derived.Test.YtpjhdjakpbabhaaGreatDoorMa
namespace Go.Proofs.YtpjhdjakpbabhaaGreatDoor
open Go.RowKit PR QR
set_option linter.unusedVariables false
set_option linter.unusedSimpArgs false
structure Pl where
  w : Int
  h : Int
  s : Int
  n : Int
  l : Int → Int
structure Im where
  w : Int
  h : Int
  sol : Bool
  c0 : Int
  c1 : Int
  c2 : Int
  a : Int
  f : Int
  p0 : Pl
  p1 : Pl
  p2 : Pl
  p3 : Pl
  p4 : Pl
end Go.Proofs.YtpjhdjakpbabhaaGreatDoor
