import Derived.Test.YtpjhdjakpbabhaaGreatDoorZ0
import Derived.Test.YtpjhdjakpbabhaaGreatDoorRs
import Derived.Test.YtpjhdjakpbabhaaGreatDoorMa
namespace Go.Proofs.YtpjhdjakpbabhaaGreatDoor
open Go.RowKit PR QR
set_option linter.unusedVariables false
set_option linter.unusedSimpArgs false
structure Pl where
  w : Int
  h : Int
  s : Int
  n : Int
  l : Int → Int
structure Im where
  w : Int
  h : Int
  sol : Bool
  c0 : Int
  c1 : Int
  c2 : Int
  a : Int
  f : Int
  p0 : Pl
  p1 : Pl
  p2 : Pl
  p3 : Pl
  p4 : Pl
def grQ (n : Int) (q : Int → Nat → Int) (i : Int) (j : Nat) : Int := if 0 < n then q (i % n) j else 0
def grPx (n : Int) (q : Int → Nat → Int) (t i : Int) : Nat → Int
  | 0 => gpC (grQ n q i 0) (grQ n q i 3) (grQ n q i 4) t
  | 1 => gpC (grQ n q i 1) (grQ n q i 3) (grQ n q i 4) t
  | 2 => gpC (grQ n q i 2) (grQ n q i 3) (grQ n q i 4) t
  | 3 => gpA (grQ n q i 3) (grQ n q i 4) t
  | _ => gpF (grQ n q i 4) t
def gpxV (mood n : Int) (q : Int → Nat → Int) (t i : Int) (k : Nat) : Int :=
  if gmod mood 6 = 0 then 0 else if gmod mood 6 = 1 then (if k = 3 ∨ k = 4 then t else grPx n q t i k) else if gmod mood 6 = 2 then grPx n q t 0 k else grPx n q t i k
end Go.Proofs.YtpjhdjakpbabhaaGreatDoor
