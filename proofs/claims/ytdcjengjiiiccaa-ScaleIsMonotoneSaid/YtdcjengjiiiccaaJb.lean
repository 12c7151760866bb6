/-
  Layer 10 (knockout): the conditions of the calls.
-/
import Derived.Test.YtdcjengjiiiccaaRs
import Derived.Test.YtdcjengjiiiccaaJa
namespace Go.Proofs.Ytdcjengjiiiccaa
open Go.RowKit PR QR
set_option linter.unusedVariables false

def s_kcol : List AV → Option QR.Ans
  | [.x (.c (.v (.int .i64 k))), .x (.c (.v (.int .u16 m))), .x (.c (.v (.int .u16 s))), .x (.c (.v (.int .u16 a))), .x (.c (.v (.int .u16 f))), .x (.c (.v (.int .u16 c))), .x (.c (.v (.int .u16 d))), .x (.c (.v (.int .u16 b)))] => some ⟨[.c (.v (.int .u16 (kcV k m s a f c d b))), .c (.v (.bool (knOk k m s a f c d b)))], [], [in16 m = true, in16 s = true, in16 a = true, in16 f = true, in16 c = true, in16 d = true, in16 b = true]⟩
  | _ => none
def s_kalpha : List AV → Option QR.Ans
  | [.x (.c (.v (.int .u16 m))), .x (.c (.v (.int .u16 a))), .x (.c (.v (.int .u16 f))), .x (.c (.v (.int .u16 acc))), .x (.c (.v (.int .u16 b)))] => some ⟨[.c (.v (.int .u16 (kaV m a f acc b))), .c (.v (.bool (kaOk m a f acc b)))], [], [in16 m = true, in16 a = true, in16 f = true, in16 acc = true, in16 b = true]⟩
  | _ => none
def s_kown : List AV → Option QR.Ans
  | [.x (.c (.v (.int .u16 m))), .x (.c (.v (.int .u16 a))), .x (.c (.v (.int .u16 f))), .x (.c (.v (.int .u16 own)))] => some ⟨[.c (.v (.int .u16 (kaV m a f own 0))), .c (.v (.bool (kaOk m a f own 0)))], [], [in16 m = true, in16 a = true, in16 f = true, in16 own = true]⟩
  | _ => none

-- SPEC intRow adS adC bitB kpH kpL sp3 nrH nrL nearV
def adS (x y c : Int) : Int := (x + y + c) % 18446744073709551616
def adC (x y c : Int) : Int := (x + y + c) / 18446744073709551616
def bitB (c : Int) : Bool := decide (0 ≤ c ∧ c ≤ 1)
def kpZ (h l n : Int) : Int := (w2 h l + n) % 340282366920938463463374607431768211456
def kpH (h l n k : Int) : Int := hi64 (kpZ h l (n * k))
def kpL (h l n k : Int) : Int := lo64 (kpZ h l (n * k))
def sp3 (x0 y0 x1 y1 x2 y2 : Int) : Int := x0 * y0 + x1 * y1 + x2 * y2
def nrH (h l d x : Int) : Int := hi64 (kpZ h l (x * d))
def nrL (h l d x : Int) : Int := lo64 (kpZ h l (x * d))
def nearV (m q r d h l : Int) : Int := bif q == 0 && h == 0 then iconv .u16 (hlf l (imul .u64 m d)) else iconv .u16 (hvV h l q r (imul .u64 m d))
def s_mul64 : List Value → Option (Value × List Bool)
  | [.int .u64 a, .int .u64 b] => some (.tuple #[.int .u64 (wmH a b), .int .u64 (wmL a b)], [inU a, inU b])
  | _ => none
def s_add64 : List Value → Option (Value × List Bool)
  | [.int .u64 x, .int .u64 y, .int .u64 c] => some (.tuple #[.int .u64 (adS x y c), .int .u64 (adC x y c)], [inU x, inU y, bitB c])
  | _ => none
def s_kplus : List AV → Option QR.Ans
  | [.x (.agg [.v (.int .u64 h), .v (.int .u64 l)]), .x (.c (.v (.int .u64 n))), .x (.c (.v (.int .u64 k)))] => some ⟨[.agg [.v (.int .u64 (kpH h l n k)), .v (.int .u64 (kpL h l n k))]], [], [inU h = true, inU l = true, inU n = true, inU k = true]⟩
  | _ => none
def s_kperm : List AV → Option QR.Ans
  | [.x (.c (.v (.int .u16 m))), .x (.c (.v (.int .u16 a))), .x (.c (.v (.int .u16 f))), .x (.c (.slc z n r))] => bif Nat.beq z 1 then some ⟨[.c (.v (.bool (kaOk m a f (intC (den r 0 0)) (intC (den r 1 0)))))], [], [ieq n 2 = true, intRow .u16 1 2 r]⟩ else none
  | _ => none
def s_near : List AV → Option QR.Ans
  | [.x (.c (.v (.int .u16 m))), .x (.agg [.v (.int .u64 h), .v (.int .u64 l), .v (.int .u64 q), .v (.int .u64 r), .v (.int .u64 d)]), .x (.c (.slc z n w))] => bif Nat.beq z 2 then some ⟨[.c (.v (.int .u16 (nearV m q r d (nrH h l d (sp3 (intC (den w 0 0)) (intC (den w 0 1)) (intC (den w 1 0)) (intC (den w 1 1)) (intC (den w 2 0)) (intC (den w 2 1)))) (nrL h l d (sp3 (intC (den w 0 0)) (intC (den w 0 1)) (intC (den w 1 0)) (intC (den w 1 1)) (intC (den w 2 0)) (intC (den w 2 1)))))))], [], [ieq n 3 = true, intRow .u16 2 3 w, in16 m = true, inU h = true, inU l = true, inU q = true, inU r = true, inU d = true, in16 (intC (den w 0 0)) = true, in16 (intC (den w 0 1)) = true, in16 (intC (den w 1 0)) = true, in16 (intC (den w 1 1)) = true, in16 (intC (den w 2 0)) = true, in16 (intC (den w 2 1)) = true]⟩ else none
  | _ => none

def o_rkal : QR.Oracle := QR.orc [(19, s_full8), (20, QR.lift1 s_half)]
end Go.Proofs.Ytdcjengjiiiccaa
