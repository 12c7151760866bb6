import Derived.Test.YtpjhdjakpbabhaaGreatDoorZa
import Derived.Test.YtpjhdjakpbabhaaGreatDoorRs
import Derived.Test.YtpjhdjakpbabhaaGreatDoorMa
import Derived.Test.YtpjhdjakpbabhaaGreatDoorRe
namespace Go.Proofs.YtpjhdjakpbabhaaGreatDoor
open Go.RowKit PR QR
set_option linter.unusedVariables false
def zz16 (fz0 : Int) (fz1 : Int → Nat → Int) : Prop := ((((True ∧ ∀ (bz0 : Nat), ilt (Int.ofNat bz0) fz0 = true → IntKind.u16 = IntKind.u16 ∧ fz1 (Int.ofNat bz0) 0 = fz1 (Int.ofNat bz0) 0) ∧ ∀ (bz1 : Nat), ilt (Int.ofNat bz1) fz0 = true → IntKind.u16 = IntKind.u16 ∧ fz1 (Int.ofNat bz1) 1 = fz1 (Int.ofNat bz1) 1) ∧ ∀ (bz2 : Nat), ilt (Int.ofNat bz2) fz0 = true → IntKind.u16 = IntKind.u16 ∧ fz1 (Int.ofNat bz2) 2 = fz1 (Int.ofNat bz2) 2) ∧ ∀ (bz3 : Nat), ilt (Int.ofNat bz3) fz0 = true → IntKind.u16 = IntKind.u16 ∧ fz1 (Int.ofNat bz3) 3 = fz1 (Int.ofNat bz3) 3)
def zz21 (fz0 : Int) (fz1 : Int → Nat → Int) : Prop := (1 = 1 ∧ fz0 = fz0 ∧ True ∧ ∀ (bz0 : Nat), ilt (Int.ofNat bz0) fz0 = true → IntKind.u16 = IntKind.u16 ∧ fz1 (Int.ofNat bz0) 0 = fz1 (Int.ofNat bz0) 0)
def zz80 (fz0 : Int) (fz1 : Int → Nat → Int) : Prop := (true = true ∧ 5 = 5 ∧ fz0 = fz0 ∧ (zz16 fz0 fz1) ∧ ∀ (bz0 : Nat), ilt (Int.ofNat bz0) fz0 = true → IntKind.u16 = IntKind.u16 ∧ fz1 (Int.ofNat bz0) 4 = fz1 (Int.ofNat bz0) 4)
def zz82 (fz0 : Int) (fz1 : Int → Nat → Int) : Prop := ((5 = 5 ∧ fz0 = fz0 ∧ (zz16 fz0 fz1) ∧ ∀ (bz0 : Nat), ilt (Int.ofNat bz0) fz0 = true → IntKind.u16 = IntKind.u16 ∧ fz1 (Int.ofNat bz0) 4 = fz1 (Int.ofNat bz0) 4) ∧ True)
def zz120 : Prop := (true = true ∧ true = true ∧ true = true ∧ true = true ∧ true = true ∧ true = true ∧ True)
def zz198 (fz0 : Int) (fz1 : Int → Nat → Int) : Prop := ((6 = 6 ∧ fz0 = fz0 ∧ ((zz16 fz0 fz1) ∧ ∀ (bz0 : Nat), ilt (Int.ofNat bz0) fz0 = true → IntKind.u16 = IntKind.u16 ∧ fz1 (Int.ofNat bz0) 4 = fz1 (Int.ofNat bz0) 4) ∧ ∀ (bz1 : Nat), ilt (Int.ofNat bz1) fz0 = true → IntKind.u16 = IntKind.u16 ∧ fz1 (Int.ofNat bz1) 5 = fz1 (Int.ofNat bz1) 5) ∧ True)
def zz202 : Prop := (true = true ∧ 72 = 72 ∧ [(100000000000000806, 0), (100000000000000807, 0), (100000000000000808, 0)] = [(100000000000000806, 0), (100000000000000807, 0), (100000000000000808, 0)])
def zz220 : Prop := (true = true ∧ 48 = 48 ∧ [(100000000000000800, 0), (100000000000000801, 0), (100000000000000802, 0), (100000000000000803, 0), (100000000000000804, 0), (100000000000000809, 0), (100000000000000810, 0)] = [(100000000000000800, 0), (100000000000000801, 0), (100000000000000802, 0), (100000000000000803, 0), (100000000000000804, 0), (100000000000000809, 0), (100000000000000810, 0)])
def zz225 : Prop := (true = true ∧ 26 = 26 ∧ [(100000000000000800, 0), (100000000000000801, 0), (100000000000000802, 0), (100000000000000803, 0), (100000000000000804, 0)] = [(100000000000000800, 0), (100000000000000801, 0), (100000000000000802, 0), (100000000000000803, 0), (100000000000000804, 0)])
def zz229 (fz0 : Int) : Prop := (ile 0 fz0 = true ∧ ile fz0 fz0 = true ∧ ile (imulZ fz0 10) 140737488355328 = true ∧ ile fz0 140737488355328 = true ∧ True)
def zz233 : Prop := (true = true ∧ 55 = 55 ∧ [(100000000000000800, 0), (100000000000000801, 0), (100000000000000802, 0)] = [(100000000000000800, 0), (100000000000000801, 0), (100000000000000802, 0)])
def zz234 : Prop := (true = true ∧ 89 = 89 ∧ [(100000000000000806, 0), (100000000000000807, 0), (100000000000000808, 0)] = [(100000000000000806, 0), (100000000000000807, 0), (100000000000000808, 0)])
def zz238 (fz0 : Int) (fz1 : Int → Nat → Int) : Prop := (intRow IntKind.u16 5 fz0 (QR.Row.fn fun (bz0 : Int) (bz1 : Nat) => CV.v (Value.int .u16 (fz1 bz0 bz1))) ∧ ile 0 fz0 = true ∧ ile fz0 9223372036854775807 = true ∧ True)
def zz240 : Prop := (true = true ∧ 72 = 72 ∧ [(4194305, 0), (4195328, 0), (4194304, 0)] = [(4194305, 0), (4195328, 0), (4194304, 0)])
def zz241 : Prop := (true = true ∧ 48 = 48 ∧ [(0, 0), (1, 0), (2, 0), (3, 0), (4, 0), (5, 0), (6, 0)] = [(0, 0), (1, 0), (2, 0), (3, 0), (4, 0), (5, 0), (6, 0)])
def zz242 : Prop := (true = true ∧ 26 = 26 ∧ [(0, 0), (1, 0), (2, 0), (3, 0), (4, 0)] = [(0, 0), (1, 0), (2, 0), (3, 0), (4, 0)])
def zz243 : Prop := ((48 = 48 ∧ [(100000000000000800, 0), (100000000000000801, 0), (100000000000000802, 0), (100000000000000803, 0), (100000000000000804, 0), (100000000000000809, 0), (100000000000000810, 0)] = [(100000000000000800, 0), (100000000000000801, 0), (100000000000000802, 0), (100000000000000803, 0), (100000000000000804, 0), (100000000000000809, 0), (100000000000000810, 0)]) ∧ True)
def zz245 (fz0 : Int) : Prop := (ile 0 fz0 = true ∧ ile fz0 fz0 = true ∧ ile (imulZ fz0 12) 140737488355328 = true ∧ ile fz0 140737488355328 = true ∧ True)
def zz246 : Prop := ((26 = 26 ∧ [(100000000000000800, 0), (100000000000000801, 0), (100000000000000802, 0), (100000000000000803, 0), (100000000000000804, 0)] = [(100000000000000800, 0), (100000000000000801, 0), (100000000000000802, 0), (100000000000000803, 0), (100000000000000804, 0)]) ∧ True)
def zz247 (fz0 : Int) (fz1 : Int) (fz2 : Int) : Prop := (in16 fz0 = true ∧ in16 fz1 = true ∧ ile fz0 fz1 = true ∧ true = true ∧ true = true ∧ in16 fz2 = true ∧ in16 fz1 = true ∧ ile fz2 fz1 = true ∧ true = true ∧ true = true ∧ True)
def zz251 (fz0 : Int) (fz1 : Int) : List QR.XV := [XV.c (CV.v (Value.int .u16 fz0)), XV.c (CV.v (Value.int .u16 fz1)), XV.c (CV.v (Value.bool true))]
def zz253 (fz0 : Int) (fz1 : Int) (fz2 : Int) : Prop := (inU (imul IntKind.u64 (iconv IntKind.u64 fz0) (iconv IntKind.u64 fz1)) = true ∧ inU (iconv IntKind.u64 fz2) = true ∧ True)
def zz256 : QR.Row := (QR.Row.upd (QR.Row.upd (QR.Row.upd (QR.Row.zer [Value.int .u16 0, Value.int .u16 0, Value.int .u16 0, Value.int .u16 0, Value.int .u16 0]) 0 0 (CV.v (Value.int .u16 0))) 0 1 (CV.v (Value.int .u16 0))) 0 2 (CV.v (Value.int .u16 0)))
def zz262 (fz0 : Int) (fz1 : Int) (fz2 : Int) (fz3 : Int) (fz4 : Int) : List QR.CV := [CV.v (Value.int .u16 fz0), CV.v (Value.int .u16 fz1), CV.v (Value.int .u16 fz2), CV.v (Value.int .u16 fz3), CV.v (Value.int .u16 fz4)]
def zz264 : QR.Row := (QR.Row.upd (QR.Row.upd (QR.Row.upd (QR.Row.upd (QR.Row.upd (QR.Row.upd (QR.Row.upd zz256 0 3 (CV.v (Value.int .u16 255))) 0 4 (CV.v (Value.int .u16 255))) 1 0 (CV.v (Value.int .u16 0))) 1 1 (CV.v (Value.int .u16 0))) 1 2 (CV.v (Value.int .u16 0))) 1 3 (CV.v (Value.int .u16 255))) 1 4 (CV.v (Value.int .u16 255)))
def zz270 (fz0 : Int) (fz1 : Int) (fz2 : Int) (fz3 : Int) (fz4 : Int) : Prop := (in16 fz0 = true ∧ in16 fz1 = true ∧ in16 fz2 = true ∧ in16 fz3 = true ∧ in16 fz4 = true ∧ true = true ∧ true = true ∧ true = true ∧ true = true ∧ True)
def zz272 (fz0 : Int) (fz1 : Int) (fz2 : Int) (fz3 : Int) (fz4 : Int) (fz5 : Int) : Prop := (inU fz0 = true ∧ inU fz1 = true ∧ inU fz2 = true ∧ inU fz3 = true ∧ inU (imul IntKind.u64 (iconv IntKind.u64 fz4) fz5) = true ∧ True)
def zz274 : List QR.XV := [XV.agg [CV.v (Value.int .u16 0), CV.v (Value.int .u16 0), CV.v (Value.int .u16 0), CV.v (Value.int .u16 0), CV.v (Value.int .u16 0)], XV.c (CV.v (Value.bool false))]
def zz275 : QR.Row := (QR.Row.upd (QR.Row.upd zz256 0 3 (CV.v (Value.int .u16 255))) 0 4 (CV.v (Value.int .u16 255)))
def zz277 : QR.Row := (QR.Row.upd (QR.Row.upd zz256 0 3 (CV.v (Value.int .u16 0))) 0 4 (CV.v (Value.int .u16 0)))
end Go.Proofs.YtpjhdjakpbabhaaGreatDoor
