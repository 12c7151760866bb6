import Derived.Test.YtpjhdjakpbabhaaGreatDoorZaa
import Derived.Test.YtpjhdjakpbabhaaGreatDoorZ0
import Derived.Test.YtpjhdjakpbabhaaGreatDoorXc
import Derived.Test.YtpjhdjakpbabhaaGreatDoorZa
import Derived.Test.YtpjhdjakpbabhaaGreatDoorRs
import Derived.Test.YtpjhdjakpbabhaaGreatDoorMa
namespace Go.Proofs.YtpjhdjakpbabhaaGreatDoor
open Go.RowKit PR QR
set_option linter.unusedVariables false
def s_yes16 : List AV → Option QR.Ans
  | [] => some ⟨[.c (.v (.bool true))], [], []⟩
  | _ => none
def o_law16n : QR.Oracle := QR.orc [(10, s_srow), (21, s_sscl), (17, s_sstep), (18, s_sres), (11, s_yes16)]
def o_aw16 : QR.Oracle := QR.orc [(10, s_srow), (34, s_scls)]
set_option maxRecDepth 100000 in
theorem awake16_vc  (V : List QR.XV → List (List QR.CV) → Prop) : QR.evalBody Tryz.prog (o_aw16) (QR.noLoops) (Tryz.f11.body.getD .skip) Tryz.f11.results.toList Tryz.f11.ntmps [] V = (True ∧ True ∧ (intRow IntKind.u16 5 1 zz275 ∧ intRow IntKind.u16 5 1 zz277 ∧ row16 5 1 (qOf zz275) ∧ row16 5 1 (qOf zz277) ∧ in16 255 = true ∧ true = true ∧ true = true ∧ true = true ∧ True) ∧ ∀ (i : Int), i = clsV 2 (qOf zz264) 255 → bcond (ieq i 2) (∀ (i : Int), i = clsV 0 (qOf (QR.Row.zer [])) 255 → bcond (ieq i 1) (bcond (rcOk 4 1 255 1 1 (qOf zz275) (qOf zz277)) (∀ (i : Int), i = rcN 4 1 255 1 1 (qOf zz275) (qOf zz277) → bcond (ieq i 1) ((true = true ∧ ilt 0 (rcN 4 1 255 1 1 (qOf zz275) (qOf zz277)) = true ∧ intRow IntKind.u16 5 0 (QR.Row.zer []) ∧ true = true ∧ true = true ∧ intRow IntKind.u16 5 2 zz264 ∧ true = true ∧ true = true ∧ True) ∧ True ∧ V [XV.c (CV.v (Value.bool (band (band (ieq (rcV 4 1 255 (qOf zz275) (qOf zz277) 0 0) 0) (band (ieq (rcV 4 1 255 (qOf zz275) (qOf zz277) 0 1) 0) (band (ieq (rcV 4 1 255 (qOf zz275) (qOf zz277) 0 2) 0) true))) (band (ieq (rcV 4 1 255 (qOf zz275) (qOf zz277) 0 3) 255) (band (ieq (rcV 4 1 255 (qOf zz275) (qOf zz277) 0 4) 255) true)))))] []) ((intRow IntKind.u16 5 0 (QR.Row.zer []) ∧ true = true ∧ true = true ∧ intRow IntKind.u16 5 2 zz264 ∧ true = true ∧ true = true ∧ True) ∧ True ∧ V [XV.c (CV.v (Value.bool false))] [])) ((intRow IntKind.u16 5 0 (QR.Row.zer []) ∧ true = true ∧ true = true ∧ intRow IntKind.u16 5 2 zz264 ∧ true = true ∧ true = true ∧ True) ∧ True ∧ V [XV.c (CV.v (Value.bool false))] [])) ((intRow IntKind.u16 5 0 (QR.Row.zer []) ∧ true = true ∧ true = true ∧ intRow IntKind.u16 5 2 zz264 ∧ true = true ∧ true = true ∧ True) ∧ True ∧ V [XV.c (CV.v (Value.bool false))] [])) ((intRow IntKind.u16 5 2 zz264 ∧ true = true ∧ true = true ∧ True) ∧ True ∧ V [XV.c (CV.v (Value.bool false))] [])) := by
  delta zz256 zz264 zz275 zz277
  try delta o_aw16
  try delta s_srow
  try delta s_scls
  generalize @clsV = clsV
  generalize @in16 = in16
  generalize @intRow = intRow
  generalize @qOf = qOf
  generalize @rcN = rcN
  generalize @rcOk = rcOk
  generalize @rcV = rcV
  generalize @row16 = row16
  kernel_rfl
set_option maxRecDepth 100000 in
theorem SpanOfNothing_vc (op' mode m oc : Int) (kn : Bool) (V : List QR.XV → List (List QR.CV) → Prop) : QR.evalBody Tryz.prog (o_law16n) (QR.noLoops) (Tryz.f6.body.getD .skip) Tryz.f6.results.toList Tryz.f6.ntmps [.x (.c (.v (.int .i64 op'))), .x (.c (.v (.int .i64 mode))), .x (.c (.v (.int .u16 m))), .x (.c (.v (.int .u16 oc))), .x (.c (.v (.bool kn)))] V = (True ∧ (intRow IntKind.u16 5 0 (QR.Row.zer []) ∧ intRow IntKind.u16 5 0 (QR.Row.zer []) ∧ row16 5 0 (qOf (QR.Row.zer [])) ∧ row16 5 0 (qOf (QR.Row.zer [])) ∧ in16 m = true ∧ true = true ∧ true = true ∧ true = true ∧ True) ∧ (intRow IntKind.u16 5 0 (QR.Row.zer []) ∧ intRow IntKind.u16 1 0 (QR.Row.zer []) ∧ row16 5 0 (qOf (QR.Row.zer [])) ∧ (row16 1 0 fun (i : Int) (x : Nat) => qO1 (QR.Row.zer []) i) ∧ in16 m = true ∧ in16 oc = true ∧ true = true ∧ true = true ∧ true = true ∧ True) ∧ (intRow IntKind.u16 5 0 (QR.Row.zer []) ∧ intRow IntKind.u16 6 0 (QR.Row.zer []) ∧ intRow IntKind.u16 5 0 (QR.Row.zer []) ∧ row16 5 0 (qOf (QR.Row.zer [])) ∧ row16 6 0 (qOf (QR.Row.zer [])) ∧ row16 5 0 (qOf (QR.Row.zer [])) ∧ in16 m = true ∧ true = true ∧ true = true ∧ true = true ∧ true = true ∧ True) ∧ (intRow IntKind.u16 6 0 (QR.Row.zer []) ∧ intRow IntKind.u16 5 0 (QR.Row.zer []) ∧ row16 6 0 (qOf (QR.Row.zer [])) ∧ row16 5 0 (qOf (QR.Row.zer [])) ∧ in16 m = true ∧ true = true ∧ true = true ∧ true = true ∧ True) ∧ (intRow IntKind.u16 6 1 (QR.Row.zer [Value.int .u16 0, Value.int .u16 0, Value.int .u16 0, Value.int .u16 0, Value.int .u16 0, Value.int .u16 0]) ∧ intRow IntKind.u16 5 0 (QR.Row.zer []) ∧ row16 6 1 (qOf (QR.Row.zer [Value.int .u16 0, Value.int .u16 0, Value.int .u16 0, Value.int .u16 0, Value.int .u16 0, Value.int .u16 0])) ∧ row16 5 0 (qOf (QR.Row.zer [])) ∧ in16 m = true ∧ true = true ∧ true = true ∧ true = true ∧ true = true ∧ true = true ∧ true = true ∧ true = true ∧ True) ∧ (intRow IntKind.u16 5 0 (QR.Row.zer []) ∧ intRow IntKind.u16 6 0 (QR.Row.zer []) ∧ intRow IntKind.u16 5 1 (QR.Row.zer [Value.int .u16 0, Value.int .u16 0, Value.int .u16 0, Value.int .u16 0, Value.int .u16 0]) ∧ row16 5 0 (qOf (QR.Row.zer [])) ∧ row16 6 0 (qOf (QR.Row.zer [])) ∧ row16 5 1 (qOf (QR.Row.zer [Value.int .u16 0, Value.int .u16 0, Value.int .u16 0, Value.int .u16 0, Value.int .u16 0])) ∧ in16 m = true ∧ true = true ∧ true = true ∧ true = true ∧ true = true ∧ true = true ∧ true = true ∧ true = true ∧ true = true ∧ True) ∧ bcond (rcOk op' mode m 0 0 (qOf (QR.Row.zer [])) (qOf (QR.Row.zer []))) (bcond (rsOk m oc 0 0 (qOf (QR.Row.zer [])) (qO1 (QR.Row.zer []))) (bcond (rgOk kn op' mode m 0 0 0 (qOf (QR.Row.zer [])) (qOf (QR.Row.zer [])) (qOf (QR.Row.zer []))) (bcond (rrOk m 0 0 (qOf (QR.Row.zer [])) (qOf (QR.Row.zer []))) (bcond (bnot (rrOk m 1 0 (qOf (QR.Row.zer [Value.int .u16 0, Value.int .u16 0, Value.int .u16 0, Value.int .u16 0, Value.int .u16 0, Value.int .u16 0])) (qOf (QR.Row.zer [])))) (bcond (bnot (rgOk kn op' mode m 0 0 1 (qOf (QR.Row.zer [])) (qOf (QR.Row.zer [])) (qOf (QR.Row.zer [Value.int .u16 0, Value.int .u16 0, Value.int .u16 0, Value.int .u16 0, Value.int .u16 0])))) (∀ (i : Int), i = rcN op' mode m 0 0 (qOf (QR.Row.zer [])) (qOf (QR.Row.zer [])) → ∀ (i_1 : Int), i_1 = rsN m oc 0 0 (qOf (QR.Row.zer [])) (qO1 (QR.Row.zer [])) → ∀ (i_2 : Int), i_2 = rgN kn op' mode m 0 0 0 (qOf (QR.Row.zer [])) (qOf (QR.Row.zer [])) (qOf (QR.Row.zer [])) → ∀ (i_3 : Int), i_3 = rrN m 0 0 (qOf (QR.Row.zer [])) (qOf (QR.Row.zer [])) → True ∧ True ∧ V [XV.c (CV.v (Value.bool (ieq (iadd IntKind.i64 (iadd IntKind.i64 (iadd IntKind.i64 i i_1) i_2) i_3) 0)))] []) (True ∧ True ∧ V [XV.c (CV.v (Value.bool false))] [])) (True ∧ True ∧ V [XV.c (CV.v (Value.bool false))] [])) (True ∧ True ∧ V [XV.c (CV.v (Value.bool false))] [])) (True ∧ True ∧ V [XV.c (CV.v (Value.bool false))] [])) (True ∧ True ∧ V [XV.c (CV.v (Value.bool false))] [])) (True ∧ True ∧ V [XV.c (CV.v (Value.bool false))] [])) := by
  try delta o_law16n
  try delta s_srow
  try delta s_sscl
  try delta s_sstep
  try delta s_sres
  try delta s_yes16
  generalize @in16 = in16
  generalize @intRow = intRow
  generalize @qO1 = qO1
  generalize @qOf = qOf
  generalize @rcN = rcN
  generalize @rcOk = rcOk
  generalize @rcV = rcV
  generalize @rgN = rgN
  generalize @rgOk = rgOk
  generalize @rgV = rgV
  generalize @row16 = row16
  generalize @rrN = rrN
  generalize @rrOk = rrOk
  generalize @rrV = rrV
  generalize @rsN = rsN
  generalize @rsOk = rsOk
  generalize @rsV = rsV
  kernel_rfl
end Go.Proofs.YtpjhdjakpbabhaaGreatDoor
