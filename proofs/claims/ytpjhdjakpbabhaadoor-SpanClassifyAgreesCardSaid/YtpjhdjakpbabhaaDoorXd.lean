import Derived.Test.YtpjhdjakpbabhaaDoorZaa
import Derived.Test.YtpjhdjakpbabhaaDoorZ0
import Derived.Test.YtpjhdjakpbabhaaDoorXc
import Derived.Test.YtpjhdjakpbabhaaDoorZc
import Derived.Test.YtpjhdjakpbabhaaDoorZh
import Derived.Test.YtpjhdjakpbabhaaDoorRs
namespace Go.Proofs.YtpjhdjakpbabhaaDoor
open Go.RowKit PR QR
set_option linter.unusedVariables false
def s_yes16 : List AV → Option QR.Ans
  | [] => some ⟨[.c (.v (.bool true))], [], []⟩
  | _ => none
def o_law16a : QR.Oracle := QR.orc [(5, s_gmax2), (7, QR.lift1 s_mod), (6, s_gpxs), (9, s_scls), (10, s_scls), (8, s_yes16)]
def o_aw16 : QR.Oracle := QR.orc [(16, s_srow), (9, s_scls)]
set_option maxRecDepth 100000 in
theorem awake16_vc  (V : List QR.XV → List (List QR.CV) → Prop) : QR.evalBody Tryd.prog (o_aw16) (QR.noLoops) (Tryd.f8.body.getD .skip) Tryd.f8.results.toList Tryd.f8.ntmps [] V = (True ∧ True ∧ (intRow IntKind.u16 5 1 zz275 ∧ intRow IntKind.u16 5 1 zz277 ∧ row16 5 1 (qOf zz275) ∧ row16 5 1 (qOf zz277) ∧ in16 255 = true ∧ true = true ∧ true = true ∧ true = true ∧ True) ∧ ∀ (i : Int), i = clsV 2 (qOf zz264) 255 → bcond (ieq i 2) (∀ (i : Int), i = clsV 0 (qOf (QR.Row.zer [])) 255 → bcond (ieq i 1) (bcond (rcOk 4 1 255 1 1 (qOf zz275) (qOf zz277)) (∀ (i : Int), i = rcN 4 1 255 1 1 (qOf zz275) (qOf zz277) → bcond (ieq i 1) ((true = true ∧ ilt 0 (rcN 4 1 255 1 1 (qOf zz275) (qOf zz277)) = true ∧ intRow IntKind.u16 5 0 (QR.Row.zer []) ∧ true = true ∧ true = true ∧ intRow IntKind.u16 5 2 zz264 ∧ true = true ∧ true = true ∧ True) ∧ True ∧ V [XV.c (CV.v (Value.bool (band (band (ieq (rcV 4 1 255 (qOf zz275) (qOf zz277) 0 0) 0) (band (ieq (rcV 4 1 255 (qOf zz275) (qOf zz277) 0 1) 0) (band (ieq (rcV 4 1 255 (qOf zz275) (qOf zz277) 0 2) 0) true))) (band (ieq (rcV 4 1 255 (qOf zz275) (qOf zz277) 0 3) 255) (band (ieq (rcV 4 1 255 (qOf zz275) (qOf zz277) 0 4) 255) true)))))] []) ((intRow IntKind.u16 5 0 (QR.Row.zer []) ∧ true = true ∧ true = true ∧ intRow IntKind.u16 5 2 zz264 ∧ true = true ∧ true = true ∧ True) ∧ True ∧ V [XV.c (CV.v (Value.bool false))] [])) ((intRow IntKind.u16 5 0 (QR.Row.zer []) ∧ true = true ∧ true = true ∧ intRow IntKind.u16 5 2 zz264 ∧ true = true ∧ true = true ∧ True) ∧ True ∧ V [XV.c (CV.v (Value.bool false))] [])) ((intRow IntKind.u16 5 0 (QR.Row.zer []) ∧ true = true ∧ true = true ∧ intRow IntKind.u16 5 2 zz264 ∧ true = true ∧ true = true ∧ True) ∧ True ∧ V [XV.c (CV.v (Value.bool false))] [])) ((intRow IntKind.u16 5 2 zz264 ∧ true = true ∧ true = true ∧ True) ∧ True ∧ V [XV.c (CV.v (Value.bool false))] [])) := by
  delta zz256 zz264 zz275 zz277
  try delta o_aw16
  try delta s_srow
  try delta s_scls
  generalize @clsV = clsV
  generalize @in16 = in16
  generalize @intRow = intRow
  generalize @qOf = qOf
  generalize @rcN = rcN
  generalize @rcOk = rcOk
  generalize @rcV = rcV
  generalize @row16 = row16
  kernel_rfl
set_option maxRecDepth 100000 in
theorem SpanClassifyAgrees_vc (md : Int) (rn : Int) (rl : Int → Nat → Int) (n mx : Int) (wn : Int) (wl : Int → Nat → Int) (ms : Int) (V : List QR.XV → List (List QR.CV) → Prop) : QR.evalBody Tryd.prog (o_law16a) (QR.noLoops) (Tryd.f3.body.getD .skip) Tryd.f3.results.toList Tryd.f3.ntmps [.x (.agg [.v (.int .i64 md), .slc 5 rn (.fn fun i j => .v (.int .i64 (rl i j)))]), .x (.c (.v (.int .i64 n))), .x (.c (.v (.int .i64 mx))), .x (.c (.slc 5 wn (.fn fun i j => .v (.int .u16 (wl i j))))), .x (.c (.v (.int .u16 ms)))] V = (True ∧ ∀ (i : Int), i = gxMax mx → True ∧ ∀ (i_1 : Int), i_1 = gmod n 12 → (intRow IntKind.i64 5 rn (QR.Row.fn fun (i : Int) (j : Nat) => CV.v (Value.int .i64 (rl i j))) ∧ ile 0 rn = true ∧ in16 i = true ∧ ile i_1 1099511627776 = true ∧ modOk 12 = true ∧ True) ∧ ∀ (i_2 : Int), i_2 = clsV (iimax i_1 0) (qOf (zz252 md rn rl i)) i → ∀ (i_3 : Int), i_3 = clsV (iimax i_1 0) (qOf (zz252 md rn rl i)) i → bcond (ieq i_2 i_3) (∀ (i_4 : Int), i_4 = clsV wn (qOf (QR.Row.fn fun (i : Int) (j : Nat) => CV.v (Value.int .u16 (wl i j)))) ms → ∀ (i_5 : Int), i_5 = clsV wn (qOf (QR.Row.fn fun (i : Int) (j : Nat) => CV.v (Value.int .u16 (wl i j)))) ms → bcond (ieq i_4 i_5) (∀ (i_6 : Int), i_6 = clsV (iimax i_1 0) (qOf (zz252 md rn rl i)) ms → ∀ (i_7 : Int), i_7 = clsV (iimax i_1 0) (qOf (zz252 md rn rl i)) ms → (intRow IntKind.u16 5 (iimax i_1 0) (zz252 md rn rl i) ∧ ile 0 (iimax i_1 0) = true ∧ ile (iimax i_1 0) 9223372036854775807 = true ∧ intRow IntKind.u16 5 (iimax i_1 0) (zz252 md rn rl i) ∧ ile 0 (iimax i_1 0) = true ∧ ile (iimax i_1 0) 9223372036854775807 = true ∧ intRow IntKind.u16 5 wn (QR.Row.fn fun (i : Int) (j : Nat) => CV.v (Value.int .u16 (wl i j))) ∧ ile 0 wn = true ∧ ile wn 9223372036854775807 = true ∧ intRow IntKind.u16 5 wn (QR.Row.fn fun (i : Int) (j : Nat) => CV.v (Value.int .u16 (wl i j))) ∧ ile 0 wn = true ∧ ile wn 9223372036854775807 = true ∧ intRow IntKind.u16 5 (iimax i_1 0) (zz252 md rn rl i) ∧ ile 0 (iimax i_1 0) = true ∧ ile (iimax i_1 0) 9223372036854775807 = true ∧ intRow IntKind.u16 5 (iimax i_1 0) (zz252 md rn rl i) ∧ ile 0 (iimax i_1 0) = true ∧ ile (iimax i_1 0) 9223372036854775807 = true ∧ True) ∧ True ∧ V [XV.c (CV.v (Value.bool (ieq i_6 i_7)))] []) ((intRow IntKind.u16 5 wn (QR.Row.fn fun (i : Int) (j : Nat) => CV.v (Value.int .u16 (wl i j))) ∧ ile 0 wn = true ∧ ile wn 9223372036854775807 = true ∧ intRow IntKind.u16 5 wn (QR.Row.fn fun (i : Int) (j : Nat) => CV.v (Value.int .u16 (wl i j))) ∧ ile 0 wn = true ∧ ile wn 9223372036854775807 = true ∧ intRow IntKind.u16 5 (iimax i_1 0) (zz252 md rn rl i) ∧ ile 0 (iimax i_1 0) = true ∧ ile (iimax i_1 0) 9223372036854775807 = true ∧ intRow IntKind.u16 5 (iimax i_1 0) (zz252 md rn rl i) ∧ ile 0 (iimax i_1 0) = true ∧ ile (iimax i_1 0) 9223372036854775807 = true ∧ True) ∧ True ∧ V [XV.c (CV.v (Value.bool false))] [])) ((intRow IntKind.u16 5 (iimax i_1 0) (zz252 md rn rl i) ∧ ile 0 (iimax i_1 0) = true ∧ ile (iimax i_1 0) 9223372036854775807 = true ∧ intRow IntKind.u16 5 (iimax i_1 0) (zz252 md rn rl i) ∧ ile 0 (iimax i_1 0) = true ∧ ile (iimax i_1 0) 9223372036854775807 = true ∧ True) ∧ True ∧ V [XV.c (CV.v (Value.bool false))] [])) := by
  delta zz252
  try delta o_law16a
  try delta s_gmax2
  try delta s_mod
  try delta s_gpxs
  try delta s_scls
  try delta s_yes16
  generalize @clsV = clsV
  generalize @gmod = gmod
  generalize @gpxV = gpxV
  generalize @gxMax = gxMax
  generalize @in16 = in16
  generalize @intRow = intRow
  generalize @modOk = modOk
  generalize @qOf = qOf
  kernel_rfl
end Go.Proofs.YtpjhdjakpbabhaaDoor
