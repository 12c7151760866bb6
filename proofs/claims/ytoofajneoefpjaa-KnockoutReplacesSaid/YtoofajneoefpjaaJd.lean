/-
  The laws of layer 10 (knockout): their conditions.
-/
import Derived.Test.YtoofajneoefpjaaJc
namespace Go.Proofs.Ytoofajneoefpjaa
open Go.RowKit PR QR
set_option linter.unusedVariables false

def s_src10 : List AV → Option QR.Ans
  | [.x (.agg [.v (.int .i64 n0), .v (.int .i64 n1), .v (.int .i64 n2)]), .x (.c (.v (.int .u16 m)))] => some ⟨[.c (.v (.int .u16 (gsV n0 (gsV n1 (gsV n2 m))))), .c (.v (.int .u16 (gsV n1 (gsV n2 m)))), .c (.v (.int .u16 (gsV n2 m)))], [], [in16 m = true]⟩
  | _ => none
def o_src10 : QR.Oracle := QR.orc [(11, QR.lift1 s_gsample)]
set_option maxRecDepth 100000 in
theorem src10_vc (n0 n1 n2 m : Int) (V : List QR.XV → List (List QR.CV) → Prop) : QR.evalBody Try.prog (o_src10) (QR.noLoops) (Try.f8.body.getD .skip) Try.f8.results.toList Try.f8.ntmps [.x (.agg [.v (.int .i64 n0), .v (.int .i64 n1), .v (.int .i64 n2)]), .x (.c (.v (.int .u16 m)))] V = (True ∧ ∀ (i : Int), i = gsV n2 m → (in16 m = true ∧ true = true ∧ true = true ∧ True) ∧ ∀ (i_1 : Int), i_1 = gsV n1 i → (in16 i = true ∧ true = true ∧ true = true ∧ True) ∧ ∀ (i_2 : Int), i_2 = gsV n0 i_1 → (in16 i_1 = true ∧ true = true ∧ true = true ∧ True) ∧ True ∧ V [XV.c (CV.v (Value.int .u16 i_2)), XV.c (CV.v (Value.int .u16 i_1)), XV.c (CV.v (Value.int .u16 i))] []) := by
  try delta o_src10
  try delta s_gsample
  generalize @gsV = gsV
  generalize @in16 = in16
  kernel_rfl
def o_aw10 : QR.Oracle := QR.orc [(10, s_kcol), (14, s_kalpha), (16, s_kown)]
set_option maxRecDepth 100000 in
theorem awake10_vc  (V : List QR.XV → List (List QR.CV) → Prop) : QR.evalBody Try.prog (o_aw10) (QR.noLoops) (Try.f13.body.getD .skip) Try.f13.results.toList Try.f13.ntmps [] V = (True ∧ ∀ (i : Int), i = kcV 1 255 0 0 255 200 30 40 → (in16 255 = true ∧ in16 0 = true ∧ in16 0 = true ∧ in16 255 = true ∧ in16 200 = true ∧ in16 30 = true ∧ in16 40 = true ∧ True) ∧ ∀ (i_1 : Int), i_1 = kaV 255 0 255 220 40 → (in16 255 = true ∧ in16 0 = true ∧ in16 255 = true ∧ in16 220 = true ∧ in16 40 = true ∧ True) ∧ ∀ (i_2 : Int), i_2 = kaV 255 0 255 180 0 → (in16 255 = true ∧ in16 0 = true ∧ in16 255 = true ∧ in16 180 = true ∧ True) ∧ bcond (knOk 1 255 0 0 255 200 30 40) (bcond (ieq i 30) (bcond (kaOk 255 0 255 220 40) (bcond (ieq i_1 40) (bcond (kaOk 255 0 255 180 0) (True ∧ True ∧ V [XV.c (CV.v (Value.bool (ieq i_2 0)))] []) (True ∧ True ∧ V [XV.c (CV.v (Value.bool false))] [])) (True ∧ True ∧ V [XV.c (CV.v (Value.bool false))] [])) (True ∧ True ∧ V [XV.c (CV.v (Value.bool false))] [])) (True ∧ True ∧ V [XV.c (CV.v (Value.bool false))] [])) (True ∧ True ∧ V [XV.c (CV.v (Value.bool false))] [])) := by
  try delta o_aw10
  try delta s_kcol
  try delta s_kalpha
  try delta s_kown
  generalize @in16 = in16
  generalize @kaOk = kaOk
  generalize @kaV = kaV
  generalize @kcV = kcV
  generalize @knOk = knOk
  kernel_rfl
def o_law10a : QR.Oracle := QR.orc [(6, QR.lift1 s_gmax), (7, QR.lift1 s_mod), (9, QR.lift1 s_galpha), (11, QR.lift1 s_gsample), (8, s_src10), (10, s_kcol), (14, s_kalpha), (16, s_kown), (12, s_kcol), (15, s_kalpha), (17, s_kown), (13, s_yes8)]
set_option maxRecDepth 100000 in
theorem KnockoutColorAgrees_vc (mode n0 n1 n2 c b0 b1 m r0 r1 r2 r3 r4 r5 t : Int) (V : List QR.XV → List (List QR.CV) → Prop) : QR.evalBody Try.prog (o_law10a) (QR.noLoops) (Try.f3.body.getD .skip) Try.f3.results.toList Try.f3.ntmps [.x (.c (.v (.int .i64 mode))), .x (.agg [.v (.int .i64 n0), .v (.int .i64 n1), .v (.int .i64 n2)]), .x (.c (.v (.int .i64 c))), .x (.agg [.v (.int .i64 b0), .v (.int .i64 b1)]), .x (.c (.v (.int .i64 m))), .x (.agg [.v (.int .u16 r0), .v (.int .u16 r1), .v (.int .u16 r2), .v (.int .u16 r3), .v (.int .u16 r4), .v (.int .u16 r5)]), .x (.c (.v (.int .u16 t)))] V = (True ∧ ∀ (i : Int), i = gxMax m → ∀ (i_1 : Int), i_1 = gmod mode 14 → (modOk 14 = true ∧ True) ∧ ∀ (i_2 : Int), i_2 = gsV n0 (gsV n1 (gsV n2 i)) → ∀ (i_3 : Int), i_3 = gsV n1 (gsV n2 i) → ∀ (i_4 : Int), i_4 = gsV n2 i → (in16 i = true ∧ True) ∧ ∀ (i_5 : Int), i_5 = gsV b0 (gsV b1 i) → ∀ (i_6 : Int), i_6 = gsV b1 i → (in16 i = true ∧ true = true ∧ true = true ∧ true = true ∧ true = true ∧ True) ∧ ∀ (i_7 : Int), i_7 = gsV c i → ∀ (i_8 : Int), i_8 = kcV i_1 i i_2 i_3 i_4 i_7 i_5 i_6 → (in16 i = true ∧ in16 i_2 = true ∧ in16 i_3 = true ∧ in16 i_4 = true ∧ in16 i_7 = true ∧ in16 i_5 = true ∧ in16 i_6 = true ∧ in16 i = true ∧ True) ∧ ∀ (i_9 : Int), i_9 = gsV c i → ∀ (i_10 : Int), i_10 = kcV i_1 i i_2 i_3 i_4 i_9 i_5 i_6 → (in16 i = true ∧ in16 i_2 = true ∧ in16 i_3 = true ∧ in16 i_4 = true ∧ in16 i_9 = true ∧ in16 i_5 = true ∧ in16 i_6 = true ∧ in16 i = true ∧ True) ∧ ∀ (i_11 : Int), i_11 = kcV i_1 t r0 r1 r2 r3 r4 r5 → (in16 t = true ∧ in16 r0 = true ∧ in16 r1 = true ∧ in16 r2 = true ∧ in16 r3 = true ∧ in16 r4 = true ∧ in16 r5 = true ∧ true = true ∧ true = true ∧ true = true ∧ true = true ∧ true = true ∧ true = true ∧ true = true ∧ true = true ∧ true = true ∧ true = true ∧ true = true ∧ true = true ∧ True) ∧ ∀ (i_12 : Int), i_12 = kcV i_1 t r0 r1 r2 r3 r4 r5 → (in16 t = true ∧ in16 r0 = true ∧ in16 r1 = true ∧ in16 r2 = true ∧ in16 r3 = true ∧ in16 r4 = true ∧ in16 r5 = true ∧ true = true ∧ true = true ∧ true = true ∧ true = true ∧ true = true ∧ true = true ∧ true = true ∧ true = true ∧ true = true ∧ true = true ∧ true = true ∧ true = true ∧ True) ∧ ∀ (i_13 : Int), i_13 = kcV i_1 65535 r0 r1 r2 r3 r4 r5 → (in16 65535 = true ∧ in16 r0 = true ∧ in16 r1 = true ∧ in16 r2 = true ∧ in16 r3 = true ∧ in16 r4 = true ∧ in16 r5 = true ∧ true = true ∧ true = true ∧ true = true ∧ true = true ∧ true = true ∧ true = true ∧ true = true ∧ true = true ∧ true = true ∧ true = true ∧ true = true ∧ true = true ∧ True) ∧ ∀ (i_14 : Int), i_14 = kcV i_1 65535 r0 r1 r2 r3 r4 r5 → (in16 65535 = true ∧ in16 r0 = true ∧ in16 r1 = true ∧ in16 r2 = true ∧ in16 r3 = true ∧ in16 r4 = true ∧ in16 r5 = true ∧ true = true ∧ true = true ∧ true = true ∧ true = true ∧ true = true ∧ true = true ∧ true = true ∧ true = true ∧ true = true ∧ true = true ∧ true = true ∧ true = true ∧ True) ∧ bcond (ieq i_8 i_10) (bcond (beq' (knOk i_1 i i_2 i_3 i_4 i_7 i_5 i_6) (knOk i_1 i i_2 i_3 i_4 i_9 i_5 i_6)) (bcond (ieq i_11 i_12) (bcond (beq' (knOk i_1 t r0 r1 r2 r3 r4 r5) (knOk i_1 t r0 r1 r2 r3 r4 r5)) (bcond (ieq i_13 i_14) (True ∧ True ∧ V [XV.c (CV.v (Value.bool (beq' (knOk i_1 65535 r0 r1 r2 r3 r4 r5) (knOk i_1 65535 r0 r1 r2 r3 r4 r5))))] []) (True ∧ True ∧ V [XV.c (CV.v (Value.bool false))] [])) (True ∧ True ∧ V [XV.c (CV.v (Value.bool false))] [])) (True ∧ True ∧ V [XV.c (CV.v (Value.bool false))] [])) (True ∧ True ∧ V [XV.c (CV.v (Value.bool false))] [])) (True ∧ True ∧ V [XV.c (CV.v (Value.bool false))] [])) := by
  try delta o_law10a
  try delta s_gmax
  try delta s_mod
  try delta s_galpha
  try delta s_gsample
  try delta s_src10
  try delta s_kcol
  try delta s_kalpha
  try delta s_kown
  try delta s_yes8
  generalize @gmod = gmod
  generalize @gsV = gsV
  generalize @gxMax = gxMax
  generalize @in16 = in16
  generalize @kaOk = kaOk
  generalize @kaV = kaV
  generalize @kcV = kcV
  generalize @knOk = knOk
  generalize @modOk = modOk
  kernel_rfl
set_option maxRecDepth 100000 in
theorem KnockoutAlphaAgrees_vc (n0 n1 acc b m r0 r1 r2 r3 t : Int) (V : List QR.XV → List (List QR.CV) → Prop) : QR.evalBody Try.prog (o_law10a) (QR.noLoops) (Try.f4.body.getD .skip) Try.f4.results.toList Try.f4.ntmps [.x (.agg [.v (.int .i64 n0), .v (.int .i64 n1)]), .x (.c (.v (.int .i64 acc))), .x (.c (.v (.int .i64 b))), .x (.c (.v (.int .i64 m))), .x (.agg [.v (.int .u16 r0), .v (.int .u16 r1), .v (.int .u16 r2), .v (.int .u16 r3)]), .x (.c (.v (.int .u16 t)))] V = (True ∧ ∀ (i : Int), i = gxMax m → True ∧ ∀ (i_1 : Int), i_1 = gsV n0 (gsV n1 i) → ∀ (i_2 : Int), i_2 = gsV n1 i → (in16 i = true ∧ true = true ∧ true = true ∧ true = true ∧ true = true ∧ True) ∧ ∀ (i_3 : Int), i_3 = gsV acc i → ∀ (i_4 : Int), i_4 = gsV b i → ∀ (i_5 : Int), i_5 = kaV i i_1 i_2 i_3 i_4 → (in16 i = true ∧ in16 i_1 = true ∧ in16 i_2 = true ∧ in16 i_3 = true ∧ in16 i_4 = true ∧ in16 i = true ∧ in16 i = true ∧ True) ∧ ∀ (i_6 : Int), i_6 = gsV acc i → ∀ (i_7 : Int), i_7 = gsV b i → ∀ (i_8 : Int), i_8 = kaV i i_1 i_2 i_6 i_7 → (in16 i = true ∧ in16 i_1 = true ∧ in16 i_2 = true ∧ in16 i_6 = true ∧ in16 i_7 = true ∧ in16 i = true ∧ in16 i = true ∧ True) ∧ ∀ (i_9 : Int), i_9 = gsV acc i → ∀ (i_10 : Int), i_10 = kaV i i_1 i_2 i_9 0 → (in16 i = true ∧ in16 i_1 = true ∧ in16 i_2 = true ∧ in16 i_9 = true ∧ in16 i = true ∧ True) ∧ ∀ (i_11 : Int), i_11 = gsV acc i → ∀ (i_12 : Int), i_12 = kaV i i_1 i_2 i_11 0 → (in16 i = true ∧ in16 i_1 = true ∧ in16 i_2 = true ∧ in16 i_11 = true ∧ in16 i = true ∧ True) ∧ ∀ (i_13 : Int), i_13 = kaV t r0 r1 r2 r3 → (in16 t = true ∧ in16 r0 = true ∧ in16 r1 = true ∧ in16 r2 = true ∧ in16 r3 = true ∧ true = true ∧ true = true ∧ true = true ∧ true = true ∧ true = true ∧ true = true ∧ true = true ∧ true = true ∧ True) ∧ ∀ (i_14 : Int), i_14 = kaV t r0 r1 r2 r3 → (in16 t = true ∧ in16 r0 = true ∧ in16 r1 = true ∧ in16 r2 = true ∧ in16 r3 = true ∧ true = true ∧ true = true ∧ true = true ∧ true = true ∧ true = true ∧ true = true ∧ true = true ∧ true = true ∧ True) ∧ ∀ (i_15 : Int), i_15 = kaV t r0 r1 r2 0 → (in16 t = true ∧ in16 r0 = true ∧ in16 r1 = true ∧ in16 r2 = true ∧ true = true ∧ true = true ∧ true = true ∧ true = true ∧ true = true ∧ true = true ∧ True) ∧ ∀ (i_16 : Int), i_16 = kaV t r0 r1 r2 0 → (in16 t = true ∧ in16 r0 = true ∧ in16 r1 = true ∧ in16 r2 = true ∧ true = true ∧ true = true ∧ true = true ∧ true = true ∧ true = true ∧ true = true ∧ True) ∧ bcond (ieq i_5 i_8) (bcond (beq' (kaOk i i_1 i_2 i_3 i_4) (kaOk i i_1 i_2 i_6 i_7)) (bcond (ieq i_10 i_12) (bcond (beq' (kaOk i i_1 i_2 i_9 0) (kaOk i i_1 i_2 i_11 0)) (bcond (ieq i_13 i_14) (bcond (beq' (kaOk t r0 r1 r2 r3) (kaOk t r0 r1 r2 r3)) (bcond (ieq i_15 i_16) (True ∧ True ∧ V [XV.c (CV.v (Value.bool (beq' (kaOk t r0 r1 r2 0) (kaOk t r0 r1 r2 0))))] []) (True ∧ True ∧ V [XV.c (CV.v (Value.bool false))] [])) (True ∧ True ∧ V [XV.c (CV.v (Value.bool false))] [])) (True ∧ True ∧ V [XV.c (CV.v (Value.bool false))] [])) (True ∧ True ∧ V [XV.c (CV.v (Value.bool false))] [])) (True ∧ True ∧ V [XV.c (CV.v (Value.bool false))] [])) (True ∧ True ∧ V [XV.c (CV.v (Value.bool false))] [])) (True ∧ True ∧ V [XV.c (CV.v (Value.bool false))] [])) := by
  try delta o_law10a
  try delta s_gmax
  try delta s_mod
  try delta s_galpha
  try delta s_gsample
  try delta s_src10
  try delta s_kcol
  try delta s_kalpha
  try delta s_kown
  try delta s_yes8
  generalize @gmod = gmod
  generalize @gsV = gsV
  generalize @gxMax = gxMax
  generalize @in16 = in16
  generalize @kaOk = kaOk
  generalize @kaV = kaV
  generalize @kcV = kcV
  generalize @knOk = knOk
  generalize @modOk = modOk
  kernel_rfl
set_option maxRecDepth 100000 in
theorem KnockoutReplaces_vc (mode n0 n1 c e b0 b1 m : Int) (V : List QR.XV → List (List QR.CV) → Prop) : QR.evalBody Try.prog (o_law10a) (QR.noLoops) (Try.f5.body.getD .skip) Try.f5.results.toList Try.f5.ntmps [.x (.c (.v (.int .i64 mode))), .x (.agg [.v (.int .i64 n0), .v (.int .i64 n1)]), .x (.c (.v (.int .i64 c))), .x (.c (.v (.int .i64 e))), .x (.agg [.v (.int .i64 b0), .v (.int .i64 b1)]), .x (.c (.v (.int .i64 m)))] V = (True ∧ ∀ (i : Int), i = gxMax m → ∀ (i_1 : Int), i_1 = gmod mode 12 → (modOk 12 = true ∧ True) ∧ ∀ (i_2 : Int), i_2 = gsV n0 (gsV n1 i) → ∀ (i_3 : Int), i_3 = gsV n1 i → (in16 i = true ∧ true = true ∧ true = true ∧ true = true ∧ true = true ∧ True) ∧ ∀ (i_4 : Int), i_4 = gsV b0 (gsV b1 i) → ∀ (i_5 : Int), i_5 = gsV b1 i → (in16 i = true ∧ true = true ∧ true = true ∧ true = true ∧ true = true ∧ True) ∧ ∀ (i_6 : Int), i_6 = gsV c i → ∀ (i_7 : Int), i_7 = gsV e i → (in16 i = true ∧ in16 i = true ∧ True) ∧ ∀ (i_8 : Int), i_8 = kcV (iadd IntKind.i64 1 i_1) i i_2 i_3 i i_6 i_4 i_5 → (in16 i = true ∧ in16 i_2 = true ∧ in16 i_3 = true ∧ in16 i = true ∧ in16 i_6 = true ∧ in16 i_4 = true ∧ in16 i_5 = true ∧ True) ∧ ∀ (i_9 : Int), i_9 = kcV (iadd IntKind.i64 1 i_1) i i_2 i_3 i i_7 i_4 i_5 → (in16 i = true ∧ in16 i_2 = true ∧ in16 i_3 = true ∧ in16 i = true ∧ in16 i_7 = true ∧ in16 i_4 = true ∧ in16 i_5 = true ∧ True) ∧ ∀ (i_10 : Int), i_10 = kcV (iadd IntKind.i64 1 i_1) i 0 0 0 i_6 i_4 i_5 → (in16 i = true ∧ in16 0 = true ∧ in16 0 = true ∧ in16 0 = true ∧ in16 i_6 = true ∧ in16 i_4 = true ∧ in16 i_5 = true ∧ True) ∧ ∀ (i_11 : Int), i_11 = kaV i i_3 i i_6 i_5 → (in16 i = true ∧ in16 i_3 = true ∧ in16 i = true ∧ in16 i_6 = true ∧ in16 i_5 = true ∧ True) ∧ ∀ (i_12 : Int), i_12 = kaV i i_3 i i_7 i_5 → (in16 i = true ∧ in16 i_3 = true ∧ in16 i = true ∧ in16 i_7 = true ∧ in16 i_5 = true ∧ True) ∧ ∀ (i_13 : Int), i_13 = kaV i 0 0 i_6 i_5 → (in16 i = true ∧ in16 0 = true ∧ in16 0 = true ∧ in16 i_6 = true ∧ in16 i_5 = true ∧ True) ∧ ∀ (i_14 : Int), i_14 = kaV i 0 0 i_7 0 → (in16 i = true ∧ in16 0 = true ∧ in16 0 = true ∧ in16 i_7 = true ∧ True) ∧ bcond (knOk (iadd IntKind.i64 1 i_1) i i_2 i_3 i i_6 i_4 i_5) (bcond (knOk (iadd IntKind.i64 1 i_1) i i_2 i_3 i i_7 i_4 i_5) (bcond (knOk (iadd IntKind.i64 1 i_1) i 0 0 0 i_6 i_4 i_5) (bcond (kaOk i i_3 i i_6 i_5) (bcond (kaOk i i_3 i i_7 i_5) (bcond (kaOk i 0 0 i_6 i_5) (bcond (kaOk i 0 0 i_7 0) (bcond (ieq i_8 i_9) (bcond (ieq i_10 i_6) (bcond (ieq i_11 i_12) (bcond (ieq i_13 i_6) (True ∧ True ∧ V [XV.c (CV.v (Value.bool (ieq i_14 i_7)))] []) (True ∧ True ∧ V [XV.c (CV.v (Value.bool false))] [])) (True ∧ True ∧ V [XV.c (CV.v (Value.bool false))] [])) (True ∧ True ∧ V [XV.c (CV.v (Value.bool false))] [])) (True ∧ True ∧ V [XV.c (CV.v (Value.bool false))] [])) (True ∧ True ∧ V [XV.c (CV.v (Value.bool false))] [])) (True ∧ True ∧ V [XV.c (CV.v (Value.bool false))] [])) (True ∧ True ∧ V [XV.c (CV.v (Value.bool false))] [])) (True ∧ True ∧ V [XV.c (CV.v (Value.bool false))] [])) (True ∧ True ∧ V [XV.c (CV.v (Value.bool false))] [])) (True ∧ True ∧ V [XV.c (CV.v (Value.bool false))] [])) (True ∧ True ∧ V [XV.c (CV.v (Value.bool false))] [])) := by
  try delta o_law10a
  try delta s_gmax
  try delta s_mod
  try delta s_galpha
  try delta s_gsample
  try delta s_src10
  try delta s_kcol
  try delta s_kalpha
  try delta s_kown
  try delta s_yes8
  generalize @gmod = gmod
  generalize @gsV = gsV
  generalize @gxMax = gxMax
  generalize @in16 = in16
  generalize @kaOk = kaOk
  generalize @kaV = kaV
  generalize @kcV = kcV
  generalize @knOk = knOk
  generalize @modOk = modOk
  kernel_rfl
end Go.Proofs.Ytoofajneoefpjaa
