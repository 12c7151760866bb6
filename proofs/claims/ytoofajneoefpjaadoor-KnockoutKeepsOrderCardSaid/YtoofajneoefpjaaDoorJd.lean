/-
  The laws of layer 10 (knockout): their conditions.
-/
import Derived.Test.YtoofajneoefpjaaDoorJc
namespace Go.Proofs.YtoofajneoefpjaaDoor
open Go.RowKit PR QR
set_option linter.unusedVariables false

def s_src10 : List AV → Option QR.Ans
  | [.x (.agg [.v (.int .i64 n0), .v (.int .i64 n1), .v (.int .i64 n2)]), .x (.c (.v (.int .u16 m)))] => some ⟨[.c (.v (.int .u16 (gsV n0 (gsV n1 (gsV n2 m))))), .c (.v (.int .u16 (gsV n1 (gsV n2 m)))), .c (.v (.int .u16 (gsV n2 m)))], [], [in16 m = true]⟩
  | _ => none
def o_src10 : QR.Oracle := QR.orc [(15, QR.lift1 s_gsample)]
set_option maxRecDepth 100000 in
theorem src10_vc (n0 n1 n2 m : Int) (V : List QR.XV → List (List QR.CV) → Prop) : QR.evalBody Tryd.prog (o_src10) (QR.noLoops) (Tryd.f7.body.getD .skip) Tryd.f7.results.toList Tryd.f7.ntmps [.x (.agg [.v (.int .i64 n0), .v (.int .i64 n1), .v (.int .i64 n2)]), .x (.c (.v (.int .u16 m)))] V = (True ∧ ∀ (i : Int), i = gsV n2 m → (in16 m = true ∧ true = true ∧ true = true ∧ True) ∧ ∀ (i_1 : Int), i_1 = gsV n1 i → (in16 i = true ∧ true = true ∧ true = true ∧ True) ∧ ∀ (i_2 : Int), i_2 = gsV n0 i_1 → (in16 i_1 = true ∧ true = true ∧ true = true ∧ True) ∧ True ∧ V [XV.c (CV.v (Value.int .u16 i_2)), XV.c (CV.v (Value.int .u16 i_1)), XV.c (CV.v (Value.int .u16 i))] []) := by
  try delta o_src10
  try delta s_gsample
  generalize @gsV = gsV
  generalize @in16 = in16
  kernel_rfl
def o_aw10 : QR.Oracle := QR.orc [(9, s_kcol), (11, s_kalpha), (12, s_kown)]
set_option maxRecDepth 100000 in
theorem awake10_vc  (V : List QR.XV → List (List QR.CV) → Prop) : QR.evalBody Tryd.prog (o_aw10) (QR.noLoops) (Tryd.f13.body.getD .skip) Tryd.f13.results.toList Tryd.f13.ntmps [] V = (True ∧ ∀ (i : Int), i = kcV 1 255 0 0 255 200 30 40 → (in16 255 = true ∧ in16 0 = true ∧ in16 0 = true ∧ in16 255 = true ∧ in16 200 = true ∧ in16 30 = true ∧ in16 40 = true ∧ True) ∧ ∀ (i_1 : Int), i_1 = kaV 255 0 255 220 40 → (in16 255 = true ∧ in16 0 = true ∧ in16 255 = true ∧ in16 220 = true ∧ in16 40 = true ∧ True) ∧ ∀ (i_2 : Int), i_2 = kaV 255 0 255 180 0 → (in16 255 = true ∧ in16 0 = true ∧ in16 255 = true ∧ in16 180 = true ∧ True) ∧ bcond (knOk 1 255 0 0 255 200 30 40) (bcond (ieq i 30) (bcond (kaOk 255 0 255 220 40) (bcond (ieq i_1 40) (bcond (kaOk 255 0 255 180 0) (True ∧ True ∧ V [XV.c (CV.v (Value.bool (ieq i_2 0)))] []) (True ∧ True ∧ V [XV.c (CV.v (Value.bool false))] [])) (True ∧ True ∧ V [XV.c (CV.v (Value.bool false))] [])) (True ∧ True ∧ V [XV.c (CV.v (Value.bool false))] [])) (True ∧ True ∧ V [XV.c (CV.v (Value.bool false))] [])) (True ∧ True ∧ V [XV.c (CV.v (Value.bool false))] [])) := by
  try delta o_aw10
  try delta s_kcol
  try delta s_kalpha
  try delta s_kown
  generalize @in16 = in16
  generalize @kaOk = kaOk
  generalize @kaV = kaV
  generalize @kcV = kcV
  generalize @knOk = knOk
  kernel_rfl
def o_law10b : QR.Oracle := QR.orc [(5, QR.lift1 s_gmax), (6, QR.lift1 s_mod), (8, QR.lift1 s_galpha), (15, QR.lift1 s_gsample), (7, s_src10), (9, s_kcol), (11, s_kalpha), (12, s_kown), (10, s_mcol), (14, s_oalpha), (16, s_oshape), (13, s_yes8)]
set_option maxRecDepth 100000 in
theorem KnockoutOfTheFirst_vc (mode n0 n1 n2 b0 b1 m : Int) (V : List QR.XV → List (List QR.CV) → Prop) : QR.evalBody Tryd.prog (o_law10b) (QR.noLoops) (Tryd.f3.body.getD .skip) Tryd.f3.results.toList Tryd.f3.ntmps [.x (.c (.v (.int .i64 mode))), .x (.agg [.v (.int .i64 n0), .v (.int .i64 n1), .v (.int .i64 n2)]), .x (.agg [.v (.int .i64 b0), .v (.int .i64 b1)]), .x (.c (.v (.int .i64 m)))] V = (True ∧ ∀ (i : Int), i = gxMax m → ∀ (i_1 : Int), i_1 = gmod mode 12 → (modOk 12 = true ∧ True) ∧ ∀ (i_2 : Int), i_2 = gsV n0 (gsV n1 (gsV n2 i)) → ∀ (i_3 : Int), i_3 = gsV n1 (gsV n2 i) → ∀ (i_4 : Int), i_4 = gsV n2 i → (in16 i = true ∧ True) ∧ ∀ (i_5 : Int), i_5 = gsV b0 (gsV b1 i) → ∀ (i_6 : Int), i_6 = gsV b1 i → (in16 i = true ∧ true = true ∧ true = true ∧ true = true ∧ true = true ∧ True) ∧ ∀ (i_7 : Int), i_7 = kcV (iadd IntKind.i64 1 i_1) i i_2 i_3 i_4 i_5 i_5 i_6 → (in16 i = true ∧ in16 i_2 = true ∧ in16 i_3 = true ∧ in16 i_4 = true ∧ in16 i_5 = true ∧ in16 i_5 = true ∧ in16 i_6 = true ∧ True) ∧ ∀ (i_8 : Int), i_8 = mcV 4 (iadd IntKind.i64 1 i_1) i i_2 i_3 i_5 i_6 → (in16 i = true ∧ in16 i_2 = true ∧ in16 i_3 = true ∧ in16 i_5 = true ∧ in16 i_6 = true ∧ True) ∧ ∀ (i_9 : Int), i_9 = kaV i i_3 i_4 i_6 i_6 → (in16 i = true ∧ in16 i_3 = true ∧ in16 i_4 = true ∧ in16 i_6 = true ∧ in16 i_6 = true ∧ True) ∧ ∀ (i_10 : Int), i_10 = kaV i i_3 i_4 0 0 → (in16 i = true ∧ in16 i_3 = true ∧ in16 i_4 = true ∧ in16 0 = true ∧ True) ∧ bcond (knOk (iadd IntKind.i64 1 i_1) i i_2 i_3 i_4 i_5 i_5 i_6) (bcond (mxOk 4 (iadd IntKind.i64 1 i_1) i i_2 i_3 i_5 i_6) (bcond (kaOk i i_3 i_4 i_6 i_6) (bcond (kaOk i i_3 i_4 0 0) (bcond (ieq i_7 i_8) (∀ (i_11 : Int), i_11 = alV 4 i_3 i_6 i → bcond (ieq i_9 i_11) ((in16 i_3 = true ∧ in16 i_6 = true ∧ in16 i = true ∧ True) ∧ True ∧ V [XV.c (CV.v (Value.bool (ieq i_10 i_3)))] []) ((in16 i_3 = true ∧ in16 i_6 = true ∧ in16 i = true ∧ True) ∧ True ∧ V [XV.c (CV.v (Value.bool false))] [])) (True ∧ True ∧ V [XV.c (CV.v (Value.bool false))] [])) (True ∧ True ∧ V [XV.c (CV.v (Value.bool false))] [])) (True ∧ True ∧ V [XV.c (CV.v (Value.bool false))] [])) (True ∧ True ∧ V [XV.c (CV.v (Value.bool false))] [])) (True ∧ True ∧ V [XV.c (CV.v (Value.bool false))] [])) := by
  try delta o_law10b
  try delta s_gmax
  try delta s_mod
  try delta s_galpha
  try delta s_gsample
  try delta s_src10
  try delta s_kcol
  try delta s_kalpha
  try delta s_kown
  try delta s_mcol
  try delta s_oalpha
  try delta s_oshape
  try delta s_yes8
  generalize @alV = alV
  generalize @gmod = gmod
  generalize @gsV = gsV
  generalize @gxMax = gxMax
  generalize @in16 = in16
  generalize @kaOk = kaOk
  generalize @kaV = kaV
  generalize @kcV = kcV
  generalize @knOk = knOk
  generalize @mcV = mcV
  generalize @modOk = modOk
  generalize @mxOk = mxOk
  generalize @shV = shV
  kernel_rfl
set_option maxRecDepth 100000 in
theorem KnockoutKeepsOrder_vc (mode n0 n1 n2 c0 c1 c2 b0 b1 m : Int) (V : List QR.XV → List (List QR.CV) → Prop) : QR.evalBody Tryd.prog (o_law10b) (QR.noLoops) (Tryd.f4.body.getD .skip) Tryd.f4.results.toList Tryd.f4.ntmps [.x (.c (.v (.int .i64 mode))), .x (.agg [.v (.int .i64 n0), .v (.int .i64 n1), .v (.int .i64 n2)]), .x (.agg [.v (.int .i64 c0), .v (.int .i64 c1), .v (.int .i64 c2)]), .x (.agg [.v (.int .i64 b0), .v (.int .i64 b1)]), .x (.c (.v (.int .i64 m)))] V = (True ∧ ∀ (i : Int), i = gxMax m → ∀ (i_1 : Int), i_1 = gmod mode 12 → (modOk 12 = true ∧ True) ∧ ∀ (i_2 : Int), i_2 = gsV n0 (gsV n1 (gsV n2 i)) → ∀ (i_3 : Int), i_3 = gsV n1 (gsV n2 i) → ∀ (i_4 : Int), i_4 = gsV n2 i → (in16 i = true ∧ True) ∧ ∀ (i_5 : Int), i_5 = gsV b0 (gsV b1 i) → ∀ (i_6 : Int), i_6 = gsV b1 i → (in16 i = true ∧ true = true ∧ true = true ∧ true = true ∧ true = true ∧ True) ∧ ∀ (i_7 : Int), i_7 = gsV c1 i → (in16 i = true ∧ true = true ∧ true = true ∧ True) ∧ ∀ (i_8 : Int), i_8 = gsV c2 i → (in16 i = true ∧ true = true ∧ true = true ∧ True) ∧ ∀ (i_9 : Int), i_9 = gsV c0 i_7 → ∀ (i_10 : Int), i_10 = kcV (iadd IntKind.i64 1 i_1) i i_2 i_3 i_4 i_9 i_5 i_6 → (in16 i = true ∧ in16 i_2 = true ∧ in16 i_3 = true ∧ in16 i_4 = true ∧ in16 i_9 = true ∧ in16 i_5 = true ∧ in16 i_6 = true ∧ in16 i_7 = true ∧ true = true ∧ true = true ∧ True) ∧ ∀ (i_11 : Int), i_11 = kaV i i_3 i_4 i_7 i_6 → (in16 i = true ∧ in16 i_3 = true ∧ in16 i_4 = true ∧ in16 i_7 = true ∧ in16 i_6 = true ∧ True) ∧ ∀ (i_12 : Int), i_12 = iimin i_7 i_8 → ∀ (i_13 : Int), i_13 = kaV i i_3 i_4 i_12 0 → (in16 i = true ∧ in16 i_3 = true ∧ in16 i_4 = true ∧ in16 i_12 = true ∧ True) ∧ bcond (knOk (iadd IntKind.i64 1 i_1) i i_2 i_3 i_4 i_9 i_5 i_6) (bcond (kaOk i i_3 i_4 i_7 i_6) (bcond (kaOk i i_3 i_4 i_12 0) (bcond (ile i_10 i_11) (bcond (ile i_13 i_11) (∀ (i_14 : Int), i_14 = shV 4 i_4 i_8 i → bcond (ile i_13 i_14) ((in16 i_4 = true ∧ in16 i_8 = true ∧ in16 i = true ∧ True) ∧ True ∧ V [XV.c (CV.v (Value.bool (ile i_11 i)))] []) ((in16 i_4 = true ∧ in16 i_8 = true ∧ in16 i = true ∧ True) ∧ True ∧ V [XV.c (CV.v (Value.bool false))] [])) (True ∧ True ∧ V [XV.c (CV.v (Value.bool false))] [])) (True ∧ True ∧ V [XV.c (CV.v (Value.bool false))] [])) (True ∧ True ∧ V [XV.c (CV.v (Value.bool false))] [])) (True ∧ True ∧ V [XV.c (CV.v (Value.bool false))] [])) (True ∧ True ∧ V [XV.c (CV.v (Value.bool false))] [])) := by
  try delta o_law10b
  try delta s_gmax
  try delta s_mod
  try delta s_galpha
  try delta s_gsample
  try delta s_src10
  try delta s_kcol
  try delta s_kalpha
  try delta s_kown
  try delta s_mcol
  try delta s_oalpha
  try delta s_oshape
  try delta s_yes8
  generalize @alV = alV
  generalize @gmod = gmod
  generalize @gsV = gsV
  generalize @gxMax = gxMax
  generalize @in16 = in16
  generalize @kaOk = kaOk
  generalize @kaV = kaV
  generalize @kcV = kcV
  generalize @knOk = knOk
  generalize @mcV = mcV
  generalize @modOk = modOk
  generalize @mxOk = mxOk
  generalize @shV = shV
  kernel_rfl
end Go.Proofs.YtoofajneoefpjaaDoor
