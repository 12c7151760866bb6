/-
  The laws of layer 8 (mix): their conditions.
-/
import Derived.Test.YtichmiifldbnhaaDoorHc
namespace Go.Proofs.YtichmiifldbnhaaDoor
open Go.RowKit PR QR
set_option linter.unusedVariables false

def o_aw8 : QR.Oracle := QR.orc [(13, s_mcol)]
set_option maxRecDepth 100000 in
theorem awake8_vc  (V : List QR.XV → List (List QR.CV) → Prop) : QR.evalBody Tryd.prog (o_aw8) (QR.noLoops) (Tryd.f15.body.getD .skip) Tryd.f15.results.toList Tryd.f15.ntmps [] V = (True ∧ ∀ (i : Int), i = mcV 4 1 255 100 128 50 255 → (in16 255 = true ∧ in16 100 = true ∧ in16 128 = true ∧ in16 50 = true ∧ in16 255 = true ∧ True) ∧ ∀ (i_1 : Int), i_1 = mcV 1 3 255 9 9 9 9 → (in16 255 = true ∧ in16 9 = true ∧ in16 9 = true ∧ in16 9 = true ∧ in16 9 = true ∧ True) ∧ ∀ (i_2 : Int), i_2 = mcV 4 10 255 255 255 64 255 → (in16 255 = true ∧ in16 255 = true ∧ in16 255 = true ∧ in16 64 = true ∧ in16 255 = true ∧ True) ∧ bcond (mxOk 4 1 255 100 128 50 255) (bcond (ieq i 125) (bcond (mxOk 1 3 255 9 9 9 9) (bcond (ieq i_1 0) (bcond (mxOk 4 10 255 255 255 64 255) (True ∧ True ∧ V [XV.c (CV.v (Value.bool (ieq i_2 128)))] []) (True ∧ True ∧ V [XV.c (CV.v (Value.bool false))] [])) (True ∧ True ∧ V [XV.c (CV.v (Value.bool false))] [])) (True ∧ True ∧ V [XV.c (CV.v (Value.bool false))] [])) (True ∧ True ∧ V [XV.c (CV.v (Value.bool false))] [])) (True ∧ True ∧ V [XV.c (CV.v (Value.bool false))] [])) := by
  try delta o_aw8
  try delta s_mcol
  generalize @in16 = in16
  generalize @mcV = mcV
  generalize @mxOk = mxOk
  kernel_rfl
def o_law8a : QR.Oracle := QR.orc [(10, QR.lift1 s_gmax), (11, QR.lift1 s_mod), (12, QR.lift1 s_galpha), (13, s_mcol), (14, s_mcol), (16, s_mval), (17, s_mval), (18, QR.lift1 s_halfX), (19, s_oalpha), (21, QR.lift1 s_half), (20, s_str6), (15, s_yes8)]
set_option maxRecDepth 100000 in
theorem MixAgrees_vc (op mode n0 n1 n2 n3 m : Int) (V : List QR.XV → List (List QR.CV) → Prop) : QR.evalBody Tryd.prog (o_law8a) (QR.noLoops) (Tryd.f3.body.getD .skip) Tryd.f3.results.toList Tryd.f3.ntmps [.x (.c (.v (.int .i64 op))), .x (.c (.v (.int .i64 mode))), .x (.agg [.v (.int .i64 n0), .v (.int .i64 n1), .v (.int .i64 n2), .v (.int .i64 n3)]), .x (.c (.v (.int .i64 m)))] V = (True ∧ ∀ (i : Int), i = gxMax m → ∀ (i_1 : Int), i_1 = gmod op 14 → ∀ (i_2 : Int), i_2 = gmod mode 14 → (modOk 14 = true ∧ modOk 14 = true ∧ True) ∧ ∀ (i_3 : Int), i_3 = gsV n0 (gsV n1 i) → ∀ (i_4 : Int), i_4 = gsV n1 i → (in16 i = true ∧ true = true ∧ true = true ∧ true = true ∧ true = true ∧ True) ∧ ∀ (i_5 : Int), i_5 = gsV n2 (gsV n3 i) → ∀ (i_6 : Int), i_6 = gsV n3 i → (in16 i = true ∧ true = true ∧ true = true ∧ true = true ∧ true = true ∧ True) ∧ ∀ (i_7 : Int), i_7 = mcV i_1 i_2 i i_3 i_4 i_5 i_6 → (in16 i = true ∧ in16 i_3 = true ∧ in16 i_4 = true ∧ in16 i_5 = true ∧ in16 i_6 = true ∧ True) ∧ ∀ (i_8 : Int), i_8 = mcV i_1 i_2 i i_3 i_4 i_5 i_6 → (in16 i = true ∧ in16 i_3 = true ∧ in16 i_4 = true ∧ in16 i_5 = true ∧ in16 i_6 = true ∧ True) ∧ bcond (ieq i_7 i_8) (True ∧ True ∧ V [XV.c (CV.v (Value.bool (beq' (mxOk i_1 i_2 i i_3 i_4 i_5 i_6) (mxOk i_1 i_2 i i_3 i_4 i_5 i_6))))] []) (True ∧ True ∧ V [XV.c (CV.v (Value.bool false))] [])) := by
  try delta o_law8a
  try delta s_gmax
  try delta s_mod
  try delta s_galpha
  try delta s_mcol
  try delta s_mval
  try delta s_halfX
  try delta s_oalpha
  try delta s_half
  try delta s_str6
  try delta s_yes8
  generalize @alV = alV
  generalize @gmod = gmod
  generalize @gsV = gsV
  generalize @gxMax = gxMax
  generalize @hlf = hlf
  generalize @hvOk = hvOk
  generalize @hvV = hvV
  generalize @in16 = in16
  generalize @inU = inU
  generalize @mcV = mcV
  generalize @modOk = modOk
  generalize @mxD = mxD
  generalize @mxH = mxH
  generalize @mxL = mxL
  generalize @mxOk = mxOk
  generalize @mxQ = mxQ
  generalize @mxR = mxR
  generalize @stOk6 = stOk6
  generalize @stV6 = stV6
  kernel_rfl
set_option maxRecDepth 100000 in
theorem MixAgreesForAll_vc (op mode m s a d b : Int) (full : Bool) (V : List QR.XV → List (List QR.CV) → Prop) : QR.evalBody Tryd.prog (o_law8a) (QR.noLoops) (Tryd.f4.body.getD .skip) Tryd.f4.results.toList Tryd.f4.ntmps [.x (.c (.v (.int .i64 op))), .x (.c (.v (.int .i64 mode))), .x (.c (.v (.int .u16 m))), .x (.c (.v (.int .u16 s))), .x (.c (.v (.int .u16 a))), .x (.c (.v (.int .u16 d))), .x (.c (.v (.int .u16 b))), .x (.c (.v (.bool full)))] V = (True ∧ True ∧ bcond full (True ∧ ∀ (i : Int), i = gmod op 14 → ∀ (i_1 : Int), i_1 = gmod mode 14 → (modOk 14 = true ∧ modOk 14 = true ∧ True) ∧ ∀ (i_2 : Int), i_2 = mcV i i_1 65535 s a d b → (in16 65535 = true ∧ in16 s = true ∧ in16 a = true ∧ in16 d = true ∧ in16 b = true ∧ True) ∧ ∀ (i_3 : Int), i_3 = mcV i i_1 65535 s a d b → (in16 65535 = true ∧ in16 s = true ∧ in16 a = true ∧ in16 d = true ∧ in16 b = true ∧ True) ∧ ∀ (i_4 : Int), i_4 = mxH i i_1 65535 s a d b → ∀ (i_5 : Int), i_5 = mxL i i_1 65535 s a d b → ∀ (i_6 : Int), i_6 = mxQ i i_1 65535 s a d b → ∀ (i_7 : Int), i_7 = mxR i i_1 65535 s a d b → ∀ (i_8 : Int), i_8 = mxD i i_1 65535 s a d b → (in16 65535 = true ∧ in16 s = true ∧ in16 a = true ∧ in16 d = true ∧ in16 b = true ∧ True) ∧ ∀ (i_9 : Int), i_9 = mxH i i_1 65535 s a d b → ∀ (i_10 : Int), i_10 = mxL i i_1 65535 s a d b → ∀ (i_11 : Int), i_11 = mxQ i i_1 65535 s a d b → ∀ (i_12 : Int), i_12 = mxR i i_1 65535 s a d b → ∀ (i_13 : Int), i_13 = mxD i i_1 65535 s a d b → (in16 65535 = true ∧ in16 s = true ∧ in16 a = true ∧ in16 d = true ∧ in16 b = true ∧ True) ∧ bcond (ieq i_2 i_3) (bcond (beq' (mxOk i i_1 65535 s a d b) (mxOk i i_1 65535 s a d b)) (bcond (band (band (ieq i_4 i_9) (band (ieq i_5 i_10) true)) (band (ieq i_6 i_11) (band (ieq i_7 i_12) (band (ieq i_8 i_13) true)))) (True ∧ True ∧ V [XV.c (CV.v (Value.bool (beq' (mxOk i i_1 65535 s a d b) (mxOk i i_1 65535 s a d b))))] []) (True ∧ True ∧ V [XV.c (CV.v (Value.bool false))] [])) (True ∧ True ∧ V [XV.c (CV.v (Value.bool false))] [])) (True ∧ True ∧ V [XV.c (CV.v (Value.bool false))] [])) (∀ (i : Int), i = gmod op 14 → ∀ (i_1 : Int), i_1 = gmod mode 14 → (modOk 14 = true ∧ modOk 14 = true ∧ True) ∧ ∀ (i_2 : Int), i_2 = mcV i i_1 m s a d b → (in16 m = true ∧ in16 s = true ∧ in16 a = true ∧ in16 d = true ∧ in16 b = true ∧ True) ∧ ∀ (i_3 : Int), i_3 = mcV i i_1 m s a d b → (in16 m = true ∧ in16 s = true ∧ in16 a = true ∧ in16 d = true ∧ in16 b = true ∧ True) ∧ ∀ (i_4 : Int), i_4 = mxH i i_1 m s a d b → ∀ (i_5 : Int), i_5 = mxL i i_1 m s a d b → ∀ (i_6 : Int), i_6 = mxQ i i_1 m s a d b → ∀ (i_7 : Int), i_7 = mxR i i_1 m s a d b → ∀ (i_8 : Int), i_8 = mxD i i_1 m s a d b → (in16 m = true ∧ in16 s = true ∧ in16 a = true ∧ in16 d = true ∧ in16 b = true ∧ True) ∧ ∀ (i_9 : Int), i_9 = mxH i i_1 m s a d b → ∀ (i_10 : Int), i_10 = mxL i i_1 m s a d b → ∀ (i_11 : Int), i_11 = mxQ i i_1 m s a d b → ∀ (i_12 : Int), i_12 = mxR i i_1 m s a d b → ∀ (i_13 : Int), i_13 = mxD i i_1 m s a d b → (in16 m = true ∧ in16 s = true ∧ in16 a = true ∧ in16 d = true ∧ in16 b = true ∧ True) ∧ bcond (ieq i_2 i_3) (bcond (beq' (mxOk i i_1 m s a d b) (mxOk i i_1 m s a d b)) (bcond (band (band (ieq i_4 i_9) (band (ieq i_5 i_10) true)) (band (ieq i_6 i_11) (band (ieq i_7 i_12) (band (ieq i_8 i_13) true)))) (True ∧ True ∧ V [XV.c (CV.v (Value.bool (beq' (mxOk i i_1 m s a d b) (mxOk i i_1 m s a d b))))] []) (True ∧ True ∧ V [XV.c (CV.v (Value.bool false))] [])) (True ∧ True ∧ V [XV.c (CV.v (Value.bool false))] [])) (True ∧ True ∧ V [XV.c (CV.v (Value.bool false))] []))) := by
  try delta o_law8a
  try delta s_gmax
  try delta s_mod
  try delta s_galpha
  try delta s_mcol
  try delta s_mval
  try delta s_halfX
  try delta s_oalpha
  try delta s_half
  try delta s_str6
  try delta s_yes8
  generalize @alV = alV
  generalize @gmod = gmod
  generalize @gsV = gsV
  generalize @gxMax = gxMax
  generalize @hlf = hlf
  generalize @hvOk = hvOk
  generalize @hvV = hvV
  generalize @in16 = in16
  generalize @inU = inU
  generalize @mcV = mcV
  generalize @modOk = modOk
  generalize @mxD = mxD
  generalize @mxH = mxH
  generalize @mxL = mxL
  generalize @mxOk = mxOk
  generalize @mxQ = mxQ
  generalize @mxR = mxR
  generalize @stOk6 = stOk6
  generalize @stV6 = stV6
  kernel_rfl
set_option maxRecDepth 100000 in
theorem MixValueAgrees_vc (op mode n0 n1 n2 n3 m : Int) (V : List QR.XV → List (List QR.CV) → Prop) : QR.evalBody Tryd.prog (o_law8a) (QR.noLoops) (Tryd.f5.body.getD .skip) Tryd.f5.results.toList Tryd.f5.ntmps [.x (.c (.v (.int .i64 op))), .x (.c (.v (.int .i64 mode))), .x (.agg [.v (.int .i64 n0), .v (.int .i64 n1), .v (.int .i64 n2), .v (.int .i64 n3)]), .x (.c (.v (.int .i64 m)))] V = (True ∧ ∀ (i : Int), i = gxMax m → ∀ (i_1 : Int), i_1 = gmod op 12 → ∀ (i_2 : Int), i_2 = gmod mode 12 → (modOk 12 = true ∧ modOk 12 = true ∧ True) ∧ ∀ (i_3 : Int), i_3 = gsV n0 (gsV n1 i) → ∀ (i_4 : Int), i_4 = gsV n1 i → (in16 i = true ∧ true = true ∧ true = true ∧ true = true ∧ true = true ∧ True) ∧ ∀ (i_5 : Int), i_5 = gsV n2 (gsV n3 i) → ∀ (i_6 : Int), i_6 = gsV n3 i → (in16 i = true ∧ true = true ∧ true = true ∧ true = true ∧ true = true ∧ True) ∧ ∀ (i_7 : Int), i_7 = mxH (iadd IntKind.i64 1 i_1) (iadd IntKind.i64 1 i_2) i i_3 i_4 i_5 i_6 → ∀ (i_8 : Int), i_8 = mxL (iadd IntKind.i64 1 i_1) (iadd IntKind.i64 1 i_2) i i_3 i_4 i_5 i_6 → ∀ (i_9 : Int), i_9 = mxQ (iadd IntKind.i64 1 i_1) (iadd IntKind.i64 1 i_2) i i_3 i_4 i_5 i_6 → ∀ (i_10 : Int), i_10 = mxR (iadd IntKind.i64 1 i_1) (iadd IntKind.i64 1 i_2) i i_3 i_4 i_5 i_6 → ∀ (i_11 : Int), i_11 = mxD (iadd IntKind.i64 1 i_1) (iadd IntKind.i64 1 i_2) i i_3 i_4 i_5 i_6 → (in16 i = true ∧ in16 i_3 = true ∧ in16 i_4 = true ∧ in16 i_5 = true ∧ in16 i_6 = true ∧ True) ∧ ∀ (i_12 : Int), i_12 = mxH (iadd IntKind.i64 1 i_1) (iadd IntKind.i64 1 i_2) i i_3 i_4 i_5 i_6 → ∀ (i_13 : Int), i_13 = mxL (iadd IntKind.i64 1 i_1) (iadd IntKind.i64 1 i_2) i i_3 i_4 i_5 i_6 → ∀ (i_14 : Int), i_14 = mxQ (iadd IntKind.i64 1 i_1) (iadd IntKind.i64 1 i_2) i i_3 i_4 i_5 i_6 → ∀ (i_15 : Int), i_15 = mxR (iadd IntKind.i64 1 i_1) (iadd IntKind.i64 1 i_2) i i_3 i_4 i_5 i_6 → ∀ (i_16 : Int), i_16 = mxD (iadd IntKind.i64 1 i_1) (iadd IntKind.i64 1 i_2) i i_3 i_4 i_5 i_6 → (in16 i = true ∧ in16 i_3 = true ∧ in16 i_4 = true ∧ in16 i_5 = true ∧ in16 i_6 = true ∧ True) ∧ ∀ (i_17 : Int), i_17 = mcV (iadd IntKind.i64 1 i_1) (iadd IntKind.i64 1 i_2) i i_3 i_4 i_5 i_6 → (in16 i = true ∧ in16 i_3 = true ∧ in16 i_4 = true ∧ in16 i_5 = true ∧ in16 i_6 = true ∧ True) ∧ ∀ (i_18 : Int), i_18 = hvV i_7 i_8 i_9 i_10 i_11 → (inU i_7 = true ∧ inU i_8 = true ∧ inU i_9 = true ∧ inU i_10 = true ∧ inU i_11 = true ∧ True) ∧ bcond (mxOk (iadd IntKind.i64 1 i_1) (iadd IntKind.i64 1 i_2) i i_3 i_4 i_5 i_6) (bcond (mxOk (iadd IntKind.i64 1 i_1) (iadd IntKind.i64 1 i_2) i i_3 i_4 i_5 i_6) (bcond (band (band (ieq i_7 i_12) (band (ieq i_8 i_13) true)) (band (ieq i_9 i_14) (band (ieq i_10 i_15) (band (ieq i_11 i_16) true)))) (bcond (mxOk (iadd IntKind.i64 1 i_1) (iadd IntKind.i64 1 i_2) i i_3 i_4 i_5 i_6) (bcond (hvOk i_7 i_8 i_9 i_10 i_11) (True ∧ True ∧ V [XV.c (CV.v (Value.bool (ieq (iconv IntKind.u64 i_17) i_18)))] []) (True ∧ True ∧ V [XV.c (CV.v (Value.bool false))] [])) (True ∧ True ∧ V [XV.c (CV.v (Value.bool false))] [])) (True ∧ True ∧ V [XV.c (CV.v (Value.bool false))] [])) (True ∧ True ∧ V [XV.c (CV.v (Value.bool false))] [])) (True ∧ True ∧ V [XV.c (CV.v (Value.bool false))] [])) := by
  try delta o_law8a
  try delta s_gmax
  try delta s_mod
  try delta s_galpha
  try delta s_mcol
  try delta s_mval
  try delta s_halfX
  try delta s_oalpha
  try delta s_half
  try delta s_str6
  try delta s_yes8
  generalize @alV = alV
  generalize @gmod = gmod
  generalize @gsV = gsV
  generalize @gxMax = gxMax
  generalize @hlf = hlf
  generalize @hvOk = hvOk
  generalize @hvV = hvV
  generalize @in16 = in16
  generalize @inU = inU
  generalize @mcV = mcV
  generalize @modOk = modOk
  generalize @mxD = mxD
  generalize @mxH = mxH
  generalize @mxL = mxL
  generalize @mxOk = mxOk
  generalize @mxQ = mxQ
  generalize @mxR = mxR
  generalize @stOk6 = stOk6
  generalize @stV6 = stV6
  kernel_rfl
set_option maxRecDepth 100000 in
theorem MixColourBelowAlpha_vc (op mode n0 n1 n2 n3 m : Int) (V : List QR.XV → List (List QR.CV) → Prop) : QR.evalBody Tryd.prog (o_law8a) (QR.noLoops) (Tryd.f6.body.getD .skip) Tryd.f6.results.toList Tryd.f6.ntmps [.x (.c (.v (.int .i64 op))), .x (.c (.v (.int .i64 mode))), .x (.agg [.v (.int .i64 n0), .v (.int .i64 n1), .v (.int .i64 n2), .v (.int .i64 n3)]), .x (.c (.v (.int .i64 m)))] V = (True ∧ ∀ (i : Int), i = gxMax m → ∀ (i_1 : Int), i_1 = gmod op 12 → ∀ (i_2 : Int), i_2 = gmod mode 12 → (modOk 12 = true ∧ modOk 12 = true ∧ True) ∧ ∀ (i_3 : Int), i_3 = gsV n0 (gsV n1 i) → ∀ (i_4 : Int), i_4 = gsV n1 i → (in16 i = true ∧ true = true ∧ true = true ∧ true = true ∧ true = true ∧ True) ∧ ∀ (i_5 : Int), i_5 = gsV n2 (gsV n3 i) → ∀ (i_6 : Int), i_6 = gsV n3 i → (in16 i = true ∧ true = true ∧ true = true ∧ true = true ∧ true = true ∧ True) ∧ ∀ (i_7 : Int), i_7 = mcV (iadd IntKind.i64 1 i_1) (iadd IntKind.i64 1 i_2) i i_3 i_4 i_5 i_6 → (in16 i = true ∧ in16 i_3 = true ∧ in16 i_4 = true ∧ in16 i_5 = true ∧ in16 i_6 = true ∧ True) ∧ bcond (mxOk (iadd IntKind.i64 1 i_1) (iadd IntKind.i64 1 i_2) i i_3 i_4 i_5 i_6) (∀ (i_8 : Int), i_8 = alV (iadd IntKind.i64 1 i_1) i_4 i_6 i → (in16 i_4 = true ∧ in16 i_6 = true ∧ in16 i = true ∧ True) ∧ True ∧ V [XV.c (CV.v (Value.bool (ile i_7 i_8)))] []) (True ∧ True ∧ V [XV.c (CV.v (Value.bool false))] [])) := by
  try delta o_law8a
  try delta s_gmax
  try delta s_mod
  try delta s_galpha
  try delta s_mcol
  try delta s_mval
  try delta s_halfX
  try delta s_oalpha
  try delta s_half
  try delta s_str6
  try delta s_yes8
  generalize @alV = alV
  generalize @gmod = gmod
  generalize @gsV = gsV
  generalize @gxMax = gxMax
  generalize @hlf = hlf
  generalize @hvOk = hvOk
  generalize @hvV = hvV
  generalize @in16 = in16
  generalize @inU = inU
  generalize @mcV = mcV
  generalize @modOk = modOk
  generalize @mxD = mxD
  generalize @mxH = mxH
  generalize @mxL = mxL
  generalize @mxOk = mxOk
  generalize @mxQ = mxQ
  generalize @mxR = mxR
  generalize @stOk6 = stOk6
  generalize @stV6 = stV6
  kernel_rfl
set_option maxRecDepth 100000 in
theorem MixOfOpaqueColours_vc (op mode cs cb m : Int) (V : List QR.XV → List (List QR.CV) → Prop) : QR.evalBody Tryd.prog (o_law8a) (QR.noLoops) (Tryd.f7.body.getD .skip) Tryd.f7.results.toList Tryd.f7.ntmps [.x (.c (.v (.int .i64 op))), .x (.c (.v (.int .i64 mode))), .x (.c (.v (.int .u16 cs))), .x (.c (.v (.int .u16 cb))), .x (.c (.v (.int .i64 m)))] V = (True ∧ ∀ (i : Int), i = gxMax m → ∀ (i_1 : Int), i_1 = gmod mode 12 → (modOk 12 = true ∧ True) ∧ ∀ (i_2 : Int), i_2 = gmod (iconv IntKind.i64 cs) (iadd IntKind.i64 (iconv IntKind.i64 i) 1) → ∀ (i_3 : Int), i_3 = gmod (iconv IntKind.i64 cb) (iadd IntKind.i64 (iconv IntKind.i64 i) 1) → (modOk (iadd IntKind.i64 (iconv IntKind.i64 i) 1) = true ∧ modOk (iadd IntKind.i64 (iconv IntKind.i64 i) 1) = true ∧ True) ∧ ∀ (i_4 : Int), i_4 = gmod op 4 → (ile 0 i_4 = true ∧ ilt i_4 4 = true ∧ modOk 4 = true ∧ True) ∧ ∀ (i_5 : Int), i_5 = gmod op 4 → (ile 0 i_5 = true ∧ ilt i_5 4 = true ∧ modOk 4 = true ∧ True) ∧ ∀ (i_6 : Int), i_6 = mcV (isel (ieq i_4 3) 2 (isel (ieq i_4 2) 10 (isel (ieq i_4 1) 6 (isel (ieq i_4 0) 4 0)))) (iadd IntKind.i64 1 i_1) i (iconv IntKind.u16 i_2) i (iconv IntKind.u16 i_3) i → (in16 i = true ∧ in16 (iconv IntKind.u16 i_2) = true ∧ in16 i = true ∧ in16 (iconv IntKind.u16 i_3) = true ∧ in16 i = true ∧ True) ∧ ∀ (i_7 : Int), i_7 = stV6 (iadd IntKind.i64 1 i_1) (iconv IntKind.u16 i_2) (iconv IntKind.u16 i_3) i → (in16 (iconv IntKind.u16 i_2) = true ∧ in16 (iconv IntKind.u16 i_3) = true ∧ in16 i = true ∧ True) ∧ ∀ (i_8 : Int), i_8 = mcV (isel (ieq i_5 3) 11 (isel (ieq i_5 2) 7 (isel (ieq i_5 1) 5 (isel (ieq i_5 0) 3 0)))) (iadd IntKind.i64 1 i_1) i (iconv IntKind.u16 i_2) i (iconv IntKind.u16 i_3) i → (in16 i = true ∧ in16 (iconv IntKind.u16 i_2) = true ∧ in16 i = true ∧ in16 (iconv IntKind.u16 i_3) = true ∧ in16 i = true ∧ True) ∧ bcond (mxOk (isel (ieq i_4 3) 2 (isel (ieq i_4 2) 10 (isel (ieq i_4 1) 6 (isel (ieq i_4 0) 4 0)))) (iadd IntKind.i64 1 i_1) i (iconv IntKind.u16 i_2) i (iconv IntKind.u16 i_3) i) (bcond (stOk6 (iadd IntKind.i64 1 i_1) (iconv IntKind.u16 i_2) (iconv IntKind.u16 i_3) i) (bcond (mxOk (isel (ieq i_5 3) 11 (isel (ieq i_5 2) 7 (isel (ieq i_5 1) 5 (isel (ieq i_5 0) 3 0)))) (iadd IntKind.i64 1 i_1) i (iconv IntKind.u16 i_2) i (iconv IntKind.u16 i_3) i) (bcond (ieq i_6 i_7) (True ∧ True ∧ V [XV.c (CV.v (Value.bool (ieq i_8 (iconv IntKind.u16 i_3))))] []) (True ∧ True ∧ V [XV.c (CV.v (Value.bool false))] [])) (True ∧ True ∧ V [XV.c (CV.v (Value.bool false))] [])) (True ∧ True ∧ V [XV.c (CV.v (Value.bool false))] [])) (True ∧ True ∧ V [XV.c (CV.v (Value.bool false))] [])) := by
  try delta o_law8a
  try delta s_gmax
  try delta s_mod
  try delta s_galpha
  try delta s_mcol
  try delta s_mval
  try delta s_halfX
  try delta s_oalpha
  try delta s_half
  try delta s_str6
  try delta s_yes8
  generalize @alV = alV
  generalize @gmod = gmod
  generalize @gsV = gsV
  generalize @gxMax = gxMax
  generalize @hlf = hlf
  generalize @hvOk = hvOk
  generalize @hvV = hvV
  generalize @in16 = in16
  generalize @inU = inU
  generalize @mcV = mcV
  generalize @modOk = modOk
  generalize @mxD = mxD
  generalize @mxH = mxH
  generalize @mxL = mxL
  generalize @mxOk = mxOk
  generalize @mxQ = mxQ
  generalize @mxR = mxR
  generalize @stOk6 = stOk6
  generalize @stV6 = stV6
  kernel_rfl
set_option maxRecDepth 100000 in
theorem MixNormalIsTheClassic_vc (n0 n1 n2 n3 m : Int) (V : List QR.XV → List (List QR.CV) → Prop) : QR.evalBody Tryd.prog (o_law8a) (QR.noLoops) (Tryd.f8.body.getD .skip) Tryd.f8.results.toList Tryd.f8.ntmps [.x (.agg [.v (.int .i64 n0), .v (.int .i64 n1), .v (.int .i64 n2), .v (.int .i64 n3)]), .x (.c (.v (.int .i64 m)))] V = (True ∧ ∀ (i : Int), i = gxMax m → True ∧ ∀ (i_1 : Int), i_1 = gsV n0 (gsV n1 i) → ∀ (i_2 : Int), i_2 = gsV n1 i → (in16 i = true ∧ true = true ∧ true = true ∧ true = true ∧ true = true ∧ True) ∧ ∀ (i_3 : Int), i_3 = gsV n2 (gsV n3 i) → ∀ (i_4 : Int), i_4 = gsV n3 i → (in16 i = true ∧ true = true ∧ true = true ∧ true = true ∧ true = true ∧ True) ∧ ∀ (i_5 : Int), i_5 = mcV 4 1 i i_1 i_2 i_3 i_4 → (in16 i = true ∧ in16 i_1 = true ∧ in16 i_2 = true ∧ in16 i_3 = true ∧ in16 i_4 = true ∧ True) ∧ bcond (mxOk 4 1 i i_1 i_2 i_3 i_4) (∀ (i_6 : Int), i_6 = hlf (imul IntKind.u64 (iconv IntKind.u64 (isub IntKind.u16 i i_2)) (iconv IntKind.u64 i_3)) (iconv IntKind.u64 i) → (inU (imul IntKind.u64 (iconv IntKind.u64 (isub IntKind.u16 i i_2)) (iconv IntKind.u64 i_3)) = true ∧ inU (iconv IntKind.u64 i) = true ∧ True) ∧ True ∧ V [XV.c (CV.v (Value.bool (ieq (iconv IntKind.u64 i_5) (iadd IntKind.u64 (iconv IntKind.u64 i_1) i_6))))] []) (True ∧ True ∧ V [XV.c (CV.v (Value.bool false))] [])) := by
  try delta o_law8a
  try delta s_gmax
  try delta s_mod
  try delta s_galpha
  try delta s_mcol
  try delta s_mval
  try delta s_halfX
  try delta s_oalpha
  try delta s_half
  try delta s_str6
  try delta s_yes8
  generalize @alV = alV
  generalize @gmod = gmod
  generalize @gsV = gsV
  generalize @gxMax = gxMax
  generalize @hlf = hlf
  generalize @hvOk = hvOk
  generalize @hvV = hvV
  generalize @in16 = in16
  generalize @inU = inU
  generalize @mcV = mcV
  generalize @modOk = modOk
  generalize @mxD = mxD
  generalize @mxH = mxH
  generalize @mxL = mxL
  generalize @mxOk = mxOk
  generalize @mxQ = mxQ
  generalize @mxR = mxR
  generalize @stOk6 = stOk6
  generalize @stV6 = stV6
  kernel_rfl
set_option maxRecDepth 100000 in
theorem MixIgnoresModeWithoutOverlap_vc (op mode n0 n1 m : Int) (V : List QR.XV → List (List QR.CV) → Prop) : QR.evalBody Tryd.prog (o_law8a) (QR.noLoops) (Tryd.f9.body.getD .skip) Tryd.f9.results.toList Tryd.f9.ntmps [.x (.c (.v (.int .i64 op))), .x (.c (.v (.int .i64 mode))), .x (.agg [.v (.int .i64 n0), .v (.int .i64 n1)]), .x (.c (.v (.int .i64 m)))] V = (True ∧ ∀ (i : Int), i = gxMax m → ∀ (i_1 : Int), i_1 = gmod op 12 → ∀ (i_2 : Int), i_2 = gmod mode 12 → (modOk 12 = true ∧ modOk 12 = true ∧ True) ∧ ∀ (i_3 : Int), i_3 = gsV n0 (gsV n1 i) → ∀ (i_4 : Int), i_4 = gsV n1 i → (in16 i = true ∧ true = true ∧ true = true ∧ true = true ∧ true = true ∧ True) ∧ ∀ (i_5 : Int), i_5 = mcV (iadd IntKind.i64 1 i_1) (iadd IntKind.i64 1 i_2) i i_3 i_4 0 0 → (in16 i = true ∧ in16 i_3 = true ∧ in16 i_4 = true ∧ in16 0 = true ∧ in16 0 = true ∧ True) ∧ ∀ (i_6 : Int), i_6 = mcV (iadd IntKind.i64 1 i_1) 1 i i_3 i_4 0 0 → (in16 i = true ∧ in16 i_3 = true ∧ in16 i_4 = true ∧ in16 0 = true ∧ in16 0 = true ∧ True) ∧ ∀ (i_7 : Int), i_7 = mcV (iadd IntKind.i64 1 i_1) (iadd IntKind.i64 1 i_2) i 0 0 i_3 i_4 → (in16 i = true ∧ in16 0 = true ∧ in16 0 = true ∧ in16 i_3 = true ∧ in16 i_4 = true ∧ True) ∧ ∀ (i_8 : Int), i_8 = mcV (iadd IntKind.i64 1 i_1) 1 i 0 0 i_3 i_4 → (in16 i = true ∧ in16 0 = true ∧ in16 0 = true ∧ in16 i_3 = true ∧ in16 i_4 = true ∧ True) ∧ bcond (mxOk (iadd IntKind.i64 1 i_1) (iadd IntKind.i64 1 i_2) i i_3 i_4 0 0) (bcond (mxOk (iadd IntKind.i64 1 i_1) 1 i i_3 i_4 0 0) (bcond (mxOk (iadd IntKind.i64 1 i_1) (iadd IntKind.i64 1 i_2) i 0 0 i_3 i_4) (bcond (mxOk (iadd IntKind.i64 1 i_1) 1 i 0 0 i_3 i_4) (bcond (ieq i_5 i_6) (True ∧ True ∧ V [XV.c (CV.v (Value.bool (ieq i_7 i_8)))] []) (True ∧ True ∧ V [XV.c (CV.v (Value.bool false))] [])) (True ∧ True ∧ V [XV.c (CV.v (Value.bool false))] [])) (True ∧ True ∧ V [XV.c (CV.v (Value.bool false))] [])) (True ∧ True ∧ V [XV.c (CV.v (Value.bool false))] [])) (True ∧ True ∧ V [XV.c (CV.v (Value.bool false))] [])) := by
  try delta o_law8a
  try delta s_gmax
  try delta s_mod
  try delta s_galpha
  try delta s_mcol
  try delta s_mval
  try delta s_halfX
  try delta s_oalpha
  try delta s_half
  try delta s_str6
  try delta s_yes8
  generalize @alV = alV
  generalize @gmod = gmod
  generalize @gsV = gsV
  generalize @gxMax = gxMax
  generalize @hlf = hlf
  generalize @hvOk = hvOk
  generalize @hvV = hvV
  generalize @in16 = in16
  generalize @inU = inU
  generalize @mcV = mcV
  generalize @modOk = modOk
  generalize @mxD = mxD
  generalize @mxH = mxH
  generalize @mxL = mxL
  generalize @mxOk = mxOk
  generalize @mxQ = mxQ
  generalize @mxR = mxR
  generalize @stOk6 = stOk6
  generalize @stV6 = stV6
  kernel_rfl
end Go.Proofs.YtichmiifldbnhaaDoor
