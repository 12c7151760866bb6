/-
  The laws of layer 12 (group) without lists: their conditions.
-/
import Derived.Test.YtfjpilehoeendaaDoorLc
namespace Go.Proofs.YtfjpilehoeendaaDoor
open Go.RowKit PR QR
set_option linter.unusedVariables false

def o_aw12 : QR.Oracle := QR.orc [(15, s_begin), (22, s_gstep), (24, s_gres)]
set_option maxRecDepth 100000 in
theorem awake12_vc  (V : List QR.XV → List (List QR.CV) → Prop) : QR.evalBody Tryd.prog (o_aw12) (QR.noLoops) (Tryd.f17.body.getD .skip) Tryd.f17.results.toList Tryd.f17.ntmps [] V = (True ∧ True ∧ ∀ (i : Int), i = bgV false false 90 0 → ∀ (i_1 : Int), i_1 = bgV false false 0 0 → ∀ (i_2 : Int), i_2 = bgV false false 0 0 → ∀ (i_3 : Int), i_3 = bgV false false 100 0 → ∀ (i_4 : Int), i_4 = 0 → ∀ (i_5 : Int), i_5 = 0 → ∀ (i_6 : Int), i_6 = bgV false false 90 0 → ∀ (i_7 : Int), i_7 = bgV false false 0 0 → ∀ (i_8 : Int), i_8 = bgV false false 0 0 → ∀ (i_9 : Int), i_9 = bgV false false 100 0 → ∀ (i_10 : Int), i_10 = bgV false false 100 0 → True ∧ ∀ (i_11 : Int), i_11 = bz (gsOk false 4 1 255 5 6 7 255 255 i i_1 i_2 i_3 i_4 i_5 i_6 i_7 i_8 i_9 i_10) (gsC false 4 1 255 5 255 255 i i_3 i_6 i_9) → ∀ (i_12 : Int), i_12 = bz (gsOk false 4 1 255 5 6 7 255 255 i i_1 i_2 i_3 i_4 i_5 i_6 i_7 i_8 i_9 i_10) (gsC false 4 1 255 6 255 255 i_1 i_3 i_7 i_9) → ∀ (i_13 : Int), i_13 = bz (gsOk false 4 1 255 5 6 7 255 255 i i_1 i_2 i_3 i_4 i_5 i_6 i_7 i_8 i_9 i_10) (gsC false 4 1 255 7 255 255 i_2 i_3 i_8 i_9) → ∀ (i_14 : Int), i_14 = bz (gsOk false 4 1 255 5 6 7 255 255 i i_1 i_2 i_3 i_4 i_5 i_6 i_7 i_8 i_9 i_10) (gsA false 4 255 255 255 i_3 i_9) → ∀ (i_15 : Int), i_15 = bz (gsOk false 4 1 255 5 6 7 255 255 i i_1 i_2 i_3 i_4 i_5 i_6 i_7 i_8 i_9 i_10) (gsO false 4 255 255 255 i_4) → ∀ (i_16 : Int), i_16 = bz (gsOk false 4 1 255 5 6 7 255 255 i i_1 i_2 i_3 i_4 i_5 i_6 i_7 i_8 i_9 i_10) (gsF 4 255 255 i_5) → (in16 255 = true ∧ in16 5 = true ∧ in16 6 = true ∧ in16 7 = true ∧ in16 255 = true ∧ in16 255 = true ∧ in16 i = true ∧ in16 i_1 = true ∧ in16 i_2 = true ∧ in16 i_3 = true ∧ in16 i_4 = true ∧ in16 i_5 = true ∧ in16 i_6 = true ∧ in16 i_7 = true ∧ in16 i_8 = true ∧ in16 i_9 = true ∧ in16 i_10 = true ∧ True) ∧ ∀ (i_17 : Int), i_17 = grV (vaB i_11 i_12 i_13 i_14 i_15 i_16 i_6 i_7 i_8 i_9 i_10 255) i_11 i_6 i_15 255 → ∀ (i_18 : Int), i_18 = grV (vaB i_11 i_12 i_13 i_14 i_15 i_16 i_6 i_7 i_8 i_9 i_10 255) i_12 i_7 i_15 255 → ∀ (i_19 : Int), i_19 = grV (vaB i_11 i_12 i_13 i_14 i_15 i_16 i_6 i_7 i_8 i_9 i_10 255) i_13 i_8 i_15 255 → ∀ (i_20 : Int), i_20 = bz (vaB i_11 i_12 i_13 i_14 i_15 i_16 i_6 i_7 i_8 i_9 i_10 255) i_15 → ∀ (i_21 : Int), i_21 = bz (vaB i_11 i_12 i_13 i_14 i_15 i_16 i_6 i_7 i_8 i_9 i_10 255) i_16 → (in16 255 = true ∧ in16 i_11 = true ∧ in16 i_12 = true ∧ in16 i_13 = true ∧ in16 i_14 = true ∧ in16 i_15 = true ∧ in16 i_16 = true ∧ in16 i_6 = true ∧ in16 i_7 = true ∧ in16 i_8 = true ∧ in16 i_9 = true ∧ in16 i_10 = true ∧ True) ∧ bcond (ieq i_9 100) (bcond (ieq i_5 0) (bcond (gsOk false 4 1 255 5 6 7 255 255 i i_1 i_2 i_3 i_4 i_5 i_6 i_7 i_8 i_9 i_10) (bcond (vaB i_11 i_12 i_13 i_14 i_15 i_16 i_6 i_7 i_8 i_9 i_10 255) (True ∧ True ∧ V [XV.c (CV.v (Value.bool (band (band (ieq i_17 5) (band (ieq i_18 6) (band (ieq i_19 7) true))) (band (ieq i_20 255) (band (ieq i_21 255) true)))))] []) (True ∧ True ∧ V [XV.c (CV.v (Value.bool false))] [])) (True ∧ True ∧ V [XV.c (CV.v (Value.bool false))] [])) (True ∧ True ∧ V [XV.c (CV.v (Value.bool false))] [])) (True ∧ True ∧ V [XV.c (CV.v (Value.bool false))] [])) := by
  try delta o_aw12
  try delta s_begin
  try delta s_gstep
  try delta s_gres
  generalize @bgV = bgV
  generalize @bz = bz
  generalize @grV = grV
  generalize @gsA = gsA
  generalize @gsC = gsC
  generalize @gsF = gsF
  generalize @gsO = gsO
  generalize @gsOk = gsOk
  generalize @in16 = in16
  generalize @vaB = vaB
  kernel_rfl
def o_law12 : QR.Oracle := QR.orc [(12, QR.lift1 s_gmax), (20, QR.lift1 s_mod), (21, QR.lift1 s_gpixel), (13, s_gaccum), (14, s_gback), (26, QR.lift1 s_pvalid), (18, s_va), (15, s_begin), (22, s_gstep), (24, s_gres), (19, s_va), (16, s_begin), (23, s_gstep), (25, s_gres), (17, s_yes8)]
set_option maxRecDepth 100000 in
theorem GroupBeginAgrees_vc (iso kn : Bool) (n0 n1 n2 n3 n4 b0 b1 b2 b3 b4 own m c0 c1 c2 ca co cf k0 k1 k2 ka kf t : Int) (V : List QR.XV → List (List QR.CV) → Prop) : QR.evalBody Tryd.prog (o_law12) (QR.noLoops) (Tryd.f3.body.getD .skip) Tryd.f3.results.toList Tryd.f3.ntmps [.x (.c (.v (.bool iso))), .x (.c (.v (.bool kn))), .x (.agg [.v (.int .i64 n0), .v (.int .i64 n1), .v (.int .i64 n2), .v (.int .i64 n3), .v (.int .i64 n4)]), .x (.agg [.v (.int .i64 b0), .v (.int .i64 b1), .v (.int .i64 b2), .v (.int .i64 b3), .v (.int .i64 b4)]), .x (.c (.v (.int .i64 own))), .x (.c (.v (.int .i64 m))), .x (.agg [.v (.int .u16 c0), .v (.int .u16 c1), .v (.int .u16 c2), .v (.int .u16 ca), .v (.int .u16 co), .v (.int .u16 cf)]), .x (.agg [.v (.int .u16 k0), .v (.int .u16 k1), .v (.int .u16 k2), .v (.int .u16 ka), .v (.int .u16 kf)]), .x (.c (.v (.int .u16 t)))] V = (True ∧ ∀ (i : Int), i = gxMax m → True ∧ ∀ (i_1 : Int), i_1 = gpC n0 n3 n4 i → ∀ (i_2 : Int), i_2 = gpC n1 n3 n4 i → ∀ (i_3 : Int), i_3 = gpC n2 n3 n4 i → ∀ (i_4 : Int), i_4 = gpA n3 n4 i → ∀ (i_5 : Int), i_5 = gaO n3 n4 own i → ∀ (i_6 : Int), i_6 = gaF n4 own i → ∀ (i_7 : Int), i_7 = gpC b0 b3 b4 i → ∀ (i_8 : Int), i_8 = gpC b1 b3 b4 i → ∀ (i_9 : Int), i_9 = gpC b2 b3 b4 i → ∀ (i_10 : Int), i_10 = gpA b3 b4 i → ∀ (i_11 : Int), i_11 = gpA b3 b4 i → (in16 i = true ∧ in16 i = true ∧ True) ∧ ∀ (i_12 : Int), i_12 = bgV iso kn i_1 i_7 → ∀ (i_13 : Int), i_13 = bgV iso kn i_2 i_8 → ∀ (i_14 : Int), i_14 = bgV iso kn i_3 i_9 → ∀ (i_15 : Int), i_15 = bgV iso kn i_4 i_10 → ∀ (i_16 : Int), i_16 = 0 → ∀ (i_17 : Int), i_17 = 0 → ∀ (i_18 : Int), i_18 = bgV iso kn i_1 i_7 → ∀ (i_19 : Int), i_19 = bgV iso kn i_2 i_8 → ∀ (i_20 : Int), i_20 = bgV iso kn i_3 i_9 → ∀ (i_21 : Int), i_21 = bgV iso kn i_4 i_10 → ∀ (i_22 : Int), i_22 = bgV iso kn i_4 i_11 → True ∧ ∀ (i_23 : Int), i_23 = bgV iso kn i_1 i_7 → ∀ (i_24 : Int), i_24 = bgV iso kn i_2 i_8 → ∀ (i_25 : Int), i_25 = bgV iso kn i_3 i_9 → ∀ (i_26 : Int), i_26 = bgV iso kn i_4 i_10 → ∀ (i_27 : Int), i_27 = 0 → ∀ (i_28 : Int), i_28 = 0 → ∀ (i_29 : Int), i_29 = bgV iso kn i_1 i_7 → ∀ (i_30 : Int), i_30 = bgV iso kn i_2 i_8 → ∀ (i_31 : Int), i_31 = bgV iso kn i_3 i_9 → ∀ (i_32 : Int), i_32 = bgV iso kn i_4 i_10 → ∀ (i_33 : Int), i_33 = bgV iso kn i_4 i_11 → True ∧ ∀ (i_34 : Int), i_34 = bgV iso kn c0 k0 → ∀ (i_35 : Int), i_35 = bgV iso kn c1 k1 → ∀ (i_36 : Int), i_36 = bgV iso kn c2 k2 → ∀ (i_37 : Int), i_37 = bgV iso kn ca ka → ∀ (i_38 : Int), i_38 = 0 → ∀ (i_39 : Int), i_39 = 0 → ∀ (i_40 : Int), i_40 = bgV iso kn c0 k0 → ∀ (i_41 : Int), i_41 = bgV iso kn c1 k1 → ∀ (i_42 : Int), i_42 = bgV iso kn c2 k2 → ∀ (i_43 : Int), i_43 = bgV iso kn ca ka → ∀ (i_44 : Int), i_44 = bgV iso kn ca kf → True ∧ ∀ (i_45 : Int), i_45 = bgV iso kn c0 k0 → ∀ (i_46 : Int), i_46 = bgV iso kn c1 k1 → ∀ (i_47 : Int), i_47 = bgV iso kn c2 k2 → ∀ (i_48 : Int), i_48 = bgV iso kn ca ka → ∀ (i_49 : Int), i_49 = 0 → ∀ (i_50 : Int), i_50 = 0 → ∀ (i_51 : Int), i_51 = bgV iso kn c0 k0 → ∀ (i_52 : Int), i_52 = bgV iso kn c1 k1 → ∀ (i_53 : Int), i_53 = bgV iso kn c2 k2 → ∀ (i_54 : Int), i_54 = bgV iso kn ca ka → ∀ (i_55 : Int), i_55 = bgV iso kn ca kf → True ∧ bcond (band (band (ieq i_12 i_23) (band (ieq i_13 i_24) (band (ieq i_14 i_25) true))) (band (ieq i_15 i_26) (band (ieq i_16 i_27) (band (ieq i_17 i_28) true)))) (bcond (band (band (ieq i_18 i_29) (band (ieq i_19 i_30) (band (ieq i_20 i_31) true))) (band (ieq i_21 i_32) (band (ieq i_22 i_33) true))) (bcond (band (band (ieq i_34 i_45) (band (ieq i_35 i_46) (band (ieq i_36 i_47) true))) (band (ieq i_37 i_48) (band (ieq i_38 i_49) (band (ieq i_39 i_50) true)))) (bcond (band (band (ieq i_40 i_51) (band (ieq i_41 i_52) (band (ieq i_42 i_53) true))) (band (ieq i_43 i_54) (band (ieq i_44 i_55) true))) (bcond (vaB i_1 i_2 i_3 i_4 i_5 i_6 i_7 i_8 i_9 i_10 i_11 i) (bcond (vaB i_12 i_13 i_14 i_15 i_16 i_17 i_18 i_19 i_20 i_21 i_22 i) (True ∧ True ∧ V [XV.c (CV.v (Value.bool (beq' (vaB c0 c1 c2 ca co cf k0 k1 k2 ka kf t) (vaB c0 c1 c2 ca co cf k0 k1 k2 ka kf t))))] []) (True ∧ True ∧ V [XV.c (CV.v (Value.bool false))] [])) (True ∧ True ∧ V [XV.c (CV.v (Value.bool false))] [])) (True ∧ True ∧ V [XV.c (CV.v (Value.bool false))] [])) (True ∧ True ∧ V [XV.c (CV.v (Value.bool false))] [])) (True ∧ True ∧ V [XV.c (CV.v (Value.bool false))] [])) (True ∧ True ∧ V [XV.c (CV.v (Value.bool false))] [])) := by
  try delta o_law12
  try delta s_gmax
  try delta s_mod
  try delta s_gpixel
  try delta s_gaccum
  try delta s_gback
  try delta s_pvalid
  try delta s_va
  try delta s_begin
  try delta s_gstep
  try delta s_gres
  try delta s_yes8
  generalize @bgV = bgV
  generalize @bz = bz
  generalize @gaF = gaF
  generalize @gaO = gaO
  generalize @gmod = gmod
  generalize @gpA = gpA
  generalize @gpC = gpC
  generalize @gpF = gpF
  generalize @grV = grV
  generalize @gsA = gsA
  generalize @gsC = gsC
  generalize @gsF = gsF
  generalize @gsO = gsO
  generalize @gsOk = gsOk
  generalize @gxMax = gxMax
  generalize @in16 = in16
  generalize @modOk = modOk
  generalize @pvB = pvB
  generalize @vaB = vaB
  kernel_rfl
set_option maxRecDepth 100000 in
theorem GroupValidNeedsEachField_vc (n0 n1 n2 n3 n4 b0 b1 b2 b3 b4 own m wh : Int) (V : List QR.XV → List (List QR.CV) → Prop) : QR.evalBody Tryd.prog (o_law12) (QR.noLoops) (Tryd.f4.body.getD .skip) Tryd.f4.results.toList Tryd.f4.ntmps [.x (.agg [.v (.int .i64 n0), .v (.int .i64 n1), .v (.int .i64 n2), .v (.int .i64 n3), .v (.int .i64 n4)]), .x (.agg [.v (.int .i64 b0), .v (.int .i64 b1), .v (.int .i64 b2), .v (.int .i64 b3), .v (.int .i64 b4)]), .x (.c (.v (.int .i64 own))), .x (.c (.v (.int .i64 m))), .x (.c (.v (.int .i64 wh)))] V = (True ∧ ∀ (i : Int), i = gxMax m → True ∧ ∀ (i_1 : Int), i_1 = gpC n0 n3 n4 i → ∀ (i_2 : Int), i_2 = gpC n1 n3 n4 i → ∀ (i_3 : Int), i_3 = gpC n2 n3 n4 i → ∀ (i_4 : Int), i_4 = gpA n3 n4 i → ∀ (i_5 : Int), i_5 = gaO n3 n4 own i → ∀ (i_6 : Int), i_6 = gaF n4 own i → ∀ (i_7 : Int), i_7 = gpC b0 b3 b4 i → ∀ (i_8 : Int), i_8 = gpC b1 b3 b4 i → ∀ (i_9 : Int), i_9 = gpC b2 b3 b4 i → ∀ (i_10 : Int), i_10 = gpA b3 b4 i → ∀ (i_11 : Int), i_11 = gpA b3 b4 i → (in16 i = true ∧ in16 i = true ∧ True) ∧ ∀ (i_12 : Int), i_12 = gmod wh 6 → (modOk 6 = true ∧ True) ∧ True ∧ bcond (ieq i_12 0) (∀ (i_13 : Int), i_13 = gmod (iquo IntKind.i64 wh 6) 3 → bcond (ieq i_13 0) ((true = true ∧ true = true ∧ modOk 3 = true ∧ true = true ∧ True) ∧ True ∧ bcond (ieq i_4 65535) (True ∧ True ∧ True ∧ V [XV.c (CV.v (Value.bool (bnot (vaB (iadd IntKind.u16 i_4 1) i_2 i_3 i_4 1 0 i_7 i_8 i_9 i_10 i_11 i))))] []) (True ∧ True ∧ V [XV.c (CV.v (Value.bool (bnot (vaB (iadd IntKind.u16 i_4 1) i_2 i_3 i_4 i_5 i_6 i_7 i_8 i_9 i_10 i_11 i))))] [])) (bcond (ieq i_13 1) ((true = true ∧ true = true ∧ modOk 3 = true ∧ true = true ∧ True) ∧ True ∧ bcond (ieq i_4 65535) (True ∧ True ∧ True ∧ V [XV.c (CV.v (Value.bool (bnot (vaB i_1 (iadd IntKind.u16 i_4 1) i_3 i_4 1 0 i_7 i_8 i_9 i_10 i_11 i))))] []) (True ∧ True ∧ V [XV.c (CV.v (Value.bool (bnot (vaB i_1 (iadd IntKind.u16 i_4 1) i_3 i_4 i_5 i_6 i_7 i_8 i_9 i_10 i_11 i))))] [])) (bcond (ieq i_13 2) ((true = true ∧ true = true ∧ modOk 3 = true ∧ true = true ∧ True) ∧ True ∧ bcond (ieq i_4 65535) (True ∧ True ∧ True ∧ V [XV.c (CV.v (Value.bool (bnot (vaB i_1 i_2 (iadd IntKind.u16 i_4 1) i_4 1 0 i_7 i_8 i_9 i_10 i_11 i))))] []) (True ∧ True ∧ V [XV.c (CV.v (Value.bool (bnot (vaB i_1 i_2 (iadd IntKind.u16 i_4 1) i_4 i_5 i_6 i_7 i_8 i_9 i_10 i_11 i))))] [])) False))) (True ∧ bcond (ieq i_12 1) (∀ (i_13 : Int), i_13 = iimin i_4 (isub IntKind.u16 i 1) → True ∧ True ∧ True ∧ True ∧ True ∧ V [XV.c (CV.v (Value.bool (bnot (vaB 0 0 0 i_13 (iadd IntKind.u16 i_13 1) i i_7 i_8 i_9 i_10 i_11 i))))] []) (True ∧ bcond (ieq i_12 2) (True ∧ True ∧ True ∧ V [XV.c (CV.v (Value.bool (bnot (vaB i_1 i_2 i_3 i 1 0 i_7 i_8 i_9 i_10 i_11 i))))] []) (True ∧ bcond (ieq i_12 3) (True ∧ True ∧ bcond (ieq i_10 65535) (True ∧ True ∧ True ∧ V [XV.c (CV.v (Value.bool (bnot (vaB i_1 i_2 i_3 i_4 i_5 i_6 i_7 i_8 i_9 i_10 0 i))))] []) (True ∧ True ∧ V [XV.c (CV.v (Value.bool (bnot (vaB i_1 i_2 i_3 i_4 i_5 i_6 i_7 i_8 i_9 i_10 (iadd IntKind.u16 i_10 1) i))))] [])) (True ∧ bcond (ieq i_12 4) ((true = true ∧ true = true ∧ True) ∧ True ∧ bcond (ieq i_10 65535) ((true = true ∧ true = true ∧ True) ∧ True ∧ True ∧ V [XV.c (CV.v (Value.bool (bnot (vaB i_1 i_2 i_3 i_4 i_5 i_6 1 i_8 i_9 0 0 i))))] []) (True ∧ True ∧ V [XV.c (CV.v (Value.bool (bnot (vaB i_1 i_2 i_3 i_4 i_5 i_6 (iadd IntKind.u16 i_10 1) i_8 i_9 i_10 i_11 i))))] [])) (True ∧ True ∧ True ∧ V [XV.c (CV.v (Value.bool (bnot (vaB i_1 i_2 i_3 i_4 i_5 i_6 i_7 i_8 i_9 i_10 i_11 254))))] [])))))) := by
  try delta o_law12
  try delta s_gmax
  try delta s_mod
  try delta s_gpixel
  try delta s_gaccum
  try delta s_gback
  try delta s_pvalid
  try delta s_va
  try delta s_begin
  try delta s_gstep
  try delta s_gres
  try delta s_yes8
  generalize @bgV = bgV
  generalize @bz = bz
  generalize @gaF = gaF
  generalize @gaO = gaO
  generalize @gmod = gmod
  generalize @gpA = gpA
  generalize @gpC = gpC
  generalize @gpF = gpF
  generalize @grV = grV
  generalize @gsA = gsA
  generalize @gsC = gsC
  generalize @gsF = gsF
  generalize @gsO = gsO
  generalize @gsOk = gsOk
  generalize @gxMax = gxMax
  generalize @in16 = in16
  generalize @modOk = modOk
  generalize @pvB = pvB
  generalize @vaB = vaB
  kernel_rfl
set_option maxRecDepth 100000 in
theorem GroupStepAgrees_vc (kn : Bool) (op mode a0 a1 a2 a3 a4 n0 n1 n2 n3 n4 b0 b1 b2 b3 b4 own m : Int) (V : List QR.XV → List (List QR.CV) → Prop) : QR.evalBody Tryd.prog (o_law12) (QR.noLoops) (Tryd.f5.body.getD .skip) Tryd.f5.results.toList Tryd.f5.ntmps [.x (.c (.v (.bool kn))), .x (.c (.v (.int .i64 op))), .x (.c (.v (.int .i64 mode))), .x (.agg [.v (.int .i64 a0), .v (.int .i64 a1), .v (.int .i64 a2), .v (.int .i64 a3), .v (.int .i64 a4)]), .x (.agg [.v (.int .i64 n0), .v (.int .i64 n1), .v (.int .i64 n2), .v (.int .i64 n3), .v (.int .i64 n4)]), .x (.agg [.v (.int .i64 b0), .v (.int .i64 b1), .v (.int .i64 b2), .v (.int .i64 b3), .v (.int .i64 b4)]), .x (.c (.v (.int .i64 own))), .x (.c (.v (.int .i64 m)))] V = (True ∧ ∀ (i : Int), i = gxMax m → ∀ (i_1 : Int), i_1 = gmod op 14 → ∀ (i_2 : Int), i_2 = gmod mode 14 → (modOk 14 = true ∧ modOk 14 = true ∧ True) ∧ ∀ (i_3 : Int), i_3 = gmod (iquo IntKind.i64 op 14) 2 → (modOk 2 = true ∧ true = true ∧ True) ∧ bcond (ieq i_3 0) (True ∧ ∀ (i_4 : Int), i_4 = gpC a0 a3 a4 i → ∀ (i_5 : Int), i_5 = gpC a1 a3 a4 i → ∀ (i_6 : Int), i_6 = gpC a2 a3 a4 i → ∀ (i_7 : Int), i_7 = gpA a3 a4 i → ∀ (i_8 : Int), i_8 = gpF a4 i → ∀ (i_9 : Int), i_9 = gpC n0 n3 n4 i → ∀ (i_10 : Int), i_10 = gpC n1 n3 n4 i → ∀ (i_11 : Int), i_11 = gpC n2 n3 n4 i → ∀ (i_12 : Int), i_12 = gpA n3 n4 i → ∀ (i_13 : Int), i_13 = gaO n3 n4 own i → ∀ (i_14 : Int), i_14 = gaF n4 own i → ∀ (i_15 : Int), i_15 = gpC b0 b3 b4 i → ∀ (i_16 : Int), i_16 = gpC b1 b3 b4 i → ∀ (i_17 : Int), i_17 = gpC b2 b3 b4 i → ∀ (i_18 : Int), i_18 = gpA b3 b4 i → ∀ (i_19 : Int), i_19 = gpA b3 b4 i → (in16 i = true ∧ in16 i = true ∧ in16 i = true ∧ True) ∧ ∀ (i_20 : Int), i_20 = bz (gsOk kn 4 i_2 i i_4 i_5 i_6 i_7 i_8 i_9 i_10 i_11 i_12 i_13 i_14 i_15 i_16 i_17 i_18 i_19) (gsC kn 4 i_2 i i_4 i_7 i_8 i_9 i_12 i_15 i_18) → ∀ (i_21 : Int), i_21 = bz (gsOk kn 4 i_2 i i_4 i_5 i_6 i_7 i_8 i_9 i_10 i_11 i_12 i_13 i_14 i_15 i_16 i_17 i_18 i_19) (gsC kn 4 i_2 i i_5 i_7 i_8 i_10 i_12 i_16 i_18) → ∀ (i_22 : Int), i_22 = bz (gsOk kn 4 i_2 i i_4 i_5 i_6 i_7 i_8 i_9 i_10 i_11 i_12 i_13 i_14 i_15 i_16 i_17 i_18 i_19) (gsC kn 4 i_2 i i_6 i_7 i_8 i_11 i_12 i_17 i_18) → ∀ (i_23 : Int), i_23 = bz (gsOk kn 4 i_2 i i_4 i_5 i_6 i_7 i_8 i_9 i_10 i_11 i_12 i_13 i_14 i_15 i_16 i_17 i_18 i_19) (gsA kn 4 i i_7 i_8 i_12 i_18) → ∀ (i_24 : Int), i_24 = bz (gsOk kn 4 i_2 i i_4 i_5 i_6 i_7 i_8 i_9 i_10 i_11 i_12 i_13 i_14 i_15 i_16 i_17 i_18 i_19) (gsO kn 4 i i_7 i_8 i_13) → ∀ (i_25 : Int), i_25 = bz (gsOk kn 4 i_2 i i_4 i_5 i_6 i_7 i_8 i_9 i_10 i_11 i_12 i_13 i_14 i_15 i_16 i_17 i_18 i_19) (gsF 4 i i_8 i_14) → (in16 i = true ∧ in16 i_4 = true ∧ in16 i_5 = true ∧ in16 i_6 = true ∧ in16 i_7 = true ∧ in16 i_8 = true ∧ in16 i_9 = true ∧ in16 i_10 = true ∧ in16 i_11 = true ∧ in16 i_12 = true ∧ in16 i_13 = true ∧ in16 i_14 = true ∧ in16 i_15 = true ∧ in16 i_16 = true ∧ in16 i_17 = true ∧ in16 i_18 = true ∧ in16 i_19 = true ∧ True) ∧ ∀ (i_26 : Int), i_26 = bz (gsOk kn 4 i_2 i i_4 i_5 i_6 i_7 i_8 i_9 i_10 i_11 i_12 i_13 i_14 i_15 i_16 i_17 i_18 i_19) (gsC kn 4 i_2 i i_4 i_7 i_8 i_9 i_12 i_15 i_18) → ∀ (i_27 : Int), i_27 = bz (gsOk kn 4 i_2 i i_4 i_5 i_6 i_7 i_8 i_9 i_10 i_11 i_12 i_13 i_14 i_15 i_16 i_17 i_18 i_19) (gsC kn 4 i_2 i i_5 i_7 i_8 i_10 i_12 i_16 i_18) → ∀ (i_28 : Int), i_28 = bz (gsOk kn 4 i_2 i i_4 i_5 i_6 i_7 i_8 i_9 i_10 i_11 i_12 i_13 i_14 i_15 i_16 i_17 i_18 i_19) (gsC kn 4 i_2 i i_6 i_7 i_8 i_11 i_12 i_17 i_18) → ∀ (i_29 : Int), i_29 = bz (gsOk kn 4 i_2 i i_4 i_5 i_6 i_7 i_8 i_9 i_10 i_11 i_12 i_13 i_14 i_15 i_16 i_17 i_18 i_19) (gsA kn 4 i i_7 i_8 i_12 i_18) → ∀ (i_30 : Int), i_30 = bz (gsOk kn 4 i_2 i i_4 i_5 i_6 i_7 i_8 i_9 i_10 i_11 i_12 i_13 i_14 i_15 i_16 i_17 i_18 i_19) (gsO kn 4 i i_7 i_8 i_13) → ∀ (i_31 : Int), i_31 = bz (gsOk kn 4 i_2 i i_4 i_5 i_6 i_7 i_8 i_9 i_10 i_11 i_12 i_13 i_14 i_15 i_16 i_17 i_18 i_19) (gsF 4 i i_8 i_14) → (in16 i = true ∧ in16 i_4 = true ∧ in16 i_5 = true ∧ in16 i_6 = true ∧ in16 i_7 = true ∧ in16 i_8 = true ∧ in16 i_9 = true ∧ in16 i_10 = true ∧ in16 i_11 = true ∧ in16 i_12 = true ∧ in16 i_13 = true ∧ in16 i_14 = true ∧ in16 i_15 = true ∧ in16 i_16 = true ∧ in16 i_17 = true ∧ in16 i_18 = true ∧ in16 i_19 = true ∧ True) ∧ bcond (band (band (ieq i_20 i_26) (band (ieq i_21 i_27) (band (ieq i_22 i_28) true))) (band (ieq i_23 i_29) (band (ieq i_24 i_30) (band (ieq i_25 i_31) true)))) (True ∧ True ∧ V [XV.c (CV.v (Value.bool (beq' (gsOk kn 4 i_2 i i_4 i_5 i_6 i_7 i_8 i_9 i_10 i_11 i_12 i_13 i_14 i_15 i_16 i_17 i_18 i_19) (gsOk kn 4 i_2 i i_4 i_5 i_6 i_7 i_8 i_9 i_10 i_11 i_12 i_13 i_14 i_15 i_16 i_17 i_18 i_19))))] []) (True ∧ True ∧ V [XV.c (CV.v (Value.bool false))] [])) (∀ (i_4 : Int), i_4 = gpC a0 a3 a4 i → ∀ (i_5 : Int), i_5 = gpC a1 a3 a4 i → ∀ (i_6 : Int), i_6 = gpC a2 a3 a4 i → ∀ (i_7 : Int), i_7 = gpA a3 a4 i → ∀ (i_8 : Int), i_8 = gpF a4 i → ∀ (i_9 : Int), i_9 = gpC n0 n3 n4 i → ∀ (i_10 : Int), i_10 = gpC n1 n3 n4 i → ∀ (i_11 : Int), i_11 = gpC n2 n3 n4 i → ∀ (i_12 : Int), i_12 = gpA n3 n4 i → ∀ (i_13 : Int), i_13 = gaO n3 n4 own i → ∀ (i_14 : Int), i_14 = gaF n4 own i → ∀ (i_15 : Int), i_15 = gpC b0 b3 b4 i → ∀ (i_16 : Int), i_16 = gpC b1 b3 b4 i → ∀ (i_17 : Int), i_17 = gpC b2 b3 b4 i → ∀ (i_18 : Int), i_18 = gpA b3 b4 i → ∀ (i_19 : Int), i_19 = gpA b3 b4 i → (in16 i = true ∧ in16 i = true ∧ in16 i = true ∧ True) ∧ ∀ (i_20 : Int), i_20 = bz (gsOk kn i_1 i_2 i i_4 i_5 i_6 i_7 i_8 i_9 i_10 i_11 i_12 i_13 i_14 i_15 i_16 i_17 i_18 i_19) (gsC kn i_1 i_2 i i_4 i_7 i_8 i_9 i_12 i_15 i_18) → ∀ (i_21 : Int), i_21 = bz (gsOk kn i_1 i_2 i i_4 i_5 i_6 i_7 i_8 i_9 i_10 i_11 i_12 i_13 i_14 i_15 i_16 i_17 i_18 i_19) (gsC kn i_1 i_2 i i_5 i_7 i_8 i_10 i_12 i_16 i_18) → ∀ (i_22 : Int), i_22 = bz (gsOk kn i_1 i_2 i i_4 i_5 i_6 i_7 i_8 i_9 i_10 i_11 i_12 i_13 i_14 i_15 i_16 i_17 i_18 i_19) (gsC kn i_1 i_2 i i_6 i_7 i_8 i_11 i_12 i_17 i_18) → ∀ (i_23 : Int), i_23 = bz (gsOk kn i_1 i_2 i i_4 i_5 i_6 i_7 i_8 i_9 i_10 i_11 i_12 i_13 i_14 i_15 i_16 i_17 i_18 i_19) (gsA kn i_1 i i_7 i_8 i_12 i_18) → ∀ (i_24 : Int), i_24 = bz (gsOk kn i_1 i_2 i i_4 i_5 i_6 i_7 i_8 i_9 i_10 i_11 i_12 i_13 i_14 i_15 i_16 i_17 i_18 i_19) (gsO kn i_1 i i_7 i_8 i_13) → ∀ (i_25 : Int), i_25 = bz (gsOk kn i_1 i_2 i i_4 i_5 i_6 i_7 i_8 i_9 i_10 i_11 i_12 i_13 i_14 i_15 i_16 i_17 i_18 i_19) (gsF i_1 i i_8 i_14) → (in16 i = true ∧ in16 i_4 = true ∧ in16 i_5 = true ∧ in16 i_6 = true ∧ in16 i_7 = true ∧ in16 i_8 = true ∧ in16 i_9 = true ∧ in16 i_10 = true ∧ in16 i_11 = true ∧ in16 i_12 = true ∧ in16 i_13 = true ∧ in16 i_14 = true ∧ in16 i_15 = true ∧ in16 i_16 = true ∧ in16 i_17 = true ∧ in16 i_18 = true ∧ in16 i_19 = true ∧ True) ∧ ∀ (i_26 : Int), i_26 = bz (gsOk kn i_1 i_2 i i_4 i_5 i_6 i_7 i_8 i_9 i_10 i_11 i_12 i_13 i_14 i_15 i_16 i_17 i_18 i_19) (gsC kn i_1 i_2 i i_4 i_7 i_8 i_9 i_12 i_15 i_18) → ∀ (i_27 : Int), i_27 = bz (gsOk kn i_1 i_2 i i_4 i_5 i_6 i_7 i_8 i_9 i_10 i_11 i_12 i_13 i_14 i_15 i_16 i_17 i_18 i_19) (gsC kn i_1 i_2 i i_5 i_7 i_8 i_10 i_12 i_16 i_18) → ∀ (i_28 : Int), i_28 = bz (gsOk kn i_1 i_2 i i_4 i_5 i_6 i_7 i_8 i_9 i_10 i_11 i_12 i_13 i_14 i_15 i_16 i_17 i_18 i_19) (gsC kn i_1 i_2 i i_6 i_7 i_8 i_11 i_12 i_17 i_18) → ∀ (i_29 : Int), i_29 = bz (gsOk kn i_1 i_2 i i_4 i_5 i_6 i_7 i_8 i_9 i_10 i_11 i_12 i_13 i_14 i_15 i_16 i_17 i_18 i_19) (gsA kn i_1 i i_7 i_8 i_12 i_18) → ∀ (i_30 : Int), i_30 = bz (gsOk kn i_1 i_2 i i_4 i_5 i_6 i_7 i_8 i_9 i_10 i_11 i_12 i_13 i_14 i_15 i_16 i_17 i_18 i_19) (gsO kn i_1 i i_7 i_8 i_13) → ∀ (i_31 : Int), i_31 = bz (gsOk kn i_1 i_2 i i_4 i_5 i_6 i_7 i_8 i_9 i_10 i_11 i_12 i_13 i_14 i_15 i_16 i_17 i_18 i_19) (gsF i_1 i i_8 i_14) → (in16 i = true ∧ in16 i_4 = true ∧ in16 i_5 = true ∧ in16 i_6 = true ∧ in16 i_7 = true ∧ in16 i_8 = true ∧ in16 i_9 = true ∧ in16 i_10 = true ∧ in16 i_11 = true ∧ in16 i_12 = true ∧ in16 i_13 = true ∧ in16 i_14 = true ∧ in16 i_15 = true ∧ in16 i_16 = true ∧ in16 i_17 = true ∧ in16 i_18 = true ∧ in16 i_19 = true ∧ True) ∧ bcond (band (band (ieq i_20 i_26) (band (ieq i_21 i_27) (band (ieq i_22 i_28) true))) (band (ieq i_23 i_29) (band (ieq i_24 i_30) (band (ieq i_25 i_31) true)))) (True ∧ True ∧ V [XV.c (CV.v (Value.bool (beq' (gsOk kn i_1 i_2 i i_4 i_5 i_6 i_7 i_8 i_9 i_10 i_11 i_12 i_13 i_14 i_15 i_16 i_17 i_18 i_19) (gsOk kn i_1 i_2 i i_4 i_5 i_6 i_7 i_8 i_9 i_10 i_11 i_12 i_13 i_14 i_15 i_16 i_17 i_18 i_19))))] []) (True ∧ True ∧ V [XV.c (CV.v (Value.bool false))] []))) := by
  try delta o_law12
  try delta s_gmax
  try delta s_mod
  try delta s_gpixel
  try delta s_gaccum
  try delta s_gback
  try delta s_pvalid
  try delta s_va
  try delta s_begin
  try delta s_gstep
  try delta s_gres
  try delta s_yes8
  generalize @bgV = bgV
  generalize @bz = bz
  generalize @gaF = gaF
  generalize @gaO = gaO
  generalize @gmod = gmod
  generalize @gpA = gpA
  generalize @gpC = gpC
  generalize @gpF = gpF
  generalize @grV = grV
  generalize @gsA = gsA
  generalize @gsC = gsC
  generalize @gsF = gsF
  generalize @gsO = gsO
  generalize @gsOk = gsOk
  generalize @gxMax = gxMax
  generalize @in16 = in16
  generalize @modOk = modOk
  generalize @pvB = pvB
  generalize @vaB = vaB
  kernel_rfl
set_option maxRecDepth 100000 in
theorem GroupRejects_vc (kn : Bool) (op mode s0 s1 s2 sa sf c0 c1 c2 ca co cf k0 k1 k2 ka kf t n0 n1 n2 n3 n4 own : Int) (V : List QR.XV → List (List QR.CV) → Prop) : QR.evalBody Tryd.prog (o_law12) (QR.noLoops) (Tryd.f6.body.getD .skip) Tryd.f6.results.toList Tryd.f6.ntmps [.x (.c (.v (.bool kn))), .x (.c (.v (.int .i64 op))), .x (.c (.v (.int .i64 mode))), .x (.agg [.v (.int .u16 s0), .v (.int .u16 s1), .v (.int .u16 s2), .v (.int .u16 sa), .v (.int .u16 sf)]), .x (.agg [.v (.int .u16 c0), .v (.int .u16 c1), .v (.int .u16 c2), .v (.int .u16 ca), .v (.int .u16 co), .v (.int .u16 cf)]), .x (.agg [.v (.int .u16 k0), .v (.int .u16 k1), .v (.int .u16 k2), .v (.int .u16 ka), .v (.int .u16 kf)]), .x (.c (.v (.int .u16 t))), .x (.agg [.v (.int .i64 n0), .v (.int .i64 n1), .v (.int .i64 n2), .v (.int .i64 n3), .v (.int .i64 n4)]), .x (.c (.v (.int .i64 own)))] V = (True ∧ ∀ (i : Int), i = gmod op 14 → ∀ (i_1 : Int), i_1 = gmod mode 14 → (modOk 14 = true ∧ modOk 14 = true ∧ True) ∧ ∀ (i_2 : Int), i_2 = gxMax (iconv IntKind.i64 t) → True ∧ ∀ (i_3 : Int), i_3 = bz (gsOk kn i i_1 t s0 s1 s2 sa sf c0 c1 c2 ca co cf k0 k1 k2 ka kf) (gsC kn i i_1 t s0 sa sf c0 ca k0 ka) → ∀ (i_4 : Int), i_4 = bz (gsOk kn i i_1 t s0 s1 s2 sa sf c0 c1 c2 ca co cf k0 k1 k2 ka kf) (gsC kn i i_1 t s1 sa sf c1 ca k1 ka) → ∀ (i_5 : Int), i_5 = bz (gsOk kn i i_1 t s0 s1 s2 sa sf c0 c1 c2 ca co cf k0 k1 k2 ka kf) (gsC kn i i_1 t s2 sa sf c2 ca k2 ka) → ∀ (i_6 : Int), i_6 = bz (gsOk kn i i_1 t s0 s1 s2 sa sf c0 c1 c2 ca co cf k0 k1 k2 ka kf) (gsA kn i t sa sf ca ka) → ∀ (i_7 : Int), i_7 = bz (gsOk kn i i_1 t s0 s1 s2 sa sf c0 c1 c2 ca co cf k0 k1 k2 ka kf) (gsO kn i t sa sf co) → ∀ (i_8 : Int), i_8 = bz (gsOk kn i i_1 t s0 s1 s2 sa sf c0 c1 c2 ca co cf k0 k1 k2 ka kf) (gsF i t sf cf) → (in16 t = true ∧ in16 s0 = true ∧ in16 s1 = true ∧ in16 s2 = true ∧ in16 sa = true ∧ in16 sf = true ∧ in16 c0 = true ∧ in16 c1 = true ∧ in16 c2 = true ∧ in16 ca = true ∧ in16 co = true ∧ in16 cf = true ∧ in16 k0 = true ∧ in16 k1 = true ∧ in16 k2 = true ∧ in16 ka = true ∧ in16 kf = true ∧ True) ∧ ∀ (i_9 : Int), i_9 = bz (gsOk kn i i_1 t s0 s1 s2 sa sf c0 c1 c2 ca co cf k0 k1 k2 ka kf) (gsC kn i i_1 t s0 sa sf c0 ca k0 ka) → ∀ (i_10 : Int), i_10 = bz (gsOk kn i i_1 t s0 s1 s2 sa sf c0 c1 c2 ca co cf k0 k1 k2 ka kf) (gsC kn i i_1 t s1 sa sf c1 ca k1 ka) → ∀ (i_11 : Int), i_11 = bz (gsOk kn i i_1 t s0 s1 s2 sa sf c0 c1 c2 ca co cf k0 k1 k2 ka kf) (gsC kn i i_1 t s2 sa sf c2 ca k2 ka) → ∀ (i_12 : Int), i_12 = bz (gsOk kn i i_1 t s0 s1 s2 sa sf c0 c1 c2 ca co cf k0 k1 k2 ka kf) (gsA kn i t sa sf ca ka) → ∀ (i_13 : Int), i_13 = bz (gsOk kn i i_1 t s0 s1 s2 sa sf c0 c1 c2 ca co cf k0 k1 k2 ka kf) (gsO kn i t sa sf co) → ∀ (i_14 : Int), i_14 = bz (gsOk kn i i_1 t s0 s1 s2 sa sf c0 c1 c2 ca co cf k0 k1 k2 ka kf) (gsF i t sf cf) → (in16 t = true ∧ in16 s0 = true ∧ in16 s1 = true ∧ in16 s2 = true ∧ in16 sa = true ∧ in16 sf = true ∧ in16 c0 = true ∧ in16 c1 = true ∧ in16 c2 = true ∧ in16 ca = true ∧ in16 co = true ∧ in16 cf = true ∧ in16 k0 = true ∧ in16 k1 = true ∧ in16 k2 = true ∧ in16 ka = true ∧ in16 kf = true ∧ True) ∧ ∀ (i_15 : Int), i_15 = grV (vaB c0 c1 c2 ca co cf k0 k1 k2 ka kf t) c0 k0 co t → ∀ (i_16 : Int), i_16 = grV (vaB c0 c1 c2 ca co cf k0 k1 k2 ka kf t) c1 k1 co t → ∀ (i_17 : Int), i_17 = grV (vaB c0 c1 c2 ca co cf k0 k1 k2 ka kf t) c2 k2 co t → ∀ (i_18 : Int), i_18 = bz (vaB c0 c1 c2 ca co cf k0 k1 k2 ka kf t) co → ∀ (i_19 : Int), i_19 = bz (vaB c0 c1 c2 ca co cf k0 k1 k2 ka kf t) cf → (in16 t = true ∧ in16 c0 = true ∧ in16 c1 = true ∧ in16 c2 = true ∧ in16 ca = true ∧ in16 co = true ∧ in16 cf = true ∧ in16 k0 = true ∧ in16 k1 = true ∧ in16 k2 = true ∧ in16 ka = true ∧ in16 kf = true ∧ True) ∧ ∀ (i_20 : Int), i_20 = grV (vaB c0 c1 c2 ca co cf k0 k1 k2 ka kf t) c0 k0 co t → ∀ (i_21 : Int), i_21 = grV (vaB c0 c1 c2 ca co cf k0 k1 k2 ka kf t) c1 k1 co t → ∀ (i_22 : Int), i_22 = grV (vaB c0 c1 c2 ca co cf k0 k1 k2 ka kf t) c2 k2 co t → ∀ (i_23 : Int), i_23 = bz (vaB c0 c1 c2 ca co cf k0 k1 k2 ka kf t) co → ∀ (i_24 : Int), i_24 = bz (vaB c0 c1 c2 ca co cf k0 k1 k2 ka kf t) cf → (in16 t = true ∧ in16 c0 = true ∧ in16 c1 = true ∧ in16 c2 = true ∧ in16 ca = true ∧ in16 co = true ∧ in16 cf = true ∧ in16 k0 = true ∧ in16 k1 = true ∧ in16 k2 = true ∧ in16 ka = true ∧ in16 kf = true ∧ True) ∧ ∀ (i_25 : Int), i_25 = gpC n0 n3 n4 i_2 → ∀ (i_26 : Int), i_26 = gpC n1 n3 n4 i_2 → ∀ (i_27 : Int), i_27 = gpC n2 n3 n4 i_2 → ∀ (i_28 : Int), i_28 = gpA n3 n4 i_2 → ∀ (i_29 : Int), i_29 = gaO n3 n4 own i_2 → ∀ (i_30 : Int), i_30 = gaF n4 own i_2 → ∀ (i_31 : Int), i_31 = bz (gsOk kn i i_1 i_2 s0 s1 s2 sa sf i_25 i_26 i_27 i_28 i_29 i_30 k0 k1 k2 ka kf) (gsC kn i i_1 i_2 s0 sa sf i_25 i_28 k0 ka) → ∀ (i_32 : Int), i_32 = bz (gsOk kn i i_1 i_2 s0 s1 s2 sa sf i_25 i_26 i_27 i_28 i_29 i_30 k0 k1 k2 ka kf) (gsC kn i i_1 i_2 s1 sa sf i_26 i_28 k1 ka) → ∀ (i_33 : Int), i_33 = bz (gsOk kn i i_1 i_2 s0 s1 s2 sa sf i_25 i_26 i_27 i_28 i_29 i_30 k0 k1 k2 ka kf) (gsC kn i i_1 i_2 s2 sa sf i_27 i_28 k2 ka) → ∀ (i_34 : Int), i_34 = bz (gsOk kn i i_1 i_2 s0 s1 s2 sa sf i_25 i_26 i_27 i_28 i_29 i_30 k0 k1 k2 ka kf) (gsA kn i i_2 sa sf i_28 ka) → ∀ (i_35 : Int), i_35 = bz (gsOk kn i i_1 i_2 s0 s1 s2 sa sf i_25 i_26 i_27 i_28 i_29 i_30 k0 k1 k2 ka kf) (gsO kn i i_2 sa sf i_29) → ∀ (i_36 : Int), i_36 = bz (gsOk kn i i_1 i_2 s0 s1 s2 sa sf i_25 i_26 i_27 i_28 i_29 i_30 k0 k1 k2 ka kf) (gsF i i_2 sf i_30) → (in16 i_2 = true ∧ in16 s0 = true ∧ in16 s1 = true ∧ in16 s2 = true ∧ in16 sa = true ∧ in16 sf = true ∧ in16 i_25 = true ∧ in16 i_26 = true ∧ in16 i_27 = true ∧ in16 i_28 = true ∧ in16 i_29 = true ∧ in16 i_30 = true ∧ in16 k0 = true ∧ in16 k1 = true ∧ in16 k2 = true ∧ in16 ka = true ∧ in16 kf = true ∧ in16 i_2 = true ∧ True) ∧ ∀ (i_37 : Int), i_37 = gpC n0 n3 n4 i_2 → ∀ (i_38 : Int), i_38 = gpC n1 n3 n4 i_2 → ∀ (i_39 : Int), i_39 = gpC n2 n3 n4 i_2 → ∀ (i_40 : Int), i_40 = gpA n3 n4 i_2 → ∀ (i_41 : Int), i_41 = gaO n3 n4 own i_2 → ∀ (i_42 : Int), i_42 = gaF n4 own i_2 → ∀ (i_43 : Int), i_43 = bz (gsOk kn i i_1 i_2 s0 s1 s2 sa sf i_37 i_38 i_39 i_40 i_41 i_42 k0 k1 k2 ka kf) (gsC kn i i_1 i_2 s0 sa sf i_37 i_40 k0 ka) → ∀ (i_44 : Int), i_44 = bz (gsOk kn i i_1 i_2 s0 s1 s2 sa sf i_37 i_38 i_39 i_40 i_41 i_42 k0 k1 k2 ka kf) (gsC kn i i_1 i_2 s1 sa sf i_38 i_40 k1 ka) → ∀ (i_45 : Int), i_45 = bz (gsOk kn i i_1 i_2 s0 s1 s2 sa sf i_37 i_38 i_39 i_40 i_41 i_42 k0 k1 k2 ka kf) (gsC kn i i_1 i_2 s2 sa sf i_39 i_40 k2 ka) → ∀ (i_46 : Int), i_46 = bz (gsOk kn i i_1 i_2 s0 s1 s2 sa sf i_37 i_38 i_39 i_40 i_41 i_42 k0 k1 k2 ka kf) (gsA kn i i_2 sa sf i_40 ka) → ∀ (i_47 : Int), i_47 = bz (gsOk kn i i_1 i_2 s0 s1 s2 sa sf i_37 i_38 i_39 i_40 i_41 i_42 k0 k1 k2 ka kf) (gsO kn i i_2 sa sf i_41) → ∀ (i_48 : Int), i_48 = bz (gsOk kn i i_1 i_2 s0 s1 s2 sa sf i_37 i_38 i_39 i_40 i_41 i_42 k0 k1 k2 ka kf) (gsF i i_2 sf i_42) → (in16 i_2 = true ∧ in16 s0 = true ∧ in16 s1 = true ∧ in16 s2 = true ∧ in16 sa = true ∧ in16 sf = true ∧ in16 i_37 = true ∧ in16 i_38 = true ∧ in16 i_39 = true ∧ in16 i_40 = true ∧ in16 i_41 = true ∧ in16 i_42 = true ∧ in16 k0 = true ∧ in16 k1 = true ∧ in16 k2 = true ∧ in16 ka = true ∧ in16 kf = true ∧ in16 i_2 = true ∧ True) ∧ bcond (band (band (ieq i_3 i_9) (band (ieq i_4 i_10) (band (ieq i_5 i_11) true))) (band (ieq i_6 i_12) (band (ieq i_7 i_13) (band (ieq i_8 i_14) true)))) (bcond (beq' (gsOk kn i i_1 t s0 s1 s2 sa sf c0 c1 c2 ca co cf k0 k1 k2 ka kf) (gsOk kn i i_1 t s0 s1 s2 sa sf c0 c1 c2 ca co cf k0 k1 k2 ka kf)) (bcond (band (band (ieq i_15 i_20) (band (ieq i_16 i_21) (band (ieq i_17 i_22) true))) (band (ieq i_18 i_23) (band (ieq i_19 i_24) true))) (bcond (beq' (vaB c0 c1 c2 ca co cf k0 k1 k2 ka kf t) (vaB c0 c1 c2 ca co cf k0 k1 k2 ka kf t)) (bcond (band (band (ieq i_31 i_43) (band (ieq i_32 i_44) (band (ieq i_33 i_45) true))) (band (ieq i_34 i_46) (band (ieq i_35 i_47) (band (ieq i_36 i_48) true)))) (True ∧ True ∧ V [XV.c (CV.v (Value.bool (beq' (gsOk kn i i_1 i_2 s0 s1 s2 sa sf i_25 i_26 i_27 i_28 i_29 i_30 k0 k1 k2 ka kf) (gsOk kn i i_1 i_2 s0 s1 s2 sa sf i_37 i_38 i_39 i_40 i_41 i_42 k0 k1 k2 ka kf))))] []) (True ∧ True ∧ V [XV.c (CV.v (Value.bool false))] [])) (True ∧ True ∧ V [XV.c (CV.v (Value.bool false))] [])) (True ∧ True ∧ V [XV.c (CV.v (Value.bool false))] [])) (True ∧ True ∧ V [XV.c (CV.v (Value.bool false))] [])) (True ∧ True ∧ V [XV.c (CV.v (Value.bool false))] [])) := by
  try delta o_law12
  try delta s_gmax
  try delta s_mod
  try delta s_gpixel
  try delta s_gaccum
  try delta s_gback
  try delta s_pvalid
  try delta s_va
  try delta s_begin
  try delta s_gstep
  try delta s_gres
  try delta s_yes8
  generalize @bgV = bgV
  generalize @bz = bz
  generalize @gaF = gaF
  generalize @gaO = gaO
  generalize @gmod = gmod
  generalize @gpA = gpA
  generalize @gpC = gpC
  generalize @gpF = gpF
  generalize @grV = grV
  generalize @gsA = gsA
  generalize @gsC = gsC
  generalize @gsF = gsF
  generalize @gsO = gsO
  generalize @gsOk = gsOk
  generalize @gxMax = gxMax
  generalize @in16 = in16
  generalize @modOk = modOk
  generalize @pvB = pvB
  generalize @vaB = vaB
  kernel_rfl
set_option maxRecDepth 100000 in
theorem GroupResultAgrees_vc (n0 n1 n2 n3 n4 b0 b1 b2 b3 b4 own m : Int) (V : List QR.XV → List (List QR.CV) → Prop) : QR.evalBody Tryd.prog (o_law12) (QR.noLoops) (Tryd.f7.body.getD .skip) Tryd.f7.results.toList Tryd.f7.ntmps [.x (.agg [.v (.int .i64 n0), .v (.int .i64 n1), .v (.int .i64 n2), .v (.int .i64 n3), .v (.int .i64 n4)]), .x (.agg [.v (.int .i64 b0), .v (.int .i64 b1), .v (.int .i64 b2), .v (.int .i64 b3), .v (.int .i64 b4)]), .x (.c (.v (.int .i64 own))), .x (.c (.v (.int .i64 m)))] V = (True ∧ ∀ (i : Int), i = gxMax m → True ∧ ∀ (i_1 : Int), i_1 = gpC n0 n3 n4 i → ∀ (i_2 : Int), i_2 = gpC n1 n3 n4 i → ∀ (i_3 : Int), i_3 = gpC n2 n3 n4 i → ∀ (i_4 : Int), i_4 = gpA n3 n4 i → ∀ (i_5 : Int), i_5 = gaO n3 n4 own i → ∀ (i_6 : Int), i_6 = gaF n4 own i → ∀ (i_7 : Int), i_7 = gpC b0 b3 b4 i → ∀ (i_8 : Int), i_8 = gpC b1 b3 b4 i → ∀ (i_9 : Int), i_9 = gpC b2 b3 b4 i → ∀ (i_10 : Int), i_10 = gpA b3 b4 i → ∀ (i_11 : Int), i_11 = gpA b3 b4 i → (in16 i = true ∧ in16 i = true ∧ True) ∧ ∀ (i_12 : Int), i_12 = grV (vaB i_1 i_2 i_3 i_4 i_5 i_6 i_7 i_8 i_9 i_10 i_11 i) i_1 i_7 i_5 i → ∀ (i_13 : Int), i_13 = grV (vaB i_1 i_2 i_3 i_4 i_5 i_6 i_7 i_8 i_9 i_10 i_11 i) i_2 i_8 i_5 i → ∀ (i_14 : Int), i_14 = grV (vaB i_1 i_2 i_3 i_4 i_5 i_6 i_7 i_8 i_9 i_10 i_11 i) i_3 i_9 i_5 i → ∀ (i_15 : Int), i_15 = bz (vaB i_1 i_2 i_3 i_4 i_5 i_6 i_7 i_8 i_9 i_10 i_11 i) i_5 → ∀ (i_16 : Int), i_16 = bz (vaB i_1 i_2 i_3 i_4 i_5 i_6 i_7 i_8 i_9 i_10 i_11 i) i_6 → (in16 i = true ∧ in16 i_1 = true ∧ in16 i_2 = true ∧ in16 i_3 = true ∧ in16 i_4 = true ∧ in16 i_5 = true ∧ in16 i_6 = true ∧ in16 i_7 = true ∧ in16 i_8 = true ∧ in16 i_9 = true ∧ in16 i_10 = true ∧ in16 i_11 = true ∧ True) ∧ ∀ (i_17 : Int), i_17 = grV (vaB i_1 i_2 i_3 i_4 i_5 i_6 i_7 i_8 i_9 i_10 i_11 i) i_1 i_7 i_5 i → ∀ (i_18 : Int), i_18 = grV (vaB i_1 i_2 i_3 i_4 i_5 i_6 i_7 i_8 i_9 i_10 i_11 i) i_2 i_8 i_5 i → ∀ (i_19 : Int), i_19 = grV (vaB i_1 i_2 i_3 i_4 i_5 i_6 i_7 i_8 i_9 i_10 i_11 i) i_3 i_9 i_5 i → ∀ (i_20 : Int), i_20 = bz (vaB i_1 i_2 i_3 i_4 i_5 i_6 i_7 i_8 i_9 i_10 i_11 i) i_5 → ∀ (i_21 : Int), i_21 = bz (vaB i_1 i_2 i_3 i_4 i_5 i_6 i_7 i_8 i_9 i_10 i_11 i) i_6 → (in16 i = true ∧ in16 i_1 = true ∧ in16 i_2 = true ∧ in16 i_3 = true ∧ in16 i_4 = true ∧ in16 i_5 = true ∧ in16 i_6 = true ∧ in16 i_7 = true ∧ in16 i_8 = true ∧ in16 i_9 = true ∧ in16 i_10 = true ∧ in16 i_11 = true ∧ True) ∧ bcond (vaB i_1 i_2 i_3 i_4 i_5 i_6 i_7 i_8 i_9 i_10 i_11 i) (bcond (vaB i_1 i_2 i_3 i_4 i_5 i_6 i_7 i_8 i_9 i_10 i_11 i) (bcond (band (band (ieq i_12 i_17) (band (ieq i_13 i_18) (band (ieq i_14 i_19) true))) (band (ieq i_15 i_20) (band (ieq i_16 i_21) true))) (True ∧ True ∧ V [XV.c (CV.v (Value.bool (pvB i_12 i_13 i_14 i_15 i_16 i)))] []) (True ∧ True ∧ V [XV.c (CV.v (Value.bool false))] [])) (True ∧ True ∧ V [XV.c (CV.v (Value.bool false))] [])) (True ∧ True ∧ V [XV.c (CV.v (Value.bool false))] [])) := by
  try delta o_law12
  try delta s_gmax
  try delta s_mod
  try delta s_gpixel
  try delta s_gaccum
  try delta s_gback
  try delta s_pvalid
  try delta s_va
  try delta s_begin
  try delta s_gstep
  try delta s_gres
  try delta s_yes8
  generalize @bgV = bgV
  generalize @bz = bz
  generalize @gaF = gaF
  generalize @gaO = gaO
  generalize @gmod = gmod
  generalize @gpA = gpA
  generalize @gpC = gpC
  generalize @gpF = gpF
  generalize @grV = grV
  generalize @gsA = gsA
  generalize @gsC = gsC
  generalize @gsF = gsF
  generalize @gsO = gsO
  generalize @gsOk = gsOk
  generalize @gxMax = gxMax
  generalize @in16 = in16
  generalize @modOk = modOk
  generalize @pvB = pvB
  generalize @vaB = vaB
  kernel_rfl
set_option maxRecDepth 100000 in
theorem GroupEmptyIsTransparent_vc (iso kn : Bool) (n0 n1 n2 n3 n4 b0 b1 b2 b3 b4 own m : Int) (V : List QR.XV → List (List QR.CV) → Prop) : QR.evalBody Tryd.prog (o_law12) (QR.noLoops) (Tryd.f10.body.getD .skip) Tryd.f10.results.toList Tryd.f10.ntmps [.x (.c (.v (.bool iso))), .x (.c (.v (.bool kn))), .x (.agg [.v (.int .i64 n0), .v (.int .i64 n1), .v (.int .i64 n2), .v (.int .i64 n3), .v (.int .i64 n4)]), .x (.agg [.v (.int .i64 b0), .v (.int .i64 b1), .v (.int .i64 b2), .v (.int .i64 b3), .v (.int .i64 b4)]), .x (.c (.v (.int .i64 own))), .x (.c (.v (.int .i64 m)))] V = (True ∧ ∀ (i : Int), i = gxMax m → True ∧ ∀ (i_1 : Int), i_1 = gpC n0 n3 n4 i → ∀ (i_2 : Int), i_2 = gpC n1 n3 n4 i → ∀ (i_3 : Int), i_3 = gpC n2 n3 n4 i → ∀ (i_4 : Int), i_4 = gpA n3 n4 i → ∀ (i_5 : Int), i_5 = gaO n3 n4 own i → ∀ (i_6 : Int), i_6 = gaF n4 own i → ∀ (i_7 : Int), i_7 = gpC b0 b3 b4 i → ∀ (i_8 : Int), i_8 = gpC b1 b3 b4 i → ∀ (i_9 : Int), i_9 = gpC b2 b3 b4 i → ∀ (i_10 : Int), i_10 = gpA b3 b4 i → ∀ (i_11 : Int), i_11 = gpA b3 b4 i → ∀ (i_12 : Int), i_12 = bgV iso kn i_1 i_7 → ∀ (i_13 : Int), i_13 = bgV iso kn i_2 i_8 → ∀ (i_14 : Int), i_14 = bgV iso kn i_3 i_9 → ∀ (i_15 : Int), i_15 = bgV iso kn i_4 i_10 → ∀ (i_16 : Int), i_16 = 0 → ∀ (i_17 : Int), i_17 = 0 → ∀ (i_18 : Int), i_18 = bgV iso kn i_1 i_7 → ∀ (i_19 : Int), i_19 = bgV iso kn i_2 i_8 → ∀ (i_20 : Int), i_20 = bgV iso kn i_3 i_9 → ∀ (i_21 : Int), i_21 = bgV iso kn i_4 i_10 → ∀ (i_22 : Int), i_22 = bgV iso kn i_4 i_11 → (in16 i = true ∧ in16 i = true ∧ True) ∧ ∀ (i_23 : Int), i_23 = grV (vaB i_12 i_13 i_14 i_15 i_16 i_17 i_18 i_19 i_20 i_21 i_22 i) i_12 i_18 i_16 i → ∀ (i_24 : Int), i_24 = grV (vaB i_12 i_13 i_14 i_15 i_16 i_17 i_18 i_19 i_20 i_21 i_22 i) i_13 i_19 i_16 i → ∀ (i_25 : Int), i_25 = grV (vaB i_12 i_13 i_14 i_15 i_16 i_17 i_18 i_19 i_20 i_21 i_22 i) i_14 i_20 i_16 i → ∀ (i_26 : Int), i_26 = bz (vaB i_12 i_13 i_14 i_15 i_16 i_17 i_18 i_19 i_20 i_21 i_22 i) i_16 → ∀ (i_27 : Int), i_27 = bz (vaB i_12 i_13 i_14 i_15 i_16 i_17 i_18 i_19 i_20 i_21 i_22 i) i_17 → (in16 i = true ∧ in16 i_12 = true ∧ in16 i_13 = true ∧ in16 i_14 = true ∧ in16 i_15 = true ∧ in16 i_16 = true ∧ in16 i_17 = true ∧ in16 i_18 = true ∧ in16 i_19 = true ∧ in16 i_20 = true ∧ in16 i_21 = true ∧ in16 i_22 = true ∧ True) ∧ bcond (vaB i_12 i_13 i_14 i_15 i_16 i_17 i_18 i_19 i_20 i_21 i_22 i) (True ∧ True ∧ V [XV.c (CV.v (Value.bool (band (band (ieq i_23 0) (band (ieq i_24 0) (band (ieq i_25 0) true))) (band (ieq i_26 0) (band (ieq i_27 0) true)))))] []) (True ∧ True ∧ V [XV.c (CV.v (Value.bool false))] [])) := by
  try delta o_law12
  try delta s_gmax
  try delta s_mod
  try delta s_gpixel
  try delta s_gaccum
  try delta s_gback
  try delta s_pvalid
  try delta s_va
  try delta s_begin
  try delta s_gstep
  try delta s_gres
  try delta s_yes8
  generalize @bgV = bgV
  generalize @bz = bz
  generalize @gaF = gaF
  generalize @gaO = gaO
  generalize @gmod = gmod
  generalize @gpA = gpA
  generalize @gpC = gpC
  generalize @gpF = gpF
  generalize @grV = grV
  generalize @gsA = gsA
  generalize @gsC = gsC
  generalize @gsF = gsF
  generalize @gsO = gsO
  generalize @gsOk = gsOk
  generalize @gxMax = gxMax
  generalize @in16 = in16
  generalize @modOk = modOk
  generalize @pvB = pvB
  generalize @vaB = vaB
  kernel_rfl
set_option maxRecDepth 100000 in
theorem GroupOfOneNormalElement_vc (iso out kn : Bool) (a0 a1 a2 a3 a4 n0 n1 n2 n3 n4 b0 b1 b2 b3 b4 own m : Int) (V : List QR.XV → List (List QR.CV) → Prop) : QR.evalBody Tryd.prog (o_law12) (QR.noLoops) (Tryd.f11.body.getD .skip) Tryd.f11.results.toList Tryd.f11.ntmps [.x (.c (.v (.bool iso))), .x (.c (.v (.bool out))), .x (.c (.v (.bool kn))), .x (.agg [.v (.int .i64 a0), .v (.int .i64 a1), .v (.int .i64 a2), .v (.int .i64 a3), .v (.int .i64 a4)]), .x (.agg [.v (.int .i64 n0), .v (.int .i64 n1), .v (.int .i64 n2), .v (.int .i64 n3), .v (.int .i64 n4)]), .x (.agg [.v (.int .i64 b0), .v (.int .i64 b1), .v (.int .i64 b2), .v (.int .i64 b3), .v (.int .i64 b4)]), .x (.c (.v (.int .i64 own))), .x (.c (.v (.int .i64 m)))] V = (True ∧ ∀ (i : Int), i = gxMax m → True ∧ ∀ (i_1 : Int), i_1 = gpC a0 a3 a4 i → ∀ (i_2 : Int), i_2 = gpC a1 a3 a4 i → ∀ (i_3 : Int), i_3 = gpC a2 a3 a4 i → ∀ (i_4 : Int), i_4 = gpA a3 a4 i → ∀ (i_5 : Int), i_5 = gpF a4 i → (in16 i = true ∧ True) ∧ ∀ (i_6 : Int), i_6 = gpC n0 n3 n4 i → ∀ (i_7 : Int), i_7 = gpC n1 n3 n4 i → ∀ (i_8 : Int), i_8 = gpC n2 n3 n4 i → ∀ (i_9 : Int), i_9 = gpA n3 n4 i → ∀ (i_10 : Int), i_10 = gaO n3 n4 own i → ∀ (i_11 : Int), i_11 = gaF n4 own i → ∀ (i_12 : Int), i_12 = gpC b0 b3 b4 i → ∀ (i_13 : Int), i_13 = gpC b1 b3 b4 i → ∀ (i_14 : Int), i_14 = gpC b2 b3 b4 i → ∀ (i_15 : Int), i_15 = gpA b3 b4 i → ∀ (i_16 : Int), i_16 = gpA b3 b4 i → ∀ (i_17 : Int), i_17 = bgV iso out i_6 i_12 → ∀ (i_18 : Int), i_18 = bgV iso out i_7 i_13 → ∀ (i_19 : Int), i_19 = bgV iso out i_8 i_14 → ∀ (i_20 : Int), i_20 = bgV iso out i_9 i_15 → ∀ (i_21 : Int), i_21 = 0 → ∀ (i_22 : Int), i_22 = 0 → ∀ (i_23 : Int), i_23 = bgV iso out i_6 i_12 → ∀ (i_24 : Int), i_24 = bgV iso out i_7 i_13 → ∀ (i_25 : Int), i_25 = bgV iso out i_8 i_14 → ∀ (i_26 : Int), i_26 = bgV iso out i_9 i_15 → ∀ (i_27 : Int), i_27 = bgV iso out i_9 i_16 → (in16 i = true ∧ in16 i = true ∧ True) ∧ ∀ (i_28 : Int), i_28 = bz (gsOk kn 4 1 i i_1 i_2 i_3 i_4 i_5 i_17 i_18 i_19 i_20 i_21 i_22 i_23 i_24 i_25 i_26 i_27) (gsC kn 4 1 i i_1 i_4 i_5 i_17 i_20 i_23 i_26) → ∀ (i_29 : Int), i_29 = bz (gsOk kn 4 1 i i_1 i_2 i_3 i_4 i_5 i_17 i_18 i_19 i_20 i_21 i_22 i_23 i_24 i_25 i_26 i_27) (gsC kn 4 1 i i_2 i_4 i_5 i_18 i_20 i_24 i_26) → ∀ (i_30 : Int), i_30 = bz (gsOk kn 4 1 i i_1 i_2 i_3 i_4 i_5 i_17 i_18 i_19 i_20 i_21 i_22 i_23 i_24 i_25 i_26 i_27) (gsC kn 4 1 i i_3 i_4 i_5 i_19 i_20 i_25 i_26) → ∀ (i_31 : Int), i_31 = bz (gsOk kn 4 1 i i_1 i_2 i_3 i_4 i_5 i_17 i_18 i_19 i_20 i_21 i_22 i_23 i_24 i_25 i_26 i_27) (gsA kn 4 i i_4 i_5 i_20 i_26) → ∀ (i_32 : Int), i_32 = bz (gsOk kn 4 1 i i_1 i_2 i_3 i_4 i_5 i_17 i_18 i_19 i_20 i_21 i_22 i_23 i_24 i_25 i_26 i_27) (gsO kn 4 i i_4 i_5 i_21) → ∀ (i_33 : Int), i_33 = bz (gsOk kn 4 1 i i_1 i_2 i_3 i_4 i_5 i_17 i_18 i_19 i_20 i_21 i_22 i_23 i_24 i_25 i_26 i_27) (gsF 4 i i_5 i_22) → (in16 i = true ∧ in16 i_1 = true ∧ in16 i_2 = true ∧ in16 i_3 = true ∧ in16 i_4 = true ∧ in16 i_5 = true ∧ in16 i_17 = true ∧ in16 i_18 = true ∧ in16 i_19 = true ∧ in16 i_20 = true ∧ in16 i_21 = true ∧ in16 i_22 = true ∧ in16 i_23 = true ∧ in16 i_24 = true ∧ in16 i_25 = true ∧ in16 i_26 = true ∧ in16 i_27 = true ∧ True) ∧ ∀ (i_34 : Int), i_34 = grV (vaB i_28 i_29 i_30 i_31 i_32 i_33 i_23 i_24 i_25 i_26 i_27 i) i_28 i_23 i_32 i → ∀ (i_35 : Int), i_35 = grV (vaB i_28 i_29 i_30 i_31 i_32 i_33 i_23 i_24 i_25 i_26 i_27 i) i_29 i_24 i_32 i → ∀ (i_36 : Int), i_36 = grV (vaB i_28 i_29 i_30 i_31 i_32 i_33 i_23 i_24 i_25 i_26 i_27 i) i_30 i_25 i_32 i → ∀ (i_37 : Int), i_37 = bz (vaB i_28 i_29 i_30 i_31 i_32 i_33 i_23 i_24 i_25 i_26 i_27 i) i_32 → ∀ (i_38 : Int), i_38 = bz (vaB i_28 i_29 i_30 i_31 i_32 i_33 i_23 i_24 i_25 i_26 i_27 i) i_33 → (in16 i = true ∧ in16 i_28 = true ∧ in16 i_29 = true ∧ in16 i_30 = true ∧ in16 i_31 = true ∧ in16 i_32 = true ∧ in16 i_33 = true ∧ in16 i_23 = true ∧ in16 i_24 = true ∧ in16 i_25 = true ∧ in16 i_26 = true ∧ in16 i_27 = true ∧ True) ∧ bcond (gsOk kn 4 1 i i_1 i_2 i_3 i_4 i_5 i_17 i_18 i_19 i_20 i_21 i_22 i_23 i_24 i_25 i_26 i_27) (bcond (vaB i_28 i_29 i_30 i_31 i_32 i_33 i_23 i_24 i_25 i_26 i_27 i) (True ∧ True ∧ V [XV.c (CV.v (Value.bool (band (band (ieq i_34 i_1) (band (ieq i_35 i_2) (band (ieq i_36 i_3) true))) (band (ieq i_37 i_4) (band (ieq i_38 i_5) true)))))] []) (True ∧ True ∧ V [XV.c (CV.v (Value.bool false))] [])) (True ∧ True ∧ V [XV.c (CV.v (Value.bool false))] [])) := by
  try delta o_law12
  try delta s_gmax
  try delta s_mod
  try delta s_gpixel
  try delta s_gaccum
  try delta s_gback
  try delta s_pvalid
  try delta s_va
  try delta s_begin
  try delta s_gstep
  try delta s_gres
  try delta s_yes8
  generalize @bgV = bgV
  generalize @bz = bz
  generalize @gaF = gaF
  generalize @gaO = gaO
  generalize @gmod = gmod
  generalize @gpA = gpA
  generalize @gpC = gpC
  generalize @gpF = gpF
  generalize @grV = grV
  generalize @gsA = gsA
  generalize @gsC = gsC
  generalize @gsF = gsF
  generalize @gsO = gsO
  generalize @gsOk = gsOk
  generalize @gxMax = gxMax
  generalize @in16 = in16
  generalize @modOk = modOk
  generalize @pvB = pvB
  generalize @vaB = vaB
  kernel_rfl
end Go.Proofs.YtfjpilehoeendaaDoor
