import Derived.Test.YtcckcifmhhaepaaZaa
import Derived.Test.YtcckcifmhhaepaaZx
namespace Go.Proofs.Ytcckcifmhhaepaa
open Go.RowKit PR QR
set_option linter.unusedVariables false
set_option linter.unusedSimpArgs false
set_option maxRecDepth 20000
def zz181 (fz0 : Im) (fz1 : Im) (fz2 : Im) (fz3 : Im) : Prop := (imG fz0 ∧ imG { w := 0, h := 0, sol := false, c0 := 0, c1 := 0, c2 := 0, a := 0, f := 0, p0 := { w := 0, h := 0, s := 0, n := 0, l := fun (bz0 : Int) => 0 }, p1 := { w := 0, h := 0, s := 0, n := 0, l := fun (bz1 : Int) => 0 }, p2 := { w := 0, h := 0, s := 0, n := 0, l := fun (bz2 : Int) => 0 }, p3 := { w := 0, h := 0, s := 0, n := 0, l := fun (bz3 : Int) => 0 }, p4 := { w := 0, h := 0, s := 0, n := 0, l := fun (bz4 : Int) => 0 } } ∧ imL fz0 = true ∧ iR fz0.9 ∧ iR fz0.10 ∧ iR fz0.11 ∧ iR fz0.12 ∧ iR fz0.13 ∧ intRow IntKind.u16 1 0 (QR.Row.zer []) ∧ intRow IntKind.u16 1 0 (QR.Row.zer []) ∧ intRow IntKind.u16 1 0 (QR.Row.zer []) ∧ intRow IntKind.u16 1 0 (QR.Row.zer []) ∧ intRow IntKind.u16 1 0 (QR.Row.zer []) ∧ imG fz1 ∧ imG fz2 ∧ imL fz1 = true ∧ iR fz1.9 ∧ iR fz1.10 ∧ iR fz1.11 ∧ iR fz1.12 ∧ iR fz1.13 ∧ iR fz2.9 ∧ iR fz2.10 ∧ iR fz2.11 ∧ iR fz2.12 ∧ iR fz2.13 ∧ imG fz3 ∧ imG fz3 ∧ imL fz3 = true ∧ iR fz3.9 ∧ iR fz3.10 ∧ iR fz3.11 ∧ iR fz3.12 ∧ iR fz3.13 ∧ iR fz3.9 ∧ iR fz3.10 ∧ iR fz3.11 ∧ iR fz3.12 ∧ iR fz3.13 ∧ True)
def zz185 (fz0 : Im) : Prop := imG fz0 ∧ imL fz0 = true ∧ iR fz0.9 ∧ iR fz0.10 ∧ iR fz0.11 ∧ iR fz0.12 ∧ iR fz0.13 ∧ iR fz0.9 ∧ iR fz0.10 ∧ iR fz0.11 ∧ iR fz0.12 ∧ iR fz0.13 ∧ True
def zz189 (fz0 : Im) (fz1 : Im) (fz2 : Im) : Prop := (imG fz0 ∧ imG fz1 ∧ imL fz0 = true ∧ iR fz0.9 ∧ iR fz0.10 ∧ iR fz0.11 ∧ iR fz0.12 ∧ iR fz0.13 ∧ iR fz1.9 ∧ iR fz1.10 ∧ iR fz1.11 ∧ iR fz1.12 ∧ iR fz1.13 ∧ imG fz2 ∧ (zz185 fz2))
def zz191 (fz0 : Im) (fz1 : Int) (fz2 : Int) (fz3 : Int) (fz4 : Int → Nat → Int) (fz5 : Int) : Prop := (imG fz0 ∧ intRow IntKind.u16 5 (iimax fz1 0) (zz41 fz2 fz3 fz4 fz5) ∧ ile 0 (iimax fz1 0) = true ∧ iR fz0.9 ∧ iR fz0.10 ∧ iR fz0.11 ∧ iR fz0.12 ∧ iR fz0.13 ∧ True)
set_option maxRecDepth 100000 in
theorem ImageReplaces_vc (pW pH pS pM : Int) (pn : Int) (pq : Int → Nat → Int) (m0 m1 m2 m3 : Int) (tM : Int) (tn : Int) (tq : Int → Nat → Int) (more mx : Int) (u0 u1 u2 u3 : Int) (tx ty : Int) (V : List QR.XV → List (List QR.CV) → Prop) : QR.evalBody Try.prog (o_law15) (QR.noLoops) (Try.f9.body.getD .skip) Try.f9.results.toList Try.f9.ntmps [.x (.agg [.v (.int .i64 pW), .v (.int .i64 pH), .v (.int .i64 pS), .v (.int .i64 pM), .slc 5 pn (.fn fun i j => .v (.int .i64 (pq i j)))]), .x (.agg [.v (.int .i64 m0), .v (.int .i64 m1), .v (.int .i64 m2), .v (.int .i64 m3)]), .x (.agg [.v (.int .i64 tM), .slc 5 tn (.fn fun i j => .v (.int .i64 (tq i j)))]), .x (.c (.v (.int .i64 more))), .x (.c (.v (.int .i64 mx))), .x (.agg [.v (.int .i64 u0), .v (.int .i64 u1), .v (.int .i64 u2), .v (.int .i64 u3)]), .x (.c (.v (.int .i64 tx))), .x (.c (.v (.int .i64 ty)))] V = (True ∧ ∀ (i : Int), i = gxMax mx → True ∧ ∀ (i_1 : Int), i_1 = 0 → ∀ (i_2 : Int), i_2 = 0 → ∀ (i_3 : Int), i_3 = 3 → ∀ (i_4 : Int), i_4 = 2 → share (gimV pW pH pS pM pn pq i_1 i_2 i_3 i_4 i) fun (mA : Im) => share (gstV mA more) fun (mB : Im) => (imG mA ∧ imOk mA = true ∧ iR mA.9 ∧ iR mA.10 ∧ iR mA.11 ∧ iR mA.12 ∧ iR mA.13 ∧ iQ .i64 5 pn pq ∧ ile 0 pn = true ∧ in16 i = true ∧ gcv i_1 i_2 i_3 i_4 = true ∧ True) ∧ ∀ (i_5 : Int), i_5 = gpV 0 0 0 mB.1 mB.2 m0 m1 m2 m3 → ∀ (i_6 : Int), i_6 = gpV 1 0 0 mB.1 mB.2 m0 m1 m2 m3 → ∀ (i_7 : Int), i_7 = gpV 2 0 0 mB.1 mB.2 m0 m1 m2 m3 → ∀ (i_8 : Int), i_8 = gpV 3 0 0 mB.1 mB.2 m0 m1 m2 m3 → (reB 0 0 mB.1 mB.2 = false ∧ True) ∧ ∀ (i_9 : Int), i_9 = raV i_5 i_6 i_7 i_8 → share (imRp mB i_5 i_6 i_7 i_8 (iimax i_9 0) (gpxV tM tn tq i)) fun (mD : Im) => share (imRp { w := mB.1, h := 0, sol := false, c0 := 0, c1 := 0, c2 := 0, a := 0, f := 0, p0 := { w := 0, h := 0, s := 0, n := 0, l := fun (i : Int) => 0 }, p1 := { w := 0, h := 0, s := 0, n := 0, l := fun (i : Int) => 0 }, p2 := { w := 0, h := 0, s := 0, n := 0, l := fun (i : Int) => 0 }, p3 := { w := 0, h := 0, s := 0, n := 0, l := fun (i : Int) => 0 }, p4 := { w := 0, h := 0, s := 0, n := 0, l := fun (i : Int) => 0 } } i_5 i_6 i_7 i_8 (iimax i_9 0) (gpxV tM tn tq i)) fun (mC : Im) => (iQ .i64 5 tn tq ∧ ile 0 tn = true ∧ in16 i = true ∧ ile i_9 1099511627776 = true ∧ True) ∧ ∀ (i_10 : Int), i_10 = imRpE mB i_5 i_6 i_7 i_8 (iimax i_9 0) → (zz191 mB i_9 tM tn tq i) ∧ ∀ (i_11 : Int), i_11 = imRpE mB i_5 i_6 i_7 i_8 (iimax i_9 0) → (zz191 mB i_9 tM tn tq i) ∧ ∀ (i_12 : Int), i_12 = grA u0 → ∀ (i_13 : Int), i_13 = grB u1 → ∀ (i_14 : Int), i_14 = grtC u0 u2 → ∀ (i_15 : Int), i_15 = grD u1 u3 → share (imRp mB i_12 i_13 i_14 i_15 (iimax i_9 0) (gpxV tM tn tq i)) fun (mE : Im) => ∀ (i_16 : Int), i_16 = imRpE mB i_12 i_13 i_14 i_15 (iimax i_9 0) → (zz191 mB i_9 tM tn tq i) ∧ ∀ (i_17 : Int), i_17 = grA u0 → ∀ (i_18 : Int), i_18 = grB u1 → ∀ (i_19 : Int), i_19 = grtC u0 u2 → ∀ (i_20 : Int), i_20 = grD u1 u3 → share (imRp mB i_17 i_18 i_19 i_20 (iimax i_9 0) (gpxV tM tn tq i)) fun (mF : Im) => ∀ (i_21 : Int), i_21 = imRpE mB i_17 i_18 i_19 i_20 (iimax i_9 0) → (zz191 mB i_9 tM tn tq i) ∧ ∀ (i_22 : Int), i_22 = imRpE { w := mB.1, h := 0, sol := false, c0 := 0, c1 := 0, c2 := 0, a := 0, f := 0, p0 := { w := 0, h := 0, s := 0, n := 0, l := fun (i : Int) => 0 }, p1 := { w := 0, h := 0, s := 0, n := 0, l := fun (i : Int) => 0 }, p2 := { w := 0, h := 0, s := 0, n := 0, l := fun (i : Int) => 0 }, p3 := { w := 0, h := 0, s := 0, n := 0, l := fun (i : Int) => 0 }, p4 := { w := 0, h := 0, s := 0, n := 0, l := fun (i : Int) => 0 } } i_5 i_6 i_7 i_8 (iimax i_9 0) → (imG { w := mB.1, h := 0, sol := false, c0 := 0, c1 := 0, c2 := 0, a := 0, f := 0, p0 := { w := 0, h := 0, s := 0, n := 0, l := fun (i : Int) => 0 }, p1 := { w := 0, h := 0, s := 0, n := 0, l := fun (i : Int) => 0 }, p2 := { w := 0, h := 0, s := 0, n := 0, l := fun (i : Int) => 0 }, p3 := { w := 0, h := 0, s := 0, n := 0, l := fun (i : Int) => 0 }, p4 := { w := 0, h := 0, s := 0, n := 0, l := fun (i : Int) => 0 } } ∧ intRow IntKind.u16 5 (iimax i_9 0) (zz41 tM tn tq i) ∧ ile 0 (iimax i_9 0) = true ∧ intRow IntKind.u16 1 0 (QR.Row.zer []) ∧ intRow IntKind.u16 1 0 (QR.Row.zer []) ∧ intRow IntKind.u16 1 0 (QR.Row.zer []) ∧ intRow IntKind.u16 1 0 (QR.Row.zer []) ∧ intRow IntKind.u16 1 0 (QR.Row.zer []) ∧ True) ∧ ∀ (i_23 : Int), i_23 = gmod tx mB.1 → ∀ (i_24 : Int), i_24 = gmod ty mB.2 → (modOk mB.2 = true ∧ modOk mB.1 = true ∧ True) ∧ bcond (rcB i_5 i_6 i_7 i_8 i_23 i_24) (True ∧ bcond (ieq i_10 0) (bcond (ieq i_11 0) (bcond (imSame mD mD) (bcond (ieq i_16 i_21) (bcond (imSame mE mF) (bcond (ieq i_22 6) (bcond (imSame mC { w := 0, h := 0, sol := false, c0 := 0, c1 := 0, c2 := 0, a := 0, f := 0, p0 := { w := 0, h := 0, s := 0, n := 0, l := fun (i : Int) => 0 }, p1 := { w := 0, h := 0, s := 0, n := 0, l := fun (i : Int) => 0 }, p2 := { w := 0, h := 0, s := 0, n := 0, l := fun (i : Int) => 0 }, p3 := { w := 0, h := 0, s := 0, n := 0, l := fun (i : Int) => 0 }, p4 := { w := 0, h := 0, s := 0, n := 0, l := fun (i : Int) => 0 } }) ((zz181 mC mE mF mD) ∧ True ∧ V [XV.c (CV.v (Value.bool (bsel (ieq i 255) true (ieq i 65535))))] []) ((zz181 mC mE mF mD) ∧ True ∧ V [XV.c (CV.v (Value.bool false))] [])) ((zz189 mE mF mD) ∧ True ∧ V [XV.c (CV.v (Value.bool false))] [])) ((zz189 mE mF mD) ∧ True ∧ V [XV.c (CV.v (Value.bool false))] [])) ((imG mD ∧ (zz185 mD)) ∧ True ∧ V [XV.c (CV.v (Value.bool false))] [])) ((imG mD ∧ (zz185 mD)) ∧ True ∧ V [XV.c (CV.v (Value.bool false))] [])) (True ∧ True ∧ V [XV.c (CV.v (Value.bool false))] [])) (True ∧ True ∧ V [XV.c (CV.v (Value.bool false))] [])) (∀ (i_25 : Int), i_25 = pxA mD 0 i_23 i_24 → ∀ (i_26 : Int), i_26 = pxA mD 1 i_23 i_24 → ∀ (i_27 : Int), i_27 = pxA mD 2 i_23 i_24 → ∀ (i_28 : Int), i_28 = pxA mD 3 i_23 i_24 → ∀ (i_29 : Int), i_29 = pxA mD 4 i_23 i_24 → ∀ (i_30 : Int), i_30 = pxA mB 0 i_23 i_24 → ∀ (i_31 : Int), i_31 = pxA mB 1 i_23 i_24 → ∀ (i_32 : Int), i_32 = pxA mB 2 i_23 i_24 → ∀ (i_33 : Int), i_33 = pxA mB 3 i_23 i_24 → ∀ (i_34 : Int), i_34 = pxA mB 4 i_23 i_24 → (imG mB ∧ iR mB.9 ∧ iR mB.10 ∧ iR mB.11 ∧ iR mB.12 ∧ iR mB.13 ∧ imG mD ∧ iR mD.9 ∧ iR mD.10 ∧ iR mD.11 ∧ iR mD.12 ∧ iR mD.13 ∧ True) ∧ bcond (ieq i_10 0) (bcond (ieq i_11 0) (bcond (imSame mD mD) (bcond (ieq i_16 i_21) (bcond (imSame mE mF) (bcond (ieq i_22 6) (bcond (imSame mC { w := 0, h := 0, sol := false, c0 := 0, c1 := 0, c2 := 0, a := 0, f := 0, p0 := { w := 0, h := 0, s := 0, n := 0, l := fun (i : Int) => 0 }, p1 := { w := 0, h := 0, s := 0, n := 0, l := fun (i : Int) => 0 }, p2 := { w := 0, h := 0, s := 0, n := 0, l := fun (i : Int) => 0 }, p3 := { w := 0, h := 0, s := 0, n := 0, l := fun (i : Int) => 0 }, p4 := { w := 0, h := 0, s := 0, n := 0, l := fun (i : Int) => 0 } }) (bcond (band (band (ieq i_25 i_30) (band (ieq i_26 i_31) (band (ieq i_27 i_32) true))) (band (ieq i_28 i_33) (band (ieq i_29 i_34) true))) ((zz181 mC mE mF mD) ∧ True ∧ V [XV.c (CV.v (Value.bool (bsel (ieq i 255) true (ieq i 65535))))] []) ((zz181 mC mE mF mD) ∧ True ∧ V [XV.c (CV.v (Value.bool false))] [])) ((zz181 mC mE mF mD) ∧ True ∧ V [XV.c (CV.v (Value.bool false))] [])) ((zz189 mE mF mD) ∧ True ∧ V [XV.c (CV.v (Value.bool false))] [])) ((zz189 mE mF mD) ∧ True ∧ V [XV.c (CV.v (Value.bool false))] [])) ((imG mD ∧ (zz185 mD)) ∧ True ∧ V [XV.c (CV.v (Value.bool false))] [])) ((imG mD ∧ (zz185 mD)) ∧ True ∧ V [XV.c (CV.v (Value.bool false))] [])) (True ∧ True ∧ V [XV.c (CV.v (Value.bool false))] [])) (True ∧ True ∧ V [XV.c (CV.v (Value.bool false))] []))) := by
  delta zz41 zz181 zz185 zz189 zz191
  try delta o_law15
  try delta s_ime
  try delta s_isol
  try delta s_imof
  try delta s_imat
  try delta s_impxs
  try delta s_imeq
  try delta s_imcv
  try delta s_imrp
  try delta s_pxsame
  try delta s_imsame
  try delta s_rarea
  try delta s_rcont
  try delta s_gmax
  try delta s_mod
  try delta s_gpxs
  try delta s_gimg
  try delta s_gstr
  try delta s_gpart
  try delta s_grect
  try delta s_full15
  try delta s_yes15
  try delta s_cover15
  try delta s_imOf
  generalize @gcv = gcv
  generalize @gimV = gimV
  generalize @gmod = gmod
  generalize @gpV = gpV
  generalize @gpxV = gpxV
  generalize @grA = grA
  generalize @grB = grB
  generalize @grD = grD
  generalize @grtC = grtC
  generalize @gstV = gstV
  generalize @gxMax = gxMax
  generalize @imCv = imCv
  generalize @imCvE = imCvE
  generalize @imE = imE
  generalize @imEq = imEq
  generalize @imG = imG
  generalize @imL = imL
  generalize @imN = imN
  generalize @imOk = imOk
  generalize @imRp = imRp
  generalize @imRpE = imRpE
  generalize @imSame = imSame
  generalize @imofOk = imofOk
  generalize @imofV = imofV
  generalize @in16 = in16
  generalize @in64 = in64
  generalize @intRow = intRow
  generalize @modOk = modOk
  generalize @pxA = pxA
  generalize @pxI = pxI
  generalize @pxSame = pxSame
  generalize @raV = raV
  generalize @rcB = rcB
  generalize @reB = reB
  generalize @w2 = w2
  kernel_rfl
set_option linter.unusedVariables false in
theorem ImageReplaces_core (pW pH pS pM : Int) (pn : Nat) (pq : Int → Nat → Int) (m0 m1 m2 m3 : Int) (tM : Int) (tn : Nat) (tq : Int → Nat → Int) (more mx : Int) (u0 u1 u2 u3 : Int) (tx ty : Int) (w0 : (Lit.int .i64 pW).wf = true) (w1 : (Lit.int .i64 pH).wf = true) (w2 : (Lit.int .i64 pS).wf = true) (w3 : (Lit.int .i64 pM).wf = true) (z0 : pn ≤ maxLen) (w4 : ∀ i j : Nat, i < pn → j < 5 → (Lit.int .i64 (pq i j)).wf = true) (w5 : (Lit.int .i64 m0).wf = true) (w6 : (Lit.int .i64 m1).wf = true) (w7 : (Lit.int .i64 m2).wf = true) (w8 : (Lit.int .i64 m3).wf = true) (w9 : (Lit.int .i64 tM).wf = true) (z1 : tn ≤ maxLen) (w10 : ∀ i j : Nat, i < tn → j < 5 → (Lit.int .i64 (tq i j)).wf = true) (w11 : (Lit.int .i64 more).wf = true) (w12 : (Lit.int .i64 mx).wf = true) (w13 : (Lit.int .i64 u0).wf = true) (w14 : (Lit.int .i64 u1).wf = true) (w15 : (Lit.int .i64 u2).wf = true) (w16 : (Lit.int .i64 u3).wf = true) (w17 : (Lit.int .i64 tx).wf = true) (w18 : (Lit.int .i64 ty).wf = true) (w : World) {F : Nat → Prop} (hG : QR.Laid F w) (hF : ∀ k, F k → k < w.heap.size) (x0 : Value) (r0 : QR.Rep F w (.slc 5 ((pn : Nat) : Int) (.fn fun i j => .v (.int .i64 (pq i j)))) x0) (x1 : Value) (r1 : QR.Rep F w (.slc 5 ((tn : Nat) : Int) (.fn fun i j => .v (.int .i64 (tq i j)))) x1) :
    Calls Try.prog 9 #[.agg #[.int .i64 pW, .int .i64 pH, .int .i64 pS, .int .i64 pM, x0], .agg #[.int .i64 m0, .int .i64 m1, .int .i64 m2, .int .i64 m3], .agg #[.int .i64 tM, x1], .int .i64 more, .int .i64 mx, .agg #[.int .i64 u0, .int .i64 u1, .int .i64 u2, .int .i64 u3], .int .i64 tx, .int .i64 ty] w fun e w' => e = .returned (.bool true) ∧ Below w.heap.size w w' := by
  refine law_of_conc (O := o_law15) (QR.orc_cons a_iv (QR.orc_cons a_isol (QR.orc_cons a_iof (QR.orc_cons a_iat (QR.orc_cons a_ipxs (QR.orc_cons a_ieq (QR.orc_cons a_icv (QR.orc_cons a_irp (QR.orc_cons a_rval (QR.orc_cons a_risol (QR.orc_cons a_rio (QR.orc_cons a_riat (QR.orc_cons a_rpxs (QR.orc_cons a_rsp (QR.orc_cons a_rieq (QR.orc_cons a_risame (QR.orc_cons a_rcv (QR.orc_cons a_rrp (QR.orc_cons a_farea (QR.orc_cons a_fcont (QR.orc_cons (up a_gmax) (QR.orc_cons (up a_mod) (QR.orc_cons a_gps (QR.orc_cons a_gim (QR.orc_cons a_gst (QR.orc_cons a_gpart (QR.orc_cons a_grect (QR.orc_cons a_full15 (QR.orc_cons a_awake15 (QR.orc_cons a_cover15 QR.orc_nil)))))))))))))))))))))))))))))) mixed (QR.noLoops) Try.func9 (by kernel_rfl) (vs := [.agg #[.int .i64 pW, .int .i64 pH, .int .i64 pS, .int .i64 pM, x0], .agg #[.int .i64 m0, .int .i64 m1, .int .i64 m2, .int .i64 m3], .agg #[.int .i64 tM, x1], .int .i64 more, .int .i64 mx, .agg #[.int .i64 u0, .int .i64 u1, .int .i64 u2, .int .i64 u3], .int .i64 tx, .int .i64 ty]) (args := [.x (.agg [.v (.int .i64 pW), .v (.int .i64 pH), .v (.int .i64 pS), .v (.int .i64 pM), .slc 5 ((pn : Nat) : Int) (.fn fun i j => .v (.int .i64 (pq i j)))]), .x (.agg [.v (.int .i64 m0), .v (.int .i64 m1), .v (.int .i64 m2), .v (.int .i64 m3)]), .x (.agg [.v (.int .i64 tM), .slc 5 ((tn : Nat) : Int) (.fn fun i j => .v (.int .i64 (tq i j)))]), .x (.c (.v (.int .i64 more))), .x (.c (.v (.int .i64 mx))), .x (.agg [.v (.int .i64 u0), .v (.int .i64 u1), .v (.int .i64 u2), .v (.int .i64 u3)]), .x (.c (.v (.int .i64 tx))), .x (.c (.v (.int .i64 ty)))]) (by simp) ?_ w hG hF ⟨⟨[.int .i64 pW, .int .i64 pH, .int .i64 pS, .int .i64 pM, x0], rfl, ⟨.v rfl, .v rfl, .v rfl, .v rfl, r0, trivial⟩⟩, ⟨[.int .i64 m0, .int .i64 m1, .int .i64 m2, .int .i64 m3], rfl, ⟨.v rfl, .v rfl, .v rfl, .v rfl, trivial⟩⟩, ⟨[.int .i64 tM, x1], rfl, ⟨.v rfl, r1, trivial⟩⟩, .v rfl, .v rfl, ⟨[.int .i64 u0, .int .i64 u1, .int .i64 u2, .int .i64 u3], rfl, ⟨.v rfl, .v rfl, .v rfl, .v rfl, trivial⟩⟩, .v rfl, .v rfl, rfl⟩
  rw [ImageReplaces_vc]
  delta zz41 zz181 zz185 zz189 zz191
  have hn : ile 0 (pn : Int) = true := ile_t (by omega)
  have hm : ile 0 (tn : Int) = true := ile_t (by omega)
  simp only [forall_eq, true_and, and_true, irow1, irow5, iR_t, iQ_t, irow0, irowS, hn, hm]
  refine share_in fun mA eA => ?_
  refine share_in fun mB eB => ?_
  have g := gim_good pW pH pS pM pn pq (x0 := 0) (y0 := 0) (x1 := 3) (y1 := 2) (t := gxMax mx) (gx16' mx) rfl
  rw [← eA] at g
  obtain ⟨r, gw, gh, al⟩ := g
  have w5 := gim_size (W := pW) (H := pH) (x0 := 0) (y0 := 0) (x1 := 3) (y1 := 2) rfl
  obtain ⟨s, sw, sh, sp⟩ := gst_good more r (by omega) (by omega)
  rw [← eB] at s sw sh sp
  have fw := (ok_iff.1 s.2.1).1
  have rw' := re_wh fw
  obtain ⟨pe, pc, a0, a1⟩ := part_in (w := mB.w) (h := mB.h) (by omega) (by omega) rw' m0 m1 m2 m3
  have k1 := gx16' mx
  have k2 : gcv 0 0 3 2 = true := rfl
  refine ⟨⟨r.1, r.2.1, k1, k2⟩, rw', ?_⟩
  refine share_in fun mD eD => ?_
  refine share_in fun mC eC => ?_
  have l0 : iimax (raV (gpV 0 0 0 mB.w mB.h m0 m1 m2 m3) (gpV 1 0 0 mB.w mB.h m0 m1 m2 m3) (gpV 2 0 0 mB.w mB.h m0 m1 m2 m3) (gpV 3 0 0 mB.w mB.h m0 m1 m2 m3)) 0 = raV (gpV 0 0 0 mB.w mB.h m0 m1 m2 m3) (gpV 1 0 0 mB.w mB.h m0 m1 m2 m3) (gpV 2 0 0 mB.w mB.h m0 m1 m2 m3) (gpV 3 0 0 mB.w mB.h m0 m1 m2 m3) := by unfold iimax; split <;> omega
  have l1 : ile 0 (raV (gpV 0 0 0 mB.w mB.h m0 m1 m2 m3) (gpV 1 0 0 mB.w mB.h m0 m1 m2 m3) (gpV 2 0 0 mB.w mB.h m0 m1 m2 m3) (gpV 3 0 0 mB.w mB.h m0 m1 m2 m3)) = true := ile_t a0
  have l2 : ile (raV (gpV 0 0 0 mB.w mB.h m0 m1 m2 m3) (gpV 1 0 0 mB.w mB.h m0 m1 m2 m3) (gpV 2 0 0 mB.w mB.h m0 m1 m2 m3) (gpV 3 0 0 mB.w mB.h m0 m1 m2 m3)) 1099511627776 = true := ile_t (by omega)
  have e0 : imRpE mB (gpV 0 0 0 mB.w mB.h m0 m1 m2 m3) (gpV 1 0 0 mB.w mB.h m0 m1 m2 m3) (gpV 2 0 0 mB.w mB.h m0 m1 m2 m3) (gpV 3 0 0 mB.w mB.h m0 m1 m2 m3) (raV (gpV 0 0 0 mB.w mB.h m0 m1 m2 m3) (gpV 1 0 0 mB.w mB.h m0 m1 m2 m3) (gpV 2 0 0 mB.w mB.h m0 m1 m2 m3) (gpV 3 0 0 mB.w mB.h m0 m1 m2 m3)) = 0 := rp_make s.2.1 pe pc rfl
  have q16 := fun n => pxs16 (md := tM) (n := tn) (q := tq) k1 n
  have gD := rp_good s.1 e0 (q16 _)
  have gpx := fun (x y : Int) (hx : 0 ≤ x ∧ x < mB.w) (hy : 0 ≤ y ∧ y < mB.h) (out : rcB (gpV 0 0 0 mB.w mB.h m0 m1 m2 m3) (gpV 1 0 0 mB.w mB.h m0 m1 m2 m3) (gpV 2 0 0 mB.w mB.h m0 m1 m2 m3) (gpV 3 0 0 mB.w mB.h m0 m1 m2 m3) x y = false) (k : Nat) (hk : k < 5) => rp_px s.1 e0 (q16 _) hx hy out hk
  rw [l0] at eD eC ⊢
  rw [← eD] at gD gpx
  have gl : imG { w := mB.w, h := 0, sol := false, c0 := 0, c1 := 0, c2 := 0, a := 0, f := 0, p0 := { w := 0, h := 0, s := 0, n := 0, l := fun (i : Int) => 0 }, p1 := { w := 0, h := 0, s := 0, n := 0, l := fun (i : Int) => 0 }, p2 := { w := 0, h := 0, s := 0, n := 0, l := fun (i : Int) => 0 }, p3 := { w := 0, h := 0, s := 0, n := 0, l := fun (i : Int) => 0 }, p4 := { w := 0, h := 0, s := 0, n := 0, l := fun (i : Int) => 0 } } := ⟨⟨s.1.1.1, rfl⟩, zim_good.1.2⟩
  have nf : fitB mB.w 0 = false := by
    cases e : fitB mB.w 0 with
    | false => rfl
    | true => have := fit_iff.1 e; omega
  have e6 : ∀ a b c d n, imRpE { w := mB.w, h := 0, sol := false, c0 := 0, c1 := 0, c2 := 0, a := 0, f := 0, p0 := { w := 0, h := 0, s := 0, n := 0, l := fun (i : Int) => 0 }, p1 := { w := 0, h := 0, s := 0, n := 0, l := fun (i : Int) => 0 }, p2 := { w := 0, h := 0, s := 0, n := 0, l := fun (i : Int) => 0 }, p3 := { w := 0, h := 0, s := 0, n := 0, l := fun (i : Int) => 0 }, p4 := { w := 0, h := 0, s := 0, n := 0, l := fun (i : Int) => 0 } } a b c d n = 6 := fun a b c d n => by unfold imRpE; rw [show fitB mB.w 0 = false from nf]; rfl
  have eC' : mC = imZero := by rw [eC]; exact rp_no (by rw [e6]; decide)
  refine ⟨⟨k1, l2⟩, ⟨s.1, l1⟩, ⟨s.1, l1⟩, ?_⟩
  refine share_in fun mE eE => ?_
  refine ⟨⟨s.1, l1⟩, ?_⟩
  refine share_in fun mF eF => ?_
  have gE := rp_any (a := grA u0) (b := grB u1) (c := grtC u0 u2) (d := grD u1 u3) (n := raV (gpV 0 0 0 mB.w mB.h m0 m1 m2 m3) (gpV 1 0 0 mB.w mB.h m0 m1 m2 m3) (gpV 2 0 0 mB.w mB.h m0 m1 m2 m3) (gpV 3 0 0 mB.w mB.h m0 m1 m2 m3)) s.1 (q16 _)
  rw [← eE] at gE
  have eF : mF = mE := by rw [eF, eE]
  subst eF
  subst eC'
  have zs : imSame imZero imZero = true := ims_refl _
  have zg := zim_good
  unfold imZero at zs zg
  unfold plZero at zs zg
  have mo1 := mod_ok (show 1 ≤ mB.w by omega) (by omega)
  have mo2 := mod_ok (show 1 ≤ mB.h by omega) (by omega)
  have u1' := gm_in (x := tx) (show 1 ≤ mB.w by omega)
  have u2' := gm_in (x := ty) (show 1 ≤ mB.h by omega)
  have full : bsel (ieq (gxMax mx) 255) true (ieq (gxMax mx) 65535) = true := by rcases gxMax_cases mx with h | h <;> rw [h] <;> rfl
  cases out : rcB (gpV 0 0 0 mB.w mB.h m0 m1 m2 m3) (gpV 1 0 0 mB.w mB.h m0 m1 m2 m3) (gpV 2 0 0 mB.w mB.h m0 m1 m2 m3) (gpV 3 0 0 mB.w mB.h m0 m1 m2 m3) (gmod tx mB.w) (gmod ty mB.h)
  · have p0 := gpx _ _ u1' u2' out 0 (by decide)
    have p1 := gpx _ _ u1' u2' out 1 (by decide)
    have p2 := gpx _ _ u1' u2' out 2 (by decide)
    have p3 := gpx _ _ u1' u2' out 3 (by decide)
    have p4 := gpx _ _ u1' u2' out 4 (by decide)
    simp [okAns, eqXs, eqX, eqo, eqLo, eqc, veq, eqUs, bcond_iff, ieq_rfl', ims_refl, band, s.1, l1, e0, e6, gl, mo1, mo2, gD.1, gD.2.2, gE.1, gE.2, zs, zg, full, p0, p1, p2, p3, p4, imZero, plZero]
  · simp [okAns, eqXs, eqX, eqo, eqLo, eqc, veq, eqUs, bcond_iff, ieq_rfl', ims_refl, band, s.1, l1, e0, e6, gl, mo1, mo2, gD.1, gD.2.2, gE.1, gE.2, zs, zg, full, out, imZero, plZero]
end Go.Proofs.Ytcckcifmhhaepaa
