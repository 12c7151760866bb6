import Derived.Test.YtcckcifmhhaepaaZaa
import Derived.Test.YtcckcifmhhaepaaZx
namespace Go.Proofs.Ytcckcifmhhaepaa
open Go.RowKit PR QR
set_option linter.unusedVariables false
set_option linter.unusedSimpArgs false
set_option maxRecDepth 20000
def zz190 (fz0 : Int) (fz1 : Int) (fz2 : Int) (fz3 : Int) (fz4 : Int) : Prop := (imG { w := 2, h := 2, sol := true, c0 := fz0, c1 := fz1, c2 := fz2, a := fz3, f := fz4, p0 := { w := 0, h := 0, s := 0, n := 0, l := fun (bz0 : Int) => 0 }, p1 := { w := 0, h := 0, s := 0, n := 0, l := fun (bz1 : Int) => 0 }, p2 := { w := 0, h := 0, s := 0, n := 0, l := fun (bz2 : Int) => 0 }, p3 := { w := 0, h := 0, s := 0, n := 0, l := fun (bz3 : Int) => 0 }, p4 := { w := 0, h := 0, s := 0, n := 0, l := fun (bz4 : Int) => 0 } } ∧ iR plZero ∧ iR plZero ∧ iR plZero ∧ iR plZero ∧ iR plZero ∧ True)
def zz192 (fz0 : Im) : Prop := imG fz0 ∧ imL fz0 = true ∧ iR fz0.9 ∧ iR fz0.10 ∧ iR fz0.11 ∧ iR fz0.12 ∧ iR fz0.13 ∧ iR fz0.9 ∧ iR fz0.10 ∧ iR fz0.11 ∧ iR fz0.12 ∧ iR fz0.13 ∧ True
set_option maxRecDepth 100000 in
theorem ImageConverts_vc (pW pH pS pM : Int) (pn : Int) (pq : Int → Nat → Int) (fr to' more mx : Int) (c0 c1 c2 cA cF : Int) (V : List QR.XV → List (List QR.CV) → Prop) : QR.evalBody Try.prog (o_law15) (QR.noLoops) (Try.f7.body.getD .skip) Try.f7.results.toList Try.f7.ntmps [.x (.agg [.v (.int .i64 pW), .v (.int .i64 pH), .v (.int .i64 pS), .v (.int .i64 pM), .slc 5 pn (.fn fun i j => .v (.int .i64 (pq i j)))]), .x (.c (.v (.int .i64 fr))), .x (.c (.v (.int .i64 to'))), .x (.c (.v (.int .i64 more))), .x (.c (.v (.int .i64 mx))), .x (.agg [.v (.int .u16 c0), .v (.int .u16 c1), .v (.int .u16 c2), .v (.int .u16 cA), .v (.int .u16 cF)])] V = (True ∧ ∀ (i : Int), i = gmod fr 4 → ∀ (i_1 : Int), i_1 = gmod to' 4 → share (imCv { w := 2, h := 2, sol := true, c0 := c0, c1 := c1, c2 := c2, a := cA, f := cF, p0 := { w := 0, h := 0, s := 0, n := 0, l := fun (i : Int) => 0 }, p1 := { w := 0, h := 0, s := 0, n := 0, l := fun (i : Int) => 0 }, p2 := { w := 0, h := 0, s := 0, n := 0, l := fun (i : Int) => 0 }, p3 := { w := 0, h := 0, s := 0, n := 0, l := fun (i : Int) => 0 }, p4 := { w := 0, h := 0, s := 0, n := 0, l := fun (i : Int) => 0 } } (isel (ieq i 3) 12 (isel (ieq i 2) 0 (isel (ieq i 1) 16 (isel (ieq i 0) 8 0)))) (isel (ieq i_1 3) 7 (isel (ieq i_1 2) 8 (isel (ieq i_1 1) 16 (isel (ieq i_1 0) 8 0))))) fun (mC : Im) => (ile 0 i_1 = true ∧ ilt i_1 4 = true ∧ modOk 4 = true ∧ ile 0 i = true ∧ ilt i 4 = true ∧ modOk 4 = true ∧ True) ∧ ∀ (i_2 : Int), i_2 = 0 → ∀ (i_3 : Int), i_3 = 0 → ∀ (i_4 : Int), i_4 = 3 → ∀ (i_5 : Int), i_5 = 2 → ∀ (i_6 : Int), i_6 = gxMax mx → share (gimV pW pH pS pM pn pq i_2 i_3 i_4 i_5 i_6) fun (mA : Im) => share (gstV mA more) fun (mB : Im) => share (imCv mB (isel (ieq i 3) 12 (isel (ieq i 2) 0 (isel (ieq i 1) 16 (isel (ieq i 0) 8 0)))) (isel (ieq i_1 3) 7 (isel (ieq i_1 2) 8 (isel (ieq i_1 1) 16 (isel (ieq i_1 0) 8 0))))) fun (mD : Im) => (imG mA ∧ imOk mA = true ∧ iR mA.9 ∧ iR mA.10 ∧ iR mA.11 ∧ iR mA.12 ∧ iR mA.13 ∧ iQ .i64 5 pn pq ∧ ile 0 pn = true ∧ in16 i_6 = true ∧ gcv i_2 i_3 i_4 i_5 = true ∧ True) ∧ ∀ (i_7 : Int), i_7 = imCvE mB (isel (ieq i 3) 12 (isel (ieq i 2) 0 (isel (ieq i 1) 16 (isel (ieq i 0) 8 0)))) (isel (ieq i_1 3) 7 (isel (ieq i_1 2) 8 (isel (ieq i_1 1) 16 (isel (ieq i_1 0) 8 0)))) → (imG mB ∧ iR mB.9 ∧ iR mB.10 ∧ iR mB.11 ∧ iR mB.12 ∧ iR mB.13 ∧ True) ∧ ∀ (i_8 : Int), i_8 = imCvE mB (isel (ieq i 3) 12 (isel (ieq i 2) 0 (isel (ieq i 1) 16 (isel (ieq i 0) 8 0)))) (isel (ieq i_1 3) 7 (isel (ieq i_1 2) 8 (isel (ieq i_1 1) 16 (isel (ieq i_1 0) 8 0)))) → (imG mB ∧ iR mB.9 ∧ iR mB.10 ∧ iR mB.11 ∧ iR mB.12 ∧ iR mB.13 ∧ True) ∧ ∀ (i_9 : Int), i_9 = imCvE { w := 2, h := 2, sol := true, c0 := c0, c1 := c1, c2 := c2, a := cA, f := cF, p0 := { w := 0, h := 0, s := 0, n := 0, l := fun (i : Int) => 0 }, p1 := { w := 0, h := 0, s := 0, n := 0, l := fun (i : Int) => 0 }, p2 := { w := 0, h := 0, s := 0, n := 0, l := fun (i : Int) => 0 }, p3 := { w := 0, h := 0, s := 0, n := 0, l := fun (i : Int) => 0 }, p4 := { w := 0, h := 0, s := 0, n := 0, l := fun (i : Int) => 0 } } (isel (ieq i 3) 12 (isel (ieq i 2) 0 (isel (ieq i 1) 16 (isel (ieq i 0) 8 0)))) (isel (ieq i_1 3) 7 (isel (ieq i_1 2) 8 (isel (ieq i_1 1) 16 (isel (ieq i_1 0) 8 0)))) → (zz190 c0 c1 c2 cA cF) ∧ ∀ (i_10 : Int), i_10 = imCvE { w := 2, h := 2, sol := true, c0 := c0, c1 := c1, c2 := c2, a := cA, f := cF, p0 := { w := 0, h := 0, s := 0, n := 0, l := fun (i : Int) => 0 }, p1 := { w := 0, h := 0, s := 0, n := 0, l := fun (i : Int) => 0 }, p2 := { w := 0, h := 0, s := 0, n := 0, l := fun (i : Int) => 0 }, p3 := { w := 0, h := 0, s := 0, n := 0, l := fun (i : Int) => 0 }, p4 := { w := 0, h := 0, s := 0, n := 0, l := fun (i : Int) => 0 } } (isel (ieq i 3) 12 (isel (ieq i 2) 0 (isel (ieq i 1) 16 (isel (ieq i 0) 8 0)))) (isel (ieq i_1 3) 7 (isel (ieq i_1 2) 8 (isel (ieq i_1 1) 16 (isel (ieq i_1 0) 8 0)))) → (zz190 c0 c1 c2 cA cF) ∧ bcond (ieq i_7 i_8) (bcond (imSame mD mD) (bcond (ieq i_9 i_10) ((imG mC ∧ imG mC ∧ imL mC = true ∧ iR mC.9 ∧ iR mC.10 ∧ iR mC.11 ∧ iR mC.12 ∧ iR mC.13 ∧ iR mC.9 ∧ iR mC.10 ∧ iR mC.11 ∧ iR mC.12 ∧ iR mC.13 ∧ imG mD ∧ (zz192 mD)) ∧ True ∧ V [XV.c (CV.v (Value.bool (imSame mC mC)))] []) ((imG mD ∧ (zz192 mD)) ∧ True ∧ V [XV.c (CV.v (Value.bool false))] [])) ((imG mD ∧ (zz192 mD)) ∧ True ∧ V [XV.c (CV.v (Value.bool false))] [])) (True ∧ True ∧ V [XV.c (CV.v (Value.bool false))] [])) := by
  delta zz190 zz192
  try delta o_law15
  try delta s_ime
  try delta s_isol
  try delta s_imof
  try delta s_imat
  try delta s_impxs
  try delta s_imeq
  try delta s_imcv
  try delta s_imrp
  try delta s_pxsame
  try delta s_imsame
  try delta s_rarea
  try delta s_rcont
  try delta s_gmax
  try delta s_mod
  try delta s_gpxs
  try delta s_gimg
  try delta s_gstr
  try delta s_gpart
  try delta s_grect
  try delta s_full15
  try delta s_yes15
  try delta s_cover15
  try delta s_imOf
  generalize @gcv = gcv
  generalize @gimV = gimV
  generalize @gmod = gmod
  generalize @gpV = gpV
  generalize @gpxV = gpxV
  generalize @grA = grA
  generalize @grB = grB
  generalize @grD = grD
  generalize @grtC = grtC
  generalize @gstV = gstV
  generalize @gxMax = gxMax
  generalize @imCv = imCv
  generalize @imCvE = imCvE
  generalize @imE = imE
  generalize @imEq = imEq
  generalize @imG = imG
  generalize @imL = imL
  generalize @imN = imN
  generalize @imOk = imOk
  generalize @imRp = imRp
  generalize @imRpE = imRpE
  generalize @imSame = imSame
  generalize @imofOk = imofOk
  generalize @imofV = imofV
  generalize @in16 = in16
  generalize @in64 = in64
  generalize @intRow = intRow
  generalize @modOk = modOk
  generalize @pxA = pxA
  generalize @pxI = pxI
  generalize @pxSame = pxSame
  generalize @raV = raV
  generalize @rcB = rcB
  generalize @reB = reB
  generalize @w2 = w2
  kernel_rfl
set_option linter.unusedVariables false in
theorem ImageConverts_core (pW pH pS pM : Int) (pn : Nat) (pq : Int → Nat → Int) (fr to' more mx : Int) (c0 c1 c2 cA cF : Int) (w0 : (Lit.int .i64 pW).wf = true) (w1 : (Lit.int .i64 pH).wf = true) (w2 : (Lit.int .i64 pS).wf = true) (w3 : (Lit.int .i64 pM).wf = true) (z0 : pn ≤ maxLen) (w4 : ∀ i j : Nat, i < pn → j < 5 → (Lit.int .i64 (pq i j)).wf = true) (w5 : (Lit.int .i64 fr).wf = true) (w6 : (Lit.int .i64 to').wf = true) (w7 : (Lit.int .i64 more).wf = true) (w8 : (Lit.int .i64 mx).wf = true) (w9 : (Lit.int .u16 c0).wf = true) (w10 : (Lit.int .u16 c1).wf = true) (w11 : (Lit.int .u16 c2).wf = true) (w12 : (Lit.int .u16 cA).wf = true) (w13 : (Lit.int .u16 cF).wf = true) (w : World) {F : Nat → Prop} (hG : QR.Laid F w) (hF : ∀ k, F k → k < w.heap.size) (x0 : Value) (r0 : QR.Rep F w (.slc 5 ((pn : Nat) : Int) (.fn fun i j => .v (.int .i64 (pq i j)))) x0) :
    Calls Try.prog 7 #[.agg #[.int .i64 pW, .int .i64 pH, .int .i64 pS, .int .i64 pM, x0], .int .i64 fr, .int .i64 to', .int .i64 more, .int .i64 mx, .agg #[.int .u16 c0, .int .u16 c1, .int .u16 c2, .int .u16 cA, .int .u16 cF]] w fun e w' => e = .returned (.bool true) ∧ Below w.heap.size w w' := by
  refine law_of_conc (O := o_law15) (QR.orc_cons a_iv (QR.orc_cons a_isol (QR.orc_cons a_iof (QR.orc_cons a_iat (QR.orc_cons a_ipxs (QR.orc_cons a_ieq (QR.orc_cons a_icv (QR.orc_cons a_irp (QR.orc_cons a_rval (QR.orc_cons a_risol (QR.orc_cons a_rio (QR.orc_cons a_riat (QR.orc_cons a_rpxs (QR.orc_cons a_rsp (QR.orc_cons a_rieq (QR.orc_cons a_risame (QR.orc_cons a_rcv (QR.orc_cons a_rrp (QR.orc_cons a_farea (QR.orc_cons a_fcont (QR.orc_cons (up a_gmax) (QR.orc_cons (up a_mod) (QR.orc_cons a_gps (QR.orc_cons a_gim (QR.orc_cons a_gst (QR.orc_cons a_gpart (QR.orc_cons a_grect (QR.orc_cons a_full15 (QR.orc_cons a_awake15 (QR.orc_cons a_cover15 QR.orc_nil)))))))))))))))))))))))))))))) mixed (QR.noLoops) Try.func7 (by kernel_rfl) (vs := [.agg #[.int .i64 pW, .int .i64 pH, .int .i64 pS, .int .i64 pM, x0], .int .i64 fr, .int .i64 to', .int .i64 more, .int .i64 mx, .agg #[.int .u16 c0, .int .u16 c1, .int .u16 c2, .int .u16 cA, .int .u16 cF]]) (args := [.x (.agg [.v (.int .i64 pW), .v (.int .i64 pH), .v (.int .i64 pS), .v (.int .i64 pM), .slc 5 ((pn : Nat) : Int) (.fn fun i j => .v (.int .i64 (pq i j)))]), .x (.c (.v (.int .i64 fr))), .x (.c (.v (.int .i64 to'))), .x (.c (.v (.int .i64 more))), .x (.c (.v (.int .i64 mx))), .x (.agg [.v (.int .u16 c0), .v (.int .u16 c1), .v (.int .u16 c2), .v (.int .u16 cA), .v (.int .u16 cF)])]) (by simp) ?_ w hG hF ⟨⟨[.int .i64 pW, .int .i64 pH, .int .i64 pS, .int .i64 pM, x0], rfl, ⟨.v rfl, .v rfl, .v rfl, .v rfl, r0, trivial⟩⟩, .v rfl, .v rfl, .v rfl, .v rfl, ⟨[.int .u16 c0, .int .u16 c1, .int .u16 c2, .int .u16 cA, .int .u16 cF], rfl, ⟨.v rfl, .v rfl, .v rfl, .v rfl, .v rfl, trivial⟩⟩, rfl⟩
  rw [ImageConverts_vc]
  delta zz190 zz192
  have hn : ile 0 (pn : Int) = true := ile_t (by omega)
  simp only [forall_eq, true_and, and_true, irow1, irow5, iR_t, iQ_t, hn]
  refine share_in fun mC eC => ?_
  have r1 := gmod_range fr (show (0 : Int) < 4 by decide)
  have r2 := gmod_range to' (show (0 : Int) < 4 by decide)
  have k4 : modOk 4 = true := rfl
  have l0 := ile_t r1.1
  have l1 := ilt_t r1.2
  have l2 := ile_t r2.1
  have l3 := ilt_t r2.2
  refine ⟨⟨l2, l3, k4, l0, l1, k4⟩, ?_⟩
  refine share_in fun mA eA => ?_
  refine share_in fun mB eB => ?_
  refine share_in fun mD eD => ?_
  have g := gim_good pW pH pS pM pn pq (x0 := 0) (y0 := 0) (x1 := 3) (y1 := 2) (t := gxMax mx) (gx16' mx) rfl
  rw [← eA] at g
  obtain ⟨r, gw, gh, al⟩ := g
  have w5 := gim_size (W := pW) (H := pH) (x0 := 0) (y0 := 0) (x1 := 3) (y1 := 2) rfl
  obtain ⟨s, sw, sh, sp⟩ := gst_good more r (by omega) (by omega)
  rw [← eB] at s sw sh sp
  have k1 := gx16' mx
  have k2 : gcv 0 0 3 2 = true := rfl
  have gl : imG { w := 2, h := 2, sol := true, c0 := c0, c1 := c1, c2 := c2, a := cA, f := cF, p0 := { w := 0, h := 0, s := 0, n := 0, l := fun (i : Int) => 0 }, p1 := { w := 0, h := 0, s := 0, n := 0, l := fun (i : Int) => 0 }, p2 := { w := 0, h := 0, s := 0, n := 0, l := fun (i : Int) => 0 }, p3 := { w := 0, h := 0, s := 0, n := 0, l := fun (i : Int) => 0 }, p4 := { w := 0, h := 0, s := 0, n := 0, l := fun (i : Int) => 0 } } := (sol_good (w := 2) (h := 2) rfl (wf16 w9) (wf16 w10) (wf16 w11) (wf16 w12) (wf16 w13)).1
  have cC := cv_any (s := (isel (ieq (gmod fr 4) 3) 12 (isel (ieq (gmod fr 4) 2) 0 (isel (ieq (gmod fr 4) 1) 16 (isel (ieq (gmod fr 4) 0) 8 0))))) (t := (isel (ieq (gmod to' 4) 3) 7 (isel (ieq (gmod to' 4) 2) 8 (isel (ieq (gmod to' 4) 1) 16 (isel (ieq (gmod to' 4) 0) 8 0))))) gl
  have cD := cv_any (s := (isel (ieq (gmod fr 4) 3) 12 (isel (ieq (gmod fr 4) 2) 0 (isel (ieq (gmod fr 4) 1) 16 (isel (ieq (gmod fr 4) 0) 8 0))))) (t := (isel (ieq (gmod to' 4) 3) 7 (isel (ieq (gmod to' 4) 2) 8 (isel (ieq (gmod to' 4) 1) 16 (isel (ieq (gmod to' 4) 0) 8 0))))) s.1
  rw [← eC] at cC
  rw [← eD] at cD
  simp [okAns, eqXs, eqX, eqo, eqLo, eqc, veq, eqUs, bcond_iff, ieq_rfl', beq_rfl', ims_refl, r.1, r.2.1, s.1, gl, cC.1, cC.2, cD.1, cD.2, k1, k2, k4, l0, l1, l2, l3]
end Go.Proofs.Ytcckcifmhhaepaa
