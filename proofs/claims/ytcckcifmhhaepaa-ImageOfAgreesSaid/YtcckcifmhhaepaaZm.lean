import Derived.Test.YtcckcifmhhaepaaZaa
import Derived.Test.YtcckcifmhhaepaaZx
namespace Go.Proofs.Ytcckcifmhhaepaa
open Go.RowKit PR QR
set_option linter.unusedVariables false
set_option linter.unusedSimpArgs false
set_option maxRecDepth 20000
set_option maxRecDepth 100000 in
theorem ImageOfAgrees_vc (pM : Int) (pn : Int) (pq : Int → Nat → Int) (tw th more mx : Int) (c0 c1 c2 cA cF : Int) (iw ih : Int) (V : List QR.XV → List (List QR.CV) → Prop) : QR.evalBody Try.prog (o_law15) (QR.noLoops) (Try.f4.body.getD .skip) Try.f4.results.toList Try.f4.ntmps [.x (.agg [.v (.int .i64 pM), .slc 5 pn (.fn fun i j => .v (.int .i64 (pq i j)))]), .x (.c (.v (.int .i64 tw))), .x (.c (.v (.int .i64 th))), .x (.c (.v (.int .i64 more))), .x (.c (.v (.int .i64 mx))), .x (.agg [.v (.int .u16 c0), .v (.int .u16 c1), .v (.int .u16 c2), .v (.int .u16 cA), .v (.int .u16 cF)]), .x (.c (.v (.int .i64 iw))), .x (.c (.v (.int .i64 ih)))] V = (True ∧ ∀ (i : Int), i = gxMax mx → True ∧ ∀ (i_1 : Int), i_1 = gmod tw 6 → ∀ (i_2 : Int), i_2 = gmod th 6 → (modOk 6 = true ∧ modOk 6 = true ∧ True) ∧ ∀ (i_3 : Int), i_3 = gmod more 4 → ∀ (i_4 : Int), i_4 = gmod (iadd IntKind.i64 (imul IntKind.i64 (isub IntKind.i64 i_1 1) (isub IntKind.i64 i_2 1)) (iquo IntKind.i64 i_3 3)) 40 → share (imofV iw ih (iimax i_4 0) (gpxV pM pn pq i)) fun (mB : Im) => share (imofV (isub IntKind.i64 i_1 1) (isub IntKind.i64 i_2 1) (iimax i_4 0) (gpxV pM pn pq i)) fun (mA : Im) => (modOk 40 = true ∧ true = true ∧ modOk 4 = true ∧ True) ∧ (iQ .i64 5 pn pq ∧ ile 0 pn = true ∧ in16 i = true ∧ ile i_4 1099511627776 = true ∧ True) ∧ (intRow IntKind.u16 5 (iimax i_4 0) (zz41 pM pn pq i) ∧ in64 (isub IntKind.i64 i_1 1) = true ∧ in64 (isub IntKind.i64 i_2 1) = true ∧ ile 0 (iimax i_4 0) = true ∧ True) ∧ (intRow IntKind.u16 5 (iimax i_4 0) (zz41 pM pn pq i) ∧ in64 (isub IntKind.i64 i_1 1) = true ∧ in64 (isub IntKind.i64 i_2 1) = true ∧ ile 0 (iimax i_4 0) = true ∧ True) ∧ (intRow IntKind.u16 5 (iimax i_4 0) (zz41 pM pn pq i) ∧ in64 iw = true ∧ in64 ih = true ∧ ile 0 (iimax i_4 0) = true ∧ True) ∧ (intRow IntKind.u16 5 (iimax i_4 0) (zz41 pM pn pq i) ∧ in64 iw = true ∧ in64 ih = true ∧ ile 0 (iimax i_4 0) = true ∧ True) ∧ bcond (beq' (imofOk (isub IntKind.i64 i_1 1) (isub IntKind.i64 i_2 1) (iimax i_4 0)) (imofOk (isub IntKind.i64 i_1 1) (isub IntKind.i64 i_2 1) (iimax i_4 0))) (bcond (imSame mA mA) (bcond (beq' (imofOk iw ih (iimax i_4 0)) (imofOk iw ih (iimax i_4 0))) (bcond (imSame mB mB) ((imG { w := iw, h := ih, sol := true, c0 := c0, c1 := c1, c2 := c2, a := cA, f := cF, p0 := { w := 0, h := 0, s := 0, n := 0, l := fun (i : Int) => 0 }, p1 := { w := 0, h := 0, s := 0, n := 0, l := fun (i : Int) => 0 }, p2 := { w := 0, h := 0, s := 0, n := 0, l := fun (i : Int) => 0 }, p3 := { w := 0, h := 0, s := 0, n := 0, l := fun (i : Int) => 0 }, p4 := { w := 0, h := 0, s := 0, n := 0, l := fun (i : Int) => 0 } } ∧ imG { w := iw, h := ih, sol := true, c0 := c0, c1 := c1, c2 := c2, a := cA, f := cF, p0 := { w := 0, h := 0, s := 0, n := 0, l := fun (i : Int) => 0 }, p1 := { w := 0, h := 0, s := 0, n := 0, l := fun (i : Int) => 0 }, p2 := { w := 0, h := 0, s := 0, n := 0, l := fun (i : Int) => 0 }, p3 := { w := 0, h := 0, s := 0, n := 0, l := fun (i : Int) => 0 }, p4 := { w := 0, h := 0, s := 0, n := 0, l := fun (i : Int) => 0 } } ∧ imL { w := iw, h := ih, sol := true, c0 := c0, c1 := c1, c2 := c2, a := cA, f := cF, p0 := { w := 0, h := 0, s := 0, n := 0, l := fun (i : Int) => 0 }, p1 := { w := 0, h := 0, s := 0, n := 0, l := fun (i : Int) => 0 }, p2 := { w := 0, h := 0, s := 0, n := 0, l := fun (i : Int) => 0 }, p3 := { w := 0, h := 0, s := 0, n := 0, l := fun (i : Int) => 0 }, p4 := { w := 0, h := 0, s := 0, n := 0, l := fun (i : Int) => 0 } } = true ∧ iR plZero ∧ iR plZero ∧ iR plZero ∧ iR plZero ∧ iR plZero ∧ iR plZero ∧ iR plZero ∧ iR plZero ∧ iR plZero ∧ iR plZero ∧ imG mB ∧ imG mB ∧ imL mB = true ∧ iR mB.9 ∧ iR mB.10 ∧ iR mB.11 ∧ iR mB.12 ∧ iR mB.13 ∧ iR mB.9 ∧ iR mB.10 ∧ iR mB.11 ∧ iR mB.12 ∧ iR mB.13 ∧ imG mA ∧ imG mA ∧ imL mA = true ∧ iR mA.9 ∧ iR mA.10 ∧ iR mA.11 ∧ iR mA.12 ∧ iR mA.13 ∧ iR mA.9 ∧ iR mA.10 ∧ iR mA.11 ∧ iR mA.12 ∧ iR mA.13 ∧ True) ∧ True ∧ V [XV.c (CV.v (Value.bool (imSame { w := iw, h := ih, sol := true, c0 := c0, c1 := c1, c2 := c2, a := cA, f := cF, p0 := { w := 0, h := 0, s := 0, n := 0, l := fun (i : Int) => 0 }, p1 := { w := 0, h := 0, s := 0, n := 0, l := fun (i : Int) => 0 }, p2 := { w := 0, h := 0, s := 0, n := 0, l := fun (i : Int) => 0 }, p3 := { w := 0, h := 0, s := 0, n := 0, l := fun (i : Int) => 0 }, p4 := { w := 0, h := 0, s := 0, n := 0, l := fun (i : Int) => 0 } } { w := iw, h := ih, sol := true, c0 := c0, c1 := c1, c2 := c2, a := cA, f := cF, p0 := { w := 0, h := 0, s := 0, n := 0, l := fun (i : Int) => 0 }, p1 := { w := 0, h := 0, s := 0, n := 0, l := fun (i : Int) => 0 }, p2 := { w := 0, h := 0, s := 0, n := 0, l := fun (i : Int) => 0 }, p3 := { w := 0, h := 0, s := 0, n := 0, l := fun (i : Int) => 0 }, p4 := { w := 0, h := 0, s := 0, n := 0, l := fun (i : Int) => 0 } })))] []) ((imG mB ∧ imG mB ∧ imL mB = true ∧ iR mB.9 ∧ iR mB.10 ∧ iR mB.11 ∧ iR mB.12 ∧ iR mB.13 ∧ iR mB.9 ∧ iR mB.10 ∧ iR mB.11 ∧ iR mB.12 ∧ iR mB.13 ∧ imG mA ∧ imG mA ∧ imL mA = true ∧ iR mA.9 ∧ iR mA.10 ∧ iR mA.11 ∧ iR mA.12 ∧ iR mA.13 ∧ iR mA.9 ∧ iR mA.10 ∧ iR mA.11 ∧ iR mA.12 ∧ iR mA.13 ∧ True) ∧ True ∧ V [XV.c (CV.v (Value.bool false))] [])) ((imG mA ∧ imG mA ∧ imL mA = true ∧ iR mA.9 ∧ iR mA.10 ∧ iR mA.11 ∧ iR mA.12 ∧ iR mA.13 ∧ iR mA.9 ∧ iR mA.10 ∧ iR mA.11 ∧ iR mA.12 ∧ iR mA.13 ∧ True) ∧ True ∧ V [XV.c (CV.v (Value.bool false))] [])) ((imG mA ∧ imG mA ∧ imL mA = true ∧ iR mA.9 ∧ iR mA.10 ∧ iR mA.11 ∧ iR mA.12 ∧ iR mA.13 ∧ iR mA.9 ∧ iR mA.10 ∧ iR mA.11 ∧ iR mA.12 ∧ iR mA.13 ∧ True) ∧ True ∧ V [XV.c (CV.v (Value.bool false))] [])) (True ∧ True ∧ V [XV.c (CV.v (Value.bool false))] [])) := by
  delta zz41
  try delta o_law15
  try delta s_ime
  try delta s_isol
  try delta s_imof
  try delta s_imat
  try delta s_impxs
  try delta s_imeq
  try delta s_imcv
  try delta s_imrp
  try delta s_pxsame
  try delta s_imsame
  try delta s_rarea
  try delta s_rcont
  try delta s_gmax
  try delta s_mod
  try delta s_gpxs
  try delta s_gimg
  try delta s_gstr
  try delta s_gpart
  try delta s_grect
  try delta s_full15
  try delta s_yes15
  try delta s_cover15
  try delta s_imOf
  generalize @gcv = gcv
  generalize @gimV = gimV
  generalize @gmod = gmod
  generalize @gpV = gpV
  generalize @gpxV = gpxV
  generalize @grA = grA
  generalize @grB = grB
  generalize @grD = grD
  generalize @grtC = grtC
  generalize @gstV = gstV
  generalize @gxMax = gxMax
  generalize @imCv = imCv
  generalize @imCvE = imCvE
  generalize @imE = imE
  generalize @imEq = imEq
  generalize @imG = imG
  generalize @imL = imL
  generalize @imN = imN
  generalize @imOk = imOk
  generalize @imRp = imRp
  generalize @imRpE = imRpE
  generalize @imSame = imSame
  generalize @imofOk = imofOk
  generalize @imofV = imofV
  generalize @in16 = in16
  generalize @in64 = in64
  generalize @intRow = intRow
  generalize @modOk = modOk
  generalize @pxA = pxA
  generalize @pxI = pxI
  generalize @pxSame = pxSame
  generalize @raV = raV
  generalize @rcB = rcB
  generalize @reB = reB
  generalize @w2 = w2
  kernel_rfl
set_option linter.unusedVariables false in
theorem ImageOfAgrees_core (pM : Int) (pn : Nat) (pq : Int → Nat → Int) (tw th more mx : Int) (c0 c1 c2 cA cF : Int) (iw ih : Int) (w0 : (Lit.int .i64 pM).wf = true) (z0 : pn ≤ maxLen) (w1 : ∀ i j : Nat, i < pn → j < 5 → (Lit.int .i64 (pq i j)).wf = true) (w2 : (Lit.int .i64 tw).wf = true) (w3 : (Lit.int .i64 th).wf = true) (w4 : (Lit.int .i64 more).wf = true) (w5 : (Lit.int .i64 mx).wf = true) (w6 : (Lit.int .u16 c0).wf = true) (w7 : (Lit.int .u16 c1).wf = true) (w8 : (Lit.int .u16 c2).wf = true) (w9 : (Lit.int .u16 cA).wf = true) (w10 : (Lit.int .u16 cF).wf = true) (w11 : (Lit.int .i64 iw).wf = true) (w12 : (Lit.int .i64 ih).wf = true) (w : World) {F : Nat → Prop} (hG : QR.Laid F w) (hF : ∀ k, F k → k < w.heap.size) (x0 : Value) (r0 : QR.Rep F w (.slc 5 ((pn : Nat) : Int) (.fn fun i j => .v (.int .i64 (pq i j)))) x0) :
    Calls Try.prog 4 #[.agg #[.int .i64 pM, x0], .int .i64 tw, .int .i64 th, .int .i64 more, .int .i64 mx, .agg #[.int .u16 c0, .int .u16 c1, .int .u16 c2, .int .u16 cA, .int .u16 cF], .int .i64 iw, .int .i64 ih] w fun e w' => e = .returned (.bool true) ∧ Below w.heap.size w w' := by
  refine law_of_conc (O := o_law15) (QR.orc_cons a_iv (QR.orc_cons a_isol (QR.orc_cons a_iof (QR.orc_cons a_iat (QR.orc_cons a_ipxs (QR.orc_cons a_ieq (QR.orc_cons a_icv (QR.orc_cons a_irp (QR.orc_cons a_rval (QR.orc_cons a_risol (QR.orc_cons a_rio (QR.orc_cons a_riat (QR.orc_cons a_rpxs (QR.orc_cons a_rsp (QR.orc_cons a_rieq (QR.orc_cons a_risame (QR.orc_cons a_rcv (QR.orc_cons a_rrp (QR.orc_cons a_farea (QR.orc_cons a_fcont (QR.orc_cons (up a_gmax) (QR.orc_cons (up a_mod) (QR.orc_cons a_gps (QR.orc_cons a_gim (QR.orc_cons a_gst (QR.orc_cons a_gpart (QR.orc_cons a_grect (QR.orc_cons a_full15 (QR.orc_cons a_awake15 (QR.orc_cons a_cover15 QR.orc_nil)))))))))))))))))))))))))))))) mixed (QR.noLoops) Try.func4 (by kernel_rfl) (vs := [.agg #[.int .i64 pM, x0], .int .i64 tw, .int .i64 th, .int .i64 more, .int .i64 mx, .agg #[.int .u16 c0, .int .u16 c1, .int .u16 c2, .int .u16 cA, .int .u16 cF], .int .i64 iw, .int .i64 ih]) (args := [.x (.agg [.v (.int .i64 pM), .slc 5 ((pn : Nat) : Int) (.fn fun i j => .v (.int .i64 (pq i j)))]), .x (.c (.v (.int .i64 tw))), .x (.c (.v (.int .i64 th))), .x (.c (.v (.int .i64 more))), .x (.c (.v (.int .i64 mx))), .x (.agg [.v (.int .u16 c0), .v (.int .u16 c1), .v (.int .u16 c2), .v (.int .u16 cA), .v (.int .u16 cF)]), .x (.c (.v (.int .i64 iw))), .x (.c (.v (.int .i64 ih)))]) (by simp) ?_ w hG hF ⟨⟨[.int .i64 pM, x0], rfl, ⟨.v rfl, r0, trivial⟩⟩, .v rfl, .v rfl, .v rfl, .v rfl, ⟨[.int .u16 c0, .int .u16 c1, .int .u16 c2, .int .u16 cA, .int .u16 cF], rfl, ⟨.v rfl, .v rfl, .v rfl, .v rfl, .v rfl, trivial⟩⟩, .v rfl, .v rfl, rfl⟩
  rw [ImageOfAgrees_vc]
  delta zz41
  have hn : ile 0 (pn : Int) = true := ile_t (by omega)
  simp only [forall_eq, true_and, and_true, irow1, irow5, iR_t, iQ_t, hn]
  refine ⟨⟨rfl, rfl⟩, ?_⟩
  refine share_in fun mB eB => ?_
  refine share_in fun mA eA => ?_
  have k6 : modOk 6 = true := rfl
  have k4 : modOk 4 = true := rfl
  have k40 : modOk 40 = true := rfl
  have k1 := gx16' mx
  have zz : plG plZero := ⟨rfl, rfl, rfl, rfl, fun _ _ => rfl⟩
  have gl : imG { w := iw, h := ih, sol := true, c0 := c0, c1 := c1, c2 := c2, a := cA, f := cF, p0 := { w := 0, h := 0, s := 0, n := 0, l := fun (i : Int) => 0 }, p1 := { w := 0, h := 0, s := 0, n := 0, l := fun (i : Int) => 0 }, p2 := { w := 0, h := 0, s := 0, n := 0, l := fun (i : Int) => 0 }, p3 := { w := 0, h := 0, s := 0, n := 0, l := fun (i : Int) => 0 }, p4 := { w := 0, h := 0, s := 0, n := 0, l := fun (i : Int) => 0 } } := ⟨⟨wf64 w11, wf64 w12⟩, ⟨wf16 w6, wf16 w7, wf16 w8, wf16 w9, wf16 w10⟩, zz, zz, zz, zz, zz⟩
  have ll : imL { w := iw, h := ih, sol := true, c0 := c0, c1 := c1, c2 := c2, a := cA, f := cF, p0 := { w := 0, h := 0, s := 0, n := 0, l := fun (i : Int) => 0 }, p1 := { w := 0, h := 0, s := 0, n := 0, l := fun (i : Int) => 0 }, p2 := { w := 0, h := 0, s := 0, n := 0, l := fun (i : Int) => 0 }, p3 := { w := 0, h := 0, s := 0, n := 0, l := fun (i : Int) => 0 }, p4 := { w := 0, h := 0, s := 0, n := 0, l := fun (i : Int) => 0 } } = true := rfl
  generalize iadd .i64 (imul .i64 (isub .i64 (gmod tw 6) 1) (isub .i64 (gmod th 6) 1)) (iquo .i64 (gmod more 4) 3) = y at *
  have r := gmod_range y (show (0 : Int) < 40 by decide)
  generalize gmod y 40 = n at *
  have n0 : ile 0 (iimax n 0) = true := ile_t (by unfold iimax; split <;> omega)
  have n1 : ile n 1099511627776 = true := ile_t (by omega)
  have gA := imof_any (w := isub .i64 (gmod tw 6) 1) (h := isub .i64 (gmod th 6) 1) (fun _ => pxs16 (md := pM) (n := pn) (q := pq) k1 (iimax n 0))
  have gB := imof_any (w := iw) (h := ih) (fun _ => pxs16 (md := pM) (n := pn) (q := pq) k1 (iimax n 0))
  rw [← eA] at gA
  rw [← eB] at gB
  simp [okAns, eqXs, eqX, eqo, eqLo, eqc, veq, eqUs, bcond_iff, ieq_rfl', beq_rfl', ims_refl, gl, ll, gA.1, gA.2, gB.1, gB.2, k1, k4, k6, k40, n0, n1, in64_sub, wf64 w11, wf64 w12]
end Go.Proofs.Ytcckcifmhhaepaa
