import Derived.Test.YtcckcifmhhaepaaZx
namespace Go.Proofs.Ytcckcifmhhaepaa
open Go.RowKit PR QR
set_option linter.unusedVariables false
set_option linter.unusedSimpArgs false
set_option maxRecDepth 20000
set_option maxRecDepth 100000 in
theorem ImageOfPixels_vc (pW pH pS pM : Int) (pn : Int) (pq : Int → Nat → Int) (tW tH tS tM : Int) (tn : Int) (tq : Int → Nat → Int) (more mx : Int) (V : List QR.XV → List (List QR.CV) → Prop) : QR.evalBody Try.prog (o_law15) (QR.noLoops) (Try.f6.body.getD .skip) Try.f6.results.toList Try.f6.ntmps [.x (.agg [.v (.int .i64 pW), .v (.int .i64 pH), .v (.int .i64 pS), .v (.int .i64 pM), .slc 5 pn (.fn fun i j => .v (.int .i64 (pq i j)))]), .x (.agg [.v (.int .i64 tW), .v (.int .i64 tH), .v (.int .i64 tS), .v (.int .i64 tM), .slc 5 tn (.fn fun i j => .v (.int .i64 (tq i j)))]), .x (.c (.v (.int .i64 more))), .x (.c (.v (.int .i64 mx)))] V = (True ∧ ∀ (i : Int), i = gxMax mx → True ∧ ∀ (i_1 : Int), i_1 = 0 → ∀ (i_2 : Int), i_2 = 0 → ∀ (i_3 : Int), i_3 = 3 → ∀ (i_4 : Int), i_4 = 2 → share (gimV pW pH pS pM pn pq i_1 i_2 i_3 i_4 i) fun (mA : Im) => share (imofV mA.1 mA.2 (imN mA) (pxI mA)) fun (mD : Im) => share (gstV mD more) fun (mC : Im) => ∀ (i_5 : Int), i_5 = 0 → ∀ (i_6 : Int), i_6 = 0 → ∀ (i_7 : Int), i_7 = 3 → ∀ (i_8 : Int), i_8 = 2 → share (gimV tW tH tS tM tn tq i_5 i_6 i_7 i_8 i) fun (mB : Im) => (iQ .i64 5 tn tq ∧ ile 0 tn = true ∧ in16 i = true ∧ gcv i_5 i_6 i_7 i_8 = true ∧ iQ .i64 5 pn pq ∧ ile 0 pn = true ∧ in16 i = true ∧ gcv i_1 i_2 i_3 i_4 = true ∧ True) ∧ (intRow IntKind.u16 5 (imN mA) (QR.Row.fn fun (i_9 : Int) (j : Nat) => CV.v (Value.int .u16 (pxI mA i_9 j))) ∧ in64 mA.1 = true ∧ in64 mA.2 = true ∧ ile 0 (imN mA) = true ∧ imG mA ∧ iR mA.9 ∧ iR mA.10 ∧ iR mA.11 ∧ iR mA.12 ∧ iR mA.13 ∧ True) ∧ bcond (imofOk mA.1 mA.2 (imN mA)) (bcond (imEq mA mD) (bcond (imEq mC mA) (bcond (beq' (imEq mA mB) (imEq mA mB)) (bcond (bnot (imEq mA { w := 0, h := 0, sol := false, c0 := 0, c1 := 0, c2 := 0, a := 0, f := 0, p0 := { w := 0, h := 0, s := 0, n := 0, l := fun (i : Int) => 0 }, p1 := { w := 0, h := 0, s := 0, n := 0, l := fun (i : Int) => 0 }, p2 := { w := 0, h := 0, s := 0, n := 0, l := fun (i : Int) => 0 }, p3 := { w := 0, h := 0, s := 0, n := 0, l := fun (i : Int) => 0 }, p4 := { w := 0, h := 0, s := 0, n := 0, l := fun (i : Int) => 0 } })) ((imG { w := 0, h := 0, sol := false, c0 := 0, c1 := 0, c2 := 0, a := 0, f := 0, p0 := { w := 0, h := 0, s := 0, n := 0, l := fun (i : Int) => 0 }, p1 := { w := 0, h := 0, s := 0, n := 0, l := fun (i : Int) => 0 }, p2 := { w := 0, h := 0, s := 0, n := 0, l := fun (i : Int) => 0 }, p3 := { w := 0, h := 0, s := 0, n := 0, l := fun (i : Int) => 0 }, p4 := { w := 0, h := 0, s := 0, n := 0, l := fun (i : Int) => 0 } } ∧ imG { w := 0, h := 0, sol := false, c0 := 0, c1 := 0, c2 := 0, a := 0, f := 0, p0 := { w := 0, h := 0, s := 0, n := 0, l := fun (i : Int) => 0 }, p1 := { w := 0, h := 0, s := 0, n := 0, l := fun (i : Int) => 0 }, p2 := { w := 0, h := 0, s := 0, n := 0, l := fun (i : Int) => 0 }, p3 := { w := 0, h := 0, s := 0, n := 0, l := fun (i : Int) => 0 }, p4 := { w := 0, h := 0, s := 0, n := 0, l := fun (i : Int) => 0 } } ∧ intRow IntKind.u16 1 0 (QR.Row.zer []) ∧ intRow IntKind.u16 1 0 (QR.Row.zer []) ∧ intRow IntKind.u16 1 0 (QR.Row.zer []) ∧ intRow IntKind.u16 1 0 (QR.Row.zer []) ∧ intRow IntKind.u16 1 0 (QR.Row.zer []) ∧ intRow IntKind.u16 1 0 (QR.Row.zer []) ∧ intRow IntKind.u16 1 0 (QR.Row.zer []) ∧ intRow IntKind.u16 1 0 (QR.Row.zer []) ∧ intRow IntKind.u16 1 0 (QR.Row.zer []) ∧ intRow IntKind.u16 1 0 (QR.Row.zer []) ∧ imG mA ∧ imG { w := 0, h := 0, sol := false, c0 := 0, c1 := 0, c2 := 0, a := 0, f := 0, p0 := { w := 0, h := 0, s := 0, n := 0, l := fun (i : Int) => 0 }, p1 := { w := 0, h := 0, s := 0, n := 0, l := fun (i : Int) => 0 }, p2 := { w := 0, h := 0, s := 0, n := 0, l := fun (i : Int) => 0 }, p3 := { w := 0, h := 0, s := 0, n := 0, l := fun (i : Int) => 0 }, p4 := { w := 0, h := 0, s := 0, n := 0, l := fun (i : Int) => 0 } } ∧ iR mA.9 ∧ iR mA.10 ∧ iR mA.11 ∧ iR mA.12 ∧ iR mA.13 ∧ intRow IntKind.u16 1 0 (QR.Row.zer []) ∧ intRow IntKind.u16 1 0 (QR.Row.zer []) ∧ intRow IntKind.u16 1 0 (QR.Row.zer []) ∧ intRow IntKind.u16 1 0 (QR.Row.zer []) ∧ intRow IntKind.u16 1 0 (QR.Row.zer []) ∧ imG mA ∧ imG mB ∧ iR mA.9 ∧ iR mA.10 ∧ iR mA.11 ∧ iR mA.12 ∧ iR mA.13 ∧ iR mB.9 ∧ iR mB.10 ∧ iR mB.11 ∧ iR mB.12 ∧ iR mB.13 ∧ imG mA ∧ imG mB ∧ iR mA.9 ∧ iR mA.10 ∧ iR mA.11 ∧ iR mA.12 ∧ iR mA.13 ∧ iR mB.9 ∧ iR mB.10 ∧ iR mB.11 ∧ iR mB.12 ∧ iR mB.13 ∧ imG mC ∧ imG mA ∧ iR mC.9 ∧ iR mC.10 ∧ iR mC.11 ∧ iR mC.12 ∧ iR mC.13 ∧ iR mA.9 ∧ iR mA.10 ∧ iR mA.11 ∧ iR mA.12 ∧ iR mA.13 ∧ imG mD ∧ imOk mD = true ∧ iR mD.9 ∧ iR mD.10 ∧ iR mD.11 ∧ iR mD.12 ∧ iR mD.13 ∧ imG mA ∧ imG mD ∧ iR mA.9 ∧ iR mA.10 ∧ iR mA.11 ∧ iR mA.12 ∧ iR mA.13 ∧ iR mD.9 ∧ iR mD.10 ∧ iR mD.11 ∧ iR mD.12 ∧ iR mD.13 ∧ True) ∧ True ∧ V [XV.c (CV.v (Value.bool (bnot (imEq { w := 0, h := 0, sol := false, c0 := 0, c1 := 0, c2 := 0, a := 0, f := 0, p0 := { w := 0, h := 0, s := 0, n := 0, l := fun (i : Int) => 0 }, p1 := { w := 0, h := 0, s := 0, n := 0, l := fun (i : Int) => 0 }, p2 := { w := 0, h := 0, s := 0, n := 0, l := fun (i : Int) => 0 }, p3 := { w := 0, h := 0, s := 0, n := 0, l := fun (i : Int) => 0 }, p4 := { w := 0, h := 0, s := 0, n := 0, l := fun (i : Int) => 0 } } { w := 0, h := 0, sol := false, c0 := 0, c1 := 0, c2 := 0, a := 0, f := 0, p0 := { w := 0, h := 0, s := 0, n := 0, l := fun (i : Int) => 0 }, p1 := { w := 0, h := 0, s := 0, n := 0, l := fun (i : Int) => 0 }, p2 := { w := 0, h := 0, s := 0, n := 0, l := fun (i : Int) => 0 }, p3 := { w := 0, h := 0, s := 0, n := 0, l := fun (i : Int) => 0 }, p4 := { w := 0, h := 0, s := 0, n := 0, l := fun (i : Int) => 0 } }))))] []) ((imG mA ∧ imG { w := 0, h := 0, sol := false, c0 := 0, c1 := 0, c2 := 0, a := 0, f := 0, p0 := { w := 0, h := 0, s := 0, n := 0, l := fun (i : Int) => 0 }, p1 := { w := 0, h := 0, s := 0, n := 0, l := fun (i : Int) => 0 }, p2 := { w := 0, h := 0, s := 0, n := 0, l := fun (i : Int) => 0 }, p3 := { w := 0, h := 0, s := 0, n := 0, l := fun (i : Int) => 0 }, p4 := { w := 0, h := 0, s := 0, n := 0, l := fun (i : Int) => 0 } } ∧ iR mA.9 ∧ iR mA.10 ∧ iR mA.11 ∧ iR mA.12 ∧ iR mA.13 ∧ intRow IntKind.u16 1 0 (QR.Row.zer []) ∧ intRow IntKind.u16 1 0 (QR.Row.zer []) ∧ intRow IntKind.u16 1 0 (QR.Row.zer []) ∧ intRow IntKind.u16 1 0 (QR.Row.zer []) ∧ intRow IntKind.u16 1 0 (QR.Row.zer []) ∧ imG mA ∧ imG mB ∧ iR mA.9 ∧ iR mA.10 ∧ iR mA.11 ∧ iR mA.12 ∧ iR mA.13 ∧ iR mB.9 ∧ iR mB.10 ∧ iR mB.11 ∧ iR mB.12 ∧ iR mB.13 ∧ imG mA ∧ imG mB ∧ iR mA.9 ∧ iR mA.10 ∧ iR mA.11 ∧ iR mA.12 ∧ iR mA.13 ∧ iR mB.9 ∧ iR mB.10 ∧ iR mB.11 ∧ iR mB.12 ∧ iR mB.13 ∧ imG mC ∧ imG mA ∧ iR mC.9 ∧ iR mC.10 ∧ iR mC.11 ∧ iR mC.12 ∧ iR mC.13 ∧ iR mA.9 ∧ iR mA.10 ∧ iR mA.11 ∧ iR mA.12 ∧ iR mA.13 ∧ imG mD ∧ imOk mD = true ∧ iR mD.9 ∧ iR mD.10 ∧ iR mD.11 ∧ iR mD.12 ∧ iR mD.13 ∧ imG mA ∧ imG mD ∧ iR mA.9 ∧ iR mA.10 ∧ iR mA.11 ∧ iR mA.12 ∧ iR mA.13 ∧ iR mD.9 ∧ iR mD.10 ∧ iR mD.11 ∧ iR mD.12 ∧ iR mD.13 ∧ True) ∧ True ∧ V [XV.c (CV.v (Value.bool false))] [])) ((imG mA ∧ imG mB ∧ iR mA.9 ∧ iR mA.10 ∧ iR mA.11 ∧ iR mA.12 ∧ iR mA.13 ∧ iR mB.9 ∧ iR mB.10 ∧ iR mB.11 ∧ iR mB.12 ∧ iR mB.13 ∧ imG mA ∧ imG mB ∧ iR mA.9 ∧ iR mA.10 ∧ iR mA.11 ∧ iR mA.12 ∧ iR mA.13 ∧ iR mB.9 ∧ iR mB.10 ∧ iR mB.11 ∧ iR mB.12 ∧ iR mB.13 ∧ imG mC ∧ imG mA ∧ iR mC.9 ∧ iR mC.10 ∧ iR mC.11 ∧ iR mC.12 ∧ iR mC.13 ∧ iR mA.9 ∧ iR mA.10 ∧ iR mA.11 ∧ iR mA.12 ∧ iR mA.13 ∧ imG mD ∧ imOk mD = true ∧ iR mD.9 ∧ iR mD.10 ∧ iR mD.11 ∧ iR mD.12 ∧ iR mD.13 ∧ imG mA ∧ imG mD ∧ iR mA.9 ∧ iR mA.10 ∧ iR mA.11 ∧ iR mA.12 ∧ iR mA.13 ∧ iR mD.9 ∧ iR mD.10 ∧ iR mD.11 ∧ iR mD.12 ∧ iR mD.13 ∧ True) ∧ True ∧ V [XV.c (CV.v (Value.bool false))] [])) ((imG mC ∧ imG mA ∧ iR mC.9 ∧ iR mC.10 ∧ iR mC.11 ∧ iR mC.12 ∧ iR mC.13 ∧ iR mA.9 ∧ iR mA.10 ∧ iR mA.11 ∧ iR mA.12 ∧ iR mA.13 ∧ imG mD ∧ imOk mD = true ∧ iR mD.9 ∧ iR mD.10 ∧ iR mD.11 ∧ iR mD.12 ∧ iR mD.13 ∧ imG mA ∧ imG mD ∧ iR mA.9 ∧ iR mA.10 ∧ iR mA.11 ∧ iR mA.12 ∧ iR mA.13 ∧ iR mD.9 ∧ iR mD.10 ∧ iR mD.11 ∧ iR mD.12 ∧ iR mD.13 ∧ True) ∧ True ∧ V [XV.c (CV.v (Value.bool false))] [])) ((imG mA ∧ imG mD ∧ iR mA.9 ∧ iR mA.10 ∧ iR mA.11 ∧ iR mA.12 ∧ iR mA.13 ∧ iR mD.9 ∧ iR mD.10 ∧ iR mD.11 ∧ iR mD.12 ∧ iR mD.13 ∧ True) ∧ True ∧ V [XV.c (CV.v (Value.bool false))] [])) (True ∧ True ∧ V [XV.c (CV.v (Value.bool false))] [])) := by
  try delta o_law15
  try delta s_ime
  try delta s_isol
  try delta s_imof
  try delta s_imat
  try delta s_impxs
  try delta s_imeq
  try delta s_imcv
  try delta s_imrp
  try delta s_pxsame
  try delta s_imsame
  try delta s_rarea
  try delta s_rcont
  try delta s_gmax
  try delta s_mod
  try delta s_gpxs
  try delta s_gimg
  try delta s_gstr
  try delta s_gpart
  try delta s_grect
  try delta s_full15
  try delta s_yes15
  try delta s_cover15
  try delta s_imOf
  generalize @gcv = gcv
  generalize @gimV = gimV
  generalize @gmod = gmod
  generalize @gpV = gpV
  generalize @gpxV = gpxV
  generalize @grA = grA
  generalize @grB = grB
  generalize @grD = grD
  generalize @grtC = grtC
  generalize @gstV = gstV
  generalize @gxMax = gxMax
  generalize @imCv = imCv
  generalize @imCvE = imCvE
  generalize @imE = imE
  generalize @imEq = imEq
  generalize @imG = imG
  generalize @imL = imL
  generalize @imN = imN
  generalize @imOk = imOk
  generalize @imRp = imRp
  generalize @imRpE = imRpE
  generalize @imSame = imSame
  generalize @imofOk = imofOk
  generalize @imofV = imofV
  generalize @in16 = in16
  generalize @in64 = in64
  generalize @intRow = intRow
  generalize @modOk = modOk
  generalize @pxA = pxA
  generalize @pxI = pxI
  generalize @pxSame = pxSame
  generalize @raV = raV
  generalize @rcB = rcB
  generalize @reB = reB
  generalize @w2 = w2
  kernel_rfl
set_option linter.unusedVariables false in
theorem ImageOfPixels_core (pW pH pS pM : Int) (pn : Nat) (pq : Int → Nat → Int) (tW tH tS tM : Int) (tn : Nat) (tq : Int → Nat → Int) (more mx : Int) (w0 : (Lit.int .i64 pW).wf = true) (w1 : (Lit.int .i64 pH).wf = true) (w2 : (Lit.int .i64 pS).wf = true) (w3 : (Lit.int .i64 pM).wf = true) (z0 : pn ≤ maxLen) (w4 : ∀ i j : Nat, i < pn → j < 5 → (Lit.int .i64 (pq i j)).wf = true) (w5 : (Lit.int .i64 tW).wf = true) (w6 : (Lit.int .i64 tH).wf = true) (w7 : (Lit.int .i64 tS).wf = true) (w8 : (Lit.int .i64 tM).wf = true) (z1 : tn ≤ maxLen) (w9 : ∀ i j : Nat, i < tn → j < 5 → (Lit.int .i64 (tq i j)).wf = true) (w10 : (Lit.int .i64 more).wf = true) (w11 : (Lit.int .i64 mx).wf = true) (w : World) {F : Nat → Prop} (hG : QR.Laid F w) (hF : ∀ k, F k → k < w.heap.size) (x0 : Value) (r0 : QR.Rep F w (.slc 5 ((pn : Nat) : Int) (.fn fun i j => .v (.int .i64 (pq i j)))) x0) (x1 : Value) (r1 : QR.Rep F w (.slc 5 ((tn : Nat) : Int) (.fn fun i j => .v (.int .i64 (tq i j)))) x1) :
    Calls Try.prog 6 #[.agg #[.int .i64 pW, .int .i64 pH, .int .i64 pS, .int .i64 pM, x0], .agg #[.int .i64 tW, .int .i64 tH, .int .i64 tS, .int .i64 tM, x1], .int .i64 more, .int .i64 mx] w fun e w' => e = .returned (.bool true) ∧ Below w.heap.size w w' := by
  refine law_of_conc (O := o_law15) (QR.orc_cons a_iv (QR.orc_cons a_isol (QR.orc_cons a_iof (QR.orc_cons a_iat (QR.orc_cons a_ipxs (QR.orc_cons a_ieq (QR.orc_cons a_icv (QR.orc_cons a_irp (QR.orc_cons a_rval (QR.orc_cons a_risol (QR.orc_cons a_rio (QR.orc_cons a_riat (QR.orc_cons a_rpxs (QR.orc_cons a_rsp (QR.orc_cons a_rieq (QR.orc_cons a_risame (QR.orc_cons a_rcv (QR.orc_cons a_rrp (QR.orc_cons a_farea (QR.orc_cons a_fcont (QR.orc_cons (up a_gmax) (QR.orc_cons (up a_mod) (QR.orc_cons a_gps (QR.orc_cons a_gim (QR.orc_cons a_gst (QR.orc_cons a_gpart (QR.orc_cons a_grect (QR.orc_cons a_full15 (QR.orc_cons a_awake15 (QR.orc_cons a_cover15 QR.orc_nil)))))))))))))))))))))))))))))) mixed (QR.noLoops) Try.func6 (by kernel_rfl) (vs := [.agg #[.int .i64 pW, .int .i64 pH, .int .i64 pS, .int .i64 pM, x0], .agg #[.int .i64 tW, .int .i64 tH, .int .i64 tS, .int .i64 tM, x1], .int .i64 more, .int .i64 mx]) (args := [.x (.agg [.v (.int .i64 pW), .v (.int .i64 pH), .v (.int .i64 pS), .v (.int .i64 pM), .slc 5 ((pn : Nat) : Int) (.fn fun i j => .v (.int .i64 (pq i j)))]), .x (.agg [.v (.int .i64 tW), .v (.int .i64 tH), .v (.int .i64 tS), .v (.int .i64 tM), .slc 5 ((tn : Nat) : Int) (.fn fun i j => .v (.int .i64 (tq i j)))]), .x (.c (.v (.int .i64 more))), .x (.c (.v (.int .i64 mx)))]) (by simp) ?_ w hG hF ⟨⟨[.int .i64 pW, .int .i64 pH, .int .i64 pS, .int .i64 pM, x0], rfl, ⟨.v rfl, .v rfl, .v rfl, .v rfl, r0, trivial⟩⟩, ⟨[.int .i64 tW, .int .i64 tH, .int .i64 tS, .int .i64 tM, x1], rfl, ⟨.v rfl, .v rfl, .v rfl, .v rfl, r1, trivial⟩⟩, .v rfl, .v rfl, rfl⟩
  rw [ImageOfPixels_vc]
  have hn : ile 0 (pn : Int) = true := ile_t (by omega)
  have hm : ile 0 (tn : Int) = true := ile_t (by omega)
  simp only [forall_eq, true_and, and_true, irow1, irow5, iR_t, iQ_t, hn, hm]
  refine share_in fun mA eA => ?_
  refine share_in fun mD eD => ?_
  refine share_in fun mC eC => ?_
  refine share_in fun mB eB => ?_
  have g := gim_good pW pH pS pM pn pq (x0 := 0) (y0 := 0) (x1 := 3) (y1 := 2) (t := gxMax mx) (gx16' mx) rfl
  have g2 := gim_good tW tH tS tM tn tq (x0 := 0) (y0 := 0) (x1 := 3) (y1 := 2) (t := gxMax mx) (gx16' mx) rfl
  rw [← eA] at g
  rw [← eB] at g2
  obtain ⟨r, gw, gh, al⟩ := g
  have w5 := gim_size (W := pW) (H := pH) (x0 := 0) (y0 := 0) (x1 := 3) (y1 := 2) rfl
  have io := rp_io r.2.1
  have d := imof_good io fun i k h0 h1 hk => pxI16 r.1 r.2.1 h0 h1 hk
  obtain ⟨e1, e2, e3⟩ := imof_wh (q := pxI mA) io
  have pD : imPx mD mA := by
    rw [eD]
    exact ⟨e1, e2, fun k x y hk x0 x1 y0 y1 => by rw [imof_px io hk]; exact pxI_at x0 x1 k⟩
  have d' : imR mD := by rw [eD]; exact d
  obtain ⟨s, sw, sh, sp⟩ := gst_good more d' (by rw [pD.1]; omega) (by rw [pD.2.1]; omega)
  rw [← eC] at s sw sh sp
  have pC : imPx mC mA := ⟨by rw [sw, pD.1], by rw [sh, pD.2.1], fun k x y hk x0 x1 y0 y1 => by
    rw [sp k x y hk x0 (by rw [pD.1]; exact x1) y0 (by rw [pD.2.1]; exact y1)]; exact pD.2.2 k x y hk x0 x1 y0 y1⟩
  have pD' : imPx mA mD := ⟨pD.1.symm, pD.2.1.symm, fun k x y hk x0 x1 y0 y1 => (pD.2.2 k x y hk x0 (by rw [← pD.1]; exact x1) y0 (by rw [← pD.2.1]; exact y1)).symm⟩
  have q1 := px_eq pD' r.2.1 d'.2.1
  have q2 := px_eq pC s.2.1 r.2.1
  have k1 := gx16' mx
  have k2 : gcv 0 0 3 2 = true := rfl
  have n0 := ile_t (imN_le mA).1
  have gz : imG { w := 0, h := 0, sol := false, c0 := 0, c1 := 0, c2 := 0, a := 0, f := 0, p0 := { w := 0, h := 0, s := 0, n := 0, l := fun (i : Int) => 0 }, p1 := { w := 0, h := 0, s := 0, n := 0, l := fun (i : Int) => 0 }, p2 := { w := 0, h := 0, s := 0, n := 0, l := fun (i : Int) => 0 }, p3 := { w := 0, h := 0, s := 0, n := 0, l := fun (i : Int) => 0 }, p4 := { w := 0, h := 0, s := 0, n := 0, l := fun (i : Int) => 0 } } := zim_good.1
  have z1 : imEq mA { w := 0, h := 0, sol := false, c0 := 0, c1 := 0, c2 := 0, a := 0, f := 0, p0 := { w := 0, h := 0, s := 0, n := 0, l := fun (i : Int) => 0 }, p1 := { w := 0, h := 0, s := 0, n := 0, l := fun (i : Int) => 0 }, p2 := { w := 0, h := 0, s := 0, n := 0, l := fun (i : Int) => 0 }, p3 := { w := 0, h := 0, s := 0, n := 0, l := fun (i : Int) => 0 }, p4 := { w := 0, h := 0, s := 0, n := 0, l := fun (i : Int) => 0 } } = false := by unfold imEq; rw [r.2.1]; rfl
  have z2 : imEq { w := 0, h := 0, sol := false, c0 := 0, c1 := 0, c2 := 0, a := 0, f := 0, p0 := { w := 0, h := 0, s := 0, n := 0, l := fun (i : Int) => 0 }, p1 := { w := 0, h := 0, s := 0, n := 0, l := fun (i : Int) => 0 }, p2 := { w := 0, h := 0, s := 0, n := 0, l := fun (i : Int) => 0 }, p3 := { w := 0, h := 0, s := 0, n := 0, l := fun (i : Int) => 0 }, p4 := { w := 0, h := 0, s := 0, n := 0, l := fun (i : Int) => 0 } } { w := 0, h := 0, sol := false, c0 := 0, c1 := 0, c2 := 0, a := 0, f := 0, p0 := { w := 0, h := 0, s := 0, n := 0, l := fun (i : Int) => 0 }, p1 := { w := 0, h := 0, s := 0, n := 0, l := fun (i : Int) => 0 }, p2 := { w := 0, h := 0, s := 0, n := 0, l := fun (i : Int) => 0 }, p3 := { w := 0, h := 0, s := 0, n := 0, l := fun (i : Int) => 0 }, p4 := { w := 0, h := 0, s := 0, n := 0, l := fun (i : Int) => 0 } } = false := rfl
  have iw := r.1.1.1
  have ih := r.1.1.2
  simp [okAns, eqXs, eqX, eqo, eqLo, eqc, veq, eqUs, bcond_iff, ieq_rfl', beq_rfl', ims_refl, r.1, r.2.1, d'.1, d'.2.1, s.1, g2.1.1, io, q1, q2, gz, z1, z2, k1, k2, n0, bnot, iw, ih, irow0]
end Go.Proofs.Ytcckcifmhhaepaa
