import Derived.Test.YtcckcifmhhaepaaZx
namespace Go.Proofs.Ytcckcifmhhaepaa
open Go.RowKit PR QR
set_option linter.unusedVariables false
set_option linter.unusedSimpArgs false
set_option maxRecDepth 20000
set_option maxRecDepth 100000 in
theorem ImageWidensAndNarrows_vc (pW pH pS pM : Int) (pn : Int) (pq : Int → Nat → Int) (more : Int) (V : List QR.XV → List (List QR.CV) → Prop) : QR.evalBody Try.prog (o_law15) (QR.noLoops) (Try.f8.body.getD .skip) Try.f8.results.toList Try.f8.ntmps [.x (.agg [.v (.int .i64 pW), .v (.int .i64 pH), .v (.int .i64 pS), .v (.int .i64 pM), .slc 5 pn (.fn fun i j => .v (.int .i64 (pq i j)))]), .x (.c (.v (.int .i64 more)))] V = (True ∧ ∀ (i : Int), i = 0 → ∀ (i_1 : Int), i_1 = 0 → ∀ (i_2 : Int), i_2 = 3 → ∀ (i_3 : Int), i_3 = 2 → share (gimV pW pH pS pM pn pq i i_1 i_2 i_3 255) fun (mA : Im) => share (gstV mA more) fun (mB : Im) => share (imCv mB 8 16) fun (mC : Im) => (imG mA ∧ imOk mA = true ∧ iR mA.9 ∧ iR mA.10 ∧ iR mA.11 ∧ iR mA.12 ∧ iR mA.13 ∧ iQ .i64 5 pn pq ∧ ile 0 pn = true ∧ in16 255 = true ∧ gcv i i_1 i_2 i_3 = true ∧ True) ∧ ∀ (i_4 : Int), i_4 = imCvE mB 8 16 → (imG mB ∧ iR mB.9 ∧ iR mB.10 ∧ iR mB.11 ∧ iR mB.12 ∧ iR mB.13 ∧ True) ∧ ∀ (i_5 : Int), i_5 = imCvE mC 16 8 → (imG mC ∧ iR mC.9 ∧ iR mC.10 ∧ iR mC.11 ∧ iR mC.12 ∧ iR mC.13 ∧ True) ∧ bcond (ieq i_4 0) (bcond (ieq i_5 0) (∀ (i_6 : Int), i_6 = imE mC 65535 → bcond (ieq i_6 0) ((imG mB ∧ imG (imCv mC 16 8) ∧ iR mB.9 ∧ iR mB.10 ∧ iR mB.11 ∧ iR mB.12 ∧ iR mB.13 ∧ iR (imCv mC 16 8).9 ∧ iR (imCv mC 16 8).10 ∧ iR (imCv mC 16 8).11 ∧ iR (imCv mC 16 8).12 ∧ iR (imCv mC 16 8).13 ∧ imG mC ∧ iR mC.9 ∧ iR mC.10 ∧ iR mC.11 ∧ iR mC.12 ∧ iR mC.13 ∧ True) ∧ True ∧ V [XV.c (CV.v (Value.bool (imEq mB (imCv mC 16 8))))] []) ((imG mC ∧ iR mC.9 ∧ iR mC.10 ∧ iR mC.11 ∧ iR mC.12 ∧ iR mC.13 ∧ True) ∧ True ∧ V [XV.c (CV.v (Value.bool false))] [])) (True ∧ True ∧ V [XV.c (CV.v (Value.bool false))] [])) (True ∧ True ∧ V [XV.c (CV.v (Value.bool false))] [])) := by
  try delta o_law15
  try delta s_ime
  try delta s_isol
  try delta s_imof
  try delta s_imat
  try delta s_impxs
  try delta s_imeq
  try delta s_imcv
  try delta s_imrp
  try delta s_pxsame
  try delta s_imsame
  try delta s_rarea
  try delta s_rcont
  try delta s_gmax
  try delta s_mod
  try delta s_gpxs
  try delta s_gimg
  try delta s_gstr
  try delta s_gpart
  try delta s_grect
  try delta s_full15
  try delta s_yes15
  try delta s_cover15
  try delta s_imOf
  generalize @gcv = gcv
  generalize @gimV = gimV
  generalize @gmod = gmod
  generalize @gpV = gpV
  generalize @gpxV = gpxV
  generalize @grA = grA
  generalize @grB = grB
  generalize @grD = grD
  generalize @grtC = grtC
  generalize @gstV = gstV
  generalize @gxMax = gxMax
  generalize @imCv = imCv
  generalize @imCvE = imCvE
  generalize @imE = imE
  generalize @imEq = imEq
  generalize @imG = imG
  generalize @imL = imL
  generalize @imN = imN
  generalize @imOk = imOk
  generalize @imRp = imRp
  generalize @imRpE = imRpE
  generalize @imSame = imSame
  generalize @imofOk = imofOk
  generalize @imofV = imofV
  generalize @in16 = in16
  generalize @in64 = in64
  generalize @intRow = intRow
  generalize @modOk = modOk
  generalize @pxA = pxA
  generalize @pxI = pxI
  generalize @pxSame = pxSame
  generalize @raV = raV
  generalize @rcB = rcB
  generalize @reB = reB
  generalize @w2 = w2
  kernel_rfl
theorem t16m {a b : Int} (h : a ≤ b) : t16 a ≤ t16 b := by unfold t16; split <;> split <;> omega
theorem cv816 (x : Int) : cvV 8 16 x = t16 x := rfl
theorem cv168 (x : Int) : cvV 16 8 x = t8 x := rfl
theorem wn_all {m : Im} (g : imG m) (ok : imOk m = true) (al : imAll m 255 = true) : imCvE m 8 16 = 0 ∧ imAll (imCv m 8 16) 65535 = true := by
  have e := cv_err (s := 8) (t := 16) rfl rfl ok al
  have c := cv_good g e
  have f := (ok_iff.1 ok).1
  refine ⟨e, (imAll_iff (ok_iff.1 c.1.2.1).1).2 fun x y x0 x1 y0 y1 => ?_⟩
  rw [c.2.1] at x1
  rw [c.2.2.1] at y1
  have v := (imAll_iff f).1 al x y x0 x1 y0 y1
  unfold pxB at v ⊢
  have p := c.2.2.2
  rw [p 0 x y (by decide) x0 x1 y0 y1, p 1 x y (by decide) x0 x1 y0 y1, p 2 x y (by decide) x0 x1 y0 y1, p 3 x y (by decide) x0 x1 y0 y1, p 4 x y (by decide) x0 x1 y0 y1]
  simp only [cv816]
  obtain ⟨v0, v1, v2, v3, v4⟩ := pv_iff'.1 v
  have l := t16m v4
  exact pv_iff'.2 ⟨t16m v0, t16m v1, t16m v2, t16m v3, by have : t16 255 = 65535 := rfl; omega⟩
theorem wn_back {m : Im} (g : imG m) (ok : imOk m = true) (al : imAll m 255 = true) : imCvE (imCv m 8 16) 16 8 = 0 ∧ imG (imCv (imCv m 8 16) 16 8) ∧ imEq m (imCv (imCv m 8 16) 16 8) = true := by
  obtain ⟨e, al2⟩ := wn_all g ok al
  have c := cv_good g e
  have e2 := cv_err (s := 16) (t := 8) rfl rfl c.1.2.1 al2
  have d := cv_good c.1.1 e2
  have f := (ok_iff.1 ok).1
  refine ⟨e2, d.1.1, px_eq ⟨by rw [d.2.1, c.2.1], by rw [d.2.2.1, c.2.2.1], fun k x y hk x0 x1 y0 y1 => ?_⟩ ok d.1.2.1⟩
  rw [d.2.1] at x1
  rw [d.2.2.1] at y1
  rw [d.2.2.2 k x y hk x0 x1 y0 y1]
  rw [c.2.1] at x1
  rw [c.2.2.1] at y1
  rw [c.2.2.2 k x y hk x0 x1 y0 y1, cv816, cv168]
  have v := (imAll_iff f).1 al x y x0 x1 y0 y1
  obtain ⟨v0, v1, v2, v3, v4⟩ := pv_iff'.1 v
  have p := in16_iff.1 (px16 g (imIn_iff.2 ⟨ok, ⟨x0, x1⟩, y0, y1⟩) hk)
  have l : pxV m k x y ≤ 255 := by
    have hk' : k = 0 ∨ k = 1 ∨ k = 2 ∨ k = 3 ∨ k = 4 := by omega
    rcases hk' with rfl | rfl | rfl | rfl | rfl <;> omega
  unfold t16 t8
  rw [if_pos l]; omega
set_option linter.unusedVariables false in
theorem ImageWidensAndNarrows_core (pW pH pS pM : Int) (pn : Nat) (pq : Int → Nat → Int) (more : Int) (w0 : (Lit.int .i64 pW).wf = true) (w1 : (Lit.int .i64 pH).wf = true) (w2 : (Lit.int .i64 pS).wf = true) (w3 : (Lit.int .i64 pM).wf = true) (z0 : pn ≤ maxLen) (w4 : ∀ i j : Nat, i < pn → j < 5 → (Lit.int .i64 (pq i j)).wf = true) (w5 : (Lit.int .i64 more).wf = true) (w : World) {F : Nat → Prop} (hG : QR.Laid F w) (hF : ∀ k, F k → k < w.heap.size) (x0 : Value) (r0 : QR.Rep F w (.slc 5 ((pn : Nat) : Int) (.fn fun i j => .v (.int .i64 (pq i j)))) x0) :
    Calls Try.prog 8 #[.agg #[.int .i64 pW, .int .i64 pH, .int .i64 pS, .int .i64 pM, x0], .int .i64 more] w fun e w' => e = .returned (.bool true) ∧ Below w.heap.size w w' := by
  refine law_of_conc (O := o_law15) (QR.orc_cons a_iv (QR.orc_cons a_isol (QR.orc_cons a_iof (QR.orc_cons a_iat (QR.orc_cons a_ipxs (QR.orc_cons a_ieq (QR.orc_cons a_icv (QR.orc_cons a_irp (QR.orc_cons a_rval (QR.orc_cons a_risol (QR.orc_cons a_rio (QR.orc_cons a_riat (QR.orc_cons a_rpxs (QR.orc_cons a_rsp (QR.orc_cons a_rieq (QR.orc_cons a_risame (QR.orc_cons a_rcv (QR.orc_cons a_rrp (QR.orc_cons a_farea (QR.orc_cons a_fcont (QR.orc_cons (up a_gmax) (QR.orc_cons (up a_mod) (QR.orc_cons a_gps (QR.orc_cons a_gim (QR.orc_cons a_gst (QR.orc_cons a_gpart (QR.orc_cons a_grect (QR.orc_cons a_full15 (QR.orc_cons a_awake15 (QR.orc_cons a_cover15 QR.orc_nil)))))))))))))))))))))))))))))) mixed (QR.noLoops) Try.func8 (by kernel_rfl) (vs := [.agg #[.int .i64 pW, .int .i64 pH, .int .i64 pS, .int .i64 pM, x0], .int .i64 more]) (args := [.x (.agg [.v (.int .i64 pW), .v (.int .i64 pH), .v (.int .i64 pS), .v (.int .i64 pM), .slc 5 ((pn : Nat) : Int) (.fn fun i j => .v (.int .i64 (pq i j)))]), .x (.c (.v (.int .i64 more)))]) (by simp) ?_ w hG hF ⟨⟨[.int .i64 pW, .int .i64 pH, .int .i64 pS, .int .i64 pM, x0], rfl, ⟨.v rfl, .v rfl, .v rfl, .v rfl, r0, trivial⟩⟩, .v rfl, rfl⟩
  rw [ImageWidensAndNarrows_vc]
  have hn : ile 0 (pn : Int) = true := ile_t (by omega)
  simp only [forall_eq, true_and, and_true, irow1, irow5, iR_t, iQ_t, hn]
  have g := gim_good pW pH pS pM pn pq (x0 := 0) (y0 := 0) (x1 := 3) (y1 := 2) (t := 255) rfl rfl
  refine share_in fun mA eA => ?_
  refine share_in fun mB eB => ?_
  refine share_in fun mC eC => ?_
  rw [← eA] at g
  obtain ⟨r, gw, gh, al⟩ := g
  have w5 := gim_size (W := pW) (H := pH) (x0 := 0) (y0 := 0) (x1 := 3) (y1 := 2) rfl
  obtain ⟨s, sw, sh, sp⟩ := gst_good more r (by omega) (by omega)
  rw [← eB] at s sw sh sp
  have px : imPx mB mA := ⟨sw, sh, sp⟩
  have alB : imAll mB 255 = true := by rw [px_all px (ok_iff.1 r.2.1).1]; exact al
  obtain ⟨e1, alC⟩ := wn_all s.1 s.2.1 alB
  obtain ⟨e2, g2, q⟩ := wn_back s.1 s.2.1 alB
  have c := (cv_good s.1 e1).1
  rw [← eC] at c alC e2 g2 q
  have e3 := ime_good c.2.1 alC
  have k1 : in16 255 = true := rfl
  have k2 : gcv 0 0 3 2 = true := rfl
  simp [okAns, eqXs, eqX, eqo, eqLo, eqc, veq, eqUs, bcond_iff, r.1, r.2.1, s.1, c.1, e1, e2, e3, g2, q, k1, k2, ieq_rfl']
end Go.Proofs.Ytcckcifmhhaepaa
