/-
  The laws of layer 12 (group) without lists: each returns true for all arguments in their ranges.
-/
import Derived.Test.YtfjpilehoeendaaDoorLd
namespace Go.Proofs.YtfjpilehoeendaaDoor
open Go.RowKit PR QR
set_option linter.unusedVariables false
set_option linter.unusedSimpArgs false
set_option maxRecDepth 20000

theorem iimin_le (x y : Int) : iimin x y ≤ x ∧ iimin x y ≤ y := by unfold iimin; split <;> omega
/-- an accumulation of the generator -/
theorem ga_all (n3 n4 own t : Int) : (0 ≤ gaO n3 n4 own (gxMax t) ∧ gaO n3 n4 own (gxMax t) ≤ gpA n3 n4 (gxMax t) ∧ gaO n3 n4 own (gxMax t) ≤ gaF n4 own (gxMax t)) ∧ 0 ≤ gaF n4 own (gxMax t) ∧ gaF n4 own (gxMax t) ≤ gxMax t ∧ in16 (gaO n3 n4 own (gxMax t)) = true ∧ in16 (gaF n4 own (gxMax t)) = true := by
  have h := gx16 t
  have f := ga_fin n4 own h
  have i := iimin_in (gpA_in16 n3 n4 h) f
  have r := gsV_range own i
  have l := iimin_le (gpA n3 n4 (gxMax t)) (gaF n4 own (gxMax t))
  have ff := in16_iff.1 f
  have fm : gaF n4 own (gxMax t) ≤ gxMax t := by
    unfold gaF
    cases ieq (gmod own 4) 3
    · exact (gsV_range n4 h).2
    · exact (gsV_range _ h).2
  exact ⟨⟨r.1, Int.le_trans r.2 l.1, Int.le_trans r.2 l.2⟩, ff.1, fm, gsV_in16 _ i, f⟩
theorem va_no {c0 c1 c2 a own f k0 k1 k2 ka kf m : Int} (h : ¬ (c0 ≤ a ∧ c1 ≤ a ∧ c2 ≤ a ∧ own ≤ a ∧ own ≤ f ∧ a ≤ m ∧ f ≤ m ∧ k0 ≤ ka ∧ k1 ≤ ka ∧ k2 ≤ ka ∧ ka = kf ∧ ka ≤ m)) : vaB c0 c1 c2 a own f k0 k1 k2 ka kf m = false := by
  unfold vaB; rw [decide_eq_false h]; rfl
theorem bg_in {iso kn : Bool} {c k a ka m : Int} (c0 : 0 ≤ c) (c1 : c ≤ a) (k0 : 0 ≤ k) (k1 : k ≤ ka) (a1 : a ≤ m) (ka1 : ka ≤ m) : 0 ≤ bgV iso kn c k ∧ bgV iso kn c k ≤ bgV iso kn a ka ∧ bgV iso kn a ka ≤ m := by
  unfold bgV; cases iso <;> cases kn <;> simp <;> omega
/-- one element in normal mode in a group that begins -/
theorem gr_single {kn : Bool} {m s0 s1 s2 sa sf x0 x1 x2 xa : Int} (hm : m = 255 ∨ m = 65535) (p : (0 ≤ s0 ∧ s0 ≤ sa) ∧ (0 ≤ s1 ∧ s1 ≤ sa) ∧ (0 ≤ s2 ∧ s2 ≤ sa) ∧ (0 ≤ sa ∧ sa ≤ sf) ∧ sf ≤ m) (q : (0 ≤ x0 ∧ x0 ≤ xa) ∧ (0 ≤ x1 ∧ x1 ≤ xa) ∧ (0 ≤ x2 ∧ x2 ≤ xa) ∧ xa ≤ m) :
    gsOk kn 4 1 m s0 s1 s2 sa sf x0 x1 x2 xa 0 0 x0 x1 x2 xa xa = true ∧
    vaB (gsC kn 4 1 m s0 sa sf x0 xa x0 xa) (gsC kn 4 1 m s1 sa sf x1 xa x1 xa) (gsC kn 4 1 m s2 sa sf x2 xa x2 xa) (gsA kn 4 m sa sf xa xa) (gsO kn 4 m sa sf 0) (gsF 4 m sf 0) x0 x1 x2 xa xa m = true ∧
    (in16 (gsC kn 4 1 m s0 sa sf x0 xa x0 xa) = true ∧ in16 (gsC kn 4 1 m s1 sa sf x1 xa x1 xa) = true ∧ in16 (gsC kn 4 1 m s2 sa sf x2 xa x2 xa) = true ∧ in16 (gsA kn 4 m sa sf xa xa) = true ∧ in16 (gsO kn 4 m sa sf 0) = true ∧ in16 (gsF 4 m sf 0) = true) ∧
    (grV true (gsC kn 4 1 m s0 sa sf x0 xa x0 xa) x0 (gsO kn 4 m sa sf 0) m = s0 ∧ grV true (gsC kn 4 1 m s1 sa sf x1 xa x1 xa) x1 (gsO kn 4 m sa sf 0) m = s1 ∧ grV true (gsC kn 4 1 m s2 sa sf x2 xa x2 xa) x2 (gsO kn 4 m sa sf 0) m = s2 ∧ gsO kn 4 m sa sf 0 = sa ∧ gsF 4 m sf 0 = sf) := by
  have ok : gsOk kn 4 1 m s0 s1 s2 sa sf x0 x1 x2 xa 0 0 x0 x1 x2 xa xa = true := gs_iff.2 ⟨⟨by decide, by decide, fun _ => rfl⟩, ⟨p.1.2, p.2.1.2, p.2.2.1.2, p.2.2.2.1.2, p.2.2.2.2⟩, va_iff.2 ⟨⟨q.1.2, q.2.1.2, q.2.2.1.2, by omega, by omega, q.2.2.2, by omega⟩, ⟨q.1.2, q.2.1.2, q.2.2.1.2, rfl, q.2.2.2⟩, hm⟩⟩
  obtain ⟨⟨n0, n1, n2, n3⟩, va⟩ := gs_over ok ⟨p.1.1, p.2.1.1, p.2.2.1.1⟩ ⟨q.1.1, q.2.1.1, q.2.2.1.1, Int.le_refl 0⟩ ⟨q.1.1, q.2.1.1, q.2.2.1.1⟩
  obtain ⟨⟨v1, v2, v3, v4, v5, v6, v7⟩, _⟩ := va_iff.1 va
  obtain ⟨_, o0, f0, g0⟩ := gs_first (kn := kn) (b := xa) hm p.1.1 p.1.2 p.2.2.2.1.2 p.2.2.2.2 q.1.1 q.1.2 q.2.2.2
  obtain ⟨_, _, _, g1⟩ := gs_first (kn := kn) (b := xa) hm p.2.1.1 p.2.1.2 p.2.2.2.1.2 p.2.2.2.2 q.2.1.1 q.2.1.2 q.2.2.2
  obtain ⟨_, _, _, g2⟩ := gs_first (kn := kn) (b := xa) hm p.2.2.1.1 p.2.2.1.2 p.2.2.2.1.2 p.2.2.2.2 q.2.2.1.1 q.2.2.1.2 q.2.2.2
  have om : gsO kn 4 m sa sf 0 ≤ 65535 := by omega
  have i : ∀ x : Int, 0 ≤ x → x ≤ m → in16 x = true := fun x h h' => in16_iff.2 (by omega)
  refine ⟨ok, va, ⟨i _ n0 (by omega), i _ n1 (by omega), i _ n2 (by omega), i _ (by omega) v6, i _ n3 (by omega), i _ (by omega) v7⟩, ?_, ?_, ?_, o0, f0⟩
  · rw [gr_at n0 n3 om, g0]
  · rw [gr_at n1 n3 om, g1]
  · rw [gr_at n2 n3 om, g2]

theorem a_awake12 : Answers2 17 s_yes8 := by
  intro al ans h hq
  unfold s_yes8 at h
  split at h <;> try (simp at h; done)
  skip
  simp only [Option.some.injEq] at h
  subst h
  have hq := asked hq
  refine QR.does_of_eval (O := o_aw12) (QR.orc_cons a_gbegin (QR.orc_cons a_gstep (QR.orc_cons a_gres QR.orc_nil))) mixed (QR.noLoops) Tryd.func17 (by kernel_rfl) (by kernel_rfl) (by simp) ?_
  rw [awake12_vc]
  obtain ⟨ok, va, ⟨i0, i1, i2, i3, i4, i5⟩, r0, r1, r2, r3, r4⟩ := gr_single (kn := false) (m := 255) (s0 := 5) (s1 := 6) (s2 := 7) (sa := 255) (sf := 255) (x0 := 90) (x1 := 0) (x2 := 0) (xa := 100) (by decide) (by decide) (by decide)
  have b : ∀ c k, bgV false false c k = c := fun _ _ => rfl
  have i : ∀ x : Int, 0 ≤ x → x < 65536 → in16 x = true := fun x h k => in16_iff.2 ⟨h, k⟩
  have e : ∀ x y : Int, ieq x x = true := fun x y => ieq_rfl' x
  have j5 : in16 5 = true := rfl
  simp only [okAns, eqXs, eqX, eqo, eqLo, eqc, veq, eqUs, bcond_iff, forall_eq, true_and, and_true, b, ok, bz_t, va, i0, i1, i2, i3, i4, i5, r0, r1, r2]
  simp [i, ieq, band, r3, r4, bz_t]

set_option linter.unusedVariables false in
theorem GroupBeginAgrees_core (iso kn : Bool) (n0 n1 n2 n3 n4 b0 b1 b2 b3 b4 own m c0 c1 c2 ca co cf k0 k1 k2 ka kf t : Int) (w0 : (Lit.int .i64 n0).wf = true) (w1 : (Lit.int .i64 n1).wf = true) (w2 : (Lit.int .i64 n2).wf = true) (w3 : (Lit.int .i64 n3).wf = true) (w4 : (Lit.int .i64 n4).wf = true) (w5 : (Lit.int .i64 b0).wf = true) (w6 : (Lit.int .i64 b1).wf = true) (w7 : (Lit.int .i64 b2).wf = true) (w8 : (Lit.int .i64 b3).wf = true) (w9 : (Lit.int .i64 b4).wf = true) (w10 : (Lit.int .i64 own).wf = true) (w11 : (Lit.int .i64 m).wf = true) (w12 : (Lit.int .u16 c0).wf = true) (w13 : (Lit.int .u16 c1).wf = true) (w14 : (Lit.int .u16 c2).wf = true) (w15 : (Lit.int .u16 ca).wf = true) (w16 : (Lit.int .u16 co).wf = true) (w17 : (Lit.int .u16 cf).wf = true) (w18 : (Lit.int .u16 k0).wf = true) (w19 : (Lit.int .u16 k1).wf = true) (w20 : (Lit.int .u16 k2).wf = true) (w21 : (Lit.int .u16 ka).wf = true) (w22 : (Lit.int .u16 kf).wf = true) (w23 : (Lit.int .u16 t).wf = true) (w : World) {F : Nat → Prop} (hG : QR.Laid F w) (hF : ∀ k, F k → k < w.heap.size) :
    Calls Tryd.prog 3 #[.bool iso, .bool kn, .agg #[.int .i64 n0, .int .i64 n1, .int .i64 n2, .int .i64 n3, .int .i64 n4], .agg #[.int .i64 b0, .int .i64 b1, .int .i64 b2, .int .i64 b3, .int .i64 b4], .int .i64 own, .int .i64 m, .agg #[.int .u16 c0, .int .u16 c1, .int .u16 c2, .int .u16 ca, .int .u16 co, .int .u16 cf], .agg #[.int .u16 k0, .int .u16 k1, .int .u16 k2, .int .u16 ka, .int .u16 kf], .int .u16 t] w fun e w' => e = .returned (.bool true) ∧ Below w.heap.size w w' := by
  refine law_of_eval (O := o_law12) (QR.orc_cons (up a_gmax) (QR.orc_cons (up a_mod) (QR.orc_cons (up a_gpixel) (QR.orc_cons a_gaccum (QR.orc_cons a_gback (QR.orc_cons (up a_rpvalid) (QR.orc_cons a_gva (QR.orc_cons a_gbegin (QR.orc_cons a_gstep (QR.orc_cons a_gres (QR.orc_cons a_rva (QR.orc_cons a_rbegin (QR.orc_cons a_rgstep (QR.orc_cons a_rgres (QR.orc_cons a_awake12 QR.orc_nil))))))))))))))) mixed (QR.noLoops) Tryd.func3 (by kernel_rfl) (vs := [.bool iso, .bool kn, .agg #[.int .i64 n0, .int .i64 n1, .int .i64 n2, .int .i64 n3, .int .i64 n4], .agg #[.int .i64 b0, .int .i64 b1, .int .i64 b2, .int .i64 b3, .int .i64 b4], .int .i64 own, .int .i64 m, .agg #[.int .u16 c0, .int .u16 c1, .int .u16 c2, .int .u16 ca, .int .u16 co, .int .u16 cf], .agg #[.int .u16 k0, .int .u16 k1, .int .u16 k2, .int .u16 ka, .int .u16 kf], .int .u16 t]) (xs := [.c (.v (.bool iso)), .c (.v (.bool kn)), .agg [.v (.int .i64 n0), .v (.int .i64 n1), .v (.int .i64 n2), .v (.int .i64 n3), .v (.int .i64 n4)], .agg [.v (.int .i64 b0), .v (.int .i64 b1), .v (.int .i64 b2), .v (.int .i64 b3), .v (.int .i64 b4)], .c (.v (.int .i64 own)), .c (.v (.int .i64 m)), .agg [.v (.int .u16 c0), .v (.int .u16 c1), .v (.int .u16 c2), .v (.int .u16 ca), .v (.int .u16 co), .v (.int .u16 cf)], .agg [.v (.int .u16 k0), .v (.int .u16 k1), .v (.int .u16 k2), .v (.int .u16 ka), .v (.int .u16 kf)], .c (.v (.int .u16 t))]) (args := [.x (.c (.v (.bool iso))), .x (.c (.v (.bool kn))), .x (.agg [.v (.int .i64 n0), .v (.int .i64 n1), .v (.int .i64 n2), .v (.int .i64 n3), .v (.int .i64 n4)]), .x (.agg [.v (.int .i64 b0), .v (.int .i64 b1), .v (.int .i64 b2), .v (.int .i64 b3), .v (.int .i64 b4)]), .x (.c (.v (.int .i64 own))), .x (.c (.v (.int .i64 m))), .x (.agg [.v (.int .u16 c0), .v (.int .u16 c1), .v (.int .u16 c2), .v (.int .u16 ca), .v (.int .u16 co), .v (.int .u16 cf)]), .x (.agg [.v (.int .u16 k0), .v (.int .u16 k1), .v (.int .u16 k2), .v (.int .u16 ka), .v (.int .u16 kf)]), .x (.c (.v (.int .u16 t)))]) rfl rfl (by simp) ?_ w hG hF
  rw [GroupBeginAgrees_vc]
  have gm := gx16 m
  have hM := gxMax_cases m
  have i0 : in16 0 = true := rfl
  have pn := gp_all n0 n1 n2 n3 n4 m
  have po := ga_all n3 n4 own m
  have in0 := gpC_in16 n0 n3 n4 gm
  have in1 := gpC_in16 n1 n3 n4 gm
  have in2 := gpC_in16 n2 n3 n4 gm
  have in3 := gpA_in16 n3 n4 gm
  have in4 := po.2.2.2.1
  have in5 := po.2.2.2.2
  have pb := gp_all b0 b1 b2 b3 b4 m
  have ib0 := gpC_in16 b0 b3 b4 gm
  have ib1 := gpC_in16 b1 b3 b4 gm
  have ib2 := gpC_in16 b2 b3 b4 gm
  have ib3 := gpA_in16 b3 b4 gm
  simp only [okAns, eqXs, eqX, eqo, eqLo, eqc, veq, eqUs, forall_eq, true_and, and_true, gm, i0, in0, in1, in2, in3, in4, in5, ib0, ib1, ib2, ib3]
  generalize gpC n0 n3 n4 (gxMax m) = x0 at *
  generalize gpC n1 n3 n4 (gxMax m) = x1 at *
  generalize gpC n2 n3 n4 (gxMax m) = x2 at *
  generalize gpA n3 n4 (gxMax m) = xa at *
  generalize gaO n3 n4 own (gxMax m) = xo at *
  generalize gaF n4 own (gxMax m) = xf at *
  generalize gpF n4 (gxMax m) = xg at *
  generalize gpC b0 b3 b4 (gxMax m) = y0 at *
  generalize gpC b1 b3 b4 (gxMax m) = y1 at *
  generalize gpC b2 b3 b4 (gxMax m) = y2 at *
  generalize gpA b3 b4 (gxMax m) = ya at *
  generalize gpF b4 (gxMax m) = yg at *
  generalize gxMax m = M at *
  have v1 : vaB x0 x1 x2 xa xo xf y0 y1 y2 ya ya M = true := va_iff.2 ⟨⟨pn.1.2, pn.2.1.2, pn.2.2.1.2, po.1.2.1, po.1.2.2, by omega, po.2.2.1⟩, ⟨pb.1.2, pb.2.1.2, pb.2.2.1.2, rfl, by omega⟩, hM⟩
  have b0 := bg_in (iso := iso) (kn := kn) pn.1.1 pn.1.2 pb.1.1 pb.1.2 (show xa ≤ M by omega) (show ya ≤ M by omega)
  have b1 := bg_in (iso := iso) (kn := kn) pn.2.1.1 pn.2.1.2 pb.2.1.1 pb.2.1.2 (show xa ≤ M by omega) (show ya ≤ M by omega)
  have b2 := bg_in (iso := iso) (kn := kn) pn.2.2.1.1 pn.2.2.1.2 pb.2.2.1.1 pb.2.2.1.2 (show xa ≤ M by omega) (show ya ≤ M by omega)
  generalize bgV iso kn x0 y0 = z0 at *
  generalize bgV iso kn x1 y1 = z1 at *
  generalize bgV iso kn x2 y2 = z2 at *
  generalize bgV iso kn xa ya = za at *
  have j0 : in16 z0 = true := in16_iff.2 (by omega)
  have j1 : in16 z1 = true := in16_iff.2 (by omega)
  have j2 : in16 z2 = true := in16_iff.2 (by omega)
  have j3 : in16 za = true := in16_iff.2 (by omega)
  have v2 : vaB z0 z1 z2 za 0 0 z0 z1 z2 za za M = true := va_iff.2 ⟨⟨b0.2.1, b1.2.1, b2.2.1, by omega, by omega, by omega, by omega⟩, ⟨b0.2.1, b1.2.1, b2.2.1, rfl, by omega⟩, hM⟩
  simp [bcond_iff, v1, v2, ieq_rfl', beq_rfl', band, bnot]

set_option linter.unusedVariables false in
theorem GroupValidNeedsEachField_core (n0 n1 n2 n3 n4 b0 b1 b2 b3 b4 own m wh : Int) (w0 : (Lit.int .i64 n0).wf = true) (w1 : (Lit.int .i64 n1).wf = true) (w2 : (Lit.int .i64 n2).wf = true) (w3 : (Lit.int .i64 n3).wf = true) (w4 : (Lit.int .i64 n4).wf = true) (w5 : (Lit.int .i64 b0).wf = true) (w6 : (Lit.int .i64 b1).wf = true) (w7 : (Lit.int .i64 b2).wf = true) (w8 : (Lit.int .i64 b3).wf = true) (w9 : (Lit.int .i64 b4).wf = true) (w10 : (Lit.int .i64 own).wf = true) (w11 : (Lit.int .i64 m).wf = true) (w12 : (Lit.int .i64 wh).wf = true) (w : World) {F : Nat → Prop} (hG : QR.Laid F w) (hF : ∀ k, F k → k < w.heap.size) :
    Calls Tryd.prog 4 #[.agg #[.int .i64 n0, .int .i64 n1, .int .i64 n2, .int .i64 n3, .int .i64 n4], .agg #[.int .i64 b0, .int .i64 b1, .int .i64 b2, .int .i64 b3, .int .i64 b4], .int .i64 own, .int .i64 m, .int .i64 wh] w fun e w' => e = .returned (.bool true) ∧ Below w.heap.size w w' := by
  refine law_of_eval (O := o_law12) (QR.orc_cons (up a_gmax) (QR.orc_cons (up a_mod) (QR.orc_cons (up a_gpixel) (QR.orc_cons a_gaccum (QR.orc_cons a_gback (QR.orc_cons (up a_rpvalid) (QR.orc_cons a_gva (QR.orc_cons a_gbegin (QR.orc_cons a_gstep (QR.orc_cons a_gres (QR.orc_cons a_rva (QR.orc_cons a_rbegin (QR.orc_cons a_rgstep (QR.orc_cons a_rgres (QR.orc_cons a_awake12 QR.orc_nil))))))))))))))) mixed (QR.noLoops) Tryd.func4 (by kernel_rfl) (vs := [.agg #[.int .i64 n0, .int .i64 n1, .int .i64 n2, .int .i64 n3, .int .i64 n4], .agg #[.int .i64 b0, .int .i64 b1, .int .i64 b2, .int .i64 b3, .int .i64 b4], .int .i64 own, .int .i64 m, .int .i64 wh]) (xs := [.agg [.v (.int .i64 n0), .v (.int .i64 n1), .v (.int .i64 n2), .v (.int .i64 n3), .v (.int .i64 n4)], .agg [.v (.int .i64 b0), .v (.int .i64 b1), .v (.int .i64 b2), .v (.int .i64 b3), .v (.int .i64 b4)], .c (.v (.int .i64 own)), .c (.v (.int .i64 m)), .c (.v (.int .i64 wh))]) (args := [.x (.agg [.v (.int .i64 n0), .v (.int .i64 n1), .v (.int .i64 n2), .v (.int .i64 n3), .v (.int .i64 n4)]), .x (.agg [.v (.int .i64 b0), .v (.int .i64 b1), .v (.int .i64 b2), .v (.int .i64 b3), .v (.int .i64 b4)]), .x (.c (.v (.int .i64 own))), .x (.c (.v (.int .i64 m))), .x (.c (.v (.int .i64 wh)))]) rfl rfl (by simp) ?_ w hG hF
  rw [GroupValidNeedsEachField_vc]
  have gm := gx16 m
  have hM := gxMax_cases m
  have i0 : in16 0 = true := rfl
  have pn := gp_all n0 n1 n2 n3 n4 m
  have po := ga_all n3 n4 own m
  have in0 := gpC_in16 n0 n3 n4 gm
  have in1 := gpC_in16 n1 n3 n4 gm
  have in2 := gpC_in16 n2 n3 n4 gm
  have in3 := gpA_in16 n3 n4 gm
  have in4 := po.2.2.2.1
  have in5 := po.2.2.2.2
  have pb := gp_all b0 b1 b2 b3 b4 m
  have ib0 := gpC_in16 b0 b3 b4 gm
  have ib1 := gpC_in16 b1 b3 b4 gm
  have ib2 := gpC_in16 b2 b3 b4 gm
  have ib3 := gpA_in16 b3 b4 gm
  have k6 : modOk 6 = true := rfl
  have k3 : modOk 3 = true := rfl
  have r3 := gmod_range wh (k := 6) (by decide)
  have r4 := gmod_range (iquo .i64 wh 6) (k := 3) (by decide)
  simp only [okAns, eqXs, eqX, eqo, eqLo, eqc, veq, eqUs, forall_eq, true_and, and_true, gm, i0, in0, in1, in2, in3, in4, in5, ib0, ib1, ib2, ib3, k6, k3]
  generalize gpC n0 n3 n4 (gxMax m) = x0 at *
  generalize gpC n1 n3 n4 (gxMax m) = x1 at *
  generalize gpC n2 n3 n4 (gxMax m) = x2 at *
  generalize gpA n3 n4 (gxMax m) = xa at *
  generalize gaO n3 n4 own (gxMax m) = xo at *
  generalize gaF n4 own (gxMax m) = xf at *
  generalize gpF n4 (gxMax m) = xg at *
  generalize gpC b0 b3 b4 (gxMax m) = y0 at *
  generalize gpC b1 b3 b4 (gxMax m) = y1 at *
  generalize gpC b2 b3 b4 (gxMax m) = y2 at *
  generalize gpA b3 b4 (gxMax m) = ya at *
  generalize gpF b4 (gxMax m) = yg at *
  generalize gmod wh 6 = t at *
  generalize gmod (iquo .i64 wh 6) 3 = t2 at *
  generalize gxMax m = M at *
  have c : t = 0 ∨ t = 1 ∨ t = 2 ∨ t = 3 ∨ t = 4 ∨ t = 5 := by omega
  have hx := in16_iff.1 in3
  have hy := in16_iff.1 ib3
  rcases c with rfl | rfl | rfl | rfl | rfl | rfl
  · have c2 : t2 = 0 ∨ t2 = 1 ∨ t2 = 2 := by omega
    by_cases z : xa = 65535
    · subst z
      rcases c2 with rfl | rfl | rfl <;> simp [bcond_iff, ieq, bnot] <;> exact va_no (by omega)
    · have e : iadd .u16 xa 1 = xa + 1 := by unfold iadd; rw [IntKind.wrap_u16]; omega
      rcases c2 with rfl | rfl | rfl <;> simp [bcond_iff, ieq, bnot, z, e] <;> exact va_no (by omega)
  · have l := iimin_le xa (isub .u16 M 1)
    have e1 : isub .u16 M 1 = M - 1 := by unfold isub; rw [IntKind.wrap_u16]; omega
    rw [e1] at l ⊢
    have l0 : 0 ≤ iimin xa (M - 1) := by unfold iimin; split <;> omega
    have e : iadd .u16 (iimin xa (M - 1)) 1 = iimin xa (M - 1) + 1 := by unfold iadd; rw [IntKind.wrap_u16]; omega
    simp [bcond_iff, ieq, bnot, e]
    exact va_no (by omega)
  · simp [bcond_iff, ieq, bnot]; exact va_no (by omega)
  · by_cases z : ya = 65535
    · subst z
      simp [bcond_iff, ieq, bnot]; exact va_no (by omega)
    · have e : iadd .u16 ya 1 = ya + 1 := by unfold iadd; rw [IntKind.wrap_u16]; omega
      simp [bcond_iff, ieq, bnot, z, e]; exact va_no (by omega)
  · by_cases z : ya = 65535
    · subst z
      simp [bcond_iff, ieq, bnot]; exact va_no (by omega)
    · have e : iadd .u16 ya 1 = ya + 1 := by unfold iadd; rw [IntKind.wrap_u16]; omega
      simp [bcond_iff, ieq, bnot, z, e]; exact va_no (by omega)
  · have e : vaB x0 x1 x2 xa xo xf y0 y1 y2 ya ya 254 = false := by unfold vaB; rw [show fullB 254 = false from rfl, Bool.and_false]
    simp [bcond_iff, ieq, bnot, e]

set_option linter.unusedVariables false in
theorem GroupStepAgrees_core (kn : Bool) (op mode a0 a1 a2 a3 a4 n0 n1 n2 n3 n4 b0 b1 b2 b3 b4 own m : Int) (w0 : (Lit.int .i64 op).wf = true) (w1 : (Lit.int .i64 mode).wf = true) (w2 : (Lit.int .i64 a0).wf = true) (w3 : (Lit.int .i64 a1).wf = true) (w4 : (Lit.int .i64 a2).wf = true) (w5 : (Lit.int .i64 a3).wf = true) (w6 : (Lit.int .i64 a4).wf = true) (w7 : (Lit.int .i64 n0).wf = true) (w8 : (Lit.int .i64 n1).wf = true) (w9 : (Lit.int .i64 n2).wf = true) (w10 : (Lit.int .i64 n3).wf = true) (w11 : (Lit.int .i64 n4).wf = true) (w12 : (Lit.int .i64 b0).wf = true) (w13 : (Lit.int .i64 b1).wf = true) (w14 : (Lit.int .i64 b2).wf = true) (w15 : (Lit.int .i64 b3).wf = true) (w16 : (Lit.int .i64 b4).wf = true) (w17 : (Lit.int .i64 own).wf = true) (w18 : (Lit.int .i64 m).wf = true) (w : World) {F : Nat → Prop} (hG : QR.Laid F w) (hF : ∀ k, F k → k < w.heap.size) :
    Calls Tryd.prog 5 #[.bool kn, .int .i64 op, .int .i64 mode, .agg #[.int .i64 a0, .int .i64 a1, .int .i64 a2, .int .i64 a3, .int .i64 a4], .agg #[.int .i64 n0, .int .i64 n1, .int .i64 n2, .int .i64 n3, .int .i64 n4], .agg #[.int .i64 b0, .int .i64 b1, .int .i64 b2, .int .i64 b3, .int .i64 b4], .int .i64 own, .int .i64 m] w fun e w' => e = .returned (.bool true) ∧ Below w.heap.size w w' := by
  refine law_of_eval (O := o_law12) (QR.orc_cons (up a_gmax) (QR.orc_cons (up a_mod) (QR.orc_cons (up a_gpixel) (QR.orc_cons a_gaccum (QR.orc_cons a_gback (QR.orc_cons (up a_rpvalid) (QR.orc_cons a_gva (QR.orc_cons a_gbegin (QR.orc_cons a_gstep (QR.orc_cons a_gres (QR.orc_cons a_rva (QR.orc_cons a_rbegin (QR.orc_cons a_rgstep (QR.orc_cons a_rgres (QR.orc_cons a_awake12 QR.orc_nil))))))))))))))) mixed (QR.noLoops) Tryd.func5 (by kernel_rfl) (vs := [.bool kn, .int .i64 op, .int .i64 mode, .agg #[.int .i64 a0, .int .i64 a1, .int .i64 a2, .int .i64 a3, .int .i64 a4], .agg #[.int .i64 n0, .int .i64 n1, .int .i64 n2, .int .i64 n3, .int .i64 n4], .agg #[.int .i64 b0, .int .i64 b1, .int .i64 b2, .int .i64 b3, .int .i64 b4], .int .i64 own, .int .i64 m]) (xs := [.c (.v (.bool kn)), .c (.v (.int .i64 op)), .c (.v (.int .i64 mode)), .agg [.v (.int .i64 a0), .v (.int .i64 a1), .v (.int .i64 a2), .v (.int .i64 a3), .v (.int .i64 a4)], .agg [.v (.int .i64 n0), .v (.int .i64 n1), .v (.int .i64 n2), .v (.int .i64 n3), .v (.int .i64 n4)], .agg [.v (.int .i64 b0), .v (.int .i64 b1), .v (.int .i64 b2), .v (.int .i64 b3), .v (.int .i64 b4)], .c (.v (.int .i64 own)), .c (.v (.int .i64 m))]) (args := [.x (.c (.v (.bool kn))), .x (.c (.v (.int .i64 op))), .x (.c (.v (.int .i64 mode))), .x (.agg [.v (.int .i64 a0), .v (.int .i64 a1), .v (.int .i64 a2), .v (.int .i64 a3), .v (.int .i64 a4)]), .x (.agg [.v (.int .i64 n0), .v (.int .i64 n1), .v (.int .i64 n2), .v (.int .i64 n3), .v (.int .i64 n4)]), .x (.agg [.v (.int .i64 b0), .v (.int .i64 b1), .v (.int .i64 b2), .v (.int .i64 b3), .v (.int .i64 b4)]), .x (.c (.v (.int .i64 own))), .x (.c (.v (.int .i64 m)))]) rfl rfl (by simp) ?_ w hG hF
  rw [GroupStepAgrees_vc]
  have gm := gx16 m
  have hM := gxMax_cases m
  have i0 : in16 0 = true := rfl
  have pa := gp_all a0 a1 a2 a3 a4 m
  have ia0 := gpC_in16 a0 a3 a4 gm
  have ia1 := gpC_in16 a1 a3 a4 gm
  have ia2 := gpC_in16 a2 a3 a4 gm
  have ia3 := gpA_in16 a3 a4 gm
  have ia4 := gpF_in16 a4 gm
  have pn := gp_all n0 n1 n2 n3 n4 m
  have po := ga_all n3 n4 own m
  have in0 := gpC_in16 n0 n3 n4 gm
  have in1 := gpC_in16 n1 n3 n4 gm
  have in2 := gpC_in16 n2 n3 n4 gm
  have in3 := gpA_in16 n3 n4 gm
  have in4 := po.2.2.2.1
  have in5 := po.2.2.2.2
  have pb := gp_all b0 b1 b2 b3 b4 m
  have ib0 := gpC_in16 b0 b3 b4 gm
  have ib1 := gpC_in16 b1 b3 b4 gm
  have ib2 := gpC_in16 b2 b3 b4 gm
  have ib3 := gpA_in16 b3 b4 gm
  have k14 : modOk 14 = true := rfl
  have k2 : modOk 2 = true := rfl
  simp only [okAns, eqXs, eqX, eqo, eqLo, eqc, veq, eqUs, forall_eq, true_and, and_true, gm, i0, ia0, ia1, ia2, ia3, ia4, in0, in1, in2, in3, in4, in5, ib0, ib1, ib2, ib3, k14, k2, bcond_iff, ieq_rfl', beq_rfl', band]
  simp

set_option linter.unusedVariables false in
theorem GroupRejects_core (kn : Bool) (op mode s0 s1 s2 sa sf c0 c1 c2 ca co cf k0 k1 k2 ka kf t n0 n1 n2 n3 n4 own : Int) (w0 : (Lit.int .i64 op).wf = true) (w1 : (Lit.int .i64 mode).wf = true) (w2 : (Lit.int .u16 s0).wf = true) (w3 : (Lit.int .u16 s1).wf = true) (w4 : (Lit.int .u16 s2).wf = true) (w5 : (Lit.int .u16 sa).wf = true) (w6 : (Lit.int .u16 sf).wf = true) (w7 : (Lit.int .u16 c0).wf = true) (w8 : (Lit.int .u16 c1).wf = true) (w9 : (Lit.int .u16 c2).wf = true) (w10 : (Lit.int .u16 ca).wf = true) (w11 : (Lit.int .u16 co).wf = true) (w12 : (Lit.int .u16 cf).wf = true) (w13 : (Lit.int .u16 k0).wf = true) (w14 : (Lit.int .u16 k1).wf = true) (w15 : (Lit.int .u16 k2).wf = true) (w16 : (Lit.int .u16 ka).wf = true) (w17 : (Lit.int .u16 kf).wf = true) (w18 : (Lit.int .u16 t).wf = true) (w19 : (Lit.int .i64 n0).wf = true) (w20 : (Lit.int .i64 n1).wf = true) (w21 : (Lit.int .i64 n2).wf = true) (w22 : (Lit.int .i64 n3).wf = true) (w23 : (Lit.int .i64 n4).wf = true) (w24 : (Lit.int .i64 own).wf = true) (w : World) {F : Nat → Prop} (hG : QR.Laid F w) (hF : ∀ k, F k → k < w.heap.size) :
    Calls Tryd.prog 6 #[.bool kn, .int .i64 op, .int .i64 mode, .agg #[.int .u16 s0, .int .u16 s1, .int .u16 s2, .int .u16 sa, .int .u16 sf], .agg #[.int .u16 c0, .int .u16 c1, .int .u16 c2, .int .u16 ca, .int .u16 co, .int .u16 cf], .agg #[.int .u16 k0, .int .u16 k1, .int .u16 k2, .int .u16 ka, .int .u16 kf], .int .u16 t, .agg #[.int .i64 n0, .int .i64 n1, .int .i64 n2, .int .i64 n3, .int .i64 n4], .int .i64 own] w fun e w' => e = .returned (.bool true) ∧ Below w.heap.size w w' := by
  refine law_of_eval (O := o_law12) (QR.orc_cons (up a_gmax) (QR.orc_cons (up a_mod) (QR.orc_cons (up a_gpixel) (QR.orc_cons a_gaccum (QR.orc_cons a_gback (QR.orc_cons (up a_rpvalid) (QR.orc_cons a_gva (QR.orc_cons a_gbegin (QR.orc_cons a_gstep (QR.orc_cons a_gres (QR.orc_cons a_rva (QR.orc_cons a_rbegin (QR.orc_cons a_rgstep (QR.orc_cons a_rgres (QR.orc_cons a_awake12 QR.orc_nil))))))))))))))) mixed (QR.noLoops) Tryd.func6 (by kernel_rfl) (vs := [.bool kn, .int .i64 op, .int .i64 mode, .agg #[.int .u16 s0, .int .u16 s1, .int .u16 s2, .int .u16 sa, .int .u16 sf], .agg #[.int .u16 c0, .int .u16 c1, .int .u16 c2, .int .u16 ca, .int .u16 co, .int .u16 cf], .agg #[.int .u16 k0, .int .u16 k1, .int .u16 k2, .int .u16 ka, .int .u16 kf], .int .u16 t, .agg #[.int .i64 n0, .int .i64 n1, .int .i64 n2, .int .i64 n3, .int .i64 n4], .int .i64 own]) (xs := [.c (.v (.bool kn)), .c (.v (.int .i64 op)), .c (.v (.int .i64 mode)), .agg [.v (.int .u16 s0), .v (.int .u16 s1), .v (.int .u16 s2), .v (.int .u16 sa), .v (.int .u16 sf)], .agg [.v (.int .u16 c0), .v (.int .u16 c1), .v (.int .u16 c2), .v (.int .u16 ca), .v (.int .u16 co), .v (.int .u16 cf)], .agg [.v (.int .u16 k0), .v (.int .u16 k1), .v (.int .u16 k2), .v (.int .u16 ka), .v (.int .u16 kf)], .c (.v (.int .u16 t)), .agg [.v (.int .i64 n0), .v (.int .i64 n1), .v (.int .i64 n2), .v (.int .i64 n3), .v (.int .i64 n4)], .c (.v (.int .i64 own))]) (args := [.x (.c (.v (.bool kn))), .x (.c (.v (.int .i64 op))), .x (.c (.v (.int .i64 mode))), .x (.agg [.v (.int .u16 s0), .v (.int .u16 s1), .v (.int .u16 s2), .v (.int .u16 sa), .v (.int .u16 sf)]), .x (.agg [.v (.int .u16 c0), .v (.int .u16 c1), .v (.int .u16 c2), .v (.int .u16 ca), .v (.int .u16 co), .v (.int .u16 cf)]), .x (.agg [.v (.int .u16 k0), .v (.int .u16 k1), .v (.int .u16 k2), .v (.int .u16 ka), .v (.int .u16 kf)]), .x (.c (.v (.int .u16 t))), .x (.agg [.v (.int .i64 n0), .v (.int .i64 n1), .v (.int .i64 n2), .v (.int .i64 n3), .v (.int .i64 n4)]), .x (.c (.v (.int .i64 own)))]) rfl rfl (by simp) ?_ w hG hF
  rw [GroupRejects_vc]
  have k14 : modOk 14 = true := rfl
  have gm := gx16 (iconv .i64 t)
  have po := ga_all n3 n4 own (iconv .i64 t)
  have in0 := gpC_in16 n0 n3 n4 gm
  have in1 := gpC_in16 n1 n3 n4 gm
  have in2 := gpC_in16 n2 n3 n4 gm
  have in3 := gpA_in16 n3 n4 gm
  have in4 := po.2.2.2.1
  have in5 := po.2.2.2.2
  simp [okAns, eqXs, eqX, eqo, eqLo, eqc, veq, eqUs, bcond_iff, gm, k14, ieq_rfl', beq_rfl', band, in0, in1, in2, in3, in4, in5, wf16 w2, wf16 w3, wf16 w4, wf16 w5, wf16 w6, wf16 w7, wf16 w8, wf16 w9, wf16 w10, wf16 w11, wf16 w12, wf16 w13, wf16 w14, wf16 w15, wf16 w16, wf16 w17, wf16 w18]

set_option linter.unusedVariables false in
theorem GroupResultAgrees_core (n0 n1 n2 n3 n4 b0 b1 b2 b3 b4 own m : Int) (w0 : (Lit.int .i64 n0).wf = true) (w1 : (Lit.int .i64 n1).wf = true) (w2 : (Lit.int .i64 n2).wf = true) (w3 : (Lit.int .i64 n3).wf = true) (w4 : (Lit.int .i64 n4).wf = true) (w5 : (Lit.int .i64 b0).wf = true) (w6 : (Lit.int .i64 b1).wf = true) (w7 : (Lit.int .i64 b2).wf = true) (w8 : (Lit.int .i64 b3).wf = true) (w9 : (Lit.int .i64 b4).wf = true) (w10 : (Lit.int .i64 own).wf = true) (w11 : (Lit.int .i64 m).wf = true) (w : World) {F : Nat → Prop} (hG : QR.Laid F w) (hF : ∀ k, F k → k < w.heap.size) :
    Calls Tryd.prog 7 #[.agg #[.int .i64 n0, .int .i64 n1, .int .i64 n2, .int .i64 n3, .int .i64 n4], .agg #[.int .i64 b0, .int .i64 b1, .int .i64 b2, .int .i64 b3, .int .i64 b4], .int .i64 own, .int .i64 m] w fun e w' => e = .returned (.bool true) ∧ Below w.heap.size w w' := by
  refine law_of_eval (O := o_law12) (QR.orc_cons (up a_gmax) (QR.orc_cons (up a_mod) (QR.orc_cons (up a_gpixel) (QR.orc_cons a_gaccum (QR.orc_cons a_gback (QR.orc_cons (up a_rpvalid) (QR.orc_cons a_gva (QR.orc_cons a_gbegin (QR.orc_cons a_gstep (QR.orc_cons a_gres (QR.orc_cons a_rva (QR.orc_cons a_rbegin (QR.orc_cons a_rgstep (QR.orc_cons a_rgres (QR.orc_cons a_awake12 QR.orc_nil))))))))))))))) mixed (QR.noLoops) Tryd.func7 (by kernel_rfl) (vs := [.agg #[.int .i64 n0, .int .i64 n1, .int .i64 n2, .int .i64 n3, .int .i64 n4], .agg #[.int .i64 b0, .int .i64 b1, .int .i64 b2, .int .i64 b3, .int .i64 b4], .int .i64 own, .int .i64 m]) (xs := [.agg [.v (.int .i64 n0), .v (.int .i64 n1), .v (.int .i64 n2), .v (.int .i64 n3), .v (.int .i64 n4)], .agg [.v (.int .i64 b0), .v (.int .i64 b1), .v (.int .i64 b2), .v (.int .i64 b3), .v (.int .i64 b4)], .c (.v (.int .i64 own)), .c (.v (.int .i64 m))]) (args := [.x (.agg [.v (.int .i64 n0), .v (.int .i64 n1), .v (.int .i64 n2), .v (.int .i64 n3), .v (.int .i64 n4)]), .x (.agg [.v (.int .i64 b0), .v (.int .i64 b1), .v (.int .i64 b2), .v (.int .i64 b3), .v (.int .i64 b4)]), .x (.c (.v (.int .i64 own))), .x (.c (.v (.int .i64 m)))]) rfl rfl (by simp) ?_ w hG hF
  rw [GroupResultAgrees_vc]
  have gm := gx16 m
  have hM := gxMax_cases m
  have i0 : in16 0 = true := rfl
  have pn := gp_all n0 n1 n2 n3 n4 m
  have po := ga_all n3 n4 own m
  have in0 := gpC_in16 n0 n3 n4 gm
  have in1 := gpC_in16 n1 n3 n4 gm
  have in2 := gpC_in16 n2 n3 n4 gm
  have in3 := gpA_in16 n3 n4 gm
  have in4 := po.2.2.2.1
  have in5 := po.2.2.2.2
  have pb := gp_all b0 b1 b2 b3 b4 m
  have ib0 := gpC_in16 b0 b3 b4 gm
  have ib1 := gpC_in16 b1 b3 b4 gm
  have ib2 := gpC_in16 b2 b3 b4 gm
  have ib3 := gpA_in16 b3 b4 gm
  simp only [okAns, eqXs, eqX, eqo, eqLo, eqc, veq, eqUs, forall_eq, true_and, and_true, gm, i0, in0, in1, in2, in3, in4, in5, ib0, ib1, ib2, ib3, bcond_iff]
  generalize gpC n0 n3 n4 (gxMax m) = x0 at *
  generalize gpC n1 n3 n4 (gxMax m) = x1 at *
  generalize gpC n2 n3 n4 (gxMax m) = x2 at *
  generalize gpA n3 n4 (gxMax m) = xa at *
  generalize gaO n3 n4 own (gxMax m) = xo at *
  generalize gaF n4 own (gxMax m) = xf at *
  generalize gpF n4 (gxMax m) = xg at *
  generalize gpC b0 b3 b4 (gxMax m) = y0 at *
  generalize gpC b1 b3 b4 (gxMax m) = y1 at *
  generalize gpC b2 b3 b4 (gxMax m) = y2 at *
  generalize gpA b3 b4 (gxMax m) = ya at *
  generalize gpF b4 (gxMax m) = yg at *
  generalize gxMax m = M at *
  have v1 : vaB x0 x1 x2 xa xo xf y0 y1 y2 ya ya M = true := va_iff.2 ⟨⟨pn.1.2, pn.2.1.2, pn.2.2.1.2, po.1.2.1, po.1.2.2, by omega, po.2.2.1⟩, ⟨pb.1.2, pb.2.1.2, pb.2.2.1.2, rfl, by omega⟩, hM⟩
  have om : xo ≤ 65535 := by omega
  have g0 := gr_range (c := x0) (d := y0) (own := xo) (m := M) pn.1.1 po.1.1
  have g1 := gr_range (c := x1) (d := y1) (own := xo) (m := M) pn.2.1.1 po.1.1
  have g2 := gr_range (c := x2) (d := y2) (own := xo) (m := M) pn.2.2.1.1 po.1.1
  have e0 : grV true x0 y0 xo M = grC x0 y0 xo M := gr_at pn.1.1 po.1.1 om
  have e1 : grV true x1 y1 xo M = grC x1 y1 xo M := gr_at pn.2.1.1 po.1.1 om
  have e2 : grV true x2 y2 xo M = grC x2 y2 xo M := gr_at pn.2.2.1.1 po.1.1 om
  have pv : pvB (grC x0 y0 xo M) (grC x1 y1 xo M) (grC x2 y2 xo M) xo xf M = true := decide_eq_true ⟨g0.2, g1.2, g2.2, po.1.2.2, po.2.2.1⟩
  simp [v1, bz_t, e0, e1, e2, pv, ieq_rfl', band, bnot]

set_option linter.unusedVariables false in
theorem GroupEmptyIsTransparent_core (iso kn : Bool) (n0 n1 n2 n3 n4 b0 b1 b2 b3 b4 own m : Int) (w0 : (Lit.int .i64 n0).wf = true) (w1 : (Lit.int .i64 n1).wf = true) (w2 : (Lit.int .i64 n2).wf = true) (w3 : (Lit.int .i64 n3).wf = true) (w4 : (Lit.int .i64 n4).wf = true) (w5 : (Lit.int .i64 b0).wf = true) (w6 : (Lit.int .i64 b1).wf = true) (w7 : (Lit.int .i64 b2).wf = true) (w8 : (Lit.int .i64 b3).wf = true) (w9 : (Lit.int .i64 b4).wf = true) (w10 : (Lit.int .i64 own).wf = true) (w11 : (Lit.int .i64 m).wf = true) (w : World) {F : Nat → Prop} (hG : QR.Laid F w) (hF : ∀ k, F k → k < w.heap.size) :
    Calls Tryd.prog 10 #[.bool iso, .bool kn, .agg #[.int .i64 n0, .int .i64 n1, .int .i64 n2, .int .i64 n3, .int .i64 n4], .agg #[.int .i64 b0, .int .i64 b1, .int .i64 b2, .int .i64 b3, .int .i64 b4], .int .i64 own, .int .i64 m] w fun e w' => e = .returned (.bool true) ∧ Below w.heap.size w w' := by
  refine law_of_eval (O := o_law12) (QR.orc_cons (up a_gmax) (QR.orc_cons (up a_mod) (QR.orc_cons (up a_gpixel) (QR.orc_cons a_gaccum (QR.orc_cons a_gback (QR.orc_cons (up a_rpvalid) (QR.orc_cons a_gva (QR.orc_cons a_gbegin (QR.orc_cons a_gstep (QR.orc_cons a_gres (QR.orc_cons a_rva (QR.orc_cons a_rbegin (QR.orc_cons a_rgstep (QR.orc_cons a_rgres (QR.orc_cons a_awake12 QR.orc_nil))))))))))))))) mixed (QR.noLoops) Tryd.func10 (by kernel_rfl) (vs := [.bool iso, .bool kn, .agg #[.int .i64 n0, .int .i64 n1, .int .i64 n2, .int .i64 n3, .int .i64 n4], .agg #[.int .i64 b0, .int .i64 b1, .int .i64 b2, .int .i64 b3, .int .i64 b4], .int .i64 own, .int .i64 m]) (xs := [.c (.v (.bool iso)), .c (.v (.bool kn)), .agg [.v (.int .i64 n0), .v (.int .i64 n1), .v (.int .i64 n2), .v (.int .i64 n3), .v (.int .i64 n4)], .agg [.v (.int .i64 b0), .v (.int .i64 b1), .v (.int .i64 b2), .v (.int .i64 b3), .v (.int .i64 b4)], .c (.v (.int .i64 own)), .c (.v (.int .i64 m))]) (args := [.x (.c (.v (.bool iso))), .x (.c (.v (.bool kn))), .x (.agg [.v (.int .i64 n0), .v (.int .i64 n1), .v (.int .i64 n2), .v (.int .i64 n3), .v (.int .i64 n4)]), .x (.agg [.v (.int .i64 b0), .v (.int .i64 b1), .v (.int .i64 b2), .v (.int .i64 b3), .v (.int .i64 b4)]), .x (.c (.v (.int .i64 own))), .x (.c (.v (.int .i64 m)))]) rfl rfl (by simp) ?_ w hG hF
  rw [GroupEmptyIsTransparent_vc]
  have gm := gx16 m
  have hM := gxMax_cases m
  have i0 : in16 0 = true := rfl
  have pn := gp_all n0 n1 n2 n3 n4 m
  have po := ga_all n3 n4 own m
  have in0 := gpC_in16 n0 n3 n4 gm
  have in1 := gpC_in16 n1 n3 n4 gm
  have in2 := gpC_in16 n2 n3 n4 gm
  have in3 := gpA_in16 n3 n4 gm
  have in4 := po.2.2.2.1
  have in5 := po.2.2.2.2
  have pb := gp_all b0 b1 b2 b3 b4 m
  have ib0 := gpC_in16 b0 b3 b4 gm
  have ib1 := gpC_in16 b1 b3 b4 gm
  have ib2 := gpC_in16 b2 b3 b4 gm
  have ib3 := gpA_in16 b3 b4 gm
  simp only [okAns, eqXs, eqX, eqo, eqLo, eqc, veq, eqUs, forall_eq, true_and, and_true, gm, i0, in0, in1, in2, in3, in4, in5, ib0, ib1, ib2, ib3, bcond_iff]
  generalize gpC n0 n3 n4 (gxMax m) = x0 at *
  generalize gpC n1 n3 n4 (gxMax m) = x1 at *
  generalize gpC n2 n3 n4 (gxMax m) = x2 at *
  generalize gpA n3 n4 (gxMax m) = xa at *
  generalize gaO n3 n4 own (gxMax m) = xo at *
  generalize gaF n4 own (gxMax m) = xf at *
  generalize gpF n4 (gxMax m) = xg at *
  generalize gpC b0 b3 b4 (gxMax m) = y0 at *
  generalize gpC b1 b3 b4 (gxMax m) = y1 at *
  generalize gpC b2 b3 b4 (gxMax m) = y2 at *
  generalize gpA b3 b4 (gxMax m) = ya at *
  generalize gpF b4 (gxMax m) = yg at *
  generalize gxMax m = M at *
  have b0 := bg_in (iso := iso) (kn := kn) pn.1.1 pn.1.2 pb.1.1 pb.1.2 (show xa ≤ M by omega) (show ya ≤ M by omega)
  have b1 := bg_in (iso := iso) (kn := kn) pn.2.1.1 pn.2.1.2 pb.2.1.1 pb.2.1.2 (show xa ≤ M by omega) (show ya ≤ M by omega)
  have b2 := bg_in (iso := iso) (kn := kn) pn.2.2.1.1 pn.2.2.1.2 pb.2.2.1.1 pb.2.2.1.2 (show xa ≤ M by omega) (show ya ≤ M by omega)
  generalize bgV iso kn x0 y0 = z0 at *
  generalize bgV iso kn x1 y1 = z1 at *
  generalize bgV iso kn x2 y2 = z2 at *
  generalize bgV iso kn xa ya = za at *
  have j0 : in16 z0 = true := in16_iff.2 (by omega)
  have j1 : in16 z1 = true := in16_iff.2 (by omega)
  have j2 : in16 z2 = true := in16_iff.2 (by omega)
  have j3 : in16 za = true := in16_iff.2 (by omega)
  have v2 : vaB z0 z1 z2 za 0 0 z0 z1 z2 za za M = true := va_iff.2 ⟨⟨b0.2.1, b1.2.1, b2.2.1, by omega, by omega, by omega, by omega⟩, ⟨b0.2.1, b1.2.1, b2.2.1, rfl, by omega⟩, hM⟩
  have e : ∀ x, grV true x x 0 M = 0 := fun x => by show iconv .u16 (grC x x 0 M) = 0; rw [gr_empty]; rfl
  simp [v2, bz_t, e, j0, j1, j2, j3, ieq_rfl', band, bnot]

set_option linter.unusedVariables false in
theorem GroupOfOneNormalElement_core (iso out kn : Bool) (a0 a1 a2 a3 a4 n0 n1 n2 n3 n4 b0 b1 b2 b3 b4 own m : Int) (w0 : (Lit.int .i64 a0).wf = true) (w1 : (Lit.int .i64 a1).wf = true) (w2 : (Lit.int .i64 a2).wf = true) (w3 : (Lit.int .i64 a3).wf = true) (w4 : (Lit.int .i64 a4).wf = true) (w5 : (Lit.int .i64 n0).wf = true) (w6 : (Lit.int .i64 n1).wf = true) (w7 : (Lit.int .i64 n2).wf = true) (w8 : (Lit.int .i64 n3).wf = true) (w9 : (Lit.int .i64 n4).wf = true) (w10 : (Lit.int .i64 b0).wf = true) (w11 : (Lit.int .i64 b1).wf = true) (w12 : (Lit.int .i64 b2).wf = true) (w13 : (Lit.int .i64 b3).wf = true) (w14 : (Lit.int .i64 b4).wf = true) (w15 : (Lit.int .i64 own).wf = true) (w16 : (Lit.int .i64 m).wf = true) (w : World) {F : Nat → Prop} (hG : QR.Laid F w) (hF : ∀ k, F k → k < w.heap.size) :
    Calls Tryd.prog 11 #[.bool iso, .bool out, .bool kn, .agg #[.int .i64 a0, .int .i64 a1, .int .i64 a2, .int .i64 a3, .int .i64 a4], .agg #[.int .i64 n0, .int .i64 n1, .int .i64 n2, .int .i64 n3, .int .i64 n4], .agg #[.int .i64 b0, .int .i64 b1, .int .i64 b2, .int .i64 b3, .int .i64 b4], .int .i64 own, .int .i64 m] w fun e w' => e = .returned (.bool true) ∧ Below w.heap.size w w' := by
  refine law_of_eval (O := o_law12) (QR.orc_cons (up a_gmax) (QR.orc_cons (up a_mod) (QR.orc_cons (up a_gpixel) (QR.orc_cons a_gaccum (QR.orc_cons a_gback (QR.orc_cons (up a_rpvalid) (QR.orc_cons a_gva (QR.orc_cons a_gbegin (QR.orc_cons a_gstep (QR.orc_cons a_gres (QR.orc_cons a_rva (QR.orc_cons a_rbegin (QR.orc_cons a_rgstep (QR.orc_cons a_rgres (QR.orc_cons a_awake12 QR.orc_nil))))))))))))))) mixed (QR.noLoops) Tryd.func11 (by kernel_rfl) (vs := [.bool iso, .bool out, .bool kn, .agg #[.int .i64 a0, .int .i64 a1, .int .i64 a2, .int .i64 a3, .int .i64 a4], .agg #[.int .i64 n0, .int .i64 n1, .int .i64 n2, .int .i64 n3, .int .i64 n4], .agg #[.int .i64 b0, .int .i64 b1, .int .i64 b2, .int .i64 b3, .int .i64 b4], .int .i64 own, .int .i64 m]) (xs := [.c (.v (.bool iso)), .c (.v (.bool out)), .c (.v (.bool kn)), .agg [.v (.int .i64 a0), .v (.int .i64 a1), .v (.int .i64 a2), .v (.int .i64 a3), .v (.int .i64 a4)], .agg [.v (.int .i64 n0), .v (.int .i64 n1), .v (.int .i64 n2), .v (.int .i64 n3), .v (.int .i64 n4)], .agg [.v (.int .i64 b0), .v (.int .i64 b1), .v (.int .i64 b2), .v (.int .i64 b3), .v (.int .i64 b4)], .c (.v (.int .i64 own)), .c (.v (.int .i64 m))]) (args := [.x (.c (.v (.bool iso))), .x (.c (.v (.bool out))), .x (.c (.v (.bool kn))), .x (.agg [.v (.int .i64 a0), .v (.int .i64 a1), .v (.int .i64 a2), .v (.int .i64 a3), .v (.int .i64 a4)]), .x (.agg [.v (.int .i64 n0), .v (.int .i64 n1), .v (.int .i64 n2), .v (.int .i64 n3), .v (.int .i64 n4)]), .x (.agg [.v (.int .i64 b0), .v (.int .i64 b1), .v (.int .i64 b2), .v (.int .i64 b3), .v (.int .i64 b4)]), .x (.c (.v (.int .i64 own))), .x (.c (.v (.int .i64 m)))]) rfl rfl (by simp) ?_ w hG hF
  rw [GroupOfOneNormalElement_vc]
  have gm := gx16 m
  have hM := gxMax_cases m
  have i0 : in16 0 = true := rfl
  have pa := gp_all a0 a1 a2 a3 a4 m
  have ia0 := gpC_in16 a0 a3 a4 gm
  have ia1 := gpC_in16 a1 a3 a4 gm
  have ia2 := gpC_in16 a2 a3 a4 gm
  have ia3 := gpA_in16 a3 a4 gm
  have ia4 := gpF_in16 a4 gm
  have pn := gp_all n0 n1 n2 n3 n4 m
  have po := ga_all n3 n4 own m
  have in0 := gpC_in16 n0 n3 n4 gm
  have in1 := gpC_in16 n1 n3 n4 gm
  have in2 := gpC_in16 n2 n3 n4 gm
  have in3 := gpA_in16 n3 n4 gm
  have in4 := po.2.2.2.1
  have in5 := po.2.2.2.2
  have pb := gp_all b0 b1 b2 b3 b4 m
  have ib0 := gpC_in16 b0 b3 b4 gm
  have ib1 := gpC_in16 b1 b3 b4 gm
  have ib2 := gpC_in16 b2 b3 b4 gm
  have ib3 := gpA_in16 b3 b4 gm
  simp only [okAns, eqXs, eqX, eqo, eqLo, eqc, veq, eqUs, forall_eq, true_and, and_true, gm, i0, ia0, ia1, ia2, ia3, ia4, in0, in1, in2, in3, in4, in5, ib0, ib1, ib2, ib3, bcond_iff]
  generalize gpC a0 a3 a4 (gxMax m) = s0 at *
  generalize gpC a1 a3 a4 (gxMax m) = s1 at *
  generalize gpC a2 a3 a4 (gxMax m) = s2 at *
  generalize gpA a3 a4 (gxMax m) = sa at *
  generalize gpF a4 (gxMax m) = sf at *
  generalize gpC n0 n3 n4 (gxMax m) = x0 at *
  generalize gpC n1 n3 n4 (gxMax m) = x1 at *
  generalize gpC n2 n3 n4 (gxMax m) = x2 at *
  generalize gpA n3 n4 (gxMax m) = xa at *
  generalize gaO n3 n4 own (gxMax m) = xo at *
  generalize gaF n4 own (gxMax m) = xf at *
  generalize gpF n4 (gxMax m) = xg at *
  generalize gpC b0 b3 b4 (gxMax m) = y0 at *
  generalize gpC b1 b3 b4 (gxMax m) = y1 at *
  generalize gpC b2 b3 b4 (gxMax m) = y2 at *
  generalize gpA b3 b4 (gxMax m) = ya at *
  generalize gpF b4 (gxMax m) = yg at *
  generalize gxMax m = M at *
  have b0 := bg_in (iso := iso) (kn := out) pn.1.1 pn.1.2 pb.1.1 pb.1.2 (show xa ≤ M by omega) (show ya ≤ M by omega)
  have b1 := bg_in (iso := iso) (kn := out) pn.2.1.1 pn.2.1.2 pb.2.1.1 pb.2.1.2 (show xa ≤ M by omega) (show ya ≤ M by omega)
  have b2 := bg_in (iso := iso) (kn := out) pn.2.2.1.1 pn.2.2.1.2 pb.2.2.1.1 pb.2.2.1.2 (show xa ≤ M by omega) (show ya ≤ M by omega)
  generalize bgV iso out x0 y0 = z0 at *
  generalize bgV iso out x1 y1 = z1 at *
  generalize bgV iso out x2 y2 = z2 at *
  generalize bgV iso out xa ya = za at *
  have j0 : in16 z0 = true := in16_iff.2 (by omega)
  have j1 : in16 z1 = true := in16_iff.2 (by omega)
  have j2 : in16 z2 = true := in16_iff.2 (by omega)
  have j3 : in16 za = true := in16_iff.2 (by omega)
  obtain ⟨ok, va, ⟨h0, h1, h2, h3, h4, h5⟩, r0, r1, r2, r3, r4⟩ := gr_single (kn := kn) (x0 := z0) (x1 := z1) (x2 := z2) (xa := za) hM pa ⟨⟨b0.1, b0.2.1⟩, ⟨b1.1, b1.2.1⟩, ⟨b2.1, b2.2.1⟩, b0.2.2⟩
  simp only [ok, va, bz_t, h0, h1, h2, h3, h4, h5, j0, j1, j2, j3, r0, r1, r2]
  simp [r3, r4, bz_t, ieq_rfl', band, bnot]
end Go.Proofs.YtfjpilehoeendaaDoor
