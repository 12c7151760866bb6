/-
  The laws of layer 10 (knockout): each returns true for all arguments in their ranges.
-/
import Derived.Test.YtoofajneoefpjaaJd
namespace Go.Proofs.Ytoofajneoefpjaa
open Go.RowKit PR QR
set_option linter.unusedVariables false
set_option linter.unusedSimpArgs false

theorem a_src10 : Answers2 8 s_src10 := by
  intro al ans h hq
  unfold s_src10 at h
  split at h <;> try (simp at h; done)
  rename_i n0 n1 n2 m
  simp only [Option.some.injEq] at h
  subst h
  have hq := asked hq
  refine QR.does_of_eval (O := o_src10) (QR.orc_cons (up a_gsample) QR.orc_nil) mixed (QR.noLoops) Try.func8 (by kernel_rfl) (by kernel_rfl) (by simp) ?_
  rw [src10_vc]
  obtain ⟨hm, _⟩ := hq
  simp [okAns, eqXs, eqX, eqc, veq, eqUs, hm, gsV_in16]
theorem a_awake10 : Answers2 13 s_yes8 := by
  intro al ans h hq
  unfold s_yes8 at h
  split at h <;> try (simp at h; done)
  skip
  simp only [Option.some.injEq] at h
  subst h
  have hq := asked hq
  refine QR.does_of_eval (O := o_aw10) (QR.orc_cons a_kcol (QR.orc_cons a_kal (QR.orc_cons a_kown QR.orc_nil))) mixed (QR.noLoops) Try.func13 (by kernel_rfl) (by kernel_rfl) (by simp) ?_
  rw [awake10_vc]
  have ok1 : knOk 1 255 0 0 255 200 30 40 = true := by decide
  have v1 : kcV 1 255 0 0 255 200 30 40 = 30 := by
    obtain ⟨_, D0, _, _, v, _⟩ := kc_eq ok1 (by decide) (by decide) (by decide)
    rw [v, hv_flat' (by decide) D0]; decide
  have ok2 : kaOk 255 0 255 220 40 = true := by decide
  have v2 : kaV 255 0 255 220 40 = 40 := by rw [(ka_at ok2 (by decide) (by decide) (by decide)).1]; decide
  have ok3 : kaOk 255 0 255 180 0 = true := by decide
  have v3 : kaV 255 0 255 180 0 = 0 := by rw [(ka_at ok3 (by decide) (by decide) (by decide)).1]; decide
  have i : ∀ x : Int, 0 ≤ x → x < 65536 → in16 x = true := fun x h k => in16_iff.2 ⟨h, k⟩
  simp [okAns, eqXs, eqX, eqc, veq, eqUs, bcond_iff, ok1, ok2, ok3, v1, v2, v3, i, ieq]

set_option linter.unusedVariables false in
theorem KnockoutColorAgrees_core (mode n0 n1 n2 c b0 b1 m r0 r1 r2 r3 r4 r5 t : Int) (w0 : (Lit.int .i64 mode).wf = true) (w1 : (Lit.int .i64 n0).wf = true) (w2 : (Lit.int .i64 n1).wf = true) (w3 : (Lit.int .i64 n2).wf = true) (w4 : (Lit.int .i64 c).wf = true) (w5 : (Lit.int .i64 b0).wf = true) (w6 : (Lit.int .i64 b1).wf = true) (w7 : (Lit.int .i64 m).wf = true) (w8 : (Lit.int .u16 r0).wf = true) (w9 : (Lit.int .u16 r1).wf = true) (w10 : (Lit.int .u16 r2).wf = true) (w11 : (Lit.int .u16 r3).wf = true) (w12 : (Lit.int .u16 r4).wf = true) (w13 : (Lit.int .u16 r5).wf = true) (w14 : (Lit.int .u16 t).wf = true) (w : World) {F : Nat → Prop} (hG : QR.Laid F w) (hF : ∀ k, F k → k < w.heap.size) :
    Calls Try.prog 3 #[.int .i64 mode, .agg #[.int .i64 n0, .int .i64 n1, .int .i64 n2], .int .i64 c, .agg #[.int .i64 b0, .int .i64 b1], .int .i64 m, .agg #[.int .u16 r0, .int .u16 r1, .int .u16 r2, .int .u16 r3, .int .u16 r4, .int .u16 r5], .int .u16 t] w fun e w' => e = .returned (.bool true) ∧ Below w.heap.size w w' := by
  refine law_of_eval (O := o_law10a) (QR.orc_cons (up a_gmax) (QR.orc_cons (up a_mod) (QR.orc_cons (up a_galpha) (QR.orc_cons (up a_gsample) (QR.orc_cons a_src10 (QR.orc_cons a_kcol (QR.orc_cons a_kal (QR.orc_cons a_kown (QR.orc_cons a_rkcol (QR.orc_cons a_rkal (QR.orc_cons a_rkown (QR.orc_cons a_awake10 QR.orc_nil)))))))))))) mixed (QR.noLoops) Try.func3 (by kernel_rfl) (vs := [.int .i64 mode, .agg #[.int .i64 n0, .int .i64 n1, .int .i64 n2], .int .i64 c, .agg #[.int .i64 b0, .int .i64 b1], .int .i64 m, .agg #[.int .u16 r0, .int .u16 r1, .int .u16 r2, .int .u16 r3, .int .u16 r4, .int .u16 r5], .int .u16 t]) (xs := [.c (.v (.int .i64 mode)), .agg [.v (.int .i64 n0), .v (.int .i64 n1), .v (.int .i64 n2)], .c (.v (.int .i64 c)), .agg [.v (.int .i64 b0), .v (.int .i64 b1)], .c (.v (.int .i64 m)), .agg [.v (.int .u16 r0), .v (.int .u16 r1), .v (.int .u16 r2), .v (.int .u16 r3), .v (.int .u16 r4), .v (.int .u16 r5)], .c (.v (.int .u16 t))]) (args := [.x (.c (.v (.int .i64 mode))), .x (.agg [.v (.int .i64 n0), .v (.int .i64 n1), .v (.int .i64 n2)]), .x (.c (.v (.int .i64 c))), .x (.agg [.v (.int .i64 b0), .v (.int .i64 b1)]), .x (.c (.v (.int .i64 m))), .x (.agg [.v (.int .u16 r0), .v (.int .u16 r1), .v (.int .u16 r2), .v (.int .u16 r3), .v (.int .u16 r4), .v (.int .u16 r5)]), .x (.c (.v (.int .u16 t)))]) rfl rfl (by simp) ?_ w hG hF
  rw [KnockoutColorAgrees_vc]
  have k14 : modOk 14 = true := rfl
  have gm := gx16 m
  have i2 : in16 65535 = true := rfl
  have is := gsV_in16 n0 (gsV_in16 n1 (gs16 n2 m))
  simp [is, okAns, eqXs, eqX, eqc, veq, eqUs, bcond_iff, gm, k14, i2, ieq_rfl', beq_rfl', band, gsV_in16, wf16 w8, wf16 w9, wf16 w10, wf16 w11, wf16 w12, wf16 w13, wf16 w14]

set_option linter.unusedVariables false in
theorem KnockoutAlphaAgrees_core (n0 n1 acc b m r0 r1 r2 r3 t : Int) (w0 : (Lit.int .i64 n0).wf = true) (w1 : (Lit.int .i64 n1).wf = true) (w2 : (Lit.int .i64 acc).wf = true) (w3 : (Lit.int .i64 b).wf = true) (w4 : (Lit.int .i64 m).wf = true) (w5 : (Lit.int .u16 r0).wf = true) (w6 : (Lit.int .u16 r1).wf = true) (w7 : (Lit.int .u16 r2).wf = true) (w8 : (Lit.int .u16 r3).wf = true) (w9 : (Lit.int .u16 t).wf = true) (w : World) {F : Nat → Prop} (hG : QR.Laid F w) (hF : ∀ k, F k → k < w.heap.size) :
    Calls Try.prog 4 #[.agg #[.int .i64 n0, .int .i64 n1], .int .i64 acc, .int .i64 b, .int .i64 m, .agg #[.int .u16 r0, .int .u16 r1, .int .u16 r2, .int .u16 r3], .int .u16 t] w fun e w' => e = .returned (.bool true) ∧ Below w.heap.size w w' := by
  refine law_of_eval (O := o_law10a) (QR.orc_cons (up a_gmax) (QR.orc_cons (up a_mod) (QR.orc_cons (up a_galpha) (QR.orc_cons (up a_gsample) (QR.orc_cons a_src10 (QR.orc_cons a_kcol (QR.orc_cons a_kal (QR.orc_cons a_kown (QR.orc_cons a_rkcol (QR.orc_cons a_rkal (QR.orc_cons a_rkown (QR.orc_cons a_awake10 QR.orc_nil)))))))))))) mixed (QR.noLoops) Try.func4 (by kernel_rfl) (vs := [.agg #[.int .i64 n0, .int .i64 n1], .int .i64 acc, .int .i64 b, .int .i64 m, .agg #[.int .u16 r0, .int .u16 r1, .int .u16 r2, .int .u16 r3], .int .u16 t]) (xs := [.agg [.v (.int .i64 n0), .v (.int .i64 n1)], .c (.v (.int .i64 acc)), .c (.v (.int .i64 b)), .c (.v (.int .i64 m)), .agg [.v (.int .u16 r0), .v (.int .u16 r1), .v (.int .u16 r2), .v (.int .u16 r3)], .c (.v (.int .u16 t))]) (args := [.x (.agg [.v (.int .i64 n0), .v (.int .i64 n1)]), .x (.c (.v (.int .i64 acc))), .x (.c (.v (.int .i64 b))), .x (.c (.v (.int .i64 m))), .x (.agg [.v (.int .u16 r0), .v (.int .u16 r1), .v (.int .u16 r2), .v (.int .u16 r3)]), .x (.c (.v (.int .u16 t)))]) rfl rfl (by simp) ?_ w hG hF
  rw [KnockoutAlphaAgrees_vc]
  have gm := gx16 m
  simp [okAns, eqXs, eqX, eqc, veq, eqUs, bcond_iff, gm, ieq_rfl', beq_rfl', band, gsV_in16, wf16 w5, wf16 w6, wf16 w7, wf16 w8, wf16 w9]

set_option linter.unusedVariables false in
theorem KnockoutReplaces_core (mode n0 n1 c e b0 b1 m : Int) (w0 : (Lit.int .i64 mode).wf = true) (w1 : (Lit.int .i64 n0).wf = true) (w2 : (Lit.int .i64 n1).wf = true) (w3 : (Lit.int .i64 c).wf = true) (w4 : (Lit.int .i64 e).wf = true) (w5 : (Lit.int .i64 b0).wf = true) (w6 : (Lit.int .i64 b1).wf = true) (w7 : (Lit.int .i64 m).wf = true) (w : World) {F : Nat → Prop} (hG : QR.Laid F w) (hF : ∀ k, F k → k < w.heap.size) :
    Calls Try.prog 5 #[.int .i64 mode, .agg #[.int .i64 n0, .int .i64 n1], .int .i64 c, .int .i64 e, .agg #[.int .i64 b0, .int .i64 b1], .int .i64 m] w fun e w' => e = .returned (.bool true) ∧ Below w.heap.size w w' := by
  refine law_of_eval (O := o_law10a) (QR.orc_cons (up a_gmax) (QR.orc_cons (up a_mod) (QR.orc_cons (up a_galpha) (QR.orc_cons (up a_gsample) (QR.orc_cons a_src10 (QR.orc_cons a_kcol (QR.orc_cons a_kal (QR.orc_cons a_kown (QR.orc_cons a_rkcol (QR.orc_cons a_rkal (QR.orc_cons a_rkown (QR.orc_cons a_awake10 QR.orc_nil)))))))))))) mixed (QR.noLoops) Try.func5 (by kernel_rfl) (vs := [.int .i64 mode, .agg #[.int .i64 n0, .int .i64 n1], .int .i64 c, .int .i64 e, .agg #[.int .i64 b0, .int .i64 b1], .int .i64 m]) (xs := [.c (.v (.int .i64 mode)), .agg [.v (.int .i64 n0), .v (.int .i64 n1)], .c (.v (.int .i64 c)), .c (.v (.int .i64 e)), .agg [.v (.int .i64 b0), .v (.int .i64 b1)], .c (.v (.int .i64 m))]) (args := [.x (.c (.v (.int .i64 mode))), .x (.agg [.v (.int .i64 n0), .v (.int .i64 n1)]), .x (.c (.v (.int .i64 c))), .x (.c (.v (.int .i64 e))), .x (.agg [.v (.int .i64 b0), .v (.int .i64 b1)]), .x (.c (.v (.int .i64 m)))]) rfl rfl (by simp) ?_ w hG hF
  rw [KnockoutReplaces_vc]
  have k12 : modOk 12 = true := rfl
  have e2 := (gmod_i64 (op := mode) (k := 12) (by decide) (by decide)).1
  have r2 := gmod_range mode (k := 12) (by decide)
  have gm := gx16 m
  have hM := gxMax_cases m
  have i0 : in16 0 = true := rfl
  have s1 := ga_in (x := n0) (f := n1) (n := m)
  have s2 := gs_in (a := n1) (n := m)
  have d1 := ga_in (x := b0) (f := b1) (n := m)
  have d2 := gs_in (a := b1) (n := m)
  have p1 := gs_in (a := c) (n := m)
  have q1 := gs_in (a := e) (n := m)
  simp only [okAns, eqXs, eqX, eqc, veq, eqUs, bcond_iff, forall_eq, true_and, and_true, gm, k12, e2, i0, gsV_in16]
  generalize gsV n0 (gsV n1 (gxMax m)) = s at *
  generalize gsV n1 (gxMax m) = a at *
  generalize gsV b0 (gsV b1 (gxMax m)) = d at *
  generalize gsV b1 (gxMax m) = b at *
  generalize gsV c (gxMax m) = p at *
  generalize gsV e (gxMax m) = q at *
  obtain ⟨K, hK⟩ : ∃ K, K = 1 + gmod mode 12 := ⟨_, rfl⟩
  rw [← hK]
  have K1 : 1 ≤ K ∧ K ≤ 12 := by omega
  generalize gxMax m = M at *
  obtain ⟨x1, x2, x3⟩ := kc_full (k := K) (p := p) (q := q) K1 hM s1.2 s2.2 d1.2 d2.2 p1.2 q1.2
  obtain ⟨y1, y2, y3⟩ := ka_full (p := p) (q := q) (a := a) (b := b) hM s2.2 d2.2 p1.2 q1.2
  obtain ⟨z1, z2⟩ := kc_none (k := K) (c := p) K1 hM d1.1 d1.2 d2.2 p1.1 p1.2
  obtain ⟨u1, u2⟩ := ka_none (acc := p) (b := b) hM (by omega) d2.2 p1.1 p1.2
  obtain ⟨v1, v2⟩ := ka_none (acc := q) (b := 0) hM (by omega) (by omega) q1.1 q1.2
  simp [x1, x2, x3, y1, y2, y3, z1, z2, u1, u2, v1, v2, ieq_rfl', beq_rfl', band, bnot]

end Go.Proofs.Ytoofajneoefpjaa
