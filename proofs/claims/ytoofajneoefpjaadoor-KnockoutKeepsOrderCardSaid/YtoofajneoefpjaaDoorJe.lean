/-
  The laws of layer 10 (knockout): each returns true for all arguments in their ranges.
-/
import Derived.Test.YtoofajneoefpjaaDoorJd
namespace Go.Proofs.YtoofajneoefpjaaDoor
open Go.RowKit PR QR
set_option linter.unusedVariables false
set_option linter.unusedSimpArgs false

theorem a_src10 : Answers2 7 s_src10 := by
  intro al ans h hq
  unfold s_src10 at h
  split at h <;> try (simp at h; done)
  rename_i n0 n1 n2 m
  simp only [Option.some.injEq] at h
  subst h
  have hq := asked hq
  refine QR.does_of_eval (O := o_src10) (QR.orc_cons (up a_gsample) QR.orc_nil) mixed (QR.noLoops) Tryd.func7 (by kernel_rfl) (by kernel_rfl) (by simp) ?_
  rw [src10_vc]
  obtain ⟨hm, _⟩ := hq
  simp [okAns, eqXs, eqX, eqc, veq, eqUs, hm, gsV_in16]
theorem a_awake10 : Answers2 13 s_yes8 := by
  intro al ans h hq
  unfold s_yes8 at h
  split at h <;> try (simp at h; done)
  skip
  simp only [Option.some.injEq] at h
  subst h
  have hq := asked hq
  refine QR.does_of_eval (O := o_aw10) (QR.orc_cons a_kcol (QR.orc_cons a_kal (QR.orc_cons a_kown QR.orc_nil))) mixed (QR.noLoops) Tryd.func13 (by kernel_rfl) (by kernel_rfl) (by simp) ?_
  rw [awake10_vc]
  have ok1 : knOk 1 255 0 0 255 200 30 40 = true := by decide
  have v1 : kcV 1 255 0 0 255 200 30 40 = 30 := by
    obtain ⟨_, D0, _, _, v, _⟩ := kc_eq ok1 (by decide) (by decide) (by decide)
    rw [v, hv_flat' (by decide) D0]; decide
  have ok2 : kaOk 255 0 255 220 40 = true := by decide
  have v2 : kaV 255 0 255 220 40 = 40 := by rw [(ka_at ok2 (by decide) (by decide) (by decide)).1]; decide
  have ok3 : kaOk 255 0 255 180 0 = true := by decide
  have v3 : kaV 255 0 255 180 0 = 0 := by rw [(ka_at ok3 (by decide) (by decide) (by decide)).1]; decide
  have i : ∀ x : Int, 0 ≤ x → x < 65536 → in16 x = true := fun x h k => in16_iff.2 ⟨h, k⟩
  simp [okAns, eqXs, eqX, eqc, veq, eqUs, bcond_iff, ok1, ok2, ok3, v1, v2, v3, i, ieq]

set_option linter.unusedVariables false in
theorem KnockoutOfTheFirst_core (mode n0 n1 n2 b0 b1 m : Int) (w0 : (Lit.int .i64 mode).wf = true) (w1 : (Lit.int .i64 n0).wf = true) (w2 : (Lit.int .i64 n1).wf = true) (w3 : (Lit.int .i64 n2).wf = true) (w4 : (Lit.int .i64 b0).wf = true) (w5 : (Lit.int .i64 b1).wf = true) (w6 : (Lit.int .i64 m).wf = true) (w : World) {F : Nat → Prop} (hG : QR.Laid F w) (hF : ∀ k, F k → k < w.heap.size) :
    Calls Tryd.prog 3 #[.int .i64 mode, .agg #[.int .i64 n0, .int .i64 n1, .int .i64 n2], .agg #[.int .i64 b0, .int .i64 b1], .int .i64 m] w fun e w' => e = .returned (.bool true) ∧ Below w.heap.size w w' := by
  refine law_of_eval (O := o_law10b) (QR.orc_cons (up a_gmax) (QR.orc_cons (up a_mod) (QR.orc_cons (up a_galpha) (QR.orc_cons (up a_gsample) (QR.orc_cons a_src10 (QR.orc_cons a_kcol (QR.orc_cons a_kal (QR.orc_cons a_kown (QR.orc_cons a_mcol (QR.orc_cons a_oalpha (QR.orc_cons a_oshape (QR.orc_cons a_awake10 QR.orc_nil)))))))))))) mixed (QR.noLoops) Tryd.func3 (by kernel_rfl) (vs := [.int .i64 mode, .agg #[.int .i64 n0, .int .i64 n1, .int .i64 n2], .agg #[.int .i64 b0, .int .i64 b1], .int .i64 m]) (xs := [.c (.v (.int .i64 mode)), .agg [.v (.int .i64 n0), .v (.int .i64 n1), .v (.int .i64 n2)], .agg [.v (.int .i64 b0), .v (.int .i64 b1)], .c (.v (.int .i64 m))]) (args := [.x (.c (.v (.int .i64 mode))), .x (.agg [.v (.int .i64 n0), .v (.int .i64 n1), .v (.int .i64 n2)]), .x (.agg [.v (.int .i64 b0), .v (.int .i64 b1)]), .x (.c (.v (.int .i64 m)))]) rfl rfl (by simp) ?_ w hG hF
  rw [KnockoutOfTheFirst_vc]
  have k12 : modOk 12 = true := rfl
  have e2 := (gmod_i64 (op := mode) (k := 12) (by decide) (by decide)).1
  have r2 := gmod_range mode (k := 12) (by decide)
  have gm := gx16 m
  have hM := gxMax_cases m
  have i0 : in16 0 = true := rfl
  have f1 := gs_in (a := n2) (n := m)
  have a1 := ga_in (x := n1) (f := n2) (n := m)
  have s1 := gsV_range n0 (gsV_in16 n1 (gs16 n2 m))
  have d1 := ga_in (x := b0) (f := b1) (n := m)
  have d2 := gs_in (a := b1) (n := m)
  have is := gsV_in16 n0 (gsV_in16 n1 (gs16 n2 m))
  simp only [okAns, eqXs, eqX, eqc, veq, eqUs, bcond_iff, forall_eq, true_and, and_true, gm, k12, e2, i0, gsV_in16]
  generalize gsV n0 (gsV n1 (gsV n2 (gxMax m))) = s at *
  generalize gsV n1 (gsV n2 (gxMax m)) = a at *
  generalize gsV n2 (gxMax m) = f at *
  generalize gsV b0 (gsV b1 (gxMax m)) = d at *
  generalize gsV b1 (gxMax m) = b at *
  obtain ⟨K, hK⟩ : ∃ K, K = 1 + gmod mode 12 := ⟨_, rfl⟩
  rw [← hK]
  have K1 : 1 ≤ K ∧ K ≤ 12 := by omega
  generalize gxMax m = M at *
  obtain ⟨x1, x2, x3⟩ := kc_first (k := K) K1 hM s1.1 s1.2 a1.2 f1.2 d1.1 d1.2 d2.2
  obtain ⟨y1, y2, y3, y4⟩ := ka_first (a := a) (f := f) (b := b) hM a1.1 a1.2 f1.2 (by omega) d2.2
  simp [is, x1, x2, x3, y1, y2, y3, y4, ieq_rfl', beq_rfl', band, bnot]

set_option linter.unusedVariables false in
theorem KnockoutKeepsOrder_core (mode n0 n1 n2 c0 c1 c2 b0 b1 m : Int) (w0 : (Lit.int .i64 mode).wf = true) (w1 : (Lit.int .i64 n0).wf = true) (w2 : (Lit.int .i64 n1).wf = true) (w3 : (Lit.int .i64 n2).wf = true) (w4 : (Lit.int .i64 c0).wf = true) (w5 : (Lit.int .i64 c1).wf = true) (w6 : (Lit.int .i64 c2).wf = true) (w7 : (Lit.int .i64 b0).wf = true) (w8 : (Lit.int .i64 b1).wf = true) (w9 : (Lit.int .i64 m).wf = true) (w : World) {F : Nat → Prop} (hG : QR.Laid F w) (hF : ∀ k, F k → k < w.heap.size) :
    Calls Tryd.prog 4 #[.int .i64 mode, .agg #[.int .i64 n0, .int .i64 n1, .int .i64 n2], .agg #[.int .i64 c0, .int .i64 c1, .int .i64 c2], .agg #[.int .i64 b0, .int .i64 b1], .int .i64 m] w fun e w' => e = .returned (.bool true) ∧ Below w.heap.size w w' := by
  refine law_of_eval (O := o_law10b) (QR.orc_cons (up a_gmax) (QR.orc_cons (up a_mod) (QR.orc_cons (up a_galpha) (QR.orc_cons (up a_gsample) (QR.orc_cons a_src10 (QR.orc_cons a_kcol (QR.orc_cons a_kal (QR.orc_cons a_kown (QR.orc_cons a_mcol (QR.orc_cons a_oalpha (QR.orc_cons a_oshape (QR.orc_cons a_awake10 QR.orc_nil)))))))))))) mixed (QR.noLoops) Tryd.func4 (by kernel_rfl) (vs := [.int .i64 mode, .agg #[.int .i64 n0, .int .i64 n1, .int .i64 n2], .agg #[.int .i64 c0, .int .i64 c1, .int .i64 c2], .agg #[.int .i64 b0, .int .i64 b1], .int .i64 m]) (xs := [.c (.v (.int .i64 mode)), .agg [.v (.int .i64 n0), .v (.int .i64 n1), .v (.int .i64 n2)], .agg [.v (.int .i64 c0), .v (.int .i64 c1), .v (.int .i64 c2)], .agg [.v (.int .i64 b0), .v (.int .i64 b1)], .c (.v (.int .i64 m))]) (args := [.x (.c (.v (.int .i64 mode))), .x (.agg [.v (.int .i64 n0), .v (.int .i64 n1), .v (.int .i64 n2)]), .x (.agg [.v (.int .i64 c0), .v (.int .i64 c1), .v (.int .i64 c2)]), .x (.agg [.v (.int .i64 b0), .v (.int .i64 b1)]), .x (.c (.v (.int .i64 m)))]) rfl rfl (by simp) ?_ w hG hF
  rw [KnockoutKeepsOrder_vc]
  have k12 : modOk 12 = true := rfl
  have e2 := (gmod_i64 (op := mode) (k := 12) (by decide) (by decide)).1
  have r2 := gmod_range mode (k := 12) (by decide)
  have gm := gx16 m
  have hM := gxMax_cases m
  have i0 : in16 0 = true := rfl
  have f1 := gs_in (a := n2) (n := m)
  have a1 := ga_in (x := n1) (f := n2) (n := m)
  have s1 := gsV_range n0 (gsV_in16 n1 (gs16 n2 m))
  have d1 := ga_in (x := b0) (f := b1) (n := m)
  have d2 := gs_in (a := b1) (n := m)
  have is := gsV_in16 n0 (gsV_in16 n1 (gs16 n2 m))
  have h1 := gs_in (a := c1) (n := m)
  have h2 := gs_in (a := c2) (n := m)
  have h0 := gsV_range c0 (gs16 c1 m)
  have i9 := gsV_in16 c0 (gs16 c1 m)
  have im : in16 (iimin (gsV c1 (gxMax m)) (gsV c2 (gxMax m))) = true := by
    have x := gs16 c1 m
    have y := gs16 c2 m
    unfold iimin; split <;> assumption
  simp only [okAns, eqXs, eqX, eqc, veq, eqUs, bcond_iff, forall_eq, true_and, and_true, gm, k12, e2, i0, gsV_in16, im]
  generalize gsV n0 (gsV n1 (gsV n2 (gxMax m))) = s at *
  generalize gsV n1 (gsV n2 (gxMax m)) = a at *
  generalize gsV n2 (gxMax m) = f at *
  generalize gsV b0 (gsV b1 (gxMax m)) = d at *
  generalize gsV b1 (gxMax m) = b at *
  obtain ⟨K, hK⟩ : ∃ K, K = 1 + gmod mode 12 := ⟨_, rfl⟩
  rw [← hK]
  have K1 : 1 ≤ K ∧ K ≤ 12 := by omega
  generalize gsV c0 (gsV c1 (gxMax m)) = c at *
  generalize gsV c1 (gxMax m) = acc at *
  generalize gsV c2 (gxMax m) = g at *
  generalize gxMax m = M at *
  have ok : knOk K M s a f c d b = true := kn_iff.2 ⟨⟨K1, s1.2, a1.2, f1.2, d1.2, d2.2, by omega⟩, hM⟩
  have le := (kc_eq ok s1.1 h0.1 d1.1).2.2.2.2.2.2.2 acc h0.2 h1.2
  have mn : 0 ≤ iimin acc g ∧ iimin acc g ≤ acc ∧ iimin acc g ≤ g := by unfold iimin; split <;> omega
  obtain ⟨y1, y2, y3, y4, y5⟩ := ka_order (a := a) (f := f) (own := iimin acc g) (acc := acc) (g := g) (b := b) hM a1.1 a1.2 f1.2 mn.1 mn.2.1 mn.2.2 h1.2 h2.2 (by omega) d2.2
  have l1 : ile (kcV K M s a f c d b) (kaV M a f acc b) = true := decide_eq_true le
  have l2 : ile (kaV M a f (iimin acc g) 0) (kaV M a f acc b) = true := decide_eq_true y3
  have l3 : ile (kaV M a f (iimin acc g) 0) (shV 4 f g M) = true := decide_eq_true y4
  have l4 : ile (kaV M a f acc b) M = true := decide_eq_true y5
  simp [is, ok, y1, y2, l1, l2, l3, l4, bnot]
end Go.Proofs.YtoofajneoefpjaaDoor
