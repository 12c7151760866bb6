/-
  The laws of layer 8 (mix): each returns true for all arguments in their ranges.
-/
import Derived.Test.YtichmiifldbnhaaDoorHd
namespace Go.Proofs.YtichmiifldbnhaaDoor
open Go.RowKit PR QR
set_option linter.unusedVariables false
set_option linter.unusedSimpArgs false

theorem a_awake8 : Answers2 15 s_yes8 := by
  intro al ans h hq
  unfold s_yes8 at h
  split at h <;> try (simp at h; done)
  skip
  simp only [Option.some.injEq] at h
  subst h
  have hq := asked hq
  refine QR.does_of_eval (O := o_aw8) (QR.orc_cons a_mcol QR.orc_nil) mixed (QR.noLoops) Tryd.func15 (by kernel_rfl) (by kernel_rfl) (by simp) ?_
  rw [awake8_vc]
  have c1 := mc_classic (m := 255) (s := 100) (a := 128) (d := 50) (b := 255) (by decide) (by decide) (by decide) (by decide) (by decide) (by decide) (by decide)
  have v1 : mcV 4 1 255 100 128 50 255 = 125 := by rw [c1.2]; decide
  have ok2 : mxOk 1 3 255 9 9 9 9 = true := by decide
  have v2 : mcV 1 3 255 9 9 9 9 = 0 := by rw [mc_flat ok2 (by decide) (by decide) (by decide)]; decide
  have c3 := mc_opaque (o := 4) (k := 10) (m := 255) (s := 255) (d := 64) (by decide) (by decide) (by decide) (by decide) (by decide) (by decide) (by decide)
  have z1 : blP 10 255 255 64 255 = 0 := by decide
  have z2 : blQ 10 255 255 64 255 = 255 := by decide
  have z3 : blR 10 255 255 64 255 = 16320 := by decide
  have z4 : blD 10 255 255 64 255 = 1 := by decide
  have sq : isq 1061208000 = 32576 := by
    obtain ⟨i1, i2, i3⟩ := isq_spec (x := 1061208000) (by decide)
    have a1 := (le_isq (x := 1061208000) (k := 32576) (by decide) (by decide)).2 (by decide)
    by_cases c : 32577 ≤ isq 1061208000
    · have := (le_isq (x := 1061208000) (k := 32577) (by decide) (by decide)).1 c
      omega
    · omega
  have fl : flZ 0 255 16320 255 = 127 := by
    unfold flZ
    rw [show (255 : Int) * 255 * 16320 = 1061208000 by decide, sq]; decide
  have v3 : mcV 4 10 255 255 255 64 255 = 128 := by
    rw [c3.2, z1, z2, z3, z4]
    unfold hvZ
    rw [show (1 : Int) * 255 = 255 by decide, fl]
    decide
  have i : ∀ x : Int, 0 ≤ x → x < 65536 → in16 x = true := fun x h k => in16_iff.2 ⟨h, k⟩
  simp [okAns, eqXs, eqX, eqc, veq, eqUs, bcond_iff, c1.1, ok2, c3.1, v1, v2, v3, i, ieq]

set_option linter.unusedVariables false in
theorem MixAgrees_core (op mode n0 n1 n2 n3 m : Int) (w0 : (Lit.int .i64 op).wf = true) (w1 : (Lit.int .i64 mode).wf = true) (w2 : (Lit.int .i64 n0).wf = true) (w3 : (Lit.int .i64 n1).wf = true) (w4 : (Lit.int .i64 n2).wf = true) (w5 : (Lit.int .i64 n3).wf = true) (w6 : (Lit.int .i64 m).wf = true) (w : World) {F : Nat → Prop} (hG : QR.Laid F w) (hF : ∀ k, F k → k < w.heap.size) :
    Calls Tryd.prog 3 #[.int .i64 op, .int .i64 mode, .agg #[.int .i64 n0, .int .i64 n1, .int .i64 n2, .int .i64 n3], .int .i64 m] w fun e w' => e = .returned (.bool true) ∧ Below w.heap.size w w' := by
  refine law_of_eval (O := o_law8a) (QR.orc_cons (up a_gmax) (QR.orc_cons (up a_mod) (QR.orc_cons (up a_galpha) (QR.orc_cons a_mcol (QR.orc_cons a_rmcol (QR.orc_cons a_mval (QR.orc_cons a_rmval (QR.orc_cons (up a_rhalf3) (QR.orc_cons a_oalpha (QR.orc_cons (up a_half) (QR.orc_cons a_str6 (QR.orc_cons a_awake8 QR.orc_nil)))))))))))) mixed (QR.noLoops) Tryd.func3 (by kernel_rfl) (vs := [.int .i64 op, .int .i64 mode, .agg #[.int .i64 n0, .int .i64 n1, .int .i64 n2, .int .i64 n3], .int .i64 m]) (xs := [.c (.v (.int .i64 op)), .c (.v (.int .i64 mode)), .agg [.v (.int .i64 n0), .v (.int .i64 n1), .v (.int .i64 n2), .v (.int .i64 n3)], .c (.v (.int .i64 m))]) (args := [.x (.c (.v (.int .i64 op))), .x (.c (.v (.int .i64 mode))), .x (.agg [.v (.int .i64 n0), .v (.int .i64 n1), .v (.int .i64 n2), .v (.int .i64 n3)]), .x (.c (.v (.int .i64 m)))]) rfl rfl (by simp) ?_ w hG hF
  rw [MixAgrees_vc]
  have k : modOk 14 = true := rfl
  simp [okAns, eqXs, eqX, eqc, veq, eqUs, bcond_iff, k, ieq_rfl', beq_rfl', gx16, gs16, gss16]

set_option linter.unusedVariables false in
theorem MixAgreesForAll_core (op mode m s a d b : Int) (full : Bool) (w0 : (Lit.int .i64 op).wf = true) (w1 : (Lit.int .i64 mode).wf = true) (w2 : (Lit.int .u16 m).wf = true) (w3 : (Lit.int .u16 s).wf = true) (w4 : (Lit.int .u16 a).wf = true) (w5 : (Lit.int .u16 d).wf = true) (w6 : (Lit.int .u16 b).wf = true) (w : World) {F : Nat → Prop} (hG : QR.Laid F w) (hF : ∀ k, F k → k < w.heap.size) :
    Calls Tryd.prog 4 #[.int .i64 op, .int .i64 mode, .int .u16 m, .int .u16 s, .int .u16 a, .int .u16 d, .int .u16 b, .bool full] w fun e w' => e = .returned (.bool true) ∧ Below w.heap.size w w' := by
  refine law_of_eval (O := o_law8a) (QR.orc_cons (up a_gmax) (QR.orc_cons (up a_mod) (QR.orc_cons (up a_galpha) (QR.orc_cons a_mcol (QR.orc_cons a_rmcol (QR.orc_cons a_mval (QR.orc_cons a_rmval (QR.orc_cons (up a_rhalf3) (QR.orc_cons a_oalpha (QR.orc_cons (up a_half) (QR.orc_cons a_str6 (QR.orc_cons a_awake8 QR.orc_nil)))))))))))) mixed (QR.noLoops) Tryd.func4 (by kernel_rfl) (vs := [.int .i64 op, .int .i64 mode, .int .u16 m, .int .u16 s, .int .u16 a, .int .u16 d, .int .u16 b, .bool full]) (xs := [.c (.v (.int .i64 op)), .c (.v (.int .i64 mode)), .c (.v (.int .u16 m)), .c (.v (.int .u16 s)), .c (.v (.int .u16 a)), .c (.v (.int .u16 d)), .c (.v (.int .u16 b)), .c (.v (.bool full))]) (args := [.x (.c (.v (.int .i64 op))), .x (.c (.v (.int .i64 mode))), .x (.c (.v (.int .u16 m))), .x (.c (.v (.int .u16 s))), .x (.c (.v (.int .u16 a))), .x (.c (.v (.int .u16 d))), .x (.c (.v (.int .u16 b))), .x (.c (.v (.bool full)))]) rfl rfl (by simp) ?_ w hG hF
  rw [MixAgreesForAll_vc]
  have k : modOk 14 = true := rfl
  have g2 := wf16 w2
  have g3 := wf16 w3
  have g4 := wf16 w4
  have g5 := wf16 w5
  have g6 := wf16 w6
  have i : in16 65535 = true := rfl
  cases full <;> simp [okAns, eqXs, eqX, eqc, veq, eqUs, bcond_iff, k, ieq_rfl', beq_rfl', band, g2, g3, g4, g5, g6, i]

set_option linter.unusedVariables false in
theorem MixValueAgrees_core (op mode n0 n1 n2 n3 m : Int) (w0 : (Lit.int .i64 op).wf = true) (w1 : (Lit.int .i64 mode).wf = true) (w2 : (Lit.int .i64 n0).wf = true) (w3 : (Lit.int .i64 n1).wf = true) (w4 : (Lit.int .i64 n2).wf = true) (w5 : (Lit.int .i64 n3).wf = true) (w6 : (Lit.int .i64 m).wf = true) (w : World) {F : Nat → Prop} (hG : QR.Laid F w) (hF : ∀ k, F k → k < w.heap.size) :
    Calls Tryd.prog 5 #[.int .i64 op, .int .i64 mode, .agg #[.int .i64 n0, .int .i64 n1, .int .i64 n2, .int .i64 n3], .int .i64 m] w fun e w' => e = .returned (.bool true) ∧ Below w.heap.size w w' := by
  refine law_of_eval (O := o_law8a) (QR.orc_cons (up a_gmax) (QR.orc_cons (up a_mod) (QR.orc_cons (up a_galpha) (QR.orc_cons a_mcol (QR.orc_cons a_rmcol (QR.orc_cons a_mval (QR.orc_cons a_rmval (QR.orc_cons (up a_rhalf3) (QR.orc_cons a_oalpha (QR.orc_cons (up a_half) (QR.orc_cons a_str6 (QR.orc_cons a_awake8 QR.orc_nil)))))))))))) mixed (QR.noLoops) Tryd.func5 (by kernel_rfl) (vs := [.int .i64 op, .int .i64 mode, .agg #[.int .i64 n0, .int .i64 n1, .int .i64 n2, .int .i64 n3], .int .i64 m]) (xs := [.c (.v (.int .i64 op)), .c (.v (.int .i64 mode)), .agg [.v (.int .i64 n0), .v (.int .i64 n1), .v (.int .i64 n2), .v (.int .i64 n3)], .c (.v (.int .i64 m))]) (args := [.x (.c (.v (.int .i64 op))), .x (.c (.v (.int .i64 mode))), .x (.agg [.v (.int .i64 n0), .v (.int .i64 n1), .v (.int .i64 n2), .v (.int .i64 n3)]), .x (.c (.v (.int .i64 m)))]) rfl rfl (by simp) ?_ w hG hF
  rw [MixValueAgrees_vc]
  have k : modOk 12 = true := rfl
  have e1 := (gmod_i64 (op := op) (k := 12) (by decide) (by decide)).1
  have e2 := (gmod_i64 (op := mode) (k := 12) (by decide) (by decide)).1
  have r1 := gmod_range op (k := 12) (by decide)
  have r2 := gmod_range mode (k := 12) (by decide)
  have gm := gx16 m
  have hM := gxMax_cases m
  have s1 := ga_in (x := n0) (f := n1) (n := m)
  have s2 := gs_in (a := n1) (n := m)
  have d1 := ga_in (x := n2) (f := n3) (n := m)
  have d2 := gs_in (a := n3) (n := m)
  have i1 := gss16 n0 n1 m
  have i2 := gs16 n1 m
  have i3 := gss16 n2 n3 m
  have i4 := gs16 n3 m
  have ok : mxOk (1 + gmod op 12) (1 + gmod mode 12) (gxMax m) (gsV n0 (gsV n1 (gxMax m))) (gsV n1 (gxMax m)) (gsV n2 (gsV n3 (gxMax m))) (gsV n3 (gxMax m)) = true := mx_iff.2 ⟨⟨by omega, by omega, s1.2, d1.2⟩, ⟨by omega, by omega, s2.2, d2.2⟩, hM⟩
  obtain ⟨j1, j2, j3, j4, j5⟩ := mx_in (o := 1 + gmod op 12) (k := 1 + gmod mode 12) gm i1 i2 i3 i4
  obtain ⟨okv, ce, c0, _, c1⟩ := mc_eq ok s1.1 d1.1
  simp only [okAns, eqXs, eqX, eqc, veq, eqUs, bcond_iff, forall_eq, true_and, and_true, e1, e2]
  have hv := mc_half ok s1.1 d1.1
  have cu := u64_id c0 (by omega)
  simp [k, gm, i1, i2, i3, i4, j1, j2, j3, j4, j5, ok, okv, hv, cu, ieq_rfl', beq_rfl', band]

set_option linter.unusedVariables false in
theorem MixColourBelowAlpha_core (op mode n0 n1 n2 n3 m : Int) (w0 : (Lit.int .i64 op).wf = true) (w1 : (Lit.int .i64 mode).wf = true) (w2 : (Lit.int .i64 n0).wf = true) (w3 : (Lit.int .i64 n1).wf = true) (w4 : (Lit.int .i64 n2).wf = true) (w5 : (Lit.int .i64 n3).wf = true) (w6 : (Lit.int .i64 m).wf = true) (w : World) {F : Nat → Prop} (hG : QR.Laid F w) (hF : ∀ k, F k → k < w.heap.size) :
    Calls Tryd.prog 6 #[.int .i64 op, .int .i64 mode, .agg #[.int .i64 n0, .int .i64 n1, .int .i64 n2, .int .i64 n3], .int .i64 m] w fun e w' => e = .returned (.bool true) ∧ Below w.heap.size w w' := by
  refine law_of_eval (O := o_law8a) (QR.orc_cons (up a_gmax) (QR.orc_cons (up a_mod) (QR.orc_cons (up a_galpha) (QR.orc_cons a_mcol (QR.orc_cons a_rmcol (QR.orc_cons a_mval (QR.orc_cons a_rmval (QR.orc_cons (up a_rhalf3) (QR.orc_cons a_oalpha (QR.orc_cons (up a_half) (QR.orc_cons a_str6 (QR.orc_cons a_awake8 QR.orc_nil)))))))))))) mixed (QR.noLoops) Tryd.func6 (by kernel_rfl) (vs := [.int .i64 op, .int .i64 mode, .agg #[.int .i64 n0, .int .i64 n1, .int .i64 n2, .int .i64 n3], .int .i64 m]) (xs := [.c (.v (.int .i64 op)), .c (.v (.int .i64 mode)), .agg [.v (.int .i64 n0), .v (.int .i64 n1), .v (.int .i64 n2), .v (.int .i64 n3)], .c (.v (.int .i64 m))]) (args := [.x (.c (.v (.int .i64 op))), .x (.c (.v (.int .i64 mode))), .x (.agg [.v (.int .i64 n0), .v (.int .i64 n1), .v (.int .i64 n2), .v (.int .i64 n3)]), .x (.c (.v (.int .i64 m)))]) rfl rfl (by simp) ?_ w hG hF
  rw [MixColourBelowAlpha_vc]
  have k : modOk 12 = true := rfl
  have e1 := (gmod_i64 (op := op) (k := 12) (by decide) (by decide)).1
  have e2 := (gmod_i64 (op := mode) (k := 12) (by decide) (by decide)).1
  have r1 := gmod_range op (k := 12) (by decide)
  have r2 := gmod_range mode (k := 12) (by decide)
  have gm := gx16 m
  have hM := gxMax_cases m
  have s1 := ga_in (x := n0) (f := n1) (n := m)
  have s2 := gs_in (a := n1) (n := m)
  have d1 := ga_in (x := n2) (f := n3) (n := m)
  have d2 := gs_in (a := n3) (n := m)
  have ok : mxOk (1 + gmod op 12) (1 + gmod mode 12) (gxMax m) (gsV n0 (gsV n1 (gxMax m))) (gsV n1 (gxMax m)) (gsV n2 (gsV n3 (gxMax m))) (gsV n3 (gxMax m)) = true := mx_iff.2 ⟨⟨by omega, by omega, s1.2, d1.2⟩, ⟨by omega, by omega, s2.2, d2.2⟩, hM⟩
  have l : ile (mcV (1 + gmod op 12) (1 + gmod mode 12) (gxMax m) (gsV n0 (gsV n1 (gxMax m))) (gsV n1 (gxMax m)) (gsV n2 (gsV n3 (gxMax m))) (gsV n3 (gxMax m))) (alV (1 + gmod op 12) (gsV n1 (gxMax m)) (gsV n3 (gxMax m)) (gxMax m)) = true := decide_eq_true (mc_eq ok s1.1 d1.1).2.2.2.1
  simp [okAns, eqXs, eqX, eqc, veq, eqUs, bcond_iff, k, e1, e2, gm, gs16, gss16, ok, l]

theorem osel (n : Int) (h : 0 ≤ n) (h2 : n < 4) : (isel (ieq n 3) 2 (isel (ieq n 2) 10 (isel (ieq n 1) 6 (isel (ieq n 0) 4 0))) = 4 ∨ isel (ieq n 3) 2 (isel (ieq n 2) 10 (isel (ieq n 1) 6 (isel (ieq n 0) 4 0))) = 6 ∨ isel (ieq n 3) 2 (isel (ieq n 2) 10 (isel (ieq n 1) 6 (isel (ieq n 0) 4 0))) = 10 ∨ isel (ieq n 3) 2 (isel (ieq n 2) 10 (isel (ieq n 1) 6 (isel (ieq n 0) 4 0))) = 2) ∧
    (isel (ieq n 3) 11 (isel (ieq n 2) 7 (isel (ieq n 1) 5 (isel (ieq n 0) 3 0))) = 3 ∨ isel (ieq n 3) 11 (isel (ieq n 2) 7 (isel (ieq n 1) 5 (isel (ieq n 0) 3 0))) = 5 ∨ isel (ieq n 3) 11 (isel (ieq n 2) 7 (isel (ieq n 1) 5 (isel (ieq n 0) 3 0))) = 7 ∨ isel (ieq n 3) 11 (isel (ieq n 2) 7 (isel (ieq n 1) 5 (isel (ieq n 0) 3 0))) = 11) := by
  have : n = 0 ∨ n = 1 ∨ n = 2 ∨ n = 3 := by omega
  rcases this with rfl | rfl | rfl | rfl <;> decide
/-- a number below a sample's limit -/
theorem g_below {c n : Int} : modOk (iadd .i64 (iconv .i64 (gxMax n)) 1) = true ∧ 0 ≤ iconv .u16 (gmod c (iadd .i64 (iconv .i64 (gxMax n)) 1)) ∧ iconv .u16 (gmod c (iadd .i64 (iconv .i64 (gxMax n)) 1)) ≤ gxMax n := by
  have e : iadd .i64 (iconv .i64 (gxMax n)) 1 = gxMax n + 1 := by rcases gxMax_cases n with h | h <;> rw [h] <;> decide
  have k : modOk (gxMax n + 1) = true := by rcases gxMax_cases n with h | h <;> rw [h] <;> decide
  have hM := gxMax_cases n
  rw [e]
  have r := gmod_range c (k := gxMax n + 1) (by omega)
  rw [u16_id r.1 (by omega)]
  exact ⟨k, r.1, by omega⟩
set_option linter.unusedVariables false in
theorem MixOfOpaqueColours_core (op mode cs cb m : Int) (w0 : (Lit.int .i64 op).wf = true) (w1 : (Lit.int .i64 mode).wf = true) (w2 : (Lit.int .u16 cs).wf = true) (w3 : (Lit.int .u16 cb).wf = true) (w4 : (Lit.int .i64 m).wf = true) (w : World) {F : Nat → Prop} (hG : QR.Laid F w) (hF : ∀ k, F k → k < w.heap.size) :
    Calls Tryd.prog 7 #[.int .i64 op, .int .i64 mode, .int .u16 cs, .int .u16 cb, .int .i64 m] w fun e w' => e = .returned (.bool true) ∧ Below w.heap.size w w' := by
  refine law_of_eval (O := o_law8a) (QR.orc_cons (up a_gmax) (QR.orc_cons (up a_mod) (QR.orc_cons (up a_galpha) (QR.orc_cons a_mcol (QR.orc_cons a_rmcol (QR.orc_cons a_mval (QR.orc_cons a_rmval (QR.orc_cons (up a_rhalf3) (QR.orc_cons a_oalpha (QR.orc_cons (up a_half) (QR.orc_cons a_str6 (QR.orc_cons a_awake8 QR.orc_nil)))))))))))) mixed (QR.noLoops) Tryd.func7 (by kernel_rfl) (vs := [.int .i64 op, .int .i64 mode, .int .u16 cs, .int .u16 cb, .int .i64 m]) (xs := [.c (.v (.int .i64 op)), .c (.v (.int .i64 mode)), .c (.v (.int .u16 cs)), .c (.v (.int .u16 cb)), .c (.v (.int .i64 m))]) (args := [.x (.c (.v (.int .i64 op))), .x (.c (.v (.int .i64 mode))), .x (.c (.v (.int .u16 cs))), .x (.c (.v (.int .u16 cb))), .x (.c (.v (.int .i64 m)))]) rfl rfl (by simp) ?_ w hG hF
  rw [MixOfOpaqueColours_vc]
  have k : modOk 12 = true := rfl
  have k4 : modOk 4 = true := rfl
  have e2 := (gmod_i64 (op := mode) (k := 12) (by decide) (by decide)).1
  have r2 := gmod_range mode (k := 12) (by decide)
  have r4 := gmod_range op (k := 4) (by decide)
  have gm := gx16 m
  have hM := gxMax_cases m
  obtain ⟨km, a0, a1⟩ := g_below (c := iconv .i64 cs) (n := m)
  obtain ⟨_, b0, b1⟩ := g_below (c := iconv .i64 cb) (n := m)
  obtain ⟨o1, o2⟩ := osel (gmod op 4) r4.1 r4.2
  have l1 : ile 0 (gmod op 4) = true := decide_eq_true r4.1
  have l2 : ilt (gmod op 4) 4 = true := decide_eq_true r4.2
  simp only [okAns, eqXs, eqX, eqc, veq, eqUs, bcond_iff, forall_eq, true_and, and_true, e2, k, k4, km, gm, l1, l2]
  generalize isel (ieq (gmod op 4) 3) 2 (isel (ieq (gmod op 4) 2) 10 (isel (ieq (gmod op 4) 1) 6 (isel (ieq (gmod op 4) 0) 4 0))) = x at *
  generalize isel (ieq (gmod op 4) 3) 11 (isel (ieq (gmod op 4) 2) 7 (isel (ieq (gmod op 4) 1) 5 (isel (ieq (gmod op 4) 0) 3 0))) = y at *
  generalize iconv .u16 (gmod (iconv .i64 cs) (iadd .i64 (iconv .i64 (gxMax m)) 1)) = s at *
  generalize iconv .u16 (gmod (iconv .i64 cb) (iadd .i64 (iconv .i64 (gxMax m)) 1)) = d at *
  obtain ⟨K, hK⟩ : ∃ K, K = 1 + gmod mode 12 := ⟨_, rfl⟩
  rw [← hK]
  have hK' : 1 ≤ K ∧ K ≤ 12 := by omega
  obtain ⟨m1, m2⟩ := mc_opaque (o := x) (k := K) o1 hK' hM a0 a1 b0 b1
  obtain ⟨m3, m4⟩ := mc_backdrop (o := y) (k := K) o2 hK' hM a0 a1 b0 b1
  have f := mc_eq m1 a0 b0
  rw [m2] at f
  obtain ⟨n1, n2⟩ := st_hv (k := K) (m := gxMax m) hK' (by omega) (by omega) a0 a1 b0 b1 f.2.2.1 f.2.2.2.2
  have is : in16 s = true := in16_iff.2 (by omega)
  have id : in16 d = true := in16_iff.2 (by omega)
  simp [m1, m2, m3, m4, n1, n2, is, id, ieq_rfl']

set_option linter.unusedVariables false in
theorem MixNormalIsTheClassic_core (n0 n1 n2 n3 m : Int) (w0 : (Lit.int .i64 n0).wf = true) (w1 : (Lit.int .i64 n1).wf = true) (w2 : (Lit.int .i64 n2).wf = true) (w3 : (Lit.int .i64 n3).wf = true) (w4 : (Lit.int .i64 m).wf = true) (w : World) {F : Nat → Prop} (hG : QR.Laid F w) (hF : ∀ k, F k → k < w.heap.size) :
    Calls Tryd.prog 8 #[.agg #[.int .i64 n0, .int .i64 n1, .int .i64 n2, .int .i64 n3], .int .i64 m] w fun e w' => e = .returned (.bool true) ∧ Below w.heap.size w w' := by
  refine law_of_eval (O := o_law8a) (QR.orc_cons (up a_gmax) (QR.orc_cons (up a_mod) (QR.orc_cons (up a_galpha) (QR.orc_cons a_mcol (QR.orc_cons a_rmcol (QR.orc_cons a_mval (QR.orc_cons a_rmval (QR.orc_cons (up a_rhalf3) (QR.orc_cons a_oalpha (QR.orc_cons (up a_half) (QR.orc_cons a_str6 (QR.orc_cons a_awake8 QR.orc_nil)))))))))))) mixed (QR.noLoops) Tryd.func8 (by kernel_rfl) (vs := [.agg #[.int .i64 n0, .int .i64 n1, .int .i64 n2, .int .i64 n3], .int .i64 m]) (xs := [.agg [.v (.int .i64 n0), .v (.int .i64 n1), .v (.int .i64 n2), .v (.int .i64 n3)], .c (.v (.int .i64 m))]) (args := [.x (.agg [.v (.int .i64 n0), .v (.int .i64 n1), .v (.int .i64 n2), .v (.int .i64 n3)]), .x (.c (.v (.int .i64 m)))]) rfl rfl (by simp) ?_ w hG hF
  rw [MixNormalIsTheClassic_vc]
  have gm := gx16 m
  have hM := gxMax_cases m
  have s1 := ga_in (x := n0) (f := n1) (n := m)
  have s2 := gs_in (a := n1) (n := m)
  have d1 := ga_in (x := n2) (f := n3) (n := m)
  have d2 := gs_in (a := n3) (n := m)
  have i1 := gss16 n0 n1 m
  have i2 := gs16 n1 m
  have i3 := gss16 n2 n3 m
  have i4 := gs16 n3 m
  simp only [okAns, eqXs, eqX, eqc, veq, eqUs, bcond_iff, forall_eq, true_and, and_true, gm, i1, i2, i3, i4]
  generalize gsV n0 (gsV n1 (gxMax m)) = s at *
  generalize gsV n1 (gxMax m) = a at *
  generalize gsV n2 (gsV n3 (gxMax m)) = d at *
  generalize gsV n3 (gxMax m) = b at *
  obtain ⟨ok, v⟩ := mc_classic (m := gxMax m) hM s1.1 s1.2 s2.2 d1.1 d1.2 d2.2
  have c := mc_eq ok s1.1 d1.1
  obtain ⟨z1, z2, z3⟩ := sub16 gm i2 s2.2
  have u1 := (conv64 z2).1
  have u2 := (conv64 i3).1
  have u3 := conv64 gm
  have u4 := (conv64 i1).1
  have t0 := Int.mul_nonneg (show 0 ≤ gxMax m - a by omega) d1.1
  have t1 := Int.mul_le_mul (show gxMax m - a ≤ 65535 by omega) (show d ≤ 65535 by omega) d1.1 (by decide)
  have u5 := mulIn t0 (by omega)
  have iu : inU ((gxMax m - a) * d) = true := inU_iff.2 (by omega)
  have cu : iconv .u64 (mcV 4 1 (gxMax m) s a d b) = mcV 4 1 (gxMax m) s a d b := u64_id c.2.2.1 (by omega)
  have ad : iadd .u64 s (hlf ((gxMax m - a) * d) (gxMax m)) = mcV 4 1 (gxMax m) s a d b := by
    rw [iaddU, ← v]; exact modM c.2.2.1 (by omega)
  simp [ok, z1, u1, u2, u3, u4, u5, iu, cu, ad, ieq_rfl']

set_option linter.unusedVariables false in
theorem MixIgnoresModeWithoutOverlap_core (op mode n0 n1 m : Int) (w0 : (Lit.int .i64 op).wf = true) (w1 : (Lit.int .i64 mode).wf = true) (w2 : (Lit.int .i64 n0).wf = true) (w3 : (Lit.int .i64 n1).wf = true) (w4 : (Lit.int .i64 m).wf = true) (w : World) {F : Nat → Prop} (hG : QR.Laid F w) (hF : ∀ k, F k → k < w.heap.size) :
    Calls Tryd.prog 9 #[.int .i64 op, .int .i64 mode, .agg #[.int .i64 n0, .int .i64 n1], .int .i64 m] w fun e w' => e = .returned (.bool true) ∧ Below w.heap.size w w' := by
  refine law_of_eval (O := o_law8a) (QR.orc_cons (up a_gmax) (QR.orc_cons (up a_mod) (QR.orc_cons (up a_galpha) (QR.orc_cons a_mcol (QR.orc_cons a_rmcol (QR.orc_cons a_mval (QR.orc_cons a_rmval (QR.orc_cons (up a_rhalf3) (QR.orc_cons a_oalpha (QR.orc_cons (up a_half) (QR.orc_cons a_str6 (QR.orc_cons a_awake8 QR.orc_nil)))))))))))) mixed (QR.noLoops) Tryd.func9 (by kernel_rfl) (vs := [.int .i64 op, .int .i64 mode, .agg #[.int .i64 n0, .int .i64 n1], .int .i64 m]) (xs := [.c (.v (.int .i64 op)), .c (.v (.int .i64 mode)), .agg [.v (.int .i64 n0), .v (.int .i64 n1)], .c (.v (.int .i64 m))]) (args := [.x (.c (.v (.int .i64 op))), .x (.c (.v (.int .i64 mode))), .x (.agg [.v (.int .i64 n0), .v (.int .i64 n1)]), .x (.c (.v (.int .i64 m)))]) rfl rfl (by simp) ?_ w hG hF
  rw [MixIgnoresModeWithoutOverlap_vc]
  have k : modOk 12 = true := rfl
  have e1 := (gmod_i64 (op := op) (k := 12) (by decide) (by decide)).1
  have e2 := (gmod_i64 (op := mode) (k := 12) (by decide) (by decide)).1
  have r1 := gmod_range op (k := 12) (by decide)
  have r2 := gmod_range mode (k := 12) (by decide)
  have gm := gx16 m
  have hM := gxMax_cases m
  have s1 := ga_in (x := n0) (f := n1) (n := m)
  have s2 := gs_in (a := n1) (n := m)
  have i1 := gss16 n0 n1 m
  have i2 := gs16 n1 m
  have i0 : in16 0 = true := rfl
  simp only [okAns, eqXs, eqX, eqc, veq, eqUs, bcond_iff, forall_eq, true_and, and_true, gm, i1, i2, i0, e1, e2, k]
  generalize gsV n0 (gsV n1 (gxMax m)) = s at *
  generalize gsV n1 (gxMax m) = a at *
  obtain ⟨p1, p2, p3⟩ := mc_void (o := 1 + gmod op 12) (k := 1 + gmod mode 12) (m := gxMax m) (s := s) (a := a) (d := 0) (b := 0) (by omega) (by omega) hM s1.1 s1.2 s2.2 (by omega) (by omega) (by omega) (Int.mul_zero a)
  obtain ⟨q1, q2, q3⟩ := mc_void (o := 1 + gmod op 12) (k := 1 + gmod mode 12) (m := gxMax m) (s := 0) (a := 0) (d := s) (b := a) (by omega) (by omega) hM (by omega) (by omega) (by omega) s1.1 s1.2 s2.2 (Int.zero_mul a)
  simp [p1, p2, p3, q1, q2, q3, ieq_rfl']
end Go.Proofs.YtichmiifldbnhaaDoor
