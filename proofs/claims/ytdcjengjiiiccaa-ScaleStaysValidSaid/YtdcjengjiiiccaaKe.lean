/-
  The laws of layer 11 (scale): each returns true for all arguments in their ranges.
-/
import Derived.Test.YtdcjengjiiiccaaKd
namespace Go.Proofs.Ytdcjengjiiiccaa
open Go.RowKit PR QR
set_option linter.unusedVariables false
set_option linter.unusedSimpArgs false

theorem a_awake11 : Answers2 14 s_yes8 := by
  intro al ans h hq
  unfold s_yes8 at h
  split at h <;> try (simp at h; done)
  skip
  simp only [Option.some.injEq] at h
  subst h
  have hq := asked hq
  refine QR.does_of_eval (O := o_aw11) (QR.orc_cons a_scale QR.orc_nil) mixed (QR.noLoops) Try.func14 (by kernel_rfl) (by kernel_rfl) (by simp) ?_
  rw [awake11_vc]
  have ok : scOk 100 0 50 200 255 128 255 = true := by decide
  have e : ∀ x, scV 100 0 50 200 255 x 128 255 = iconv .u16 (scN x 128 255) := fun x => by unfold scV; rw [ok]; rfl
  have v0 : iconv .u16 (scN 100 128 255) = 50 := by decide
  have v1 : iconv .u16 (scN 0 128 255) = 0 := by decide
  have v2 : iconv .u16 (scN 50 128 255) = 25 := by decide
  have v3 : iconv .u16 (scN 200 128 255) = 100 := by decide
  have v4 : iconv .u16 (scN 255 128 255) = 128 := by decide
  have i : ∀ x : Int, 0 ≤ x → x < 65536 → in16 x = true := fun x h k => in16_iff.2 ⟨h, k⟩
  simp [okAns, eqXs, eqX, eqo, eqLo, eqc, veq, eqUs, bcond_iff, ok, e, v0, v1, v2, v3, v4, i, ieq, band]

set_option linter.unusedVariables false in
theorem ScaleAgrees_core (n0 n1 n2 n3 n4 k o m p0 p1 p2 pa pf t u v : Int) (w0 : (Lit.int .i64 n0).wf = true) (w1 : (Lit.int .i64 n1).wf = true) (w2 : (Lit.int .i64 n2).wf = true) (w3 : (Lit.int .i64 n3).wf = true) (w4 : (Lit.int .i64 n4).wf = true) (w5 : (Lit.int .i64 k).wf = true) (w6 : (Lit.int .i64 o).wf = true) (w7 : (Lit.int .i64 m).wf = true) (w8 : (Lit.int .u16 p0).wf = true) (w9 : (Lit.int .u16 p1).wf = true) (w10 : (Lit.int .u16 p2).wf = true) (w11 : (Lit.int .u16 pa).wf = true) (w12 : (Lit.int .u16 pf).wf = true) (w13 : (Lit.int .u16 t).wf = true) (w14 : (Lit.int .u16 u).wf = true) (w15 : (Lit.int .u16 v).wf = true) (w : World) {F : Nat → Prop} (hG : QR.Laid F w) (hF : ∀ k, F k → k < w.heap.size) :
    Calls Try.prog 3 #[.agg #[.int .i64 n0, .int .i64 n1, .int .i64 n2, .int .i64 n3, .int .i64 n4], .int .i64 k, .int .i64 o, .int .i64 m, .agg #[.int .u16 p0, .int .u16 p1, .int .u16 p2, .int .u16 pa, .int .u16 pf], .int .u16 t, .int .u16 u, .int .u16 v] w fun e w' => e = .returned (.bool true) ∧ Below w.heap.size w w' := by
  refine law_of_eval (O := o_law11) (QR.orc_cons (up a_gmax) (QR.orc_cons (up a_gsample) (QR.orc_cons (up a_gpixel) (QR.orc_cons (up a_rpvalid) (QR.orc_cons a_scale (QR.orc_cons a_sboth (QR.orc_cons a_rscale (QR.orc_cons a_rsboth (QR.orc_cons a_awake11 QR.orc_nil))))))))) mixed (QR.noLoops) Try.func3 (by kernel_rfl) (vs := [.agg #[.int .i64 n0, .int .i64 n1, .int .i64 n2, .int .i64 n3, .int .i64 n4], .int .i64 k, .int .i64 o, .int .i64 m, .agg #[.int .u16 p0, .int .u16 p1, .int .u16 p2, .int .u16 pa, .int .u16 pf], .int .u16 t, .int .u16 u, .int .u16 v]) (xs := [.agg [.v (.int .i64 n0), .v (.int .i64 n1), .v (.int .i64 n2), .v (.int .i64 n3), .v (.int .i64 n4)], .c (.v (.int .i64 k)), .c (.v (.int .i64 o)), .c (.v (.int .i64 m)), .agg [.v (.int .u16 p0), .v (.int .u16 p1), .v (.int .u16 p2), .v (.int .u16 pa), .v (.int .u16 pf)], .c (.v (.int .u16 t)), .c (.v (.int .u16 u)), .c (.v (.int .u16 v))]) (args := [.x (.agg [.v (.int .i64 n0), .v (.int .i64 n1), .v (.int .i64 n2), .v (.int .i64 n3), .v (.int .i64 n4)]), .x (.c (.v (.int .i64 k))), .x (.c (.v (.int .i64 o))), .x (.c (.v (.int .i64 m))), .x (.agg [.v (.int .u16 p0), .v (.int .u16 p1), .v (.int .u16 p2), .v (.int .u16 pa), .v (.int .u16 pf)]), .x (.c (.v (.int .u16 t))), .x (.c (.v (.int .u16 u))), .x (.c (.v (.int .u16 v)))]) rfl rfl (by simp) ?_ w hG hF
  rw [ScaleAgrees_vc]
  have gm := gx16 m
  have hM := gxMax_cases m
  have i0 : in16 0 = true := rfl
  have p := gp_all n0 n1 n2 n3 n4 m
  have g0 := gpC_in16 n0 n3 n4 gm
  have g1 := gpC_in16 n1 n3 n4 gm
  have g2 := gpC_in16 n2 n3 n4 gm
  have g3 := gpA_in16 n3 n4 gm
  have g4 := gpF_in16 n4 gm
  simp [okAns, eqXs, eqX, eqo, eqLo, eqc, veq, eqUs, bcond_iff, gm, g0, g1, g2, g3, g4, ieq_rfl', beq_rfl', band, gsV_in16, wf16 w8, wf16 w9, wf16 w10, wf16 w11, wf16 w12, wf16 w13, wf16 w14, wf16 w15]

set_option linter.unusedVariables false in
theorem ScaleStaysValid_core (n0 n1 n2 n3 n4 k o m : Int) (w0 : (Lit.int .i64 n0).wf = true) (w1 : (Lit.int .i64 n1).wf = true) (w2 : (Lit.int .i64 n2).wf = true) (w3 : (Lit.int .i64 n3).wf = true) (w4 : (Lit.int .i64 n4).wf = true) (w5 : (Lit.int .i64 k).wf = true) (w6 : (Lit.int .i64 o).wf = true) (w7 : (Lit.int .i64 m).wf = true) (w : World) {F : Nat → Prop} (hG : QR.Laid F w) (hF : ∀ k, F k → k < w.heap.size) :
    Calls Try.prog 4 #[.agg #[.int .i64 n0, .int .i64 n1, .int .i64 n2, .int .i64 n3, .int .i64 n4], .int .i64 k, .int .i64 o, .int .i64 m] w fun e w' => e = .returned (.bool true) ∧ Below w.heap.size w w' := by
  refine law_of_eval (O := o_law11) (QR.orc_cons (up a_gmax) (QR.orc_cons (up a_gsample) (QR.orc_cons (up a_gpixel) (QR.orc_cons (up a_rpvalid) (QR.orc_cons a_scale (QR.orc_cons a_sboth (QR.orc_cons a_rscale (QR.orc_cons a_rsboth (QR.orc_cons a_awake11 QR.orc_nil))))))))) mixed (QR.noLoops) Try.func4 (by kernel_rfl) (vs := [.agg #[.int .i64 n0, .int .i64 n1, .int .i64 n2, .int .i64 n3, .int .i64 n4], .int .i64 k, .int .i64 o, .int .i64 m]) (xs := [.agg [.v (.int .i64 n0), .v (.int .i64 n1), .v (.int .i64 n2), .v (.int .i64 n3), .v (.int .i64 n4)], .c (.v (.int .i64 k)), .c (.v (.int .i64 o)), .c (.v (.int .i64 m))]) (args := [.x (.agg [.v (.int .i64 n0), .v (.int .i64 n1), .v (.int .i64 n2), .v (.int .i64 n3), .v (.int .i64 n4)]), .x (.c (.v (.int .i64 k))), .x (.c (.v (.int .i64 o))), .x (.c (.v (.int .i64 m)))]) rfl rfl (by simp) ?_ w hG hF
  rw [ScaleStaysValid_vc]
  have gm := gx16 m
  have hM := gxMax_cases m
  have i0 : in16 0 = true := rfl
  have p := gp_all n0 n1 n2 n3 n4 m
  have g0 := gpC_in16 n0 n3 n4 gm
  have g1 := gpC_in16 n1 n3 n4 gm
  have g2 := gpC_in16 n2 n3 n4 gm
  have g3 := gpA_in16 n3 n4 gm
  have g4 := gpF_in16 n4 gm
  have u := gs_in (a := k) (n := m)
  have v := gs_in (a := o) (n := m)
  have iu := gs16 k m
  have iv := gs16 o m
  simp only [okAns, eqXs, eqX, eqo, eqLo, eqc, veq, eqUs, bcond_iff, forall_eq, true_and, and_true, gm, g0, g1, g2, g3, g4, i0, iu, iv]
  generalize gpC n0 n3 n4 (gxMax m) = p0 at *
  generalize gpC n1 n3 n4 (gxMax m) = p1 at *
  generalize gpC n2 n3 n4 (gxMax m) = p2 at *
  generalize gpA n3 n4 (gxMax m) = pa at *
  generalize gpF n4 (gxMax m) = pf at *
  generalize gsV k (gxMax m) = K at *
  generalize gsV o (gxMax m) = O at *
  generalize gxMax m = M at *
  have hm : 0 < M := by omega
  have pv : p0 ≤ pa ∧ p1 ≤ pa ∧ p2 ≤ pa ∧ pa ≤ pf ∧ pf ≤ M := ⟨p.1.2, p.2.1.2, p.2.2.1.2, p.2.2.2.1.2, p.2.2.2.2⟩
  have ok1 : sbOk p0 p1 p2 pa pf K O M = true := sb_iff.2 ⟨pv, u.2, hM, v.2⟩
  have ok2 : scOk p0 p1 p2 pa pf M M = true := sc_iff.2 ⟨pv, Int.le_refl M, hM⟩
  have ok3 : scOk p0 p1 p2 pa pf 0 M = true := sc_iff.2 ⟨pv, by omega, hM⟩
  have z0 : 0 ≤ pf := by omega
  obtain ⟨o1, n0, n1, n2, n3⟩ := sc_order (k := K) pv p.1.1 p.2.1.1 p.2.2.1.1 p.2.2.2.1.1 z0 u.1 u.2 hm
  have o2 := (sc_order (k := O) o1 n0 n1 n2 n3.1 n3.2 v.1 v.2 hm).1
  have e : ∀ x, 0 ≤ x → x ≤ M → sbV p0 p1 p2 pa pf x K O M = scN (scN x K M) O M := fun x h h' => (sb_at ok1 h (by omega) u.1 v.1).1
  have f : ∀ x, 0 ≤ x → x ≤ M → scV p0 p1 p2 pa pf x M M = x := fun x h h' => ((sc_at ok2 h (by omega) (by omega)).1).trans (sc_full h hm)
  have g : ∀ x, 0 ≤ x → x ≤ M → scV p0 p1 p2 pa pf x 0 M = 0 := fun x h h' => ((sc_at ok3 h (by omega) (by omega)).1).trans (sc_none x hm)
  have vp : pvB (scN (scN p0 K M) O M) (scN (scN p1 K M) O M) (scN (scN p2 K M) O M) (scN (scN pa K M) O M) (scN (scN pf K M) O M) M = true := decide_eq_true o2
  have l0 : p0 ≤ M := by omega
  have l1 : p1 ≤ M := by omega
  have l2 : p2 ≤ M := by omega
  have l3 : pa ≤ M := by omega
  have l4 : pf ≤ M := by omega
  simp [ok1, ok2, ok3, e _ p.1.1 l0, e _ p.2.1.1 l1, e _ p.2.2.1.1 l2, e _ p.2.2.2.1.1 l3, e _ z0 l4, f _ p.1.1 l0, f _ p.2.1.1 l1, f _ p.2.2.1.1 l2, f _ p.2.2.2.1.1 l3, f _ z0 l4, g _ p.1.1 l0, g _ p.2.1.1 l1, g _ p.2.2.1.1 l2, g _ p.2.2.2.1.1 l3, g _ z0 l4, vp, ieq_rfl', band, bnot]

set_option linter.unusedVariables false in
theorem ScaleTwice_core (n0 n1 n2 n3 n4 k o m : Int) (w0 : (Lit.int .i64 n0).wf = true) (w1 : (Lit.int .i64 n1).wf = true) (w2 : (Lit.int .i64 n2).wf = true) (w3 : (Lit.int .i64 n3).wf = true) (w4 : (Lit.int .i64 n4).wf = true) (w5 : (Lit.int .i64 k).wf = true) (w6 : (Lit.int .i64 o).wf = true) (w7 : (Lit.int .i64 m).wf = true) (w : World) {F : Nat → Prop} (hG : QR.Laid F w) (hF : ∀ k, F k → k < w.heap.size) :
    Calls Try.prog 6 #[.agg #[.int .i64 n0, .int .i64 n1, .int .i64 n2, .int .i64 n3, .int .i64 n4], .int .i64 k, .int .i64 o, .int .i64 m] w fun e w' => e = .returned (.bool true) ∧ Below w.heap.size w w' := by
  refine law_of_eval (O := o_law11) (QR.orc_cons (up a_gmax) (QR.orc_cons (up a_gsample) (QR.orc_cons (up a_gpixel) (QR.orc_cons (up a_rpvalid) (QR.orc_cons a_scale (QR.orc_cons a_sboth (QR.orc_cons a_rscale (QR.orc_cons a_rsboth (QR.orc_cons a_awake11 QR.orc_nil))))))))) mixed (QR.noLoops) Try.func6 (by kernel_rfl) (vs := [.agg #[.int .i64 n0, .int .i64 n1, .int .i64 n2, .int .i64 n3, .int .i64 n4], .int .i64 k, .int .i64 o, .int .i64 m]) (xs := [.agg [.v (.int .i64 n0), .v (.int .i64 n1), .v (.int .i64 n2), .v (.int .i64 n3), .v (.int .i64 n4)], .c (.v (.int .i64 k)), .c (.v (.int .i64 o)), .c (.v (.int .i64 m))]) (args := [.x (.agg [.v (.int .i64 n0), .v (.int .i64 n1), .v (.int .i64 n2), .v (.int .i64 n3), .v (.int .i64 n4)]), .x (.c (.v (.int .i64 k))), .x (.c (.v (.int .i64 o))), .x (.c (.v (.int .i64 m)))]) rfl rfl (by simp) ?_ w hG hF
  rw [ScaleTwice_vc]
  have gm := gx16 m
  have hM := gxMax_cases m
  have i0 : in16 0 = true := rfl
  have p := gp_all n0 n1 n2 n3 n4 m
  have g0 := gpC_in16 n0 n3 n4 gm
  have g1 := gpC_in16 n1 n3 n4 gm
  have g2 := gpC_in16 n2 n3 n4 gm
  have g3 := gpA_in16 n3 n4 gm
  have g4 := gpF_in16 n4 gm
  have u := gs_in (a := k) (n := m)
  have v := gs_in (a := o) (n := m)
  have iu := gs16 k m
  have iv := gs16 o m
  simp only [okAns, eqXs, eqX, eqo, eqLo, eqc, veq, eqUs, bcond_iff, forall_eq, true_and, and_true, gm, g0, g1, g2, g3, g4, i0, iu, iv]
  generalize gpC n0 n3 n4 (gxMax m) = p0 at *
  generalize gpC n1 n3 n4 (gxMax m) = p1 at *
  generalize gpC n2 n3 n4 (gxMax m) = p2 at *
  generalize gpA n3 n4 (gxMax m) = pa at *
  generalize gpF n4 (gxMax m) = pf at *
  generalize gsV k (gxMax m) = K at *
  generalize gsV o (gxMax m) = O at *
  generalize gxMax m = M at *
  have hm : 0 < M := by omega
  have pv : p0 ≤ pa ∧ p1 ≤ pa ∧ p2 ≤ pa ∧ pa ≤ pf ∧ pf ≤ M := ⟨p.1.2, p.2.1.2, p.2.2.1.2, p.2.2.2.1.2, p.2.2.2.2⟩
  have ok1 : sbOk p0 p1 p2 pa pf K O M = true := sb_iff.2 ⟨pv, u.2, hM, v.2⟩
  have ok2 : sbOk p0 p1 p2 pa pf O K M = true := sb_iff.2 ⟨pv, v.2, hM, u.2⟩
  have ok3 : sbOk p0 p1 p2 pa pf K M M = true := sb_iff.2 ⟨pv, u.2, hM, Int.le_refl M⟩
  have ok4 : sbOk p0 p1 p2 pa pf M K M = true := sb_iff.2 ⟨pv, Int.le_refl M, hM, u.2⟩
  have ok5 : scOk p0 p1 p2 pa pf K M = true := sc_iff.2 ⟨pv, u.2, hM⟩
  have z0 : 0 ≤ pf := by omega
  have e : ∀ x, 0 ≤ x → x ≤ M → sbV p0 p1 p2 pa pf x K M M = scV p0 p1 p2 pa pf x K M ∧ sbV p0 p1 p2 pa pf x M K M = scV p0 p1 p2 pa pf x K M := fun x h h' => by
    rw [(sc_at ok5 h (by omega) u.1).1, (sb_at ok3 h (by omega) u.1 (by omega)).1, (sb_at ok4 h (by omega) (by omega) u.1).1, sc_full h hm]
    exact ⟨sc_full (hlf_nonneg _ _) hm, rfl⟩
  have a1 := sb_at ok1 z0 (show pf ≤ 65535 by omega) u.1 v.1
  have a2 := sb_at ok2 z0 (show pf ≤ 65535 by omega) v.1 u.1
  have t1 := sc_twice (m := M) z0 u.1 u.2 v.1 v.2 hm
  have t2 := sc_twice (m := M) z0 v.1 v.2 u.1 u.2 hm
  have c1 : isub .i64 (iconv .i64 (sbV p0 p1 p2 pa pf pf K O M)) (iconv .i64 (sbV p0 p1 p2 pa pf pf O K M)) = scN (scN pf K M) O M - scN (scN pf O M) K M := by
    rw [a1.1, a2.1, i64_id a1.2.1 (by omega), i64_id a2.2.1 (by omega)]; unfold isub; exact IntWalk.i64_in _ (by omega)
  have c2 : isub .i64 (iconv .i64 (sbV p0 p1 p2 pa pf pf O K M)) (iconv .i64 (sbV p0 p1 p2 pa pf pf K O M)) = scN (scN pf O M) K M - scN (scN pf K M) O M := by
    rw [a1.1, a2.1, i64_id a1.2.1 (by omega), i64_id a2.2.1 (by omega)]; unfold isub; exact IntWalk.i64_in _ (by omega)
  have d1 : ile (scN (scN pf K M) O M - scN (scN pf O M) K M) 1 = true := decide_eq_true t1
  have d2 : ile (scN (scN pf O M) K M - scN (scN pf K M) O M) 1 = true := decide_eq_true t2
  have l0 := e p0 p.1.1 (by omega)
  have l1 := e p1 p.2.1.1 (by omega)
  have l2 := e p2 p.2.2.1.1 (by omega)
  have l3 := e pa p.2.2.2.1.1 (by omega)
  have l4 := e pf z0 (by omega)
  simp [ok1, ok2, ok3, ok4, ok5, c1, c2, d1, d2, l0.1, l0.2, l1.1, l1.2, l2.1, l2.2, l3.1, l3.2, l4.1, l4.2, ieq_rfl', band, bnot]

/-- a greater factor never gives a lesser sample -/
theorem sc_up {p0 p1 p2 pa pf M lo hi : Int} (p : (0 ≤ p0 ∧ p0 ≤ pa) ∧ (0 ≤ p1 ∧ p1 ≤ pa) ∧ (0 ≤ p2 ∧ p2 ≤ pa) ∧ (0 ≤ pa ∧ pa ≤ pf) ∧ pf ≤ M) (hM : M = 255 ∨ M = 65535) (l0 : 0 ≤ lo) (l1 : lo ≤ hi) (l2 : hi ≤ M) :
    scOk p0 p1 p2 pa pf lo M = true ∧ scOk p0 p1 p2 pa pf hi M = true ∧ ∀ x, 0 ≤ x → x ≤ M → igt (scV p0 p1 p2 pa pf x lo M) (scV p0 p1 p2 pa pf x hi M) = false ∧ igt (scV p0 p1 p2 pa pf x hi M) x = false ∧ ile (scV p0 p1 p2 pa pf x lo M) (scV p0 p1 p2 pa pf x hi M) = true ∧ ile (scV p0 p1 p2 pa pf x hi M) x = true := by
  have pv : p0 ≤ pa ∧ p1 ≤ pa ∧ p2 ≤ pa ∧ pa ≤ pf ∧ pf ≤ M := ⟨p.1.2, p.2.1.2, p.2.2.1.2, p.2.2.2.1.2, p.2.2.2.2⟩
  have ok1 : scOk p0 p1 p2 pa pf lo M = true := sc_iff.2 ⟨pv, by omega, hM⟩
  have ok2 : scOk p0 p1 p2 pa pf hi M = true := sc_iff.2 ⟨pv, l2, hM⟩
  refine ⟨ok1, ok2, fun x h h' => ?_⟩
  rw [(sc_at ok1 h (by omega) l0).1, (sc_at ok2 h (by omega) (by omega)).1]
  have a := sc_mono_k (x := x) (m := M) h l0 l1 (by omega)
  have b := (sc_range (m := M) h (show 0 ≤ hi by omega) l2 (by omega)).2
  exact ⟨igt_f a, igt_f b, decide_eq_true a, decide_eq_true b⟩

set_option linter.unusedVariables false in
theorem ScaleIsMonotone_core (n0 n1 n2 n3 n4 k j m : Int) (w0 : (Lit.int .i64 n0).wf = true) (w1 : (Lit.int .i64 n1).wf = true) (w2 : (Lit.int .i64 n2).wf = true) (w3 : (Lit.int .i64 n3).wf = true) (w4 : (Lit.int .i64 n4).wf = true) (w5 : (Lit.int .i64 k).wf = true) (w6 : (Lit.int .i64 j).wf = true) (w7 : (Lit.int .i64 m).wf = true) (w : World) {F : Nat → Prop} (hG : QR.Laid F w) (hF : ∀ k, F k → k < w.heap.size) :
    Calls Try.prog 5 #[.agg #[.int .i64 n0, .int .i64 n1, .int .i64 n2, .int .i64 n3, .int .i64 n4], .int .i64 k, .int .i64 j, .int .i64 m] w fun e w' => e = .returned (.bool true) ∧ Below w.heap.size w w' := by
  refine law_of_eval (O := o_law11) (QR.orc_cons (up a_gmax) (QR.orc_cons (up a_gsample) (QR.orc_cons (up a_gpixel) (QR.orc_cons (up a_rpvalid) (QR.orc_cons a_scale (QR.orc_cons a_sboth (QR.orc_cons a_rscale (QR.orc_cons a_rsboth (QR.orc_cons a_awake11 QR.orc_nil))))))))) mixed (fun n => bif Nat.beq n 11 then some (.rounds 4) else none) Try.func5 (by kernel_rfl) (vs := [.agg #[.int .i64 n0, .int .i64 n1, .int .i64 n2, .int .i64 n3, .int .i64 n4], .int .i64 k, .int .i64 j, .int .i64 m]) (xs := [.agg [.v (.int .i64 n0), .v (.int .i64 n1), .v (.int .i64 n2), .v (.int .i64 n3), .v (.int .i64 n4)], .c (.v (.int .i64 k)), .c (.v (.int .i64 j)), .c (.v (.int .i64 m))]) (args := [.x (.agg [.v (.int .i64 n0), .v (.int .i64 n1), .v (.int .i64 n2), .v (.int .i64 n3), .v (.int .i64 n4)]), .x (.c (.v (.int .i64 k))), .x (.c (.v (.int .i64 j))), .x (.c (.v (.int .i64 m)))]) rfl rfl (by simp) ?_ w hG hF
  rw [ScaleIsMonotone_vc]
  have gm := gx16 m
  have hM := gxMax_cases m
  have i0 : in16 0 = true := rfl
  have p := gp_all n0 n1 n2 n3 n4 m
  have g0 := gpC_in16 n0 n3 n4 gm
  have g1 := gpC_in16 n1 n3 n4 gm
  have g2 := gpC_in16 n2 n3 n4 gm
  have g3 := gpA_in16 n3 n4 gm
  have g4 := gpF_in16 n4 gm
  have u := gs_in (a := k) (n := m)
  have v := gs_in (a := j) (n := m)
  have iu := gs16 k m
  have iv := gs16 j m
  simp only [okAns, eqXs, eqX, eqo, eqLo, eqc, veq, eqUs, bcond_iff, forall_eq, true_and, and_true, gm, g0, g1, g2, g3, g4, i0, iu, iv]
  generalize gpC n0 n3 n4 (gxMax m) = p0 at *
  generalize gpC n1 n3 n4 (gxMax m) = p1 at *
  generalize gpC n2 n3 n4 (gxMax m) = p2 at *
  generalize gpA n3 n4 (gxMax m) = pa at *
  generalize gpF n4 (gxMax m) = pf at *
  generalize gsV k (gxMax m) = K at *
  generalize gsV j (gxMax m) = J at *
  generalize gxMax m = M at *
  have z0 : 0 ≤ pf := by omega
  have l0 : p0 ≤ M := by omega
  have l1 : p1 ≤ M := by omega
  have l2 : p2 ≤ M := by omega
  have l3 : pa ≤ M := by omega
  have l4 : pf ≤ M := by omega
  by_cases h : K ≤ J
  · obtain ⟨a, b, c⟩ := sc_up p hM u.1 h v.2
    have gt : igt K J = false := igt_f h
    have c0 := c _ p.1.1 l0
    have c1 := c _ p.2.1.1 l1
    have c2 := c _ p.2.2.1.1 l2
    have c3 := c _ p.2.2.2.1.1 l3
    have c4 := c _ z0 l4
    simp [gt, a, b, c0, c1, c2, c3, c4, bnot]
  · obtain ⟨a, b, c⟩ := sc_up p hM v.1 (show J ≤ K by omega) u.2
    have gt : igt K J = true := decide_eq_true (by omega)
    have c0 := c _ p.1.1 l0
    have c1 := c _ p.2.1.1 l1
    have c2 := c _ p.2.2.1.1 l2
    have c3 := c _ p.2.2.2.1.1 l3
    have c4 := c _ z0 l4
    simp [gt, a, b, c0, c1, c2, c3, c4, bnot]
end Go.Proofs.Ytdcjengjiiiccaa
