import Derived.Test.YtdpmigbenkndbaaYc
namespace Go.Proofs.Ytdpmigbenkndbaa
open Go.RowKit PR QR
set_option linter.unusedVariables false
set_option linter.unusedSimpArgs false
set_option maxRecDepth 20000
theorem a_tparts : Answers2 27 s_tparts := by
  intro al ans h hq
  unfold s_tparts at h
  split at h <;> try (simp at h; done)
  rename_i a b
  simp only [Option.some.injEq] at h
  subst h
  have hq := asked hq
  refine QR.does_of_eval (O := (QR.orc [])) QR.orc_nil mixed (QR.noLoops) Try.func27 (by kernel_rfl) (by kernel_rfl) (by simp) ?_
  rw [tparts_vc]
  have hb := hq.1
  simp [okAns, eqXs, eqX, eqo, eqLo, eqL, eqc, veq, eqUs, hb]
theorem a_tcount : Answers2 10 s_tcount := by
  intro al ans h hq
  unfold s_tcount at h
  split at h <;> try (simp at h; done)
  rename_i a b c d w h
  simp only [Option.some.injEq] at h
  subst h
  have hq := asked hq
  refine QR.does_of_eval (O := o_tcount) (QR.orc_cons a_rempty (QR.orc_cons a_tparts QR.orc_nil)) mixed (QR.noLoops) Try.func10 (by kernel_rfl) (by kernel_rfl) (by simp) ?_
  rw [tcount_vc]
  simp only [forall_eq]
  by_cases k : tiB a b c d w h = true
  · obtain ⟨⟨⟨f0, f1, f2, f3⟩, g0, g1⟩, ⟨hw, hw'⟩, hh, hh'⟩ := tib_f k
    have e : reB a b c d = false := re_f.2 ⟨⟨f0, f1, f2, f3⟩, g0, g1⟩
    unfold F30 at f0 f1 f2 f3
    have s0 : isub .i64 c a = c - a := sub_in (by omega)
    have s1 : isub .i64 d b = d - b := sub_in (by omega)
    have l0 := ilt_f hw
    have l1 := igt_fF hw'
    have l2 := ilt_f hh
    have l3 := igt_fF hh'
    have n0 : ine w 0 = true := ine_t (by omega)
    have n1 : ine h 0 = true := ine_t (by omega)
    have d0 := (div_steps hw hw').1
    have d1 := (div_steps hh hh').1
    have q0 : iquo .i64 (isub .i64 (iadd .i64 (c - a) w) 1) w = tiX a b c d w h := by
      rw [add_in (by omega), sub_in (by omega), quo_nn (by omega) (by omega) hw, tiX_t k, show c - a + w - 1 = c - a - 1 + 1 * w by omega, Int.add_mul_ediv_right _ _ (by omega)]
    have q1 : iquo .i64 (isub .i64 (iadd .i64 (d - b) h) 1) h = tiY a b c d w h := by
      rw [add_in (by omega), sub_in (by omega), quo_nn (by omega) (by omega) hh, tiY_t k, show d - b + h - 1 = d - b - 1 + 1 * h by omega, Int.add_mul_ediv_right _ _ (by omega)]
    simp [okAns, eqXs, eqX, eqo, eqLo, eqL, eqc, veq, eqUs, bcond_iff, bnot, e, s0, s1, l0, l1, l2, l3, n0, n1, q0, q1, k]
  · have kX := tiX_f k
    have kY := tiY_f k
    cases e : reB a b c d <;> cases l0 : ilt w 1 <;> cases l1 : igt w (isub .i64 c a) <;> cases l2 : ilt h 1 <;> cases l3 : igt h (isub .i64 d b)
    all_goals first
      | (exfalso; exact ti_tests k e l0 l1 l2 l3)
      | (simp [okAns, eqXs, eqX, eqo, eqLo, eqL, eqc, veq, eqUs, bcond_iff, bnot, e, l0, l1, l2, l3, k, kX, kY]; done)
theorem a_tindex : Answers2 15 s_tindex := by
  intro al ans h hq
  unfold s_tindex at h
  split at h <;> try (simp at h; done)
  rename_i a b c d w h x y
  simp only [Option.some.injEq] at h
  subst h
  have hq := asked hq
  refine QR.does_of_eval (O := o_tindex) (QR.orc_cons a_tcount (QR.orc_cons a_rcont QR.orc_nil)) mixed (QR.noLoops) Try.func15 (by kernel_rfl) (by kernel_rfl) (by simp) ?_
  rw [tindex_vc]
  simp only [forall_eq]
  by_cases k : txB a b c d w h x y = true
  · obtain ⟨kb, ⟨⟨p0, p1⟩, p2, p3⟩, ⟨q0, q1⟩, q2, q3⟩ := tx_facts k
    obtain ⟨⟨⟨f0, f1, f2, f3⟩, g0, g1⟩, ⟨hw, hw'⟩, hh, hh'⟩ := tib_f kb
    obtain ⟨⟨x0, x1⟩, ⟨y0, y1⟩, _⟩ := ti_facts kb
    unfold F30 at f0 f1 f2 f3
    have kr : rcB a b c d x y = true := by unfold txB at k; rw [decide_eq_true_eq] at k; exact k.2
    have n0 : ine w 0 = true := ine_t (by omega)
    have n1 : ine h 0 = true := ine_t (by omega)
    have s0 : isub .i64 x a = x - a := sub_in (by omega)
    have s1 : isub .i64 y b = y - b := sub_in (by omega)
    have u0 : iquo .i64 (x - a) w = (x - a) / w := quo_nn (by omega) (by omega) hw
    have u1 : iquo .i64 (y - b) h = (y - b) / h := quo_nn (by omega) (by omega) hh
    have v : txV a b c d w h x y = (y - b) / h * tiX a b c d w h + (x - a) / w := by unfold txV; rw [if_pos k]
    have p := prod_le (x := (y - b) / h) (y := tiX a b c d w h) (m := 2147483648) q2 (by omega) (by omega) x1
    generalize (x - a) / w = U at *
    generalize (y - b) / h = W at *
    have m0 : imul .i64 W (tiX a b c d w h) = W * tiX a b c d w h := mul_in (by omega)
    have m1 : iadd .i64 (W * tiX a b c d w h) U = W * tiX a b c d w h + U := add_in (by omega)
    simp [okAns, eqXs, eqX, eqo, eqLo, eqL, eqc, veq, eqUs, bcond_iff, bnot, kb, k, kr, n0, n1, s0, s1, u0, u1, v, m0, m1]
  · have v : txV a b c d w h x y = 0 := by unfold txV; rw [if_neg k]
    by_cases kb : tiB a b c d w h = true
    · have kr : rcB a b c d x y = false := by
        have := k
        unfold txB at this
        rw [decide_eq_true_eq] at this
        simp [kb] at this
        exact this
      simp [okAns, eqXs, eqX, eqo, eqLo, eqL, eqc, veq, eqUs, bcond_iff, bnot, kb, k, kr, v]
    · simp [okAns, eqXs, eqX, eqo, eqLo, eqL, eqc, veq, eqUs, bcond_iff, bnot, kb, k, v]
theorem a_ttile : Answers2 12 s_ttile := by
  intro al ans h hq
  unfold s_ttile at h
  split at h <;> try (simp at h; done)
  rename_i a b c d w h i
  simp only [Option.some.injEq] at h
  subst h
  have hq := asked hq
  refine QR.does_of_eval (O := o_ttile) (QR.orc_cons a_tcount QR.orc_nil) mixed (QR.noLoops) Try.func12 (by kernel_rfl) (by kernel_rfl) (by simp) ?_
  rw [ttile_vc]
  simp only [forall_eq]
  by_cases k : tlB a b c d w h i = true
  · obtain ⟨kb, ⟨i0, i1⟩, ⟨m0, m1⟩, ⟨q0, q1⟩, ⟨e0, e1⟩, e2, e3⟩ := tl_facts k
    obtain ⟨⟨⟨f0, f1, f2, f3⟩, g0, g1⟩, ⟨hw, hw'⟩, hh, hh'⟩ := tib_f kb
    obtain ⟨⟨x0, x1⟩, ⟨y0, y1⟩, _⟩ := ti_facts kb
    have p := prod_le (x := tiX a b c d w h) (y := tiY a b c d w h) (m := 2147483648) (by omega) x1 (by omega) y1
    have lt : i < tiX a b c d w h * tiY a b c d w h := by unfold tlB at k; rw [decide_eq_true_eq] at k; exact k.2.2
    unfold F30 at f0 f1 f2 f3
    have t := tl_t k
    have w0 : imul .i64 (tiX a b c d w h) (tiY a b c d w h) = tiX a b c d w h * tiY a b c d w h := mul_in (by omega)
    have l0 := ilt_f i0
    have l1 : ige i (tiX a b c d w h * tiY a b c d w h) = false := decide_eq_false (by omega)
    have n0 : ine (tiX a b c d w h) 0 = true := ine_t (by omega)
    have r0 : irem i (tiX a b c d w h) = i % tiX a b c d w h := rem_nn i0
    have r1 : iquo .i64 i (tiX a b c d w h) = i / tiX a b c d w h := quo_nn i0 (by omega) x0
    generalize i % tiX a b c d w h = R at *
    generalize i / tiX a b c d w h = Q at *
    have w1 : imul .i64 R w = R * w := mul_in (by omega)
    have w2 : imul .i64 Q h = Q * h := mul_in (by omega)
    have w3 : iadd .i64 a (R * w) = a + R * w := add_in (by omega)
    have w4 : iadd .i64 b (Q * h) = b + Q * h := add_in (by omega)
    have w5 : iadd .i64 (a + R * w) w = a + R * w + w := add_in (by omega)
    have w6 : iadd .i64 (b + Q * h) h = b + Q * h + h := add_in (by omega)
    simp [okAns, eqXs, eqX, eqo, eqLo, eqL, eqc, veq, eqUs, bcond_iff, bnot, w0, l0, l1, n0, r0, r1, w1, w2, w3, w4, w5, w6, kb, k, t, r4G, tlO, iimin]
    constructor <;> (split <;> split <;> omega)
  · have t := tl_f k
    by_cases kb : tiB a b c d w h = true
    · obtain ⟨⟨x0, x1⟩, ⟨y0, y1⟩, _⟩ := ti_facts kb
      have p := prod_le (x := tiX a b c d w h) (y := tiY a b c d w h) (m := 2147483648) (by omega) x1 (by omega) y1
      have w0 : imul .i64 (tiX a b c d w h) (tiY a b c d w h) = tiX a b c d w h * tiY a b c d w h := mul_in (by omega)
      cases l0 : ilt i 0
      · have := of_decide_eq_false l0
        have l1 : ige i (tiX a b c d w h * tiY a b c d w h) = true := decide_eq_true (by
          have := k
          unfold tlB at this
          rw [decide_eq_true_eq] at this
          exact Classical.byContradiction fun hc => this ⟨kb, by omega, by omega⟩)
        simp [okAns, eqXs, eqX, eqo, eqLo, eqL, eqc, veq, eqUs, bcond_iff, bnot, w0, l0, l1, kb, k, t]
      · simp [okAns, eqXs, eqX, eqo, eqLo, eqL, eqc, veq, eqUs, bcond_iff, bnot, w0, l0, kb, k, t]
    · simp [okAns, eqXs, eqX, eqo, eqLo, eqL, eqc, veq, eqUs, bcond_iff, bnot, kb, k, t]
end Go.Proofs.Ytdpmigbenkndbaa
