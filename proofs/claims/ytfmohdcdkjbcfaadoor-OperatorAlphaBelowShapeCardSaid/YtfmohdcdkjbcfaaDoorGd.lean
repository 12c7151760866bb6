/-
  Layer 7 (operator): what each call answers: factors, alpha, shape.
-/
import Derived.Test.YtfmohdcdkjbcfaaDoorGc
namespace Go.Proofs.YtfmohdcdkjbcfaaDoor
open Go.RowKit PR QR
set_option linter.unusedVariables false
set_option linter.unusedSimpArgs false

theorem seqB_rfl (s : ByteArray) : seqB s s = true := by simp [seqB]
theorem gx16 (n : Int) : in16 (gxMax n) = true := by rcases gxMax_cases n with h | h <;> rw [h] <;> rfl
theorem gs16 (a n : Int) : in16 (gsV a (gxMax n)) = true := gsV_in16 a (gx16 n)
theorem gss16 (a b n : Int) : in16 (gsV a (gsV b (gxMax n))) = true := gsV_in16 a (gs16 b n)
theorem u16_subs {m d : Int} (hd : in16 d = true) (hm : in16 m = true) (h : d ≤ m) : isub .u16 m d = m - d ∧ in16 (m - d) = true := by
  rw [in16_iff] at *
  refine ⟨?_, ?_⟩
  · unfold isub; rw [IntKind.wrap_u16]; omega
  · omega
theorem a_factors : Answers2 18 s_factors := by
  intro al ans h hq
  unfold s_factors at h
  split at h <;> try (simp at h; done)
  rename_i k a b m
  simp only [Option.some.injEq] at h
  subst h
  have hq := asked hq
  refine QR.does_of_eval (O := o_fa7) (QR.orc_cons a_perm7 (QR.orc_cons a_weight7 QR.orc_nil)) mixed (QR.noLoops) Tryd.func18 (by kernel_rfl) (by kernel_rfl) (by simp) ?_
  rw [factors_vc]
  obtain ⟨g1, g2, g3, _⟩ := hq
  cases ok : opOk7 k a b m
  · obtain ⟨z1, z2, _⟩ := op_no ok
    simp [bcond_iff, bnot, okAns, eqXs, eqX, eqc, veq, eqUs, z1, z2]
  · have o := opOk_iff.1 ok
    obtain ⟨_, e1, e2, _⟩ := op_at o.1 o.2.1 o.2.2
    have l1 : ile a m = true := decide_eq_true o.2.1
    have l2 : ile b m = true := decide_eq_true o.2.2
    rw [e1, e2]
    obtain ⟨hk, _⟩ := o
    clear ok e1 e2
    rcases op_modes hk with rfl | rfl | rfl | rfl | rfl | rfl | rfl | rfl | rfl | rfl | rfl | rfl <;> simp [bcond_iff, bnot, ieq, okAns, eqXs, eqX, eqc, veq, eqUs, g1, g2, g3, l1, l2, wtV, faT, fbT]
theorem a_rfactors : Answers2 19 s_factors := by
  intro al ans h hq
  unfold s_factors at h
  split at h <;> try (simp at h; done)
  rename_i k a b m
  simp only [Option.some.injEq] at h
  subst h
  have hq := asked hq
  refine QR.does_of_eval (O := o_rfa7) (QR.orc_cons a_isop QR.orc_nil) mixed (QR.noLoops) Tryd.func19 (by kernel_rfl) (by kernel_rfl) (by simp) ?_
  rw [rfactors_vc]
  obtain ⟨g1, g2, g3, _⟩ := hq
  rw [knownB7]
  cases ok : opOk7 k a b m
  · obtain ⟨z1, z2, _⟩ := op_no ok
    have no := ok
    unfold opOk7 at no
    have no := of_decide_eq_false no
    rw [z1, z2]
    unfold opB
    by_cases hk : 1 ≤ k ∧ k ≤ 12
    · by_cases ha : m < a
      · simp [bcond_iff, bnot, igt, hk, ha, okAns, eqXs, eqX, eqc, veq, eqUs]
      · simp [bcond_iff, bnot, igt, hk, ha, show m < b by omega, okAns, eqXs, eqX, eqc, veq, eqUs]
    · simp [bcond_iff, bnot, hk, okAns, eqXs, eqX, eqc, veq, eqUs]
  · have o := opOk_iff.1 ok
    obtain ⟨_, e1, e2, _⟩ := op_at o.1 o.2.1 o.2.2
    obtain ⟨p1, q1⟩ := u16_subs g1 g3 o.2.1
    obtain ⟨p2, q2⟩ := u16_subs g2 g3 o.2.2
    have l1 : ¬ m < a := by omega
    have l2 : ¬ m < b := by omega
    rw [e1, e2]
    obtain ⟨hk, _⟩ := o
    clear ok e1 e2
    rcases op_modes hk with rfl | rfl | rfl | rfl | rfl | rfl | rfl | rfl | rfl | rfl | rfl | rfl <;> simp [bcond_iff, bnot, opB, igt, ieq, okAns, eqXs, eqX, eqc, veq, eqUs, g1, g2, g3, l1, l2, p1, p2, faT, fbT]
theorem a_oalpha : Answers2 20 s_oalpha := by
  intro al ans h hq
  unfold s_oalpha at h
  split at h <;> try (simp at h; done)
  rename_i k a b m
  simp only [Option.some.injEq] at h
  subst h
  have hq := asked hq
  refine QR.does_of_eval (O := o_al7) (QR.orc_cons a_factors (QR.orc_cons a_weighted7 QR.orc_nil)) mixed (QR.noLoops) Tryd.func20 (by kernel_rfl) (by kernel_rfl) (by simp) ?_
  rw [oalpha_vc]
  obtain ⟨g1, g2, g3, _⟩ := hq
  obtain ⟨f1, f2⟩ := fa_in (k := k) g1 g2 g3
  have e : wdV7 (faV k a b m) a (fbV k a b m) b m = alV k a b m := alV_conv k g1 g2 g3
  simp only [okAns, eqXs, eqX, eqL, eqc, veq, eqUs, forall_eq, true_and, and_true, g1, g2, g3, f1, f2, e]
theorem a_roalpha : Answers2 21 s_oalpha := by
  intro al ans h hq
  unfold s_oalpha at h
  split at h <;> try (simp at h; done)
  rename_i k a b m
  simp only [Option.some.injEq] at h
  subst h
  have hq := asked hq
  refine QR.does_of_eval (O := o_ral7) (QR.orc_cons a_rfactors (QR.orc_cons (up a_half) QR.orc_nil)) mixed (QR.noLoops) Tryd.func21 (by kernel_rfl) (by kernel_rfl) (by simp) ?_
  rw [roalpha_vc]
  obtain ⟨g1, g2, g3, _⟩ := hq
  obtain ⟨f1, f2⟩ := fa_in (k := k) g1 g2 g3
  obtain ⟨e1, e2⟩ := sum16 f1 g1 f2 g2
  obtain ⟨e3, e4⟩ := conv64 g3
  have e : iconv .u16 (hlf (faV k a b m * a + fbV k a b m * b) m) = alV k a b m := alV_conv k g1 g2 g3
  simp only [okAns, eqXs, eqX, eqL, eqc, veq, eqUs, forall_eq, true_and, and_true, g1, g2, g3, e1, e2, e3, e4, e]
theorem a_oshape : Answers2 22 s_oshape := by
  intro al ans h hq
  unfold s_oshape at h
  split at h <;> try (simp at h; done)
  rename_i k a b m
  simp only [Option.some.injEq] at h
  subst h
  have hq := asked hq
  refine QR.does_of_eval (O := o_sh7) (QR.orc_cons a_perm7 (QR.orc_cons a_weighted7 QR.orc_nil)) mixed (QR.noLoops) Tryd.func22 (by kernel_rfl) (by kernel_rfl) (by simp) ?_
  rw [oshape_vc]
  obtain ⟨g1, g2, g3, _⟩ := hq
  cases ok : opOk7 k a b m
  · obtain ⟨_, _, z⟩ := op_no ok
    simp [bcond_iff, bnot, okAns, eqXs, eqX, eqc, veq, eqUs, z]
  · have o := opOk_iff.1 ok
    obtain ⟨_, _, _, e⟩ := op_at o.1 o.2.1 o.2.2
    have r := sh_all k g1 g2 g3
    obtain ⟨p1, q1⟩ := u16_subs g1 g3 o.2.1
    have i0 : in16 0 = true := rfl
    have c : iconv .u16 (shV k a b m) = shV k a b m := u16_id r.1 (by rw [in16_iff] at g3; omega)
    rw [e] at c ⊢
    obtain ⟨hk, _⟩ := o
    clear ok e r
    rcases op_modes hk with rfl | rfl | rfl | rfl | rfl | rfl | rfl | rfl | rfl | rfl | rfl | rfl <;> simp [bcond_iff, bnot, ieq, okAns, eqXs, eqX, eqc, veq, eqUs, g1, g2, g3, p1, q1, i0, wdV7, shT] at c ⊢ <;> first | done | exact c.symm | exact c
theorem a_roshape : Answers2 23 s_oshape := by
  intro al ans h hq
  unfold s_oshape at h
  split at h <;> try (simp at h; done)
  rename_i k a b m
  simp only [Option.some.injEq] at h
  subst h
  have hq := asked hq
  refine QR.does_of_eval (O := o_rsh7) (QR.orc_cons a_isop (QR.orc_cons (up a_half) QR.orc_nil)) mixed (QR.noLoops) Tryd.func23 (by kernel_rfl) (by kernel_rfl) (by simp) ?_
  rw [roshape_vc]
  obtain ⟨g1, g2, g3, _⟩ := hq
  rw [knownB7]
  cases ok : opOk7 k a b m
  · obtain ⟨_, _, z⟩ := op_no ok
    have no := ok
    unfold opOk7 at no
    have no := of_decide_eq_false no
    rw [z]
    unfold opB
    by_cases hk : 1 ≤ k ∧ k ≤ 12
    · by_cases ha : m < a
      · simp [bcond_iff, bnot, igt, hk, ha, okAns, eqXs, eqX, eqc, veq, eqUs]
      · simp [bcond_iff, bnot, igt, hk, ha, show m < b by omega, okAns, eqXs, eqX, eqc, veq, eqUs]
    · simp [bcond_iff, bnot, hk, okAns, eqXs, eqX, eqc, veq, eqUs]
  · have o := opOk_iff.1 ok
    obtain ⟨_, _, _, e⟩ := op_at o.1 o.2.1 o.2.2
    have r := sh_all k g1 g2 g3
    obtain ⟨p1, q1⟩ := u16_subs g1 g3 o.2.1
    obtain ⟨e1, e2⟩ := sum16 g3 g1 q1 g2
    obtain ⟨e3, e4⟩ := conv64 g3
    obtain ⟨e5, _⟩ := conv64 g1
    obtain ⟨e6, _⟩ := conv64 g2
    obtain ⟨e7, _⟩ := conv64 q1
    rw [e3, e5, e6, e7] at e1
    have pr := prod16 g1 g2
    have e8 : imul .u64 a b = a * b := by rw [imulU]; omega
    have e9 : inU (a * b) = true := inU_iff.2 (by omega)
    have e10 : isub .u64 m a = m - a := by rw [isubU]; rw [in16_iff] at g1 g3; omega
    have c : iconv .u16 (shV k a b m) = shV k a b m := u16_id r.1 (by rw [in16_iff] at g3; omega)
    have l1 : ¬ m < a := by omega
    have l2 : ¬ m < b := by omega
    rw [e] at c ⊢
    obtain ⟨hk, _⟩ := o
    clear ok e r
    rw [e3, e5, e6, e10, e1, e8]
    rcases op_modes hk with rfl | rfl | rfl | rfl | rfl | rfl | rfl | rfl | rfl | rfl | rfl | rfl <;> simp [bcond_iff, bnot, opB, igt, ieq, okAns, eqXs, eqX, eqc, veq, eqUs, e2, e4, e9, l1, l2, shT] at c ⊢ <;> first | done | exact c.symm | exact c
end Go.Proofs.YtfmohdcdkjbcfaaDoor
