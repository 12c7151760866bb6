import Derived.Test.YtpjhdjakpbabhaaDoorZ0
import Derived.Test.YtpjhdjakpbabhaaDoorLb
namespace Go.Proofs.YtpjhdjakpbabhaaDoor
open Go.RowKit PR QR
set_option linter.unusedVariables false
set_option linter.unusedSimpArgs false
section
variable {c0 c1 c2 a own f k0 k1 k2 ka kf m o k s0 s1 s2 sa sf s c d b : Int}
theorem ieq_tt {a b : Int} (h : ieq a b = true) : a = b := by unfold ieq at h; exact of_decide_eq_true (by simpa using h)
theorem ieq_t {a b : Int} (h : a = b) : ieq a b = true := by subst h; exact ieq_rfl' a
theorem pv_m (h : pvB k0 k1 k2 ka kf m = true) : k0 ≤ ka ∧ k1 ≤ ka ∧ k2 ≤ ka ∧ ka ≤ kf ∧ kf ≤ m := of_decide_eq_true h
end
theorem a_gben : Answers2 49 s_gben := by
  intro al ans h hq
  unfold s_gben at h
  split at h <;> try (simp at h; done)
  rename_i c0 c1 c2 a own f
  simp only [Option.some.injEq] at h
  subst h
  have hq := asked hq
  refine QR.does_of_eval (O := (QR.orc [])) QR.orc_nil mixed (QR.noLoops) Tryd.func49 (by kernel_rfl) (by kernel_rfl) (by simp) ?_
  rw [gben_vc]
  simp [bcond_iff, okAns, eqXs, eqX, eqo, eqLo, eqL, eqc, veq, eqUs]
theorem a_gva : Answers2 41 s_va := by
  intro al ans h hq
  unfold s_va at h
  split at h <;> try (simp at h; done)
  rename_i c0 c1 c2 a own f k0 k1 k2 ka kf m
  simp only [Option.some.injEq] at h
  subst h
  have hq := asked hq
  refine QR.does_of_eval (O := o_gva) (QR.orc_cons a_pvalid2 (QR.orc_cons a_gben QR.orc_nil)) mixed (QR.noLoops) Tryd.func41 (by kernel_rfl) (by kernel_rfl) (by simp) ?_
  rw [gva_vc]
  cases hv : vaB c0 c1 c2 a own f k0 k1 k2 ka kf m
  · have key : (m = 255 ∨ m = 65535) → kf = ka → pvB k0 k1 k2 ka kf m = true → pvB c0 c1 c2 a a m = true → ile own a = true → ile own f = true → ile f m = false := fun hm h0 h1 h2 h3 h4 => by
      cases e : ile f m
      · rfl
      · have p := pv_m h1
        have q := pv_m h2
        have e0 := h0
        have := va_iff.2 ⟨⟨q.1, q.2.1, q.2.2.1, ile_tt h3, ile_tt h4, q.2.2.2.2, ile_tt e⟩, ⟨p.1, p.2.1, p.2.2.1, e0.symm, by omega⟩, hm⟩
        rw [hv] at this; simp at this
    by_cases e1 : m = 255
    · subst e1
      have z := key (Or.inl rfl)
      by_cases x0 : kf = ka <;> cases x1 : pvB k0 k1 k2 ka kf 255 <;> cases x2 : pvB c0 c1 c2 a a 255 <;> cases x3 : ile own a <;> cases x4 : ile own f <;>
        simp [bcond_iff, bnot, okAns, eqXs, eqX, eqo, eqLo, eqL, eqc, veq, eqUs, ine, x0, x1, x2, x3, x4]
      exact z x0 x1 x2 x3 x4
    · by_cases e2 : m = 65535
      · subst e2
        have z := key (Or.inr rfl)
        by_cases x0 : kf = ka <;> cases x1 : pvB k0 k1 k2 ka kf 65535 <;> cases x2 : pvB c0 c1 c2 a a 65535 <;> cases x3 : ile own a <;> cases x4 : ile own f <;>
          simp [bcond_iff, bnot, okAns, eqXs, eqX, eqo, eqLo, eqL, eqc, veq, eqUs, ine, x0, x1, x2, x3, x4]
        exact z x0 x1 x2 x3 x4
      · simp [bcond_iff, okAns, eqXs, eqX, eqo, eqLo, eqL, eqc, veq, eqUs, ine, e1, e2]
  · obtain ⟨⟨q1, q2, q3, q4, q5, q6, q7⟩, ⟨r1, r2, r3, r4, r5⟩, hm⟩ := va_iff.1 hv
    have p : pvB k0 k1 k2 ka kf m = true := decide_eq_true (by omega)
    have p2 : pvB c0 c1 c2 a a m = true := decide_eq_true (by omega)
    have e : kf = ka := r4.symm
    subst e
    rcases hm with rfl | rfl <;> simp [bcond_iff, bnot, okAns, eqXs, eqX, eqo, eqLo, eqL, eqc, veq, eqUs, ine, ile_t q4, ile_t q5, ile_t q7, p, p2]
section
variable {c0 c1 c2 a own f k0 k1 k2 ka kf m o k s0 s1 s2 sa sf s c d b : Int}
end
section
variable {c0 c1 c2 a own f k0 k1 k2 ka kf m o k s0 s1 s2 sa sf s c d b : Int}
end
end Go.Proofs.YtpjhdjakpbabhaaDoor
