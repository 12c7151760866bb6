import Derived.Test.YtpjhdjakpbabhaaDoorZaa
import Derived.Test.YtpjhdjakpbabhaaDoorZ0
import Derived.Test.YtpjhdjakpbabhaaDoorKb
import Derived.Test.YtpjhdjakpbabhaaDoorJc
namespace Go.Proofs.YtpjhdjakpbabhaaDoor
open Go.RowKit PR QR
set_option linter.unusedVariables false
set_option linter.unusedSimpArgs false
theorem sc_split (c0 c1 c2 a f k m : Int) : scOk c0 c1 c2 a f k m = ((pvB c0 c1 c2 a f m && decide (k ≤ m)) && fullB m) := rfl
theorem igt_le (a b : Int) : igt a b = !(decide (a ≤ b)) := by
  unfold igt; rw [Bool.eq_iff_iff]; simp only [Bool.not_eq_true', decide_eq_true_eq, decide_eq_false_iff_not]; omega
theorem sc_way {x k m : Int} (hx : in16 x = true) (hk : in16 k = true) (hm : in16 m = true) :
    inU (imul .u64 (iconv .u64 x) (iconv .u64 k)) = true ∧ inU (iconv .u64 m) = true ∧ hlf (imul .u64 (iconv .u64 x) (iconv .u64 k)) (iconv .u64 m) = scN x k m := by
  obtain ⟨a, b, c⟩ := mulI16 hx hk
  rw [(conv64 hx).1, (conv64 hk).1, (conv64 hm).1, c]
  exact ⟨inU_iff.2 (by omega), inU_iff.2 (by have := in16_iff.1 hm; omega), rfl⟩
theorem a_scale : Answers2 32 s_scale := by
  intro al ans h hq
  unfold s_scale at h
  split at h <;> try (simp at h; done)
  rename_i c0 c1 c2 a f k m
  simp only [Option.some.injEq] at h
  subst h
  have hq := asked hq
  refine QR.does_of_eval (O := o_scale) (QR.orc_cons a_pvalid2 (QR.orc_cons (up a_rndhalf) QR.orc_nil)) mixed ((fun n => bif Nat.beq n 4 then some (.rounds 6) else none)) Tryd.func32 (by kernel_rfl) (by kernel_rfl) (by simp) ?_
  rw [scale_vc]
  delta zz120 zz253 zz274
  obtain ⟨g0, g1, g2, g3, g4, hk, hm, _⟩ := hq
  obtain ⟨x1, x2, x3⟩ := sc_way g0 hk hm
  obtain ⟨y1, y2, y3⟩ := sc_way g1 hk hm
  obtain ⟨z1, z2, z3⟩ := sc_way g2 hk hm
  obtain ⟨u1, u2, u3⟩ := sc_way g3 hk hm
  obtain ⟨v1, v2, v3⟩ := sc_way g4 hk hm
  by_cases h1 : m = 255
  · subst h1
    have fm : fullB 255 = true := rfl
    cases hp : pvB c0 c1 c2 a f 255 <;> by_cases hk' : k ≤ 255 <;> simp [bcond_iff, bnot, okAns, eqXs, eqX, eqo, eqLo, eqL, eqc, veq, eqUs, scV, sc_split, fm, hp, hk', igt_le, ine, x1, x2, x3, y1, y3, z1, z3, u1, u3, v1, v3]
  · by_cases h2 : m = 65535
    · subst h2
      have fm : fullB 65535 = true := rfl
      cases hp : pvB c0 c1 c2 a f 65535 <;> by_cases hk' : k ≤ 65535 <;> simp [bcond_iff, bnot, okAns, eqXs, eqX, eqo, eqLo, eqL, eqc, veq, eqUs, scV, sc_split, fm, hp, hk', igt_le, ine, x1, x2, x3, y1, y3, z1, z3, u1, u3, v1, v3]
    · have fm : fullB m = false := decide_eq_false (by omega)
      simp [bcond_iff, bnot, okAns, eqXs, eqX, eqo, eqLo, eqL, eqc, veq, eqUs, scV, sc_split, fm, ine, h1, h2]
theorem sb_two {c0 c1 c2 a f k o m : Int} (g0 : in16 c0 = true) (g1 : in16 c1 = true) (g2 : in16 c2 = true) (g3 : in16 a = true) (g4 : in16 f = true) (hk : in16 k = true) (ho : in16 o = true) (ok : scOk c0 c1 c2 a f k m = true) :
    scOk (scN c0 k m) (scN c1 k m) (scN c2 k m) (scN a k m) (scN f k m) o m = sbOk c0 c1 c2 a f k o m ∧ (in16 (scN c0 k m) = true ∧ in16 (scN c1 k m) = true ∧ in16 (scN c2 k m) = true ∧ in16 (scN a k m) = true ∧ in16 (scN f k m) = true) ∧
    (scV c0 c1 c2 a f c0 k m = scN c0 k m ∧ scV c0 c1 c2 a f c1 k m = scN c1 k m ∧ scV c0 c1 c2 a f c2 k m = scN c2 k m ∧ scV c0 c1 c2 a f a k m = scN a k m ∧ scV c0 c1 c2 a f f k m = scN f k m) ∧
    ∀ x, scV (scN c0 k m) (scN c1 k m) (scN c2 k m) (scN a k m) (scN f k m) (scN x k m) o m = sbV c0 c1 c2 a f x k o m := by
  obtain ⟨h, h1, h2⟩ := sc_iff.1 ok
  rw [in16_iff] at g0 g1 g2 g3 g4 hk
  obtain ⟨o1, n0, n1, n2, n3⟩ := sc_order (k := k) h g0.1 g1.1 g2.1 g3.1 g4.1 hk.1 h1 (by omega)
  have e : scOk (scN c0 k m) (scN c1 k m) (scN c2 k m) (scN a k m) (scN f k m) o m = sbOk c0 c1 c2 a f k o m := by
    rw [Bool.eq_iff_iff, sc_iff, sb_iff]
    exact ⟨fun q => ⟨h, h1, h2, q.2.1⟩, fun q => ⟨o1, q.2.2.2, h2⟩⟩
  have s0 := sc_at ok g0.1 (by omega) hk.1
  have s1 := sc_at ok g1.1 (by omega) hk.1
  have s2 := sc_at ok g2.1 (by omega) hk.1
  have s3 := sc_at ok g3.1 (by omega) hk.1
  have s4 := sc_at ok g4.1 (by omega) hk.1
  refine ⟨e, ⟨s0.2, s1.2, s2.2, s3.2, s4.2⟩, ⟨s0.1, s1.1, s2.1, s3.1, s4.1⟩, fun x => ?_⟩
  unfold scV sbV; rw [e]
theorem sb_no {c0 c1 c2 a f x k o m : Int} (h : scOk c0 c1 c2 a f k m = false) : sbOk c0 c1 c2 a f k o m = false ∧ sbV c0 c1 c2 a f x k o m = 0 := by
  have e : sbOk c0 c1 c2 a f k o m = false := by unfold sbOk; rw [h]; rfl
  exact ⟨e, by unfold sbV; rw [e]; rfl⟩
theorem a_sboth : Answers2 14 s_sboth := by
  intro al ans h hq
  unfold s_sboth at h
  split at h <;> try (simp at h; done)
  rename_i c0 c1 c2 a f k o m
  simp only [Option.some.injEq] at h
  subst h
  have hq := asked hq
  refine QR.does_of_eval (O := o_sboth) (QR.orc_cons a_scale QR.orc_nil) mixed (QR.noLoops) Tryd.func14 (by kernel_rfl) (by kernel_rfl) (by simp) ?_
  rw [sboth_vc]
  obtain ⟨g0, g1, g2, g3, g4, hk, ho, hm, _⟩ := hq
  cases ok : scOk c0 c1 c2 a f k m
  · have n := fun x => sb_no (x := x) (o := o) ok
    have n0 := (n 0).1
    have n1 := fun x => (n x).2
    simp [bcond_iff, bnot, okAns, eqXs, eqX, eqo, eqLo, eqL, eqc, veq, eqUs, g0, g1, g2, g3, g4, hk, ho, hm, n0, n1]
  · obtain ⟨e, ⟨i0, i1, i2, i3, i4⟩, ⟨s0, s1, s2, s3, s4⟩, b⟩ := sb_two g0 g1 g2 g3 g4 hk ho ok
    simp [bcond_iff, bnot, okAns, eqXs, eqX, eqo, eqLo, eqL, eqc, veq, eqUs, g0, g1, g2, g3, g4, hk, ho, hm, s0, s1, s2, s3, s4, i0, i1, i2, i3, i4, e, b]
end Go.Proofs.YtpjhdjakpbabhaaDoor
