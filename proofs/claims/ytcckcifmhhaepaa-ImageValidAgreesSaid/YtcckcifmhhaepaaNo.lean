import Derived.Test.YtcckcifmhhaepaaNp
import Derived.Test.YtcckcifmhhaepaaNc
import Derived.OwnWalkIn
import Derived.TacticsInMore
namespace Go.Proofs.Ytcckcifmhhaepaa
open Go Go.RowKit PR QR
set_option linter.unusedVariables false
set_option linter.unusedSimpArgs false
set_option maxRecDepth 20000
theorem a_pprm : Answers2 86 s_prm := by
  intro al ans h hq
  unfold s_prm at h
  split at h <;> try (simp at h; done)
  rename_i w h s
  simp only [Option.some.injEq] at h
  subst h
  have hq := asked hq
  refine QR.does_of_eval (O := (QR.orc [])) QR.orc_nil mixed (QR.noLoops) Try.func86 (by kernel_rfl) (by kernel_rfl) (by simp) ?_
  rw [lprm_vc]
  obtain ⟨iw, ih, is, _⟩ := hq
  simp only [okAns, eqXs, eqX, eqo, eqLo, eqc, veq, eqUs, bcond_iff, ile, decide_eq_true_eq, decide_eq_false_iff_not, true_and, and_true]
  have no : ¬ (fitB w h = true ∧ w ≤ s ∧ s ≤ 16777216) → false = prB w h s := fun k => (decide_eq_false k).symm
  refine ⟨fun h1 => ⟨fun h2 => ⟨fun h3 => ⟨fun h4 => ⟨fun h5 => ?_, fun h5 => ?_⟩, fun h4 => ?_⟩, fun h3 => ?_⟩, fun h2 => ?_⟩, fun h1 => ?_⟩
  · have p0 := Int.mul_nonneg (show 0 ≤ w by omega) (show 0 ≤ h by omega)
    have p1 := Int.mul_le_mul (show w ≤ 16777216 by omega) h5 (by omega) (by decide)
    rw [show imul .i64 w h = w * h from IntWalk.i64_in _ (by omega)]
    unfold prB
    rw [Bool.eq_iff_iff, decide_eq_true_eq, decide_eq_true_eq, fit_iff]
    exact ⟨fun k => ⟨⟨h1, h4, k⟩, h2, h3⟩, fun k => k.1.2.2⟩
  · exact no fun k => h5 (fit_le k.1).2
  · exact no fun k => h4 (fit_iff.1 k.1).2.1
  · exact no fun k => h3 k.2.2
  · exact no fun k => h2 k.2.1
  · exact no fun k => h1 (fit_iff.1 k.1).1
theorem pr_iff {w h s : Int} : prB w h s = true ↔ fitB w h = true ∧ w ≤ s ∧ s ≤ 16777216 := by unfold prB; rw [decide_eq_true_eq]
theorem a_pndd : Answers2 87 s_ndd := by
  intro al ans h hq
  unfold s_ndd at h
  split at h <;> try (simp at h; done)
  rename_i w h s
  simp only [Option.some.injEq] at h
  subst h
  have hq := asked hq
  refine QR.does_of_eval (O := (QR.orc [])) QR.orc_nil mixed (QR.noLoops) Try.func87 (by kernel_rfl) (by kernel_rfl) (by simp) ?_
  rw [lndd_vc]
  obtain ⟨hp, _⟩ := hq
  have hp := pr_iff.1 hp
  obtain ⟨f1, f2⟩ := fit_le hp.1
  have f3 := fit_iff.1 hp.1
  obtain ⟨e1, e2, e3, _⟩ := size_in (h := h) (s := s) (w := w) (by omega) f2 (by omega) hp.2.2 (by omega) f1
  simp only [okAns, eqXs, eqX, eqo, eqLo, eqc, veq, eqUs, true_and, and_true]
  rw [e1, e2, e3]; rfl
theorem pr_no {w h s : Int} (f : prB w h s = false) {q : Prop} : ¬ (fitB w h = true ∧ w ≤ s ∧ s ≤ 16777216 ∧ q) := fun k => by
  have := pr_iff.2 ⟨k.1, k.2.1, k.2.2.1⟩
  rw [f] at this; cases this
theorem a_plv : Answers2 85 s_plvalid := by
  intro al ans hh hq
  unfold s_plvalid at hh
  split at hh <;> try (simp at hh; done)
  rename_i w h s c 
  cases e : slcOf 1 c with
  | none => rw [e] at hh; simp at hh
  | some p =>
    obtain ⟨n, r⟩ := p
    rw [e] at hh
    simp only [Option.some.injEq] at hh
    subst hh
    obtain ⟨hr, hn, iw, ih, is, _⟩ := asked hq
    refine does_args2 (al' := [.x (.agg [.v (.int .i64 w), .v (.int .i64 h), .v (.int .i64 s), .slc 1 n (ints .u16 r)])]) ⟨⟨.v _, .v _, .v _, slcOf_ints e (by decide) hr, trivial⟩, trivial⟩ ?_
    have ri := intRow_fn .u16 1 n (fun i j => intC (den r i j))
    unfold ints
    refine QR.does_of_eval (O := o_pnv) (QR.orc_cons a_pprm (QR.orc_cons a_pndd QR.orc_nil)) mixed (QR.noLoops) Try.func85 (by kernel_rfl) (by kernel_rfl) (by simp) ?_
    rw [lplv_vc]
    try dsimp only
    cases f : prB w h s
    · have z : plB w h s n = false := decide_eq_false (pr_no f)
      simp [okAns, eqXs, eqX, eqo, eqLo, eqL, eqc, veq, eqUs, bcond_iff, bnot, f, z, iw, ih, is]
    · have f' := pr_iff.1 f
      simp only [okAns, eqXs, eqX, eqo, eqLo, eqL, eqc, veq, eqUs, bcond_iff, bnot, f, iw, ih, is, ige, true_and, and_true, forall_eq, true_implies, reduceCtorEq, false_implies]
      rw [Bool.eq_iff_iff, decide_eq_true_eq, pl_iff]
      exact ⟨fun k => ⟨f'.1, f'.2.1, f'.2.2, k⟩, fun k => k.2.2.2⟩
end Go.Proofs.Ytcckcifmhhaepaa
