import Derived.Test.YtcckcifmhhaepaaNb
namespace Go.Proofs.Ytcckcifmhhaepaa
open Go.RowKit PR QR
set_option linter.unusedVariables false
set_option linter.unusedSimpArgs false
set_option maxRecDepth 20000
theorem a_ffits : Answers2 46 s_fit := by
  intro al ans h hq
  unfold s_fit at h
  split at h <;> try (simp at h; done)
  rename_i w h
  simp only [Option.some.injEq] at h
  subst h
  have hq := asked hq
  refine QR.does_of_eval (O := (QR.orc [])) QR.orc_nil mixed (QR.noLoops) Try.func46 (by kernel_rfl) (by kernel_rfl) (by simp) ?_
  rw [ffits_vc]
  obtain ⟨iw, ih, _⟩ := hq
  have iw := in64_iff.1 iw
  simp only [okAns, eqXs, eqX, eqo, eqLo, eqc, veq, eqUs, bcond_iff, ige, ile, decide_eq_true_eq, decide_eq_false_iff_not, true_and, and_true]
  refine ⟨fun h1 => ⟨fun h2 => ⟨fun h3 => ⟨ine_t (by omega), ?_⟩, fun h3 => ?_⟩, fun h2 => ?_⟩, fun h1 => ?_⟩
  · rw [iquo_pos (by omega) (by omega), Bool.eq_iff_iff, decide_eq_true_eq, fit_iff, ← fit_div (by omega) (by omega)]
    exact ⟨fun k => ⟨by omega, by omega, k⟩, fun k => k.2.2⟩
  · refine (decide_eq_false fun k => ?_).symm
    have := Int.mul_le_mul (Int.le_refl w) k.2.1 (by decide) (by omega)
    omega
  · exact (decide_eq_false fun k => by omega).symm
  · exact (decide_eq_false fun k => by omega).symm
theorem a_fplv : Answers2 74 s_plvalid := by
  intro al ans hh hq
  unfold s_plvalid at hh
  split at hh <;> try (simp at hh; done)
  rename_i w h s c 
  cases e : slcOf 1 c with
  | none => rw [e] at hh; simp at hh
  | some p =>
    obtain ⟨n, r⟩ := p
    rw [e] at hh
    simp only [Option.some.injEq] at hh
    subst hh
    obtain ⟨hr, hn, iw, ih, is, _⟩ := asked hq
    refine does_args2 (al' := [.x (.agg [.v (.int .i64 w), .v (.int .i64 h), .v (.int .i64 s), .slc 1 n (ints .u16 r)])]) ⟨⟨.v _, .v _, .v _, slcOf_ints e (by decide) hr, trivial⟩, trivial⟩ ?_
    have ri := intRow_fn .u16 1 n (fun i j => intC (den r i j))
    unfold ints
    refine QR.does_of_eval (O := o_fpl) (QR.orc_cons a_ffits QR.orc_nil) mixed (QR.noLoops) Try.func74 (by kernel_rfl) (by kernel_rfl) (by simp) ?_
    rw [fplv_vc]
    try dsimp only
    cases f : fitB w h
    · have z : plB w h s n = false := decide_eq_false (fun k => by rw [f] at k; simp at k)
      simp [okAns, eqXs, eqX, eqo, eqLo, eqL, eqc, veq, eqUs, bcond_iff, bnot, f, z, iw, ih]
    · obtain ⟨f1, f2⟩ := fit_le f
      have f3 := fit_iff.1 f
      simp only [okAns, eqXs, eqX, eqo, eqLo, eqL, eqc, veq, eqUs, bcond_iff, bnot, f, iw, ih, ige, ile, decide_eq_true_eq, decide_eq_false_iff_not, true_and, and_true, forall_eq, true_implies, reduceCtorEq, false_implies]
      refine ⟨fun k1 => ⟨fun k2 => ?_, fun k2 => ?_⟩, fun k1 => ?_⟩
      · obtain ⟨e1, e2, e3, _⟩ := size_in (h := h) (s := s) (w := w) (by omega) f2 (by omega) k2 (by omega) f1
        rw [e1, e2, e3, Bool.eq_iff_iff, decide_eq_true_eq, pl_iff]
        exact ⟨fun k => ⟨f, by omega, k2, by omega⟩, fun k => by omega⟩
      · exact (decide_eq_false fun k => by omega).symm
      · exact (decide_eq_false fun k => by omega).symm
end Go.Proofs.Ytcckcifmhhaepaa
