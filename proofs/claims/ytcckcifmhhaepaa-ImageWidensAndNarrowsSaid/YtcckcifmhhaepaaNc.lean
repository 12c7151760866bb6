import Derived.Test.YtcckcifmhhaepaaNb
namespace Go.Proofs.Ytcckcifmhhaepaa
open Go.RowKit PR QR
set_option linter.unusedVariables false
set_option linter.unusedSimpArgs false
set_option maxRecDepth 20000
theorem a_ffits : Answers2 46 s_fit := by
  intro al ans h hq
  unfold s_fit at h
  split at h <;> try (simp at h; done)
  rename_i w h
  simp only [Option.some.injEq] at h
  subst h
  have hq := asked hq
  refine QR.does_of_eval (O := (QR.orc [])) QR.orc_nil mixed (QR.noLoops) Try.func46 (by kernel_rfl) (by kernel_rfl) (by simp) ?_
  rw [ffits_vc]
  obtain ⟨iw, ih, _⟩ := hq
  have iw := in64_iff.1 iw
  simp only [okAns, eqXs, eqX, eqo, eqLo, eqc, veq, eqUs, bcond_iff, ige, ile, decide_eq_true_eq, decide_eq_false_iff_not, true_and, and_true]
  refine ⟨fun h1 => ⟨fun h2 => ⟨fun h3 => ⟨ine_t (by omega), ?_⟩, fun h3 => ?_⟩, fun h2 => ?_⟩, fun h1 => ?_⟩
  · rw [iquo_pos (by omega) (by omega), Bool.eq_iff_iff, decide_eq_true_eq, fit_iff, ← fit_div (by omega) (by omega)]
    exact ⟨fun k => ⟨by omega, by omega, k⟩, fun k => k.2.2⟩
  · refine (decide_eq_false fun k => ?_).symm
    have := Int.mul_le_mul (Int.le_refl w) k.2.1 (by decide) (by omega)
    omega
  · exact (decide_eq_false fun k => by omega).symm
  · exact (decide_eq_false fun k => by omega).symm
theorem a_fplv : Answers2 74 s_plvalid := by
  intro al ans hh hq
  unfold s_plvalid at hh
  split at hh <;> try (simp at hh; done)
  rename_i w h s c 
  cases e : slcOf 1 c with
  | none => rw [e] at hh; simp at hh
  | some p =>
    obtain ⟨n, r⟩ := p
    rw [e] at hh
    simp only [Option.some.injEq] at hh
    subst hh
    obtain ⟨hr, hn, iw, ih, is, _⟩ := asked hq
    refine does_args2 (al' := [.x (.agg [.v (.int .i64 w), .v (.int .i64 h), .v (.int .i64 s), .slc 1 n (ints .u16 r)])]) ⟨⟨.v _, .v _, .v _, slcOf_ints e (by decide) hr, trivial⟩, trivial⟩ ?_
    have ri := intRow_fn .u16 1 n (fun i j => intC (den r i j))
    unfold ints
    refine QR.does_of_eval (O := o_fpl) (QR.orc_cons a_ffits QR.orc_nil) mixed (QR.noLoops) Try.func74 (by kernel_rfl) (by kernel_rfl) (by simp) ?_
    rw [fplv_vc]
    try dsimp only
    cases f : fitB w h
    · have z : plB w h s n = false := decide_eq_false (fun k => by rw [f] at k; simp at k)
      simp [okAns, eqXs, eqX, eqo, eqLo, eqL, eqc, veq, eqUs, bcond_iff, bnot, f, z, iw, ih]
    · obtain ⟨f1, f2⟩ := fit_le f
      have f3 := fit_iff.1 f
      simp only [okAns, eqXs, eqX, eqo, eqLo, eqL, eqc, veq, eqUs, bcond_iff, bnot, f, iw, ih, ige, ile, decide_eq_true_eq, decide_eq_false_iff_not, true_and, and_true, forall_eq, true_implies, reduceCtorEq, false_implies]
      refine ⟨fun k1 => ⟨fun k2 => ?_, fun k2 => ?_⟩, fun k1 => ?_⟩
      · obtain ⟨e1, e2, e3, _⟩ := size_in (h := h) (s := s) (w := w) (by omega) f2 (by omega) k2 (by omega) f1
        rw [e1, e2, e3, Bool.eq_iff_iff, decide_eq_true_eq, pl_iff]
        exact ⟨fun k => ⟨f, by omega, k2, by omega⟩, fun k => by omega⟩
      · exact (decide_eq_false fun k => by omega).symm
      · exact (decide_eq_false fun k => by omega).symm
theorem a_fpls : Answers2 54 s_plsame := by
  intro al ans hh hq
  unfold s_plsame at hh
  split at hh <;> try (simp at hh; done)
  rename_i w h s c w2 h2 s2 c2
  cases e : slcOf 1 c with
  | none => rw [e] at hh; simp at hh
  | some p =>
  cases e2 : slcOf 1 c2 with
  | none => rw [e, e2] at hh; simp at hh
  | some p2 =>
    obtain ⟨n, r⟩ := p
    obtain ⟨n2, r2⟩ := p2
    rw [e, e2] at hh
    simp only [Option.some.injEq] at hh
    subst hh
    obtain ⟨hr, hn, iw, ih, is, hr2, hn2, iw2, ih2, is2, hB, _⟩ := asked hq
    refine does_args2 (al' := [.x (.agg [.v (.int .i64 w), .v (.int .i64 h), .v (.int .i64 s), .slc 1 n (ints .u16 r)]), .x (.agg [.v (.int .i64 w2), .v (.int .i64 h2), .v (.int .i64 s2), .slc 1 n2 (ints .u16 r2)])]) ⟨⟨.v _, .v _, .v _, slcOf_ints e (by decide) hr, trivial⟩, ⟨.v _, .v _, .v _, slcOf_ints e2 (by decide) hr2, trivial⟩, trivial⟩ ?_
    have ri := intRow_fn .u16 1 n (fun i j => intC (den r i j))
    have ri2 := intRow_fn .u16 1 n2 (fun i j => intC (den r2 i j))
    unfold ints
    have hB := ile_tt hB
    have hn' := ile_tt hn
    have sp : spB w h s n r w2 h2 s2 n2 r2 = true ↔ (w = w2 ∧ h = h2 ∧ s = s2 ∧ n = n2) ∧ ∀ i : Nat, (i : Int) < n → intC (den r i 0) = intC (den r2 i 0) := by
      rw [spB_iff]
      exact ⟨fun q => ⟨⟨q.1, q.2.1, q.2.2.1, q.2.2.2.1⟩, fun i hi => q.2.2.2.2 i 0 hi (by decide)⟩, fun q => ⟨q.1.1, q.1.2.1, q.1.2.2.1, q.1.2.2.2, fun i j hi hj => (show j = 0 by omega) ▸ q.2 i hi⟩⟩
    generalize spB w h s n r w2 h2 s2 n2 r2 = b at *
    suffices G : ∀ (l k : Int → Nat → Int) (A : List Prop), (b = true ↔ (w = w2 ∧ h = h2 ∧ s = s2 ∧ n = n2) ∧ ∀ i : Nat, (i : Int) < n → l i 0 = k i 0) → DoesX Try.prog 54 [.x (.agg [.v (.int .i64 w), .v (.int .i64 h), .v (.int .i64 s), .slc 1 n (.fn fun i j => .v (.int .u16 (l i j)))]), .x (.agg [.v (.int .i64 w2), .v (.int .i64 h2), .v (.int .i64 s2), .slc 1 n2 (.fn fun i j => .v (.int .u16 (k i j)))])] ⟨[.c (.v (.bool b))], [], A⟩ from G _ _ _ sp
    clear sp ri ri2 hr hr2
    intro l k A sp
    refine QR.does_of_eval (O := QR.orc []) QR.orc_nil mixed (fun q => bif Nat.beq q 4 then some (.inv (o_inv_fsm w h s n l w2 h2 s2 n2 k)) else none) Try.func54 (by kernel_rfl) (by kernel_rfl) (by simp) ?_
    rw [fpls_vc]
    have no : ¬ (w = w2 ∧ h = h2 ∧ s = s2 ∧ n = n2) → b = false := fun q => by cases b with | false => rfl | true => exact absurd (sp.1 rfl).1 q
    simp only [forall_eq]
    by_cases c1 : w = w2
    rotate_left
    · have z := no (fun q => c1 q.1)
      simp [okAns, eqXs, eqX, eqo, eqLo, eqL, eqc, veq, eqUs, bcond_iff, bnot, z, ine_t c1]
    by_cases c2 : h = h2
    rotate_left
    · have z := no (fun q => c2 q.2.1)
      simp [okAns, eqXs, eqX, eqo, eqLo, eqL, eqc, veq, eqUs, bcond_iff, bnot, z, ine_t c2, c1, ine_f]
    by_cases c3 : s = s2
    rotate_left
    · have z := no (fun q => c3 q.2.2.1)
      simp [okAns, eqXs, eqX, eqo, eqLo, eqL, eqc, veq, eqUs, bcond_iff, bnot, z, ine_t c3, c1, c2, ine_f]
    by_cases c4 : n = n2
    rotate_left
    · have z := no (fun q => c4 q.2.2.2)
      simp [okAns, eqXs, eqX, eqo, eqLo, eqL, eqc, veq, eqUs, bcond_iff, bnot, z, ine_t c4, c1, c2, c3, ine_f]
    subst c1 c2 c3 c4
    have ia : ∀ i : Int, 0 ≤ i → i < n → iadd .i64 i 1 = i + 1 := fun i i0 i1 => IntWalk.i64_in _ (by omega)
    simp only [okAns, eqXs, eqX, eqo, eqLo, eqL, eqc, veq, eqUs, bcond_iff, bnot, ine_f, true_and, and_true, implies_true, reduceCtorEq, false_implies, true_implies, exists_eq_right, exists_eq_right']
    refine ⟨⟨⟨Int.le_refl 0, hn'⟩, fun p hp => by omega⟩, fun i hi => ⟨fun c1 => ?_, fun c1 => ?_⟩⟩
    · obtain ⟨⟨i0, i1⟩, eq⟩ := hi
      have lt := of_decide_eq_true c1
      have ti : ((i.toNat : Nat) : Int) = i := Int.toNat_of_nonneg i0
      refine ⟨⟨ile_t i0, c1, ile_t i0, c1⟩, fun c2 => ?_, fun c2 => ?_⟩
      · have c2 : l i 0 ≠ k i 0 := by simpa [ine] using c2
        cases b with
        | false => rfl
        | true => exact absurd (by have q := (sp.1 rfl).2 i.toNat (by omega); rw [ti] at q; exact q) c2
      · have c2 : l i 0 = k i 0 := by simpa [ine] using c2
        rw [ia i i0 lt]
        refine ⟨i + 1, ⟨⟨by omega, by omega⟩, fun p hp => ?_⟩, rfl, by show smpMu n (i + 1) < smpMu n i; unfold smpMu; omega⟩
        by_cases q : (p : Int) < i
        · exact eq p q
        · obtain rfl : i = (p : Int) := by omega
          exact c2
    · obtain ⟨⟨i0, i1⟩, eq⟩ := hi
      have := of_decide_eq_false c1
      obtain rfl : i = n := by omega
      exact (sp.2 ⟨⟨rfl, rfl, rfl, rfl⟩, eq⟩).symm
end Go.Proofs.Ytcckcifmhhaepaa
