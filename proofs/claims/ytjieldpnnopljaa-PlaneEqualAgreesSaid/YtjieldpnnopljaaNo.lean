/-
  Layer 14 (plane): what the program's own calls answer.
-/
import Derived.Test.YtjieldpnnopljaaNp
import Derived.Test.YtjieldpnnopljaaNc
import Derived.OwnWalkIn
import Derived.TacticsInMore
namespace Go.Proofs.Ytjieldpnnopljaa
open Go Go.RowKit PR QR
set_option linter.unusedVariables false
set_option linter.unusedSimpArgs false
set_option maxRecDepth 20000

set_option maxRecDepth 100000 in
set_option maxHeartbeats 1000000 in
theorem row_calls {w h s y : Int} {b off N cc : Nat} (k : rowOk w s N y) (hc : N ≤ cc) (W : World) : Calls Try.prog 28 #[.agg #[.int .i64 w, .int .i64 h, .int .i64 s, .slice (some ⟨b, off, none⟩) N cc], .int .i64 y] W fun e W' =>
    e = .returned (.slice (some ⟨b, off + (y * s).toNat, none⟩) w.toNat w.toNat) ∧ Below W.heap.size W W' := by
  obtain ⟨⟨w0, w1⟩, ⟨y0, y1⟩, ⟨s0, s1⟩, hn⟩ := k
  have p0 := Int.mul_nonneg y0 s0
  have p1 := Int.mul_le_mul y1 s1 s0 (by decide)
  have f1 : wrap64 (y * s) = y * s := IntWalk.wrap64_in _ (by omega)
  have f2 : wrap64 (y * s + w) = y * s + w := IntWalk.wrap64_in _ (by omega)
  go_enter Try.func28, Try.ntmps28
  go_wp2
  all_goals simp only [f1, f2] at *
  all_goals generalize y * s = l at *
  rotate_left
  all_goals first
    | (exfalso; omega)
    | skip
  refine bodyPost_ret (v := .slice (some ⟨b, off + l.toNat, none⟩) ((l + w).toNat - l.toNat) ((l + w).toNat - l.toNat)) (by simp [results, Try.results28, go_sem]) rfl ⟨?_, below_alloc (Below.refl _ _) _⟩
  rw [show (l + w).toNat - l.toNat = w.toNat by omega]
/-- a row of a plane: a part of its list -/
theorem a_prow : QR.AnswersV Try.prog 28 s_prow := by
  intro al ans hh hq
  unfold s_prow at hh
  split at hh <;> try (simp at hh; done)
  rename_i w h s c y
  cases e : slcOf 1 c with
  | none => rw [e] at hh; simp at hh
  | some p =>
    obtain ⟨n, r⟩ := p
    rw [e] at hh
    simp only [Option.some.injEq] at hh
    subst hh
    have k : rowOk w s n y := hq _ (by simp)
    have hn0 : 0 < n := by
      obtain ⟨⟨w0, w1⟩, ⟨y0, y1⟩, ⟨s0, s1⟩, hn⟩ := k
      have p0 := Int.mul_nonneg y0 s0
      omega
    obtain rfl : c = .slc 1 n r := by
      unfold slcOf at e
      split at e
      · rename_i z' n' r'
        cases e2 : Nat.beq z' 1 with
        | false => rw [e2] at e; simp at e
        | true =>
          rw [e2] at e
          simp only [cond_true, Option.some.injEq, Prod.mk.injEq] at e
          rw [Nat.eq_of_beq_eq_true e2, e.1, e.2]
      · simp only [Option.some.injEq, Prod.mk.injEq] at e
        omega
      · simp at e
    refine ⟨_, rfl, fun W F ys hL hF hA => ⟨call_enter Try.func28 (by kernel_rfl) rfl _ W, ?_⟩⟩
    match ys, hA with
    | [ya, yb], ⟨⟨zs, ez, hz⟩, hb, _⟩ =>
    subst ez
    match zs, hz with
    | [z0, z1, z2, z3], ⟨h0, h1, h2, h3, _⟩ =>
      have hb : Rep F W (.v (.int .i64 y)) yb := hb
      cases h0; cases h1; cases h2; cases hb
      cases h3 with
      | nil => omega
      | slc u hz hc hF hg hu hr =>
        rename_i N b off cc arr t fr _
        refine (row_calls k hc W).mono ?_
        rintro e W' ⟨rfl, hB⟩
        refine ⟨_, _, 1, rfl, ⟨hB.os, hB.tape, hB.output, hB.size, fun k hk _ => hB.block k hk⟩, rfl, rfl, Or.inr ⟨b, off, N, cc, w.toNat, rfl, ?_, Nat.le_refl _⟩⟩
        rw [Nat.mul_one]
        rfl
theorem a_pprm : Answers2 24 s_prm := by
  intro al ans h hq
  unfold s_prm at h
  split at h <;> try (simp at h; done)
  rename_i w h s
  simp only [Option.some.injEq] at h
  subst h
  have hq := asked hq
  refine QR.does_of_eval (O := (QR.orc [])) QR.orc_nil mixed (QR.noLoops) Try.func24 (by kernel_rfl) (by kernel_rfl) (by simp) ?_
  rw [lprm_vc]
  obtain ⟨iw, ih, is, _⟩ := hq
  simp only [okAns, eqXs, eqX, eqo, eqLo, eqc, veq, eqUs, bcond_iff, ile, decide_eq_true_eq, decide_eq_false_iff_not, true_and, and_true]
  have no : ¬ (fitB w h = true ∧ w ≤ s ∧ s ≤ 16777216) → false = prB w h s := fun k => (decide_eq_false k).symm
  refine ⟨fun h1 => ⟨fun h2 => ⟨fun h3 => ⟨fun h4 => ⟨fun h5 => ?_, fun h5 => ?_⟩, fun h4 => ?_⟩, fun h3 => ?_⟩, fun h2 => ?_⟩, fun h1 => ?_⟩
  · have p0 := Int.mul_nonneg (show 0 ≤ w by omega) (show 0 ≤ h by omega)
    have p1 := Int.mul_le_mul (show w ≤ 16777216 by omega) h5 (by omega) (by decide)
    rw [show imul .i64 w h = w * h from IntWalk.i64_in _ (by omega)]
    unfold prB
    rw [Bool.eq_iff_iff, decide_eq_true_eq, decide_eq_true_eq, fit_iff]
    exact ⟨fun k => ⟨⟨h1, h4, k⟩, h2, h3⟩, fun k => k.1.2.2⟩
  · exact no fun k => h5 (fit_le k.1).2
  · exact no fun k => h4 (fit_iff.1 k.1).2.1
  · exact no fun k => h3 k.2.2
  · exact no fun k => h2 k.2.1
  · exact no fun k => h1 (fit_iff.1 k.1).1
theorem pr_iff {w h s : Int} : prB w h s = true ↔ fitB w h = true ∧ w ≤ s ∧ s ≤ 16777216 := by unfold prB; rw [decide_eq_true_eq]
theorem a_pndd : Answers2 25 s_ndd := by
  intro al ans h hq
  unfold s_ndd at h
  split at h <;> try (simp at h; done)
  rename_i w h s
  simp only [Option.some.injEq] at h
  subst h
  have hq := asked hq
  refine QR.does_of_eval (O := (QR.orc [])) QR.orc_nil mixed (QR.noLoops) Try.func25 (by kernel_rfl) (by kernel_rfl) (by simp) ?_
  rw [lndd_vc]
  obtain ⟨hp, _⟩ := hq
  have hp := pr_iff.1 hp
  obtain ⟨f1, f2⟩ := fit_le hp.1
  have f3 := fit_iff.1 hp.1
  obtain ⟨e1, e2, e3, _⟩ := size_in (h := h) (s := s) (w := w) (by omega) f2 (by omega) hp.2.2 (by omega) f1
  simp only [okAns, eqXs, eqX, eqo, eqLo, eqc, veq, eqUs, true_and, and_true]
  rw [e1, e2, e3]; rfl
theorem pr_no {w h s : Int} (f : prB w h s = false) {q : Prop} : ¬ (fitB w h = true ∧ w ≤ s ∧ s ≤ 16777216 ∧ q) := fun k => by
  have := pr_iff.2 ⟨k.1, k.2.1, k.2.2.1⟩
  rw [f] at this; cases this
theorem a_plv : Answers2 10 s_plvalid := by
  intro al ans hh hq
  unfold s_plvalid at hh
  split at hh <;> try (simp at hh; done)
  rename_i w h s c 
  cases e : slcOf 1 c with
  | none => rw [e] at hh; simp at hh
  | some p =>
    obtain ⟨n, r⟩ := p
    rw [e] at hh
    simp only [Option.some.injEq] at hh
    subst hh
    obtain ⟨hr, hn, iw, ih, is, _⟩ := asked hq
    refine does_args2 (al' := [.x (.agg [.v (.int .i64 w), .v (.int .i64 h), .v (.int .i64 s), .slc 1 n (ints .u16 r)])]) ⟨⟨.v _, .v _, .v _, slcOf_ints e (by decide) hr, trivial⟩, trivial⟩ ?_
    have ri := intRow_fn .u16 1 n (fun i j => intC (den r i j))
    unfold ints
    refine QR.does_of_eval (O := o_pnv) (QR.orc_cons a_pprm (QR.orc_cons a_pndd QR.orc_nil)) mixed (QR.noLoops) Try.func10 (by kernel_rfl) (by kernel_rfl) (by simp) ?_
    rw [lplv_vc]
    try dsimp only
    cases f : prB w h s
    · have z : plB w h s n = false := decide_eq_false (pr_no f)
      simp [okAns, eqXs, eqX, eqo, eqLo, eqL, eqc, veq, eqUs, bcond_iff, bnot, f, z, iw, ih, is]
    · have f' := pr_iff.1 f
      simp only [okAns, eqXs, eqX, eqo, eqLo, eqL, eqc, veq, eqUs, bcond_iff, bnot, f, iw, ih, is, ige, true_and, and_true, forall_eq, true_implies, reduceCtorEq, false_implies]
      rw [Bool.eq_iff_iff, decide_eq_true_eq, pl_iff]
      exact ⟨fun k => ⟨f'.1, f'.2.1, f'.2.2, k⟩, fun k => k.2.2.2⟩
theorem a_pln : Answers2 13 s_plnew := by
  intro al ans h hq
  unfold s_plnew at h
  split at h <;> try (simp at h; done)
  rename_i w h s
  simp only [Option.some.injEq] at h
  subst h
  have hq := asked hq
  refine QR.does_of_eval (O := o_pnv) (QR.orc_cons a_pprm (QR.orc_cons a_pndd QR.orc_nil)) mixed (QR.noLoops) Try.func13 (by kernel_rfl) (by kernel_rfl) (by simp) ?_
  rw [lpln_vc]
  obtain ⟨iw, ih, is, _⟩ := hq
  have z1 : Nat.blt 0 1 = true := rfl
  cases f : prB w h s
  · have z : pnB w h s = false := decide_eq_false (pr_no f)
    simp [okAns, eqXs, eqX, eqo, eqLo, eqL, eqc, veq, eqUs, bcond_iff, bnot, nilC, f, z, iw, ih, is, pz_f, z1]
  · have f' := pr_iff.1 f
    obtain ⟨f1, f2⟩ := fit_le f'.1
    have f3 := fit_iff.1 f'.1
    obtain ⟨_, _, _, e4, e5⟩ := size_in (h := h) (s := s) (w := w) (by omega) f2 (by omega) f'.2.2 (by omega) f1
    have en : ndN w h s = (h - 1) * s + w := rfl
    by_cases k3 : ndN w h s ≤ 16777216
    · have z : pnB w h s = true := pn_iff.2 ⟨f'.1, f'.2.1, f'.2.2, k3⟩
      have c3 : igt (ndN w h s) 16777216 = false := by rw [igt_le']; simp [k3]
      have c4 : ile 0 (ndN w h s) = true := ile_t (by omega)
      have c5 : ile (ndN w h s) (ndN w h s) = true := ile_t (Int.le_refl _)
      have c6 : ile (imulZ (ndN w h s) 2) 140737488355328 = true := ile_t (by unfold imulZ; omega)
      have c7 : ile (ndN w h s) 140737488355328 = true := ile_t (by omega)
      have c8 : mkN w h s 0 = ndN w h s := Int.add_zero _
      simp [okAns, eqXs, eqX, eqo, eqLo, eqL, eqc, veq, eqUs, bcond_iff, bnot, f, z, iw, ih, is, pz_t, c3, c4, c5, c6, c7, c8]
      exact .slc fun i j hi hj => by obtain rfl : j = 0 := by omega
                                     exact .v _
    · have z : pnB w h s = false := decide_eq_false (fun k => k3 k.2.2.2)
      have c3 : igt (ndN w h s) 16777216 = true := by rw [igt_le']; simp [k3]
      simp [okAns, eqXs, eqX, eqo, eqLo, eqL, eqc, veq, eqUs, bcond_iff, bnot, nilC, f, z, iw, ih, is, pz_f, z1, c3]
theorem a_plh : Answers2 27 s_plin := by
  intro al ans hh hq
  unfold s_plin at hh
  split at hh <;> try (simp at hh; done)
  rename_i w h s c x y
  cases e : slcOf 1 c with
  | none => rw [e] at hh; simp at hh
  | some p =>
    obtain ⟨n, r⟩ := p
    rw [e] at hh
    simp only [Option.some.injEq] at hh
    subst hh
    obtain ⟨hr, hn, iw, ih, is, _⟩ := asked hq
    refine does_args2 (al' := [.x (.agg [.v (.int .i64 w), .v (.int .i64 h), .v (.int .i64 s), .slc 1 n (ints .u16 r)]), .x (.c (.v (.int .i64 x))), .x (.c (.v (.int .i64 y)))]) ⟨⟨.v _, .v _, .v _, slcOf_ints e (by decide) hr, trivial⟩, .v _, .v _, trivial⟩ ?_
    have ri := intRow_fn .u16 1 n (fun i j => intC (den r i j))
    unfold ints
    refine QR.does_of_eval (O := o_phs) (QR.orc_cons a_plv QR.orc_nil) mixed (QR.noLoops) Try.func27 (by kernel_rfl) (by kernel_rfl) (by simp) ?_
    rw [lplh_vc]
    try dsimp only
    cases f : plB w h s n
    · have z : inB w h s n x y = false := decide_eq_false (fun k => by rw [f] at k; simp at k)
      simp [okAns, eqXs, eqX, eqo, eqLo, eqL, eqc, veq, eqUs, bcond_iff, bnot, f, z, iw, ih, is, hn, ri]
    · have hn0 : 0 ≤ n := ile_tt hn
      simp only [okAns, eqXs, eqX, eqo, eqLo, eqL, eqc, veq, eqUs, bcond_iff, bnot, f, iw, ih, is, hn, hn0, ri, ige, ile, ilt, decide_eq_true_eq, decide_eq_false_iff_not, true_and, and_true, true_implies, reduceCtorEq, false_implies]
      have e : ∀ P : Prop, [Decidable P] → (P ↔ ((0 ≤ x ∧ x < w) ∧ 0 ≤ y ∧ y < h)) → decide P = inB w h s n x y := fun P _ hp => by
        rw [Bool.eq_iff_iff, decide_eq_true_eq, in_iff, f, hp]; simp
      refine ⟨fun k1 => ⟨fun k2 => ⟨fun k3 => ?_, fun k3 => ?_⟩, fun k2 => ?_⟩, fun k1 => ?_⟩
      · exact e _ ⟨fun k => by omega, fun k => by omega⟩
      · exact (decide_eq_false fun k => by omega).symm
      · exact (decide_eq_false fun k => by omega).symm
      · exact (decide_eq_false fun k => by omega).symm
/-- a row of a valid plane lies in its list -/
theorem row_ok {w h s n y : Int} (k : plB w h s n = true) (y0 : 0 ≤ y) (y1 : y < h) : rowOk w s n y ∧ ile 0 (rowL s y) = true ∧ ile 0 w = true ∧ ile (addZ (rowL s y) w) n = true := by
  obtain ⟨g1, g2, g3, g4⟩ := pl_iff.1 k
  obtain ⟨f1, f2⟩ := fit_le g1
  have f3 := fit_iff.1 g1
  have p0 := Int.mul_nonneg y0 (show 0 ≤ s by omega)
  have p2 := Int.mul_le_mul_of_nonneg_right (show y ≤ h - 1 by omega) (show 0 ≤ s by omega)
  exact ⟨⟨⟨by omega, f1⟩, ⟨y0, by omega⟩, ⟨by omega, g3⟩, by omega⟩, ile_t p0, ile_t (by omega), ile_t (by unfold addZ rowL; omega)⟩
theorem a_pla : Answers2 18 s_plat := by
  intro al ans hh hq
  unfold s_plat at hh
  split at hh <;> try (simp at hh; done)
  rename_i w h s c x y
  cases e : slcOf 1 c with
  | none => rw [e] at hh; simp at hh
  | some p =>
    obtain ⟨n, r⟩ := p
    rw [e] at hh
    simp only [Option.some.injEq] at hh
    subst hh
    obtain ⟨hr, hn, iw, ih, is, _⟩ := asked hq
    refine does_args2 (al' := [.x (.agg [.v (.int .i64 w), .v (.int .i64 h), .v (.int .i64 s), .slc 1 n (ints .u16 r)]), .x (.c (.v (.int .i64 x))), .x (.c (.v (.int .i64 y)))]) ⟨⟨.v _, .v _, .v _, slcOf_ints e (by decide) hr, trivial⟩, .v _, .v _, trivial⟩ ?_
    have ri := intRow_fn .u16 1 n (fun i j => intC (den r i j))
    unfold ints
    refine QR.does_of_eval (O := o_pat) (QR.orc_cons a_plh (QR.orc_consV a_prow QR.orc_nil)) mixed (QR.noLoops) Try.func18 (by kernel_rfl) (by kernel_rfl) (by simp) ?_
    rw [lpla_vc]
    try dsimp only
    have pv : patV w h s n r x y = bif inB w h s n x y then intC (den r (patI s x y) 0) else 0 := rfl
    cases f : inB w h s n x y
    · rw [f] at pv
      simp [okAns, eqXs, eqX, eqo, eqLo, eqL, eqc, veq, eqUs, bcond_iff, bnot, f, pv, iw, ih, is, hn, ri]
    · rw [f] at pv
      obtain ⟨p1, p2, p3, p4, p5, p6⟩ := at_lt f
      have f' := (in_iff.1 f).2
      obtain ⟨k1, k2, k3, k4⟩ := row_ok (in_iff.1 f).1 f'.2.1 f'.2.2
      have c1 : ile 0 x = true := ile_t f'.1.1
      have c2 : ilt x w = true := ilt_t f'.1.2
      have e1 : addZ x (rowL s y) = patI s x y := by unfold addZ rowL patI; omega
      simp [okAns, eqXs, eqX, eqo, eqLo, eqL, eqc, veq, eqUs, bcond_iff, bnot, f, pv, iw, ih, is, hn, ri, e1, k1, k2, k3, k4, c1, c2]
theorem a_plw : Answers2 16 s_plwith := by
  intro al ans hh hq
  unfold s_plwith at hh
  split at hh <;> try (simp at hh; done)
  rename_i w h s c x y v
  cases e : slcOf 1 c with
  | none => rw [e] at hh; simp at hh
  | some p =>
    obtain ⟨n, r⟩ := p
    rw [e] at hh
    simp only [Option.some.injEq] at hh
    subst hh
    obtain ⟨hr, hn, iw, ih, is, hB, _⟩ := asked hq
    refine does_args2 (al' := [.x (.agg [.v (.int .i64 w), .v (.int .i64 h), .v (.int .i64 s), .slc 1 n (ints .u16 r)]), .x (.c (.v (.int .i64 x))), .x (.c (.v (.int .i64 y))), .x (.c (.v (.int .u16 v)))]) ⟨⟨.v _, .v _, .v _, slcOf_ints e (by decide) hr, trivial⟩, .v _, .v _, .v _, trivial⟩ ?_
    have ri := intRow_fn .u16 1 n (fun i j => intC (den r i j))
    unfold ints
    refine QR.does_of_eval (O := o_pat) (QR.orc_cons a_plh (QR.orc_consV a_prow QR.orc_nil)) mixed (QR.noLoops) Try.func16 (by kernel_rfl) (by kernel_rfl) (by simp) ?_
    rw [lplw_vc]
    try dsimp only
    have z1 : Nat.blt 0 1 = true := rfl
    have hB := ile_tt hB
    have hn' := ile_tt hn
    cases f : inB w h s n x y
    · simp [okAns, eqXs, eqX, eqo, eqLo, eqL, eqc, veq, eqUs, bcond_iff, bnot, nilC, f, pz_f, z1, iw, ih, is, hn, ri]
    · obtain ⟨p1, p2, p3, p4, p5, p6⟩ := at_lt f
      have f' := (in_iff.1 f).2
      obtain ⟨k1, k2, k3, k4⟩ := row_ok (in_iff.1 f).1 f'.2.1 f'.2.2
      have c1 : ile 0 x = true := ile_t f'.1.1
      have c2 : ilt x w = true := ilt_t f'.1.2
      have e1 : addZ (rowL s y) x = patI s x y := by unfold addZ rowL patI; omega
      have e2 : iimin n n = n := by unfold iimin; split <;> rfl
      have c3 : ile (imulZ n 2) 140737488355328 = true := ile_t (by unfold imulZ; omega)
      have c4 : ile n n = true := ile_t (Int.le_refl _)
      have c5 : ile n 140737488355328 = true := ile_t (by omega)
      simp [okAns, eqXs, eqX, eqo, eqLo, eqL, eqc, veq, eqUs, bcond_iff, bnot, f, pz_t, iw, ih, is, hn, ri, e1, e2, k1, k2, k3, k4, c1, c2, c3, c4, c5]
      refine .slc fun i j hi hj => ?_
      obtain rfl : j = 0 := by omega
      have hri := hr i 0 hi (by omega)
      have l1 : ilt i (addZ 0 n) = true := ilt_t (by unfold addZ; omega)
      have l2 : ilt i 0 = false := ilt_f (by omega)
      have l3 : subZ (i : Int) 0 = i := by unfold subZ; omega
      show EqC (csel (ieq i (patI s x y)) (.v (.int .u16 v)) (csel (ilt i (addZ 0 n)) (csel (ilt i 0) (.v (.int .u16 0)) (.v (.int .u16 (intC (den r (subZ i 0) 0))))) (.v (.int .u16 0)))) (csel (ieq i (patI s x y)) (.v (.int .u16 v)) (den r i 0))
      rw [l1, l2, l3, csel_t, csel_f, ← hri]
      rw [hri]
      exact .v _
theorem a_sle : Answers2 30 s_sleq := by
  intro al ans hh hq
  unfold s_sleq at hh
  split at hh <;> try (simp at hh; done)
  rename_i c c2
  cases e : slcOf 1 c with
  | none => rw [e] at hh; simp at hh
  | some p =>
  cases e2 : slcOf 1 c2 with
  | none => rw [e, e2] at hh; simp at hh
  | some p2 =>
    obtain ⟨n, r⟩ := p
    obtain ⟨n2, r2⟩ := p2
    rw [e, e2] at hh
    simp only [Option.some.injEq] at hh
    subst hh
    obtain ⟨hr, hn, hr2, hn2, hB, _⟩ := asked hq
    refine does_args2 (al' := [.x (.c (.slc 1 n (ints .u16 r))), .x (.c (.slc 1 n2 (ints .u16 r2)))]) ⟨slcOf_ints e (by decide) hr, slcOf_ints e2 (by decide) hr2, trivial⟩ ?_
    unfold ints
    have hB := ile_tt hB
    have hn' := ile_tt hn
    have sp : slEq n r n2 r2 = true ↔ n = n2 ∧ ∀ i : Nat, (i : Int) < n → intC (den r i 0) = intC (den r2 i 0) := by
      unfold slEq
      rw [sameR_iff]
      exact ⟨fun q => ⟨q.1, fun i hi => q.2 i 0 hi (by decide)⟩, fun q => ⟨q.1, fun i j hi hj => (show j = 0 by omega) ▸ q.2 i hi⟩⟩
    generalize slEq n r n2 r2 = b at *
    suffices G : ∀ (l k : Int → Nat → Int) (A : List Prop), (b = true ↔ n = n2 ∧ ∀ i : Nat, (i : Int) < n → l i 0 = k i 0) → DoesX Try.prog 30 [.x (.c (.slc 1 n (.fn fun i j => .v (.int .u16 (l i j))))), .x (.c (.slc 1 n2 (.fn fun i j => .v (.int .u16 (k i j)))))] ⟨[.c (.v (.bool b))], [], A⟩ from G _ _ _ sp
    clear sp hr hr2
    intro l k A sp
    refine QR.does_of_eval (O := QR.orc []) QR.orc_nil mixed (fun q => bif Nat.beq q 4 then some (.inv (o_inv_lsle n l n2 k)) else none) Try.func30 (by kernel_rfl) (by kernel_rfl) (by simp) ?_
    rw [lsle_vc]
    simp only [forall_eq]
    by_cases c1 : n = n2
    rotate_left
    · have z : b = false := by cases b with | false => rfl | true => exact absurd (sp.1 rfl).1 c1
      simp [okAns, eqXs, eqX, eqo, eqLo, eqL, eqc, veq, eqUs, bcond_iff, bnot, z, ine_t c1]
    subst c1
    have ia : ∀ i : Int, 0 ≤ i → i < n → iadd .i64 i 1 = i + 1 := fun i i0 i1 => IntWalk.i64_in _ (by omega)
    simp only [okAns, eqXs, eqX, eqo, eqLo, eqL, eqc, veq, eqUs, bcond_iff, bnot, ine_f, true_and, and_true, implies_true, reduceCtorEq, false_implies, true_implies, exists_eq_right, exists_eq_right']
    refine ⟨⟨⟨Int.le_refl 0, hn'⟩, fun p hp => by omega⟩, fun i hi => ⟨fun c1 => ?_, fun c1 => ?_⟩⟩
    · obtain ⟨⟨i0, i1⟩, eq⟩ := hi
      have lt := of_decide_eq_true c1
      have ti : ((i.toNat : Nat) : Int) = i := Int.toNat_of_nonneg i0
      refine ⟨⟨ile_t i0, c1, ile_t i0, c1⟩, fun c2 => ?_, fun c2 => ?_⟩
      · have c2 : l i 0 ≠ k i 0 := by simpa [ine] using c2
        cases b with
        | false => rfl
        | true => exact absurd (by have q := (sp.1 rfl).2 i.toNat (by omega); rw [ti] at q; exact q) c2
      · have c2 : l i 0 = k i 0 := by simpa [ine] using c2
        rw [ia i i0 lt]
        refine ⟨i + 1, ⟨⟨by omega, by omega⟩, fun p hp => ?_⟩, rfl, by show seMu n (i + 1) < seMu n i; unfold seMu; omega⟩
        by_cases q : (p : Int) < i
        · exact eq p q
        · obtain rfl : (p : Int) = i := by omega
          exact c2
    · have := of_decide_eq_false c1
      obtain ⟨⟨i0, i1⟩, eq⟩ := hi
      obtain rfl : i = n := by omega
      exact (sp.2 ⟨rfl, fun q hq => eq q hq⟩).symm
theorem a_plc : Answers2 20 s_plcomp := by
  intro al ans hh hq
  unfold s_plcomp at hh
  split at hh <;> try (simp at hh; done)
  rename_i w h s c 
  cases e : slcOf 1 c with
  | none => rw [e] at hh; simp at hh
  | some p =>
    obtain ⟨n, r⟩ := p
    rw [e] at hh
    simp only [Option.some.injEq] at hh
    subst hh
    obtain ⟨hr, hn, iw, ih, is, _⟩ := asked hq
    refine does_args2 (al' := [.x (.agg [.v (.int .i64 w), .v (.int .i64 h), .v (.int .i64 s), .slc 1 n (ints .u16 r)])]) ⟨⟨.v _, .v _, .v _, slcOf_ints e (by decide) hr, trivial⟩, trivial⟩ ?_
    have ri := intRow_fn .u16 1 n (fun i j => intC (den r i j))
    unfold ints
    suffices G : ∀ (l : Int → Nat → Int) (A : List Prop), (∀ i, cpV w s r i = cpV w s (.fn fun i j => .v (.int .u16 (l i j))) i) → DoesX Try.prog 20 [.x (.agg [.v (.int .i64 w), .v (.int .i64 h), .v (.int .i64 s), .slc 1 n (.fn fun i j => .v (.int .u16 (l i j)))])] ⟨[.agg [.v (.int .i64 (pz (plB w h s n) w)), .v (.int .i64 (pz (plB w h s n) h)), .v (.int .i64 (pz (plB w h s n) w)), .slc 1 (pz (plB w h s n) (cpN w h)) (.fn fun i _ => .v (.int .u16 (cpV w s r i)))], .c (.v (.bool (plB w h s n)))], [], A⟩ from G _ _ fun _ => rfl
    clear hr ri
    intro l A cpe
    have ri := intRow_fn .u16 1 n l
    refine QR.does_of_eval (O := o_pcc) (QR.orc_cons a_plv (QR.orc_consV a_prow QR.orc_nil)) mixed (fun q => bif Nat.beq q 5 then some (.inv (o_inv_lcc w h s n l)) else none) Try.func20 (by kernel_rfl) (by kernel_rfl) (by simp) ?_
    rw [lplc_vc]
    have z1 : Nat.blt 0 1 = true := rfl
    cases f : plB w h s n
    · simp [okAns, eqXs, eqX, eqo, eqLo, eqL, eqc, veq, eqUs, bcond_iff, bnot, nilC, f, pz_f, z1, iw, ih, is, hn, ri]
    obtain ⟨g1, g2, g3, g4⟩ := pl_iff.1 f
    obtain ⟨f1, f2⟩ := fit_le g1
    have f3 := fit_iff.1 g1
    have em : imul .i64 w h = mulP w h := IntWalk.i64_in _ (by have := Int.mul_nonneg (show 0 ≤ w by omega) (show 0 ≤ h by omega); omega)
    have ec : cpN w h = mulP w h := rfl
    have m0 : 0 ≤ mulP w h := Int.mul_nonneg (by omega) (by omega)
    have m1 : mulP w h ≤ 16777216 := f3.2.2
    have m2 : mulP w h = (h - 1) * w + w := by unfold mulP; rw [Int.sub_mul, Int.one_mul, Int.mul_comm]; omega
    have fc : plB w h w (mulP w h) = true := pl_iff.2 ⟨g1, Int.le_refl _, f1, by omega⟩
    have ew : iimin w w = w := by unfold iimin; split <;> rfl
    have a1 : ile 0 (mulP w h) = true := ile_t m0
    have a2 : ile (mulP w h) (mulP w h) = true := ile_t (Int.le_refl _)
    have a3 : ile (imulZ (mulP w h) 2) 140737488355328 = true := ile_t (by unfold imulZ; omega)
    have a4 : ile (mulP w h) 140737488355328 = true := ile_t (by omega)
    have ia : ∀ i : Int, 0 ≤ i → i < h → iadd .i64 i 1 = i + 1 := fun i i0 i1 => IntWalk.i64_in _ (by omega)
    have mu : ∀ i : Int, i < h → Nat.le (Nat.succ (ccMu h (i + 1))) (ccMu h i) := fun i i1 => by show ccMu h (i + 1) < ccMu h i; unfold ccMu; omega
    simp only [okAns, eqXs, eqX, eqo, eqLo, eqL, eqc, veq, eqUs, bcond_iff, bnot, cpe, f, pz_t, iw, ih, is, hn, ri, em, ec, ew, a1, a2, a3, a4, forall_eq, true_and, and_true, implies_true, reduceCtorEq, false_implies, true_implies, Bool.not_true, Bool.false_eq_true, exists_eq_right, exists_eq_right']
    refine ⟨⟨0, ⟨Int.le_refl 0, by omega⟩, rfl, fun q _ => ?_⟩, fun i hi => ⟨fun c1 => ?_, fun c1 => ?_⟩⟩
    · unfold ccV rowL
      rw [Int.zero_mul, ilt_f (show (0 : Int) ≤ Int.ofNat q from Int.natCast_nonneg q)]; rfl
    · obtain ⟨i0, i1⟩ := hi
      have lt := of_decide_eq_true c1
      obtain ⟨k1, k2, k3, k4⟩ := row_ok f i0 lt
      obtain ⟨k5, k6, _, k7⟩ := row_ok fc i0 lt
      have er : rowL w (i + 1) = rowL w i + w := by unfold rowL; rw [Int.add_mul, Int.one_mul]
      refine ⟨⟨k2, k3, k4, k1, k6, k3, k7, k5⟩, i + 1, ⟨by omega, by omega⟩, ⟨ia i i0 lt, fun q hq => ?_⟩, mu i lt⟩
      have q0 : (0 : Int) ≤ Int.ofNat q := Int.natCast_nonneg q
      have r0 : 0 ≤ rowL w i := Int.mul_nonneg i0 (by omega)
      unfold addZ subZ ccV
      rw [er]
      by_cases c2 : Int.ofNat q < rowL w i + w
      · rw [ilt_t c2, isel_t]
        by_cases c3 : Int.ofNat q < rowL w i
        · rw [ilt_t c3, isel_t]
        · rw [ilt_f (by omega), isel_f]
          have := cp_row (w := w) (s := s) (.fn fun i j => .v (.int .u16 (l i j))) (x := Int.ofNat q - rowL w i) (y := i) (by omega) (by omega)
          rw [show i * w + (Int.ofNat q - rowL w i) = Int.ofNat q by unfold rowL; omega] at this
          show _ = cpV w s _ (Int.ofNat q)
          rw [this]
          show l _ 0 = l (patI s (Int.ofNat q - rowL w i) i) 0
          congr 1
          unfold patI rowL
          omega
      · rw [ilt_f (by omega), isel_f, ilt_f (by omega)]; rfl
    · have lt := of_decide_eq_false c1
      have hi1 := hi.2
      obtain rfl : i = h := by omega
      refine .slc fun q j hq hj => ?_
      obtain rfl : j = 0 := by omega
      show EqC (.v (.int .u16 (ccV w s l i q))) (.v (.int .u16 (cpV w s _ q)))
      have : ilt (q : Int) (rowL w i) = true := ilt_t (by unfold rowL; rw [Int.mul_comm]; exact hq)
      unfold ccV
      rw [this]
      exact .v _
theorem a_ple : Answers2 22 s_plequal := by
  intro al ans hh hq
  unfold s_plequal at hh
  split at hh <;> try (simp at hh; done)
  rename_i w h s c w2 h2 s2 c2
  cases e : slcOf 1 c with
  | none => rw [e] at hh; simp at hh
  | some p =>
  cases e2 : slcOf 1 c2 with
  | none => rw [e, e2] at hh; simp at hh
  | some p2 =>
    obtain ⟨n, r⟩ := p
    obtain ⟨n2, r2⟩ := p2
    rw [e, e2] at hh
    simp only [Option.some.injEq] at hh
    subst hh
    obtain ⟨hr, hn, iw, ih, is, hr2, hn2, iw2, ih2, is2, _⟩ := asked hq
    refine does_args2 (al' := [.x (.agg [.v (.int .i64 w), .v (.int .i64 h), .v (.int .i64 s), .slc 1 n (ints .u16 r)]), .x (.agg [.v (.int .i64 w2), .v (.int .i64 h2), .v (.int .i64 s2), .slc 1 n2 (ints .u16 r2)])]) ⟨⟨.v _, .v _, .v _, slcOf_ints e (by decide) hr, trivial⟩, ⟨.v _, .v _, .v _, slcOf_ints e2 (by decide) hr2, trivial⟩, trivial⟩ ?_
    have ri := intRow_fn .u16 1 n (fun i j => intC (den r i j))
    have ri2 := intRow_fn .u16 1 n2 (fun i j => intC (den r2 i j))
    unfold ints
    have pe : peB w h s n r w2 h2 s2 n2 r2 = true ↔ plB w h s n = true ∧ plB w2 h2 s2 n2 = true ∧ w = w2 ∧ h = h2 ∧ ∀ x y : Int, 0 ≤ x → x < w → 0 ≤ y → y < h → intC (den r (patI s x y) 0) = intC (den r2 (patI s2 x y) 0) := by rw [pe_iff, cells_iff]
    generalize peB w h s n r w2 h2 s2 n2 r2 = b at *
    suffices G : ∀ (l k : Int → Nat → Int) (A : List Prop), (b = true ↔ plB w h s n = true ∧ plB w2 h2 s2 n2 = true ∧ w = w2 ∧ h = h2 ∧ ∀ x y : Int, 0 ≤ x → x < w → 0 ≤ y → y < h → l (patI s x y) 0 = k (patI s2 x y) 0) → DoesX Try.prog 22 [.x (.agg [.v (.int .i64 w), .v (.int .i64 h), .v (.int .i64 s), .slc 1 n (.fn fun i j => .v (.int .u16 (l i j)))]), .x (.agg [.v (.int .i64 w2), .v (.int .i64 h2), .v (.int .i64 s2), .slc 1 n2 (.fn fun i j => .v (.int .u16 (k i j)))])] ⟨[.c (.v (.bool b))], [], A⟩ from G _ _ _ pe
    clear pe ri ri2 hr hr2
    intro l k A pe
    have ri := intRow_fn .u16 1 n l
    have ri2 := intRow_fn .u16 1 n2 k
    refine QR.does_of_eval (O := o_peq) (QR.orc_cons a_plv (QR.orc_consV a_prow (QR.orc_cons a_sle QR.orc_nil))) mixed (fun q => bif Nat.beq q 4 then some (.inv (o_inv_lpe w h s n l w2 h2 s2 n2 k)) else none) Try.func22 (by kernel_rfl) (by kernel_rfl) (by simp) ?_
    rw [lple_vc]
    have no : ¬ (plB w h s n = true ∧ plB w2 h2 s2 n2 = true ∧ w = w2 ∧ h = h2) → b = false := fun q => by cases b with | false => rfl | true => exact absurd ⟨(pe.1 rfl).1, (pe.1 rfl).2.1, (pe.1 rfl).2.2.1, (pe.1 rfl).2.2.2.1⟩ q
    cases f : plB w h s n
    · have z := no (by rw [f]; simp)
      simp [okAns, eqXs, eqX, eqo, eqLo, eqL, eqc, veq, eqUs, bcond_iff, bnot, f, z, iw, ih, is, hn, ri]
    cases f2 : plB w2 h2 s2 n2
    · have z := no (by rw [f2]; simp)
      simp [okAns, eqXs, eqX, eqo, eqLo, eqL, eqc, veq, eqUs, bcond_iff, bnot, f, f2, z, iw, ih, is, hn, ri, iw2, ih2, is2, hn2, ri2]
    by_cases ew : w = w2
    rotate_left
    · have z := no (fun q => ew q.2.2.1)
      simp [okAns, eqXs, eqX, eqo, eqLo, eqL, eqc, veq, eqUs, bcond_iff, bnot, f, f2, z, iw, ih, is, hn, ri, iw2, ih2, is2, hn2, ri2, ine_t ew]
    by_cases eh : h = h2
    rotate_left
    · have z := no (fun q => eh q.2.2.2)
      simp [okAns, eqXs, eqX, eqo, eqLo, eqL, eqc, veq, eqUs, bcond_iff, bnot, f, f2, z, iw, ih, is, hn, ri, iw2, ih2, is2, hn2, ri2, ine_t eh, ew, ine_f]
    subst ew eh
    obtain ⟨g1, g2, g3, g4⟩ := pl_iff.1 f
    obtain ⟨f1, f3⟩ := fit_le g1
    have f4 := fit_iff.1 g1
    have rs : ∀ (l : Int → Nat → Int) (L : Int), intRow .u16 1 w (.sub (.fn fun i j => .v (.int .u16 (l i j))) L) := fun l L i j _ _ => rfl
    have se : ∀ y : Int, slEq w (.sub (.fn fun i j => .v (.int .u16 (l i j))) (rowL s y)) w (.sub (.fn fun i j => .v (.int .u16 (k i j))) (rowL s2 y)) = true ↔ ∀ x : Int, 0 ≤ x → x < w → l (patI s x y) 0 = k (patI s2 x y) 0 := by
      intro y
      have ed : ∀ (l : Int → Nat → Int) (s : Int) (i : Int), intC (den (.sub (.fn fun i j => .v (.int .u16 (l i j))) (rowL s y)) i 0) = l (patI s i y) 0 := fun l s i => by
        show l (addZ i (rowL s y)) 0 = _
        rw [show addZ i (rowL s y) = patI s i y by unfold addZ rowL patI; omega]
      unfold slEq
      rw [sameR_iff]
      refine ⟨fun q x x0 x1 => ?_, fun q => ⟨rfl, fun i j hi hj => ?_⟩⟩
      · have := q.2 x.toNat 0 (by omega) (by decide)
        rw [ed, ed, show ((x.toNat : Nat) : Int) = x by omega] at this
        exact this
      · obtain rfl : j = 0 := by omega
        rw [ed, ed]
        exact q i (by omega) hi
    simp only [okAns, eqXs, eqX, eqo, eqLo, eqL, eqc, veq, eqUs, bcond_iff, bnot, f, f2, iw, ih, is, hn, ri, iw2, ih2, is2, hn2, ri2, rs, ine_f, forall_eq, true_and, and_true, implies_true, reduceCtorEq, false_implies, true_implies, Bool.not_true, Bool.false_eq_true, or_false, exists_eq_right, exists_eq_right', Bool.not_eq_true', Bool.not_eq_false']
    have ia : ∀ i : Int, 0 ≤ i → i ≤ 16777216 → iadd .i64 i 1 = i + 1 := fun i i0 i1 => IntWalk.i64_in _ (by omega)
    refine ⟨⟨⟨Int.le_refl 0, by omega⟩, fun a b' _ _ h1 h2 => by omega⟩, fun y hy => ⟨fun c1 => ⟨?_, fun c2 => ?_, fun c2 => ?_⟩, fun c1 => ?_⟩⟩
    · have lt := of_decide_eq_true c1
      obtain ⟨k1, k2, k3, k4⟩ := row_ok f hy.1.1 lt
      obtain ⟨k5, k6, _, k7⟩ := row_ok f2 hy.1.1 lt
      exact ⟨k3, k3, ile_t (by omega), k6, k3, k7, k5, k2, k3, k4, k1⟩
    · have lt := of_decide_eq_true c1
      cases b with
      | false => rfl
      | true =>
        have := (se y).2 fun x x0 x1 => (pe.1 rfl).2.2.2.2 x y x0 x1 hy.1.1 lt
        rw [c2] at this; cases this
    · have lt := of_decide_eq_true c1
      have := (se y).1 c2
      rw [ia y hy.1.1 (by omega)]
      refine ⟨y + 1, ⟨⟨by have := hy.1.1; omega, by omega⟩, fun a b' h1 h2 h3 h4 => ?_⟩, rfl, by show plMu h (y + 1) < plMu h y; unfold plMu; omega⟩
      by_cases q : b' < y
      · exact hy.2 a b' h1 h2 h3 q
      · obtain rfl : b' = y := by omega
        exact this a h1 h2
    · have := of_decide_eq_false c1
      have hh := hy.1
      obtain rfl : y = h := by omega
      exact (pe.2 ⟨f, f2, rfl, rfl, fun x y x0 x1 y0 y1 => hy.2 x y x0 x1 y0 y1⟩).symm
end Go.Proofs.Ytjieldpnnopljaa
