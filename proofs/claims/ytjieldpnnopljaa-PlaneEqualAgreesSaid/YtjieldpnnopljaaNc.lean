/-
  Layer 14 (plane): what each call answers.
-/
import Derived.Test.YtjieldpnnopljaaNb
namespace Go.Proofs.Ytjieldpnnopljaa
open Go.RowKit PR QR
set_option linter.unusedVariables false
set_option linter.unusedSimpArgs false
set_option maxRecDepth 20000

theorem a_ffits : Answers2 26 s_fit := by
  intro al ans h hq
  unfold s_fit at h
  split at h <;> try (simp at h; done)
  rename_i w h
  simp only [Option.some.injEq] at h
  subst h
  have hq := asked hq
  refine QR.does_of_eval (O := (QR.orc [])) QR.orc_nil mixed (QR.noLoops) Try.func26 (by kernel_rfl) (by kernel_rfl) (by simp) ?_
  rw [ffits_vc]
  obtain ⟨iw, ih, _⟩ := hq
  have iw := in64_iff.1 iw
  simp only [okAns, eqXs, eqX, eqo, eqLo, eqc, veq, eqUs, bcond_iff, ige, ile, decide_eq_true_eq, decide_eq_false_iff_not, true_and, and_true]
  refine ⟨fun h1 => ⟨fun h2 => ⟨fun h3 => ⟨ine_t (by omega), ?_⟩, fun h3 => ?_⟩, fun h2 => ?_⟩, fun h1 => ?_⟩
  · rw [iquo_pos (by omega) (by omega), Bool.eq_iff_iff, decide_eq_true_eq, fit_iff, ← fit_div (by omega) (by omega)]
    exact ⟨fun k => ⟨by omega, by omega, k⟩, fun k => k.2.2⟩
  · refine (decide_eq_false fun k => ?_).symm
    have := Int.mul_le_mul (Int.le_refl w) k.2.1 (by decide) (by omega)
    omega
  · exact (decide_eq_false fun k => by omega).symm
  · exact (decide_eq_false fun k => by omega).symm
theorem a_fplv : Answers2 11 s_plvalid := by
  intro al ans hh hq
  unfold s_plvalid at hh
  split at hh <;> try (simp at hh; done)
  rename_i w h s c 
  cases e : slcOf 1 c with
  | none => rw [e] at hh; simp at hh
  | some p =>
    obtain ⟨n, r⟩ := p
    rw [e] at hh
    simp only [Option.some.injEq] at hh
    subst hh
    obtain ⟨hr, hn, iw, ih, is, _⟩ := asked hq
    refine does_args2 (al' := [.x (.agg [.v (.int .i64 w), .v (.int .i64 h), .v (.int .i64 s), .slc 1 n (ints .u16 r)])]) ⟨⟨.v _, .v _, .v _, slcOf_ints e (by decide) hr, trivial⟩, trivial⟩ ?_
    have ri := intRow_fn .u16 1 n (fun i j => intC (den r i j))
    unfold ints
    refine QR.does_of_eval (O := o_fpl) (QR.orc_cons a_ffits QR.orc_nil) mixed (QR.noLoops) Try.func11 (by kernel_rfl) (by kernel_rfl) (by simp) ?_
    rw [fplv_vc]
    try dsimp only
    cases f : fitB w h
    · have z : plB w h s n = false := decide_eq_false (fun k => by rw [f] at k; simp at k)
      simp [okAns, eqXs, eqX, eqo, eqLo, eqL, eqc, veq, eqUs, bcond_iff, bnot, f, z, iw, ih]
    · obtain ⟨f1, f2⟩ := fit_le f
      have f3 := fit_iff.1 f
      simp only [okAns, eqXs, eqX, eqo, eqLo, eqL, eqc, veq, eqUs, bcond_iff, bnot, f, iw, ih, ige, ile, decide_eq_true_eq, decide_eq_false_iff_not, true_and, and_true, forall_eq, true_implies, reduceCtorEq, false_implies]
      refine ⟨fun k1 => ⟨fun k2 => ?_, fun k2 => ?_⟩, fun k1 => ?_⟩
      · obtain ⟨e1, e2, e3, _⟩ := size_in (h := h) (s := s) (w := w) (by omega) f2 (by omega) k2 (by omega) f1
        rw [e1, e2, e3, Bool.eq_iff_iff, decide_eq_true_eq, pl_iff]
        exact ⟨fun k => ⟨f, by omega, k2, by omega⟩, fun k => by omega⟩
      · exact (decide_eq_false fun k => by omega).symm
      · exact (decide_eq_false fun k => by omega).symm
theorem pz_t (x : Int) : pz true x = x := rfl
theorem pz_f (x : Int) : pz false x = 0 := rfl
theorem a_fpln : Answers2 14 s_plnew := by
  intro al ans h hq
  unfold s_plnew at h
  split at h <;> try (simp at h; done)
  rename_i w h s
  simp only [Option.some.injEq] at h
  subst h
  have hq := asked hq
  refine QR.does_of_eval (O := o_fpl) (QR.orc_cons a_ffits QR.orc_nil) mixed (QR.noLoops) Try.func14 (by kernel_rfl) (by kernel_rfl) (by simp) ?_
  rw [fpln_vc]
  obtain ⟨iw, ih, is, _⟩ := hq
  have z1 : Nat.blt 0 1 = true := rfl
  cases f : fitB w h
  · have z : pnB w h s = false := decide_eq_false (fun k => by rw [f] at k; simp at k)
    simp [okAns, eqXs, eqX, eqo, eqLo, eqL, eqc, veq, eqUs, bcond_iff, bnot, nilC, f, z, iw, ih, pz_f, z1]
  · obtain ⟨f1, f2⟩ := fit_le f
    have f3 := fit_iff.1 f
    by_cases k1 : w ≤ s
    · by_cases k2 : s ≤ 16777216
      · obtain ⟨e1, e2, e3, e4, e5⟩ := size_in (h := h) (s := s) (w := w) (by omega) f2 (by omega) k2 (by omega) f1
        rw [e1, e2, e3]
        have c1 : ilt s w = false := ilt_f k1
        have c2 : igt s 16777216 = false := by rw [igt_le']; simp [k2]
        by_cases k3 : (h - 1) * s + w ≤ 16777216
        · have z : pnB w h s = true := pn_iff.2 ⟨f, k1, k2, k3⟩
          have c3 : igt ((h - 1) * s + w) 16777216 = false := by rw [igt_le']; simp [k3]
          have c4 : ile 0 ((h - 1) * s + w) = true := ile_t (by omega)
          have c5 : ile ((h - 1) * s + w) ((h - 1) * s + w) = true := ile_t (Int.le_refl _)
          have c6 : ile (imulZ ((h - 1) * s + w) 2) 140737488355328 = true := ile_t (by unfold imulZ; omega)
          have c7 : ile ((h - 1) * s + w) 140737488355328 = true := ile_t (by omega)
          have c8 : mkN w h s 0 = (h - 1) * s + w := Int.add_zero _
          simp [okAns, eqXs, eqX, eqo, eqLo, eqL, eqc, veq, eqUs, bcond_iff, bnot, f, z, iw, ih, pz_t, c1, c2, c3, c4, c5, c6, c7, c8]
          exact .slc fun i j hi hj => by obtain rfl : j = 0 := by omega
                                         exact .v _
        · have z : pnB w h s = false := decide_eq_false (fun k => k3 k.2.2.2)
          have c3 : igt ((h - 1) * s + w) 16777216 = true := by rw [igt_le']; simp [k3]
          simp [okAns, eqXs, eqX, eqo, eqLo, eqL, eqc, veq, eqUs, bcond_iff, bnot, nilC, f, z, iw, ih, pz_f, z1, c1, c2, c3]
      · have z : pnB w h s = false := decide_eq_false (fun k => k2 k.2.2.1)
        have c1 : ilt s w = false := ilt_f k1
        have c2 : igt s 16777216 = true := by rw [igt_le']; simp [k2]
        simp [okAns, eqXs, eqX, eqo, eqLo, eqL, eqc, veq, eqUs, bcond_iff, bnot, nilC, f, z, iw, ih, pz_f, z1, c1, c2]
    · have z : pnB w h s = false := decide_eq_false (fun k => k1 k.2.1)
      have c1 : ilt s w = true := ilt_t (by omega)
      simp [okAns, eqXs, eqX, eqo, eqLo, eqL, eqc, veq, eqUs, bcond_iff, bnot, nilC, f, z, iw, ih, pz_f, z1, c1]
theorem a_fpli : Answers2 29 s_plin := by
  intro al ans hh hq
  unfold s_plin at hh
  split at hh <;> try (simp at hh; done)
  rename_i w h s c x y
  cases e : slcOf 1 c with
  | none => rw [e] at hh; simp at hh
  | some p =>
    obtain ⟨n, r⟩ := p
    rw [e] at hh
    simp only [Option.some.injEq] at hh
    subst hh
    obtain ⟨hr, hn, iw, ih, is, _⟩ := asked hq
    refine does_args2 (al' := [.x (.agg [.v (.int .i64 w), .v (.int .i64 h), .v (.int .i64 s), .slc 1 n (ints .u16 r)]), .x (.c (.v (.int .i64 x))), .x (.c (.v (.int .i64 y)))]) ⟨⟨.v _, .v _, .v _, slcOf_ints e (by decide) hr, trivial⟩, .v _, .v _, trivial⟩ ?_
    have ri := intRow_fn .u16 1 n (fun i j => intC (den r i j))
    unfold ints
    refine QR.does_of_eval (O := o_fin) (QR.orc_cons a_fplv QR.orc_nil) mixed (QR.noLoops) Try.func29 (by kernel_rfl) (by kernel_rfl) (by simp) ?_
    rw [fpli_vc]
    try dsimp only
    cases f : plB w h s n
    · have z : inB w h s n x y = false := decide_eq_false (fun k => by rw [f] at k; simp at k)
      simp [okAns, eqXs, eqX, eqo, eqLo, eqL, eqc, veq, eqUs, bcond_iff, bnot, f, z, iw, ih, is, hn, ri]
    · simp only [okAns, eqXs, eqX, eqo, eqLo, eqL, eqc, veq, eqUs, bcond_iff, bnot, f, iw, ih, is, hn, ri, ige, ilt, decide_eq_true_eq, decide_eq_false_iff_not, true_and, and_true, true_implies, reduceCtorEq, false_implies]
      have e : ∀ P : Prop, [Decidable P] → (P ↔ ((0 ≤ x ∧ x < w) ∧ 0 ≤ y ∧ y < h)) → decide P = inB w h s n x y := fun P _ hp => by
        rw [Bool.eq_iff_iff, decide_eq_true_eq, in_iff, f, hp]; simp
      refine ⟨fun k1 => ⟨fun k2 => ⟨fun k3 => ?_, fun k3 => ?_⟩, fun k2 => ?_⟩, fun k1 => ?_⟩
      · exact e _ ⟨fun k => by omega, fun k => by omega⟩
      · exact (decide_eq_false fun k => by omega).symm
      · exact (decide_eq_false fun k => by omega).symm
      · exact (decide_eq_false fun k => by omega).symm
theorem a_fpla : Answers2 19 s_plat := by
  intro al ans hh hq
  unfold s_plat at hh
  split at hh <;> try (simp at hh; done)
  rename_i w h s c x y
  cases e : slcOf 1 c with
  | none => rw [e] at hh; simp at hh
  | some p =>
    obtain ⟨n, r⟩ := p
    rw [e] at hh
    simp only [Option.some.injEq] at hh
    subst hh
    obtain ⟨hr, hn, iw, ih, is, _⟩ := asked hq
    refine does_args2 (al' := [.x (.agg [.v (.int .i64 w), .v (.int .i64 h), .v (.int .i64 s), .slc 1 n (ints .u16 r)]), .x (.c (.v (.int .i64 x))), .x (.c (.v (.int .i64 y)))]) ⟨⟨.v _, .v _, .v _, slcOf_ints e (by decide) hr, trivial⟩, .v _, .v _, trivial⟩ ?_
    have ri := intRow_fn .u16 1 n (fun i j => intC (den r i j))
    unfold ints
    refine QR.does_of_eval (O := o_fat) (QR.orc_cons a_fpli QR.orc_nil) mixed (QR.noLoops) Try.func19 (by kernel_rfl) (by kernel_rfl) (by simp) ?_
    rw [fpla_vc]
    try dsimp only
    have pv : patV w h s n r x y = bif inB w h s n x y then intC (den r (patI s x y) 0) else 0 := rfl
    cases f : inB w h s n x y
    · rw [f] at pv
      simp [okAns, eqXs, eqX, eqo, eqLo, eqL, eqc, veq, eqUs, bcond_iff, bnot, f, pv, iw, ih, is, hn, ri]
    · rw [f] at pv
      obtain ⟨p1, p2, p3, p4, p5, p6⟩ := at_lt f
      have f' := (in_iff.1 f).2
      obtain ⟨e1, e2, _⟩ := at_in (s := s) (x := x) (y := y) (by omega) p3 p6 p4 (by omega) p5
      have c1 : ile 0 (patI s x y) = true := ile_t p1
      have c2 : ilt (patI s x y) n = true := ilt_t p2
      simp [okAns, eqXs, eqX, eqo, eqLo, eqL, eqc, veq, eqUs, bcond_iff, bnot, f, pv, iw, ih, is, hn, ri, e1, e2, c1, c2]
theorem a_fplw : Answers2 17 s_plwith := by
  intro al ans hh hq
  unfold s_plwith at hh
  split at hh <;> try (simp at hh; done)
  rename_i w h s c x y v
  cases e : slcOf 1 c with
  | none => rw [e] at hh; simp at hh
  | some p =>
    obtain ⟨n, r⟩ := p
    rw [e] at hh
    simp only [Option.some.injEq] at hh
    subst hh
    obtain ⟨hr, hn, iw, ih, is, hB, _⟩ := asked hq
    refine does_args2 (al' := [.x (.agg [.v (.int .i64 w), .v (.int .i64 h), .v (.int .i64 s), .slc 1 n (ints .u16 r)]), .x (.c (.v (.int .i64 x))), .x (.c (.v (.int .i64 y))), .x (.c (.v (.int .u16 v)))]) ⟨⟨.v _, .v _, .v _, slcOf_ints e (by decide) hr, trivial⟩, .v _, .v _, .v _, trivial⟩ ?_
    have ri := intRow_fn .u16 1 n (fun i j => intC (den r i j))
    unfold ints
    refine QR.does_of_eval (O := o_fat) (QR.orc_cons a_fpli QR.orc_nil) mixed (QR.noLoops) Try.func17 (by kernel_rfl) (by kernel_rfl) (by simp) ?_
    rw [fplw_vc]
    try dsimp only
    have z1 : Nat.blt 0 1 = true := rfl
    have hB := ile_tt hB
    have hn' := ile_tt hn
    cases f : inB w h s n x y
    · simp [okAns, eqXs, eqX, eqo, eqLo, eqL, eqc, veq, eqUs, bcond_iff, bnot, nilC, f, pz_f, z1, iw, ih, is, hn, ri]
    · obtain ⟨p1, p2, p3, p4, p5, p6⟩ := at_lt f
      have f' := (in_iff.1 f).2
      obtain ⟨e1, e2, _⟩ := at_in (s := s) (x := x) (y := y) (by omega) p3 p6 p4 (by omega) p5
      have c1 : ile 0 (patI s x y) = true := ile_t p1
      have c2 : ilt (patI s x y) n = true := ilt_t p2
      have c3 : ile (imulZ n 2) 140737488355328 = true := ile_t (by unfold imulZ; omega)
      simp [okAns, eqXs, eqX, eqo, eqLo, eqL, eqc, veq, eqUs, bcond_iff, bnot, f, pz_t, iw, ih, is, hn, ri, e1, e2, c1, c2, c3]
      refine .slc fun i j hi hj => ?_
      obtain rfl : j = 0 := by omega
      have := hr i 0 hi (by omega)
      show EqC (csel (ieq i (patI s x y)) (.v (.int .u16 v)) (.v (.int .u16 (intC (den r i 0))))) (csel (ieq i (patI s x y)) (.v (.int .u16 v)) (den r i 0))
      rw [this]
      exact .v _
theorem a_fplc : Answers2 21 s_plcomp := by
  intro al ans hh hq
  unfold s_plcomp at hh
  split at hh <;> try (simp at hh; done)
  rename_i w h s c 
  cases e : slcOf 1 c with
  | none => rw [e] at hh; simp at hh
  | some p =>
    obtain ⟨n, r⟩ := p
    rw [e] at hh
    simp only [Option.some.injEq] at hh
    subst hh
    obtain ⟨hr, hn, iw, ih, is, _⟩ := asked hq
    refine does_args2 (al' := [.x (.agg [.v (.int .i64 w), .v (.int .i64 h), .v (.int .i64 s), .slc 1 n (ints .u16 r)])]) ⟨⟨.v _, .v _, .v _, slcOf_ints e (by decide) hr, trivial⟩, trivial⟩ ?_
    have ri := intRow_fn .u16 1 n (fun i j => intC (den r i j))
    unfold ints
    refine QR.does_of_eval (O := o_fin) (QR.orc_cons a_fplv QR.orc_nil) mixed (fun q => bif Nat.beq q 5 then some (.invs [o_inv_fcp0 w h s n (fun i j => intC (den r i j)), o_inv_fcp1 w h s n (fun i j => intC (den r i j))]) else none) Try.func21 (by kernel_rfl) (by kernel_rfl) (by simp) ?_
    rw [fplc_vc]
    try dsimp only
    have z1 : Nat.blt 0 1 = true := rfl
    cases f : plB w h s n
    · simp [okAns, eqXs, eqX, eqo, eqLo, eqL, eqc, veq, eqUs, bcond_iff, bnot, nilC, f, pz_f, z1, iw, ih, is, hn, ri]
    obtain ⟨g1, g2, g3, g4⟩ := pl_iff.1 f
    obtain ⟨f1, f2⟩ := fit_le g1
    have f3 := fit_iff.1 g1
    have cpe : ∀ i, cpV w s (.fn fun i j => .v (.int .u16 (intC (den r i j)))) i = cpV w s r i := fun _ => rfl
    have H : ∀ i : Int, 0 ≤ i → i < h → imul .i64 i s = i * s ∧ iadd .i64 (i * s) w = i * s + w ∧ 0 ≤ i * s ∧ i * s + w ≤ n ∧ i * s ≤ 281474976710656 ∧ cpN w i = i * w ∧ 0 ≤ cpN w i ∧ cpN w i ≤ 16777216 ∧ cpN w (i + 1) = cpN w i + w ∧ cpN w (i + 1) ≤ 16777216 := by
      intro i i0 i1
      have p0 := Int.mul_nonneg i0 (show 0 ≤ s by omega)
      have p1 := Int.mul_le_mul (show i ≤ 16777216 by omega) g3 (by omega) (by decide)
      have p2 := Int.mul_le_mul_of_nonneg_right (show i ≤ h - 1 by omega) (show 0 ≤ s by omega)
      have q0 := Int.mul_nonneg (show 0 ≤ w by omega) i0
      have q1 := Int.mul_le_mul_of_nonneg_left (show i + 1 ≤ h by omega) (show 0 ≤ w by omega)
      have q2 : w * (i + 1) = w * i + w := by rw [Int.mul_add, Int.mul_one]
      unfold cpN
      refine ⟨IntWalk.i64_in _ (by omega), IntWalk.i64_in _ (by omega), p0, by omega, by omega, Int.mul_comm _ _, q0, by omega, q2, by omega⟩
    have isub0 : ∀ i : Int, subZ (i * s + w) (i * s) = w := fun i => by unfold subZ; omega
    have row : ∀ i p : Int, 0 ≤ i → cpN w i = i * w → 0 ≤ p → p < w → intC (den r (addZ p (i * s)) 0) = cpV w s r (cpN w i + p) := by
      intro i p i0 e p0 p1
      rw [e, cp_row r p0 p1]
      unfold addZ patI
      rw [Int.add_comm]
    have hc : ∀ i, cqMu h i = (h - i).toNat := fun _ => rfl
    simp only [okAns, eqXs, eqX, eqo, eqLo, eqL, eqc, veq, eqUs, bcond_iff, bnot, cpe, f, pz_t, iw, ih, is, hn, ri, true_and, and_true, implies_true, reduceCtorEq, false_implies, true_implies, Bool.not_true, Bool.false_eq_true, false_and, and_false, exists_false, or_false, false_or]
    have ia : ∀ i : Int, 0 ≤ i → i < h → iadd .i64 i 1 = i + 1 := fun i i0 i1 => IntWalk.i64_in _ (by omega)
    have mu : ∀ i : Int, i < h → Nat.le (Nat.succ (cqMu h (i + 1))) (cqMu h i) := fun i i1 => by show cqMu h (i + 1) < cqMu h i; unfold cqMu; omega
    refine ⟨⟨0, ⟨⟨Int.le_refl 0, by omega⟩, by simp⟩, rfl⟩, fun i hi => ⟨fun c1 => ?_, fun c1 => ?_⟩, fun i hi => ⟨fun c1 => ?_, fun c1 => ?_⟩⟩
    · obtain ⟨⟨i0, i1⟩, iz⟩ := hi
      have lt := of_decide_eq_true c1
      obtain ⟨e1, e2, e3, e4, e5, e6, e7, e8, e9, e10⟩ := H i i0 lt
      have c0 : cpN w i = 0 := by rw [e6, iz.1 rfl, Int.zero_mul]
      rw [e1, e2, isub0, ia i i0 lt]
      refine ⟨⟨ile_t (by unfold imulZ; omega), ile_t e3, ile_t (by omega), ile_t e4⟩, i + 1, ⟨⟨by omega, by omega⟩, ⟨fun k => by simp at k, fun k => by omega⟩⟩, ⟨rfl, by omega, by omega, fun q hq => ?_⟩, mu i lt⟩
      have hq := of_decide_eq_true hq
      rw [row i (Int.ofNat q) i0 e6 (Int.natCast_nonneg q) hq, c0, Int.zero_add]
    · have lt := of_decide_eq_false c1
      have := hi.2.1 rfl
      exact absurd (show i < h by omega) lt
    · obtain ⟨⟨i0, i1⟩, iz⟩ := hi
      have lt := of_decide_eq_true c1
      obtain ⟨e1, e2, e3, e4, e5, e6, e7, e8, e9, e10⟩ := H i i0 lt
      have ad : ∀ x : Int, addZ (cpN w i) x = cpN w i + x := fun _ => rfl
      rw [e1, e2, isub0, ia i i0 lt, ad]
      refine ⟨⟨ile_t (by unfold imulZ; omega), ile_t e3, ile_t (by omega), ile_t e4⟩, i + 1, ⟨⟨by omega, by omega⟩, ⟨fun k => by simp at k, fun k => by omega⟩⟩, ⟨rfl, by omega, by omega, fun q hq => ?_⟩, mu i lt⟩
      have hq := of_decide_eq_true hq
      cases k : ilt (Int.ofNat q) (cpN w i)
      · have k' := of_decide_eq_false k
        rw [isel_f, row i (subZ (Int.ofNat q) (cpN w i)) i0 e6 (by unfold subZ; omega) (by unfold subZ; omega)]
        congr 1
        unfold subZ; omega
      · rw [isel_t]
    · have lt := of_decide_eq_false c1
      have hi1 := hi.1
      obtain rfl : i = h := by omega
      exact .slc fun i j hi hj => .v _
theorem a_fple : Answers2 23 s_plequal := by
  intro al ans hh hq
  unfold s_plequal at hh
  split at hh <;> try (simp at hh; done)
  rename_i w h s c w2 h2 s2 c2
  cases e : slcOf 1 c with
  | none => rw [e] at hh; simp at hh
  | some p =>
  cases e2 : slcOf 1 c2 with
  | none => rw [e, e2] at hh; simp at hh
  | some p2 =>
    obtain ⟨n, r⟩ := p
    obtain ⟨n2, r2⟩ := p2
    rw [e, e2] at hh
    simp only [Option.some.injEq] at hh
    subst hh
    obtain ⟨hr, hn, iw, ih, is, hr2, hn2, iw2, ih2, is2, _⟩ := asked hq
    refine does_args2 (al' := [.x (.agg [.v (.int .i64 w), .v (.int .i64 h), .v (.int .i64 s), .slc 1 n (ints .u16 r)]), .x (.agg [.v (.int .i64 w2), .v (.int .i64 h2), .v (.int .i64 s2), .slc 1 n2 (ints .u16 r2)])]) ⟨⟨.v _, .v _, .v _, slcOf_ints e (by decide) hr, trivial⟩, ⟨.v _, .v _, .v _, slcOf_ints e2 (by decide) hr2, trivial⟩, trivial⟩ ?_
    have ri := intRow_fn .u16 1 n (fun i j => intC (den r i j))
    have ri2 := intRow_fn .u16 1 n2 (fun i j => intC (den r2 i j))
    unfold ints
    have pe : peB w h s n r w2 h2 s2 n2 r2 = true ↔ plB w h s n = true ∧ plB w2 h2 s2 n2 = true ∧ w = w2 ∧ h = h2 ∧ ∀ x y : Int, 0 ≤ x → x < w → 0 ≤ y → y < h → intC (den r (patI s x y) 0) = intC (den r2 (patI s2 x y) 0) := by rw [pe_iff, cells_iff]
    generalize peB w h s n r w2 h2 s2 n2 r2 = b at *
    suffices G : ∀ (l k : Int → Nat → Int) (A : List Prop), (b = true ↔ plB w h s n = true ∧ plB w2 h2 s2 n2 = true ∧ w = w2 ∧ h = h2 ∧ ∀ x y : Int, 0 ≤ x → x < w → 0 ≤ y → y < h → l (patI s x y) 0 = k (patI s2 x y) 0) → DoesX Try.prog 23 [.x (.agg [.v (.int .i64 w), .v (.int .i64 h), .v (.int .i64 s), .slc 1 n (.fn fun i j => .v (.int .u16 (l i j)))]), .x (.agg [.v (.int .i64 w2), .v (.int .i64 h2), .v (.int .i64 s2), .slc 1 n2 (.fn fun i j => .v (.int .u16 (k i j)))])] ⟨[.c (.v (.bool b))], [], A⟩ from G _ _ _ pe
    clear pe ri ri2 hr hr2
    intro l k A pe
    have ri := intRow_fn .u16 1 n l
    have ri2 := intRow_fn .u16 1 n2 k
    refine QR.does_of_eval (O := o_feq) (QR.orc_cons a_fplv (QR.orc_cons a_fpla QR.orc_nil)) mixed (fun q => bif Nat.beq q 4 then some (.inv (o_inv_feqo w h s n l w2 h2 s2 n2 k)) else bif Nat.beq q 7 then some (.invF fun g => [o_inv_feqi w h s n l w2 h2 s2 n2 k (g 5)]) else none) Try.func23 (by kernel_rfl) (by kernel_rfl) (by simp) ?_
    rw [fple_vc]
    have no : ¬ (plB w h s n = true ∧ plB w2 h2 s2 n2 = true ∧ w = w2 ∧ h = h2) → b = false := fun q => by cases b with | false => rfl | true => exact absurd ⟨(pe.1 rfl).1, (pe.1 rfl).2.1, (pe.1 rfl).2.2.1, (pe.1 rfl).2.2.2.1⟩ q
    cases f : plB w h s n
    · have z := no (by rw [f]; simp)
      simp [okAns, eqXs, eqX, eqo, eqLo, eqL, eqc, veq, eqUs, bcond_iff, bnot, f, z, iw, ih, is, hn, ri]
    cases f2 : plB w2 h2 s2 n2
    · have z := no (by rw [f2]; simp)
      simp [okAns, eqXs, eqX, eqo, eqLo, eqL, eqc, veq, eqUs, bcond_iff, bnot, f, f2, z, iw, ih, is, hn, ri, iw2, ih2, is2, hn2, ri2]
    by_cases ew : w = w2
    rotate_left
    · have z := no (fun q => ew q.2.2.1)
      simp [okAns, eqXs, eqX, eqo, eqLo, eqL, eqc, veq, eqUs, bcond_iff, bnot, f, f2, z, iw, ih, is, hn, ri, iw2, ih2, is2, hn2, ri2, ine_t ew]
    by_cases eh : h = h2
    rotate_left
    · have z := no (fun q => eh q.2.2.2)
      simp [okAns, eqXs, eqX, eqo, eqLo, eqL, eqc, veq, eqUs, bcond_iff, bnot, f, f2, z, iw, ih, is, hn, ri, iw2, ih2, is2, hn2, ri2, ine_t eh, ew, ine_f]
    subst ew eh
    obtain ⟨g1, g2, g3, g4⟩ := pl_iff.1 f
    obtain ⟨f1, f3⟩ := fit_le g1
    have f4 := fit_iff.1 g1
    have pv : ∀ x y : Int, 0 ≤ x → x < w → 0 ≤ y → y < h → patV w h s n (.fn fun i j => .v (.int .u16 (l i j))) x y = l (patI s x y) 0 ∧ patV w h s2 n2 (.fn fun i j => .v (.int .u16 (k i j))) x y = k (patI s2 x y) 0 := by
      intro x y x0 x1 y0 y1
      have i1 : inB w h s n x y = true := in_iff.2 ⟨f, ⟨x0, x1⟩, y0, y1⟩
      have i2 : inB w h s2 n2 x y = true := in_iff.2 ⟨f2, ⟨x0, x1⟩, y0, y1⟩
      unfold patV
      rw [i1, i2]; exact ⟨rfl, rfl⟩
    simp only [okAns, eqXs, eqX, eqo, eqLo, eqL, eqc, veq, eqUs, bcond_iff, bnot, f, f2, iw, ih, is, hn, ri, iw2, ih2, is2, hn2, ri2, ine_f, forall_eq, true_and, and_true, implies_true, reduceCtorEq, false_implies, true_implies, Bool.not_true, Bool.false_eq_true, or_false, exists_eq_right, exists_eq_right']
    have ia : ∀ i : Int, 0 ≤ i → i ≤ 16777216 → iadd .i64 i 1 = i + 1 := fun i i0 i1 => IntWalk.i64_in _ (by omega)
    refine ⟨⟨⟨Int.le_refl 0, by omega⟩, fun a b' _ _ h1 h2 => by omega⟩, fun y hy => ⟨fun c1 => ⟨⟨⟨hy.1.1, of_decide_eq_true c1⟩, ⟨Int.le_refl 0, by omega⟩, hy.2, fun a h1 h2 => by omega⟩, fun x hx => ⟨fun c2 => ⟨fun c3 => ?_, fun c3 => ?_⟩, fun c2 => ?_⟩⟩, fun c1 => ?_⟩⟩
    · obtain ⟨⟨y0, y1⟩, ⟨x0, x1⟩, e1, e2⟩ := hx
      have xlt := of_decide_eq_true c2
      obtain ⟨v1, v2⟩ := pv x y x0 xlt y0 y1
      rw [v1, v2] at c3
      have c3 : l (patI s x y) 0 ≠ k (patI s2 x y) 0 := by simpa [ine] using c3
      cases b with
      | false => rfl
      | true => exact absurd ((pe.1 rfl).2.2.2.2 x y x0 xlt y0 y1) c3
    · obtain ⟨⟨y0, y1⟩, ⟨x0, x1⟩, e1, e2⟩ := hx
      have xlt := of_decide_eq_true c2
      obtain ⟨v1, v2⟩ := pv x y x0 xlt y0 y1
      rw [v1, v2] at c3
      have c3 : l (patI s x y) 0 = k (patI s2 x y) 0 := by simpa [ine] using c3
      rw [ia x x0 (by omega)]
      refine ⟨x + 1, ⟨⟨y0, y1⟩, ⟨by omega, by omega⟩, e1, fun a h1 h2 => ?_⟩, rfl, by show eiMu w (x + 1) < eiMu w x; unfold eiMu; omega⟩
      by_cases q : a < x
      · exact e2 a h1 q
      · obtain rfl : a = x := by omega
        exact c3
    · obtain ⟨⟨y0, y1⟩, ⟨x0, x1⟩, e1, e2⟩ := hx
      have := of_decide_eq_false c2
      obtain rfl : x = w := by omega
      refine ⟨y + 1, ⟨⟨by omega, by omega⟩, fun a b' h1 h2 h3 h4 => ?_⟩, ia y y0 (by omega), by show eoMu h (y + 1) < eoMu h y; unfold eoMu; omega⟩
      by_cases q : b' < y
      · exact e1 a b' h1 h2 h3 q
      · obtain rfl : b' = y := by omega
        exact e2 a h1 h2
    · have := of_decide_eq_false c1
      have hh := hy.1
      obtain rfl : y = h := by omega
      exact (pe.2 ⟨f, f2, rfl, rfl, fun x y x0 x1 y0 y1 => hy.2 x y x0 x1 y0 y1⟩).symm
theorem a_fpls : Answers2 15 s_plsame := by
  intro al ans hh hq
  unfold s_plsame at hh
  split at hh <;> try (simp at hh; done)
  rename_i w h s c w2 h2 s2 c2
  cases e : slcOf 1 c with
  | none => rw [e] at hh; simp at hh
  | some p =>
  cases e2 : slcOf 1 c2 with
  | none => rw [e, e2] at hh; simp at hh
  | some p2 =>
    obtain ⟨n, r⟩ := p
    obtain ⟨n2, r2⟩ := p2
    rw [e, e2] at hh
    simp only [Option.some.injEq] at hh
    subst hh
    obtain ⟨hr, hn, iw, ih, is, hr2, hn2, iw2, ih2, is2, hB, _⟩ := asked hq
    refine does_args2 (al' := [.x (.agg [.v (.int .i64 w), .v (.int .i64 h), .v (.int .i64 s), .slc 1 n (ints .u16 r)]), .x (.agg [.v (.int .i64 w2), .v (.int .i64 h2), .v (.int .i64 s2), .slc 1 n2 (ints .u16 r2)])]) ⟨⟨.v _, .v _, .v _, slcOf_ints e (by decide) hr, trivial⟩, ⟨.v _, .v _, .v _, slcOf_ints e2 (by decide) hr2, trivial⟩, trivial⟩ ?_
    have ri := intRow_fn .u16 1 n (fun i j => intC (den r i j))
    have ri2 := intRow_fn .u16 1 n2 (fun i j => intC (den r2 i j))
    unfold ints
    have hB := ile_tt hB
    have hn' := ile_tt hn
    have sp : spB w h s n r w2 h2 s2 n2 r2 = true ↔ (w = w2 ∧ h = h2 ∧ s = s2 ∧ n = n2) ∧ ∀ i : Nat, (i : Int) < n → intC (den r i 0) = intC (den r2 i 0) := by
      rw [spB_iff]
      exact ⟨fun q => ⟨⟨q.1, q.2.1, q.2.2.1, q.2.2.2.1⟩, fun i hi => q.2.2.2.2 i 0 hi (by decide)⟩, fun q => ⟨q.1.1, q.1.2.1, q.1.2.2.1, q.1.2.2.2, fun i j hi hj => (show j = 0 by omega) ▸ q.2 i hi⟩⟩
    generalize spB w h s n r w2 h2 s2 n2 r2 = b at *
    suffices G : ∀ (l k : Int → Nat → Int) (A : List Prop), (b = true ↔ (w = w2 ∧ h = h2 ∧ s = s2 ∧ n = n2) ∧ ∀ i : Nat, (i : Int) < n → l i 0 = k i 0) → DoesX Try.prog 15 [.x (.agg [.v (.int .i64 w), .v (.int .i64 h), .v (.int .i64 s), .slc 1 n (.fn fun i j => .v (.int .u16 (l i j)))]), .x (.agg [.v (.int .i64 w2), .v (.int .i64 h2), .v (.int .i64 s2), .slc 1 n2 (.fn fun i j => .v (.int .u16 (k i j)))])] ⟨[.c (.v (.bool b))], [], A⟩ from G _ _ _ sp
    clear sp ri ri2 hr hr2
    intro l k A sp
    refine QR.does_of_eval (O := QR.orc []) QR.orc_nil mixed (fun q => bif Nat.beq q 4 then some (.inv (o_inv_fsm w h s n l w2 h2 s2 n2 k)) else none) Try.func15 (by kernel_rfl) (by kernel_rfl) (by simp) ?_
    rw [fpls_vc]
    have no : ¬ (w = w2 ∧ h = h2 ∧ s = s2 ∧ n = n2) → b = false := fun q => by cases b with | false => rfl | true => exact absurd (sp.1 rfl).1 q
    simp only [forall_eq]
    by_cases c1 : w = w2
    rotate_left
    · have z := no (fun q => c1 q.1)
      simp [okAns, eqXs, eqX, eqo, eqLo, eqL, eqc, veq, eqUs, bcond_iff, bnot, z, ine_t c1]
    by_cases c2 : h = h2
    rotate_left
    · have z := no (fun q => c2 q.2.1)
      simp [okAns, eqXs, eqX, eqo, eqLo, eqL, eqc, veq, eqUs, bcond_iff, bnot, z, ine_t c2, c1, ine_f]
    by_cases c3 : s = s2
    rotate_left
    · have z := no (fun q => c3 q.2.2.1)
      simp [okAns, eqXs, eqX, eqo, eqLo, eqL, eqc, veq, eqUs, bcond_iff, bnot, z, ine_t c3, c1, c2, ine_f]
    by_cases c4 : n = n2
    rotate_left
    · have z := no (fun q => c4 q.2.2.2)
      simp [okAns, eqXs, eqX, eqo, eqLo, eqL, eqc, veq, eqUs, bcond_iff, bnot, z, ine_t c4, c1, c2, c3, ine_f]
    subst c1 c2 c3 c4
    have ia : ∀ i : Int, 0 ≤ i → i < n → iadd .i64 i 1 = i + 1 := fun i i0 i1 => IntWalk.i64_in _ (by omega)
    simp only [okAns, eqXs, eqX, eqo, eqLo, eqL, eqc, veq, eqUs, bcond_iff, bnot, ine_f, true_and, and_true, implies_true, reduceCtorEq, false_implies, true_implies, exists_eq_right, exists_eq_right']
    refine ⟨⟨⟨Int.le_refl 0, hn'⟩, fun p hp => by omega⟩, fun i hi => ⟨fun c1 => ?_, fun c1 => ?_⟩⟩
    · obtain ⟨⟨i0, i1⟩, eq⟩ := hi
      have lt := of_decide_eq_true c1
      have ti : ((i.toNat : Nat) : Int) = i := Int.toNat_of_nonneg i0
      refine ⟨⟨ile_t i0, c1, ile_t i0, c1⟩, fun c2 => ?_, fun c2 => ?_⟩
      · have c2 : l i 0 ≠ k i 0 := by simpa [ine] using c2
        cases b with
        | false => rfl
        | true => exact absurd (by have q := (sp.1 rfl).2 i.toNat (by omega); rw [ti] at q; exact q) c2
      · have c2 : l i 0 = k i 0 := by simpa [ine] using c2
        rw [ia i i0 lt]
        refine ⟨i + 1, ⟨⟨by omega, by omega⟩, fun p hp => ?_⟩, rfl, by show smpMu n (i + 1) < smpMu n i; unfold smpMu; omega⟩
        by_cases q : (p : Int) < i
        · exact eq p q
        · obtain rfl : i = (p : Int) := by omega
          exact c2
    · obtain ⟨⟨i0, i1⟩, eq⟩ := hi
      have := of_decide_eq_false c1
      obtain rfl : i = n := by omega
      exact (sp.2 ⟨⟨rfl, rfl, rfl, rfl⟩, eq⟩).symm
theorem mk_at (w h m t : Int) : (iadd .i64 1 (gmod w 6) = mkW w ∧ iadd .i64 1 (gmod h 5) = mkH h ∧ iadd .i64 (mkW w) (gmod m 4) = mkS w m ∧ iadd .i64 (iadd .i64 (imul .i64 (isub .i64 (mkH h) 1) (mkS w m)) (mkW w)) (gmod t 3) = mkL w h m t) ∧
    (1 ≤ mkW w ∧ mkW w ≤ 6) ∧ (1 ≤ mkH h ∧ mkH h ≤ 5) ∧ (mkW w ≤ mkS w m ∧ mkS w m ≤ 9) ∧ 0 < mkL w h m t ∧ mkL w h m t ≤ 50 ∧ (mkH h - 1) * mkS w m + mkW w ≤ mkL w h m t := by
  have r0 := gmod_range w (k := 6) (by decide)
  have r1 := gmod_range h (k := 5) (by decide)
  have r2 := gmod_range m (k := 4) (by decide)
  have r3 := gmod_range t (k := 3) (by decide)
  have eh : mkH h = 1 + gmod h 5 := rfl
  have ew : mkW w = 1 + gmod w 6 := rfl
  have es : mkS w m = 1 + gmod w 6 + gmod m 4 := rfl
  have el : mkL w h m t = gmod h 5 * (1 + gmod w 6 + gmod m 4) + (1 + gmod w 6) + gmod t 3 := rfl
  have p0 := Int.mul_nonneg (show 0 ≤ gmod h 5 by omega) (show 0 ≤ 1 + gmod w 6 + gmod m 4 by omega)
  have p1 := Int.mul_le_mul (show gmod h 5 ≤ 4 by omega) (show 1 + gmod w 6 + gmod m 4 ≤ 9 by omega) (by omega) (by decide)
  have e1 : isub .i64 (mkH h) 1 = gmod h 5 := by unfold isub; rw [eh, IntWalk.i64_in _ (by omega)]; omega
  have e2 : imul .i64 (gmod h 5) (mkS w m) = gmod h 5 * (1 + gmod w 6 + gmod m 4) := by unfold imul; rw [es]; exact IntWalk.i64_in _ (by omega)
  have e3 : iadd .i64 (gmod h 5 * (1 + gmod w 6 + gmod m 4)) (mkW w) = gmod h 5 * (1 + gmod w 6 + gmod m 4) + (1 + gmod w 6) := by unfold iadd; rw [ew]; exact IntWalk.i64_in _ (by omega)
  refine ⟨⟨IntWalk.i64_in _ (by omega), IntWalk.i64_in _ (by omega), ?_, ?_⟩, by omega, by omega, by omega, by omega, by omega, ?_⟩
  · unfold iadd; rw [ew]; exact IntWalk.i64_in _ (by omega)
  · rw [e1, e2, e3, el]; exact IntWalk.i64_in _ (by omega)
  · rw [show mkH h - 1 = gmod h 5 by omega, es, ew, el]; omega
theorem a_mkpl : Answers2 8 s_mkpl := by
  intro al ans hh hq
  unfold s_mkpl at hh
  split at hh <;> try (simp at hh; done)
  rename_i w h m t c
  cases e : slcOf 1 c with
  | none => rw [e] at hh; simp at hh
  | some p =>
    obtain ⟨n, r⟩ := p
    rw [e] at hh
    simp only [Option.some.injEq] at hh
    subst hh
    obtain ⟨hr, hn, _⟩ := asked hq
    have hn' := ile_tt hn
    refine does_args2 (al' := [.x (.agg [.v (.int .i64 w), .v (.int .i64 h), .v (.int .i64 m), .v (.int .i64 t), .slc 1 n (ints .u16 r)])]) ⟨⟨.v _, .v _, .v _, .v _, slcOf_ints e (by decide) hr, trivial⟩, trivial⟩ ?_
    have mv : ∀ i, mkV n r i = if i < n then intC (den r i 0) else iconv .u16 i := fun _ => rfl
    have mve : ∀ i, mkV n (ints .u16 r) i = mkV n r i := fun _ => rfl
    unfold ints at mve ⊢
    refine QR.does_of_eval (O := o_mk) (QR.orc_cons (up a_mod) QR.orc_nil) mixed (fun q => bif Nat.beq q 5 then some (.invs [o_inv_mk0 w h m t n (fun i j => intC (den r i j)), o_inv_mk1 w h m t n (fun i j => intC (den r i j))]) else none) Try.func8 (by kernel_rfl) (by kernel_rfl) (by simp) ?_
    rw [mkpl_vc]
    try dsimp only
    obtain ⟨⟨e1, e2, e3, e4⟩, ⟨w0, w1⟩, ⟨h0, h1⟩, ⟨s0, s1⟩, l0, l1, _⟩ := mk_at w h m t
    have k6 : modOk 6 = true := rfl
    have k5 : modOk 5 = true := rfl
    have k4 : modOk 4 = true := rfl
    have k3 : modOk 3 = true := rfl
    simp only [mve, forall_eq, e1, e2, e3, e4, k6, k5, k4, k3, okAns, eqXs, eqX, eqo, eqLo, eqL, eqc, veq, eqUs, bcond_iff, bnot, true_and, and_true, implies_true, reduceCtorEq, false_implies, true_implies, false_and, and_false, exists_false, or_false, false_or, exists_eq_right, exists_eq_right']
    have ia : ∀ i : Int, 0 ≤ i → i < mkL w h m t → iadd .i64 i 1 = i + 1 := fun i i0 i1 => IntWalk.i64_in _ (by omega)
    have mu : ∀ i : Int, i < mkL w h m t → Nat.le (Nat.succ (mkMu w h m t (i + 1))) (mkMu w h m t i) := fun i i1 => by show mkMu w h m t (i + 1) < mkMu w h m t i; unfold mkMu; omega
    have val : ∀ i, ilt i n = true → intC (den r i 0) = mkV n r i := fun i hi => by rw [mv, if_pos (of_decide_eq_true hi)]
    have val' : ∀ i, ilt i n = false → iconv .u16 i = mkV n r i := fun i hi => by rw [mv, if_neg (of_decide_eq_false hi)]
    have first : ∀ q : Nat, ilt (Int.ofNat q) 1 = true → isel (ieq (Int.ofNat q) 0) (mkV n r 0) 0 = mkV n r (Int.ofNat q) := fun q hq => by
      have := of_decide_eq_true hq
      obtain rfl : q = 0 := by have : (q : Int) < 1 := this
                               omega
      rfl
    have next : ∀ i : Int, 0 ≤ i → ∀ q : Nat, ilt (Int.ofNat q) (addZ i 1) = true → isel (ilt (Int.ofNat q) i) (mkV n r (Int.ofNat q)) (isel (ieq (subZ (Int.ofNat q) i) 0) (mkV n r i) 0) = mkV n r (Int.ofNat q) := fun i i0 q hq => by
      have hq : Int.ofNat q < addZ i 1 := of_decide_eq_true hq
      unfold addZ at hq
      cases k : ilt (Int.ofNat q) i
      · have k := of_decide_eq_false k
        have e : i = Int.ofNat q := by omega
        rw [isel_f, ← e, show subZ i i = 0 by unfold subZ; omega]
        rfl
      · rfl
    have ad : ∀ i : Int, addZ i 1 = i + 1 := fun _ => rfl
    refine ⟨⟨⟨Int.le_refl 0, by omega⟩, by simp⟩, fun i hi => ⟨fun c1 => ⟨fun c2 => ?_, fun c2 => ?_⟩, fun c1 => ?_⟩, fun i hi => ⟨fun c1 => ⟨fun c2 => ?_, fun c2 => ?_⟩, fun c1 => ?_⟩⟩
    · obtain rfl := hi.2.1 rfl
      rw [val 0 c2, ia 0 (Int.le_refl 0) (of_decide_eq_true c1)]
      exact ⟨⟨ile_t (Int.le_refl 0), c2⟩, 0 + 1, ⟨⟨by omega, by omega⟩, by simp⟩, ⟨rfl, rfl, rfl, first⟩, mu 0 (of_decide_eq_true c1)⟩
    · obtain rfl := hi.2.1 rfl
      rw [val' 0 c2, ia 0 (Int.le_refl 0) (of_decide_eq_true c1)]
      exact ⟨0 + 1, ⟨⟨by omega, by omega⟩, by simp⟩, ⟨rfl, rfl, rfl, first⟩, mu 0 (of_decide_eq_true c1)⟩
    · obtain rfl := hi.2.1 rfl
      exact absurd l0 (of_decide_eq_false c1)
    · have lt := of_decide_eq_true c1
      rw [val i c2, ia i hi.1.1 lt]
      refine ⟨⟨ile_t hi.1.1, c2⟩, ile_t (by unfold imulZ addZ; omega), i + 1, ⟨⟨by have := hi.1; omega, by omega⟩, ⟨fun k => by simp at k, fun k => by have := hi.1; omega⟩⟩, ⟨rfl, rfl, rfl, next i hi.1.1⟩, mu i lt⟩
    · have lt := of_decide_eq_true c1
      rw [val' i c2, ia i hi.1.1 lt]
      refine ⟨ile_t (by unfold imulZ addZ; omega), i + 1, ⟨⟨by have := hi.1; omega, by omega⟩, ⟨fun k => by simp at k, fun k => by have := hi.1; omega⟩⟩, ⟨rfl, rfl, rfl, next i hi.1.1⟩, mu i lt⟩
    · have := of_decide_eq_false c1
      have hi1 := hi.1
      obtain rfl : i = mkL w h m t := by omega
      exact .slc fun i j hi hj => .v _
end Go.Proofs.Ytjieldpnnopljaa
