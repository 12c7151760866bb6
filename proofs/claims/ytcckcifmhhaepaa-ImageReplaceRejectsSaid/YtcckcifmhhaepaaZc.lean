import Derived.Test.YtcckcifmhhaepaaZaa
import Derived.Test.YtcckcifmhhaepaaZb
import Derived.Test.YtcckcifmhhaepaaNc
import Derived.Test.YtcckcifmhhaepaaMc
namespace Go.Proofs.Ytcckcifmhhaepaa
open Go.RowKit PR QR
set_option linter.unusedVariables false
set_option linter.unusedSimpArgs false
set_option maxRecDepth 20000
theorem imC_sol {m : Im} {b : Bool} (h : m.sol = b) : imC m = imC ⟨m.w, m.h, b, m.c0, m.c1, m.c2, m.a, m.f, m.p0, m.p1, m.p2, m.p3, m.p4⟩ := by unfold imC; rw [h]
theorem plW_iff {m : Im} {p : Pl} : plW m p = true ↔ plB p.w p.h p.s p.n = true ∧ p.w = m.w ∧ p.h = m.h := by unfold plW; rw [decide_eq_true_eq]
theorem plZ_iff {p : Pl} : plZ p = true ↔ p.w = 0 ∧ p.h = 0 ∧ p.s = 0 ∧ p.n = 0 := by unfold plZ; rw [decide_eq_true_eq]
theorem ieq_t2 {a b : Int} (h : ieq a b = true) : a = b := of_decide_eq_true h
theorem ieq_ff {a b : Int} (h : ieq a b = false) : a ≠ b := of_decide_eq_false h
theorem ine_tt {a b : Int} (h : ine a b = true) : a ≠ b := by simpa [ine] using h
theorem ine_ff {a b : Int} (h : ine a b = false) : a = b := by simpa [ine] using h
theorem imF_no {m : Im} (hs : m.sol = false) {k : Nat} (hk : k < 5) (h : plW m (imPl m k) = false) : imF m = false := by
  unfold imF; rw [hs]
  match k, hk with
  | 0, _ => simp [show plW m m.p0 = false from h]
  | 1, _ => simp [show plW m m.p1 = false from h]
  | 2, _ => simp [show plW m m.p2 = false from h]
  | 3, _ => simp [show plW m m.p3 = false from h]
  | 4, _ => simp [show plW m m.p4 = false from h]
theorem imF_noS {m : Im} (hs : m.sol = true) {k : Nat} (hk : k < 5) (h : plZ (imPl m k) = false) : imF m = false := by
  unfold imF; rw [hs]
  match k, hk with
  | 0, _ => simp [show plZ m.p0 = false from h]
  | 1, _ => simp [show plZ m.p1 = false from h]
  | 2, _ => simp [show plZ m.p2 = false from h]
  | 3, _ => simp [show plZ m.p3 = false from h]
  | 4, _ => simp [show plZ m.p4 = false from h]
theorem imF_all {m : Im} (hs : m.sol = false) (h : ∀ k : Nat, k < 5 → plW m (imPl m k) = true) : imF m = colZ m := by
  unfold imF; rw [hs]
  simp [show plW m m.p0 = true from h 0 (by decide), show plW m m.p1 = true from h 1 (by decide), show plW m m.p2 = true from h 2 (by decide), show plW m m.p3 = true from h 3 (by decide), show plW m m.p4 = true from h 4 (by decide)]
theorem imF_allS {m : Im} (hs : m.sol = true) (h : ∀ k : Nat, k < 5 → plZ (imPl m k) = true) : imF m = true := by
  unfold imF; rw [hs]
  simp [show plZ m.p0 = true from h 0 (by decide), show plZ m.p1 = true from h 1 (by decide), show plZ m.p2 = true from h 2 (by decide), show plZ m.p3 = true from h 3 (by decide), show plZ m.p4 = true from h 4 (by decide)]
theorem rfo_step {m : Im} {b : Bool} {i : Int} (hi : rfoGood m b i) {k : Nat} (hk : k < 5) (e : i = k) (h : bif b then plZ (imPl m k) = true else plW m (imPl m k) = true) : ∃ j, rfoGood m b j ∧ iadd .i64 i 1 = j ∧ (rfoMu j).succ.le (rfoMu i) := by
  subst e
  have ia : iadd .i64 (k : Int) 1 = k + 1 := IntWalk.i64_in _ (by omega)
  refine ⟨_, ⟨by omega, fun q hq => ?_⟩, ia, ?_⟩
  · by_cases e : q = k
    · subst e; exact h
    · exact hi.2 q (by omega)
  · show rfoMu _ < rfoMu _
    unfold rfoMu; omega
theorem rfF_case {m : Im} (hs : m.sol = false) {i : Int} (hi : rfoGood m false i) (k : Nat) (hk : k < 5) (e : i = k) :
    ((!plB (imPl m k).w (imPl m k).h (imPl m k).s (imPl m k).n) = true → false = imF m) ∧ ((!plB (imPl m k).w (imPl m k).h (imPl m k).s (imPl m k).n) = false → (ine (imPl m k).w m.w = true → false = imF m) ∧ (ine (imPl m k).w m.w = false → (ine (imPl m k).h m.h = true → false = imF m) ∧ (ine (imPl m k).h m.h = false → ∃ j, rfoGood m false j ∧ iadd .i64 i 1 = j ∧ (rfoMu j).succ.le (rfoMu i)))) := by
  have no : plW m (imPl m k) ≠ true → false = imF m := fun h => (imF_no hs hk (Bool.eq_false_iff.2 h)).symm
  refine ⟨fun h => no fun w => ?_, fun h => ⟨fun h2 => no fun w => ine_tt h2 (plW_iff.1 w).2.1, fun h2 => ⟨fun h3 => no fun w => ine_tt h3 (plW_iff.1 w).2.2, fun h3 => rfo_step hi hk e (plW_iff.2 ⟨by simpa using h, ine_ff h2, ine_ff h3⟩)⟩⟩⟩
  rw [(plW_iff.1 w).1] at h; simp at h
theorem rfT_case {m : Im} (hs : m.sol = true) {i : Int} (hi : rfoGood m true i) (k : Nat) (hk : k < 5) (hn : ile 0 (imPl m k).n = true) (e : i = k) :
    (ine (imPl m k).w 0 = true → false = imF m) ∧ (ine (imPl m k).w 0 = false → (ine (imPl m k).h 0 = true → false = imF m) ∧ (ine (imPl m k).h 0 = false → (ine (imPl m k).s 0 = true → false = imF m) ∧ (ine (imPl m k).s 0 = false → ∀ t : Int, t = (imPl m k).n → (igt t 0 = true → false = imF m) ∧ (igt t 0 = false → ∃ j, rfoGood m true j ∧ iadd .i64 i 1 = j ∧ (rfoMu j).succ.le (rfoMu i))))) := by
  have no : plZ (imPl m k) ≠ true → false = imF m := fun h => (imF_noS hs hk (Bool.eq_false_iff.2 h)).symm
  have hn := ile_tt hn
  refine ⟨fun h => no fun w => ine_tt h (plZ_iff.1 w).1, fun h => ⟨fun h2 => no fun w => ine_tt h2 (plZ_iff.1 w).2.1, fun h2 => ⟨fun h3 => no fun w => ine_tt h3 (plZ_iff.1 w).2.2.1, fun h3 t ht => ⟨fun h4 => no fun w => ?_, fun h4 => rfo_step hi hk e (plZ_iff.2 ⟨ine_ff h, ine_ff h2, ine_ff h3, ?_⟩)⟩⟩⟩⟩
  · have := of_decide_eq_true h4
    have := (plZ_iff.1 w).2.2.2
    omega
  · have := of_decide_eq_false h4
    omega
theorem a_rformed : Answers2 47 s_imf := by
  intro al ans hh hq
  unfold s_imf at hh
  split at hh <;> try (simp at hh; done)
  rename_i l
  cases em : s_imOf l with
  | none => simp [em] at hh
  | some p =>
  obtain ⟨m, A⟩ := p
  simp only [em] at hh
  simp only [Option.some.injEq] at hh
  subst hh
  have hG : imG m := hq _ (by simp)
  refine does_args2 (al' := [.x (.agg (imC m))]) ⟨imOf_eq em fun p hp => hq p (by simp [hp]), trivial⟩ ?_
  obtain ⟨_, _, ⟨w0, h0, s0, n0, _⟩, ⟨w1, h1, s1, n1, _⟩, ⟨w2, h2, s2, n2, _⟩, ⟨w3, h3, s3, n3, _⟩, w4, h4, s4, n4, _⟩ := hG
  cases hs : m.sol
  · rw [imC_sol hs]
    refine QR.does_of_eval (O := o_fin) (QR.orc_cons a_fplv QR.orc_nil) mixed (fun n => bif Nat.beq n 2 then some (.inv (o_inv_rfF m)) else none) Try.func47 (by kernel_rfl) (by kernel_rfl) (by simp) ?_
    rw [rfF_vc]
    delta zz4 zz34 zz61 zz62 zz63 zz64 zz70 zz100 zz110
    simp only [okAns, eqXs, eqX, eqo, eqLo, eqL, eqc, veq, eqUs, bcond_iff, bnot, intRow_one, w0, h0, s0, n0, w1, h1, s1, n1, w2, h2, s2, n2, w3, h3, s3, n3, w4, h4, s4, n4, true_and, and_true, implies_true, true_implies, reduceCtorEq, false_implies, and_self, Bool.not_true, Bool.false_eq_true, Bool.not_false]
    refine ⟨⟨0, ⟨by omega, fun k hk => by omega⟩, rfl⟩, fun i hi => ⟨fun c => ⟨fun e => rfF_case hs hi 0 (by decide) (ieq_t2 e), fun e0 => ⟨fun e => rfF_case hs hi 1 (by decide) (ieq_t2 e), fun e1 => ⟨fun e => rfF_case hs hi 2 (by decide) (ieq_t2 e), fun e2 => ⟨fun e => rfF_case hs hi 3 (by decide) (ieq_t2 e), fun e3 => ⟨fun e => rfF_case hs hi 4 (by decide) (ieq_t2 e), fun e4 => ?_⟩⟩⟩⟩⟩, fun c => ?_⟩⟩
    · have := ieq_ff e0; have := ieq_ff e1; have := ieq_ff e2; have := ieq_ff e3; have := ieq_ff e4
      have := hi.1; have := of_decide_eq_true c
      omega
    · have := of_decide_eq_false c
      rw [imF_all hs fun k hk => hi.2 k (by omega)]
      unfold colZ ieq
      rw [Bool.eq_iff_iff]
      simp [band, and_assoc]
  · rw [imC_sol hs]
    refine QR.does_of_eval (O := o_fin) (QR.orc_cons a_fplv QR.orc_nil) mixed (fun n => bif Nat.beq n 2 then some (.inv (o_inv_rfT m)) else none) Try.func47 (by kernel_rfl) (by kernel_rfl) (by simp) ?_
    rw [rfT_vc]
    delta zz5 zz34 zz61 zz62 zz63 zz64 zz70 zz101 zz111
    simp only [okAns, eqXs, eqX, eqo, eqLo, eqL, eqc, veq, eqUs, bcond_iff, bnot, intRow_one, w0, h0, s0, n0, w1, h1, s1, n1, w2, h2, s2, n2, w3, h3, s3, n3, w4, h4, s4, n4, true_and, and_true, implies_true, true_implies, reduceCtorEq, false_implies, and_self, Bool.not_true, Bool.false_eq_true, Bool.not_false]
    refine ⟨⟨0, ⟨by omega, fun k hk => by omega⟩, rfl⟩, fun i hi => ⟨fun c => ⟨fun e => rfT_case hs hi 0 (by decide) n0 (ieq_t2 e), fun e0 => ⟨fun e => rfT_case hs hi 1 (by decide) n1 (ieq_t2 e), fun e1 => ⟨fun e => rfT_case hs hi 2 (by decide) n2 (ieq_t2 e), fun e2 => ⟨fun e => rfT_case hs hi 3 (by decide) n3 (ieq_t2 e), fun e3 => ⟨fun e => rfT_case hs hi 4 (by decide) n4 (ieq_t2 e), fun e4 => ?_⟩⟩⟩⟩⟩, fun c => ?_⟩⟩
    · have := ieq_ff e0; have := ieq_ff e1; have := ieq_ff e2; have := ieq_ff e3; have := ieq_ff e4
      have := hi.1; have := of_decide_eq_true c
      omega
    · have := of_decide_eq_false c
      exact (imF_allS hs fun k hk => hi.2 k (by omega)).symm
theorem a_rformd : Answers2 57 s_imok := by
  intro al ans hh hq
  unfold s_imok at hh
  split at hh <;> try (simp at hh; done)
  rename_i l
  cases em : s_imOf l with
  | none => simp [em] at hh
  | some pm =>
  obtain ⟨m, Am⟩ := pm
  simp only [em] at hh
  simp only [Option.some.injEq] at hh
  subst hh
  refine does_args2 (al' := [.x (.agg (imC m))]) ⟨imOf_eq em fun p hp => hq p (by simp [hp]), trivial⟩ ?_
  have hq := asked hq
  refine QR.does_of_eval (O := o_rformd) (QR.orc_cons a_ffits (QR.orc_cons a_rformed QR.orc_nil)) mixed (QR.noLoops) Try.func57 (by kernel_rfl) (by kernel_rfl) (by simp) ?_
  rw [rformd_vc]
  have gm := hq.1
  obtain ⟨⟨iw, ih⟩, _⟩ := gm
  have e : imOk m = (fitB m.w m.h && imF m) := rfl
  cases f : fitB m.w m.h <;> simp [okAns, eqXs, eqX, eqo, eqLo, eqL, eqc, veq, eqUs, bcond_iff, bnot, intRow_one, f, e, hq.1, iw, ih]
theorem im_at {m : Im} {x y : Int} (h : imIn m x y = true) (hs : m.sol = false) {k : Nat} (hk : k < 5) : inB (imPl m k).w (imPl m k).h (imPl m k).s (imPl m k).n x y = true := by
  have h := of_decide_eq_true h
  obtain ⟨h1, h2, h3, h4⟩ := h
  have w : plW m (imPl m k) = true := by
    rw [← Bool.not_eq_false]
    intro c
    rw [imF_no hs hk c] at h2; simp at h2
  obtain ⟨w1, w2, w3⟩ := plW_iff.1 w
  exact in_iff.2 ⟨w1, by rw [w2]; exact h3, by rw [w3]; exact h4⟩
theorem im_ix {m : Im} {x y : Int} (h : imIn m x y = true) (hs : m.sol = false) {k : Nat} (hk : k < 5) :
    iadd .i64 (imul .i64 y (imPl m k).s) x = patI (imPl m k).s x y ∧ ile 0 (patI (imPl m k).s x y) = true ∧ ilt (patI (imPl m k).s x y) (imPl m k).n = true := by
  have h' := im_at h hs hk
  obtain ⟨p1, p2, p3, p4, p5, p6⟩ := at_lt h'
  have f' := (in_iff.1 h').2
  obtain ⟨e1, e2, _⟩ := at_in (s := (imPl m k).s) (x := x) (y := y) (by omega) p3 p6 p4 (by omega) p5
  exact ⟨by rw [e1, e2], ile_t p1, ilt_t p2⟩
theorem a_rpx : Answers2 49 s_impx := by
  intro al ans hh hq
  unfold s_impx at hh
  split at hh <;> try (simp at hh; done)
  rename_i l x y
  cases em : s_imOf l with
  | none => simp [em] at hh
  | some pm =>
  obtain ⟨m, Am⟩ := pm
  simp only [em] at hh
  simp only [Option.some.injEq] at hh
  subst hh
  refine does_args2 (al' := [.x (.agg (imC m)), .x (.c (.v (.int .i64 x))), .x (.c (.v (.int .i64 y)))]) ⟨imOf_eq em fun p hp => hq p (by simp [hp]), .v _, .v _, trivial⟩ ?_
  have hq := asked hq
  refine QR.does_of_eval (O := (QR.orc [])) QR.orc_nil mixed ((fun n => bif Nat.beq n 5 then some (.rounds 6) else none)) Try.func49 (by kernel_rfl) (by kernel_rfl) (by simp) ?_
  rw [rpx_vc]
  delta zz140
  obtain ⟨hi, hG, _⟩ := hq
  have pv : ∀ k, pxV m k x y = bif m.sol then imCol m k else (imPl m k).l (patI (imPl m k).s x y) := fun _ => rfl
  cases hs : m.sol
  · obtain ⟨a0, b0, c0⟩ := im_ix hi hs (k := 0) (by decide)
    obtain ⟨a1, b1, c1⟩ := im_ix hi hs (k := 1) (by decide)
    obtain ⟨a2, b2, c2⟩ := im_ix hi hs (k := 2) (by decide)
    obtain ⟨a3, b3, c3⟩ := im_ix hi hs (k := 3) (by decide)
    obtain ⟨a4, b4, c4⟩ := im_ix hi hs (k := 4) (by decide)
    simp only [imPl] at a0 b0 c0 a1 b1 c1 a2 b2 c2 a3 b3 c3 a4 b4 c4
    simp [okAns, eqXs, eqX, eqo, eqLo, eqL, eqc, veq, eqUs, bcond_iff, hs, pv, imPl, a0, b0, c0, a1, b1, c1, a2, b2, c2, a3, b3, c3, a4, b4, c4]
  · simp [okAns, eqXs, eqX, eqo, eqLo, eqL, eqc, veq, eqUs, bcond_iff, hs, pv, imCol]
theorem a_risol : Answers2 24 s_isol := by
  intro al ans h hq
  unfold s_isol at h
  split at h <;> try (simp at h; done)
  rename_i w h c0 c1 c2 a f
  simp only [Option.some.injEq] at h
  subst h
  have hq := asked hq
  refine QR.does_of_eval (O := (QR.orc [])) QR.orc_nil mixed (QR.noLoops) Try.func24 (by kernel_rfl) (by kernel_rfl) (by simp) ?_
  rw [risol_vc]
  delta zz98
  have z : Nat.blt 0 1 = true := rfl
  simp [okAns, eqXs, eqX, eqo, eqLo, eqL, eqc, veq, eqUs, imC, imSol, plZero, nilC, z]
theorem ige_f {a b : Int} (h : a < b) : ige a b = false := decide_eq_false (by omega)
theorem ok_iff {m : Im} : imOk m = true ↔ fitB m.w m.h = true ∧ imF m = true := by unfold imOk; rw [Bool.and_eq_true]
theorem imIn_iff {m : Im} {x y : Int} : imIn m x y = true ↔ imOk m = true ∧ (0 ≤ x ∧ x < m.w) ∧ 0 ≤ y ∧ y < m.h := by unfold imIn; rw [decide_eq_true_eq, ok_iff]; exact ⟨fun ⟨a, b, c⟩ => ⟨⟨a, b⟩, c⟩, fun ⟨⟨a, b⟩, c⟩ => ⟨a, b, c⟩⟩
theorem imAll_iff {m : Im} {t : Int} (f : fitB m.w m.h = true) : imAll m t = true ↔ ∀ x y : Int, 0 ≤ x → x < m.w → 0 ≤ y → y < m.h → pxB m t x y = true := by
  have f4 := fit_iff.1 f
  unfold imAll
  rw [List.all_eq_true]
  refine ⟨fun h x y x0 x1 y0 y1 => ?_, fun h y hy => List.all_eq_true.2 fun x hx => ?_⟩
  · have := List.all_eq_true.1 (h y.toNat (List.mem_range.2 (by omega))) x.toNat (List.mem_range.2 (by omega))
    rw [show ((x.toNat : Nat) : Int) = x by omega, show ((y.toNat : Nat) : Int) = y by omega] at this
    exact this
  · have := List.mem_range.1 hy
    have := List.mem_range.1 hx
    exact h x y (by omega) (by omega) (by omega) (by omega)
theorem imAll_sol {m : Im} {t : Int} (f : fitB m.w m.h = true) (hs : m.sol = true) : imAll m t = pvB m.c0 m.c1 m.c2 m.a m.f t := by
  have pb : ∀ x y, pxB m t x y = pvB m.c0 m.c1 m.c2 m.a m.f t := fun x y => by unfold pxB pxV; rw [hs]; rfl
  have f4 := fit_iff.1 f
  rw [Bool.eq_iff_iff, imAll_iff f]
  exact ⟨fun h => by rw [← pb 0 0]; exact h 0 0 (by omega) (by omega) (by omega) (by omega), fun h x y _ _ _ _ => by rw [pb]; exact h⟩
theorem a_riat : Answers2 26 s_imat := by
  intro al ans hh hq
  unfold s_imat at hh
  split at hh <;> try (simp at hh; done)
  rename_i l x y
  cases em : s_imOf l with
  | none => simp [em] at hh
  | some pm =>
  obtain ⟨m, Am⟩ := pm
  simp only [em] at hh
  simp only [Option.some.injEq] at hh
  subst hh
  refine does_args2 (al' := [.x (.agg (imC m)), .x (.c (.v (.int .i64 x))), .x (.c (.v (.int .i64 y)))]) ⟨imOf_eq em fun p hp => hq p (by simp [hp]), .v _, .v _, trivial⟩ ?_
  have hq := asked hq
  refine QR.does_of_eval (O := o_riat) (QR.orc_cons a_rformd (QR.orc_cons a_rpx QR.orc_nil)) mixed (QR.noLoops) Try.func26 (by kernel_rfl) (by kernel_rfl) (by simp) ?_
  rw [riat_vc]
  delta zz12 zz83 zz96 zz112
  have pv : ∀ k, pxA m k x y = bif imIn m x y then pxV m k x y else 0 := fun _ => rfl
  have hG := hq.1
  cases hi : imIn m x y
  · simp only [okAns, eqXs, eqX, eqo, eqLo, eqL, eqc, veq, eqUs, bcond_iff, bnot, intRow_one, hG, pv, hi, cond_false, true_and, and_true, and_self, implies_true]
    intro c1 c2 c3 c4 c5
    have := of_decide_eq_false c2; have := of_decide_eq_false c3; have := of_decide_eq_false c4; have := of_decide_eq_false c5
    exact absurd ((imIn_iff (m := m) (x := x) (y := y)).2 ⟨by simpa using c1, ⟨by omega, by omega⟩, by omega, by omega⟩) (by rw [hi]; simp)
  · obtain ⟨h1, h2, h3⟩ := imIn_iff.1 hi
    simp [okAns, eqXs, eqX, eqo, eqLo, eqL, eqc, veq, eqUs, bcond_iff, bnot, intRow_one, hG, pv, hi, h1, ilt_f h2.1, ilt_f h3.1, ige_f h2.2, ige_f h3.2]
theorem a_rval : Answers2 18 s_ime := by
  intro al ans hh hq
  unfold s_ime at hh
  split at hh <;> try (simp at hh; done)
  rename_i l t
  cases em : s_imOf l with
  | none => simp [em] at hh
  | some pm =>
  obtain ⟨m, Am⟩ := pm
  simp only [em] at hh
  simp only [Option.some.injEq] at hh
  subst hh
  refine does_args2 (al' := [.x (.agg (imC m)), .x (.c (.v (.int .u16 t)))]) ⟨imOf_eq em fun p hp => hq p (by simp [hp]), .v _, trivial⟩ ?_
  have hq := asked hq
  refine QR.does_of_eval (O := o_rval) (QR.orc_cons a_ffits (QR.orc_cons a_rformed (QR.orc_cons (up a_rpvalid) (QR.orc_cons a_rpx QR.orc_nil)))) mixed ((fun n => bif Nat.beq n 10 then some (.inv (o_inv_rvo m t)) else bif Nat.beq n 13 then some (.invF fun g => [o_inv_rvi m t (g 5)]) else none)) Try.func18 (by kernel_rfl) (by kernel_rfl) (by simp) ?_
  rw [rval_vc]
  delta zz1 zz12 zz112
  have hG := hq.1
  obtain ⟨⟨iw, ih⟩, _⟩ := hq.1
  have e : imE m t = bif fitB m.w m.h then (bif imF m then (bif imAll m t then 0 else 8) else 7) else 6 := rfl
  generalize imE m t = b at *
  cases f : fitB m.w m.h
  · rw [f] at e
    simp [okAns, eqXs, eqX, eqo, eqLo, eqL, eqc, veq, eqUs, bcond_iff, bnot, intRow_one, hG, iw, ih, f, e]
  cases g : imF m
  · rw [f, g] at e
    simp [okAns, eqXs, eqX, eqo, eqLo, eqL, eqc, veq, eqUs, bcond_iff, bnot, intRow_one, hG, iw, ih, f, g, e]
  rw [f, g] at e
  have f4 := fit_iff.1 f
  cases hs : m.sol
  · simp only [okAns, eqXs, eqX, eqo, eqLo, eqL, eqc, veq, eqUs, bcond_iff, bnot, intRow_one, hG, iw, ih, f, g, hs, true_and, and_true, and_self, implies_true, true_implies, reduceCtorEq, false_implies, Bool.not_true, Bool.not_false, forall_eq, or_false, exists_eq_right, exists_eq_right']
    have w1 := fit_le f
    have e : b = bif imAll m t then 0 else 8 := e
    have yes : imAll m t = true → 0 = b := fun k => by rw [e, k]; rfl
    have no : imAll m t ≠ true → 8 = b := fun k => by rw [e, Bool.eq_false_iff.2 k]; rfl
    refine ⟨⟨⟨Int.le_refl 0, by omega⟩, fun a b' _ _ _ _ => by omega⟩, fun y hy => ⟨fun c1 => ⟨⟨⟨⟨hy.1.1, of_decide_eq_true c1⟩, Int.le_refl 0, by omega⟩, hy.2, fun a _ _ => by omega⟩, fun x hx => ⟨fun c2 => ⟨?_, fun c3 => ?_, fun c3 => ?_⟩, fun c2 => ?_⟩⟩, fun c1 => ?_⟩⟩
    · have := of_decide_eq_true c2
      exact imIn_iff.2 ⟨ok_iff.2 ⟨f, g⟩, ⟨hx.1.2.1, this⟩, hx.1.1⟩
    · have c2 := of_decide_eq_true c2
      refine no fun k => ?_
      have k : pvB _ _ _ _ _ _ = true := (imAll_iff f).1 k x y hx.1.2.1 c2 hx.1.1.1 hx.1.1.2
      rw [k] at c3; simp at c3
    · have c2 := of_decide_eq_true c2
      have hx1 := hx.1
      have ia : iadd .i64 x 1 = x + 1 := IntWalk.i64_in _ (by omega)
      refine ⟨x + 1, ⟨⟨hx1.1, by omega, by omega⟩, hx.2.1, fun a a0 a1 => ?_⟩, ia, ?_⟩
      · by_cases ea : a = x
        · subst ea; exact by simpa [pxB] using c3
        · exact hx.2.2 a a0 (by omega)
      · show rviMu m _ < rviMu m _
        unfold rviMu; omega
    · have c2 := of_decide_eq_false c2
      have hx1 := hx.1
      have ia : iadd .i64 y 1 = y + 1 := IntWalk.i64_in _ (by omega)
      refine ⟨y + 1, ⟨by omega, fun a b' a0 a1 b0 b1 => ?_⟩, ia, ?_⟩
      · by_cases eb : b' = y
        · subst eb; exact hx.2.2 a a0 (by omega)
        · exact hx.2.1 a b' a0 a1 b0 (by omega)
      · show rvoMu m _ < rvoMu m _
        unfold rvoMu; omega
    · have c1 := of_decide_eq_false c1
      exact yes ((imAll_iff f).2 fun a b' a0 a1 b0 b1 => hy.2 a b' a0 a1 b0 (by have := hy.1; omega))
  · have : imAll m t = pvB m.c0 m.c1 m.c2 m.a m.f t := imAll_sol f hs
    rw [this] at e
    cases k : pvB m.c0 m.c1 m.c2 m.a m.f t <;> rw [k] at e <;> simp [okAns, eqXs, eqX, eqo, eqLo, eqL, eqc, veq, eqUs, bcond_iff, bnot, intRow_one, hG, iw, ih, f, g, hs, e, k]
theorem ir5 (n : Int) (q : Int → Nat → Int) : intRow .u16 5 n (.fn fun i j => .v (.int .u16 (q i j))) := fun i j _ _ => rfl
theorem rp_next {m : Im} {x y : Int} : rpN m y (x + 1) = addZ (rpN m y x) 1 := by unfold rpN addZ; omega
theorem rp_row {m : Im} {y : Int} : rpN m (y + 1) 0 = rpN m y m.w := by unfold rpN; rw [Int.add_mul]; omega
theorem pxI_at {m : Im} {x y : Int} (x0 : 0 ≤ x) (x1 : x < m.w) (k : Nat) : pxI m (rpN m y x) k = pxV m k x y := by
  unfold pxI rpN
  rw [Int.add_comm (y * m.w), Int.add_mul_emod_self_right, Int.emod_eq_of_lt x0 x1, Int.add_mul_ediv_right _ _ (by omega), Int.ediv_eq_zero_of_lt x0 x1, Int.zero_add]
theorem rpN_in {m : Im} (ok : imOk m = true) {x y : Int} (hy : 0 ≤ y ∧ y < m.h) (hx : 0 ≤ x ∧ x ≤ m.w) : 0 ≤ rpN m y x ∧ rpN m y x ≤ m.w * m.h ∧ rpN m y x ≤ 16777216 := by
  have f4 := fit_iff.1 (ok_iff.1 ok).1
  have p0 := Int.mul_nonneg hy.1 (show 0 ≤ m.w by omega)
  have p1 := Int.mul_le_mul_of_nonneg_right (show y ≤ m.h - 1 by omega) (show 0 ≤ m.w by omega)
  have p2 : (m.h - 1) * m.w = m.w * m.h - m.w := by rw [Int.sub_mul, Int.one_mul, Int.mul_comm]
  unfold rpN
  omega
theorem rpi_mu {m : Im} (ok : imOk m = true) {x : Int} (h0 : 0 ≤ x) (h1 : x < m.w) : iadd .i64 x 1 = x + 1 ∧ (rpiMu m (x + 1)).succ.le (rpiMu m x) := by
  have w1 := fit_le (ok_iff.1 ok).1
  refine ⟨IntWalk.i64_in _ (by omega), ?_⟩
  show rpiMu m _ < rpiMu m _
  unfold rpiMu; omega
theorem rpo_mu {m : Im} (ok : imOk m = true) {y : Int} (h0 : 0 ≤ y) (h1 : y < m.h) : iadd .i64 y 1 = y + 1 ∧ (rpoMu m (y + 1)).succ.le (rpoMu m y) := by
  have w1 := fit_le (ok_iff.1 ok).1
  refine ⟨IntWalk.i64_in _ (by omega), ?_⟩
  show rpoMu m _ < rpoMu m _
  unfold rpoMu; omega
theorem rpi_step0 {m : Im} (ok : imOk m = true) {y x : Int} (hx : rpiGood m true y x) (c : ilt x m.w = true) : imIn m x y = true ∧ ∃ j, rpiGood m false y j ∧ ((1 = rpN m y j ∧ iadd .i64 x 1 = j) ∧ 1 = rpN m y j ∧
    ((((∀ i : Nat, ilt (Int.ofNat i) 1 = true → isel (ieq (Int.ofNat i) 0) (pxV m 0 x y) 0 = pxI m (Int.ofNat i) 0) ∧ ∀ i : Nat, ilt (Int.ofNat i) 1 = true → isel (ieq (Int.ofNat i) 0) (pxV m 1 x y) 0 = pxI m (Int.ofNat i) 1) ∧ ∀ i : Nat, ilt (Int.ofNat i) 1 = true → isel (ieq (Int.ofNat i) 0) (pxV m 2 x y) 0 = pxI m (Int.ofNat i) 2) ∧ ∀ i : Nat, ilt (Int.ofNat i) 1 = true → isel (ieq (Int.ofNat i) 0) (pxV m 3 x y) 0 = pxI m (Int.ofNat i) 3) ∧ ∀ i : Nat, ilt (Int.ofNat i) 1 = true → isel (ieq (Int.ofNat i) 0) (pxV m 4 x y) 0 = pxI m (Int.ofNat i) 4) ∧ (rpiMu m j).succ.le (rpiMu m x) := by
  have c := of_decide_eq_true c
  obtain ⟨⟨hy, h0, h1⟩, hz⟩ := hx
  obtain ⟨rfl, rfl⟩ := hz.1 rfl
  have e : rpN m 0 (0 + 1) = 1 := by unfold rpN; omega
  obtain ⟨i1, i2⟩ := rpi_mu ok h0 c
  have K : ∀ (k i : Nat), ilt (Int.ofNat i) 1 = true → isel (ieq (Int.ofNat i) 0) (pxV m k 0 0) 0 = pxI m (Int.ofNat i) k := by
    intro k i hi
    have hi := of_decide_eq_true hi
    obtain rfl : i = 0 := by have : (i : Int) < 1 := hi; omega
    have p := pxI_at (y := 0) h0 c k
    rw [show rpN m 0 0 = 0 by unfold rpN; omega] at p
    exact p.symm
  exact ⟨imIn_iff.2 ⟨ok, ⟨h0, c⟩, hy⟩, 0 + 1, ⟨⟨hy, by omega, by omega⟩, by simp⟩, ⟨⟨e.symm, i1⟩, e.symm, ⟨⟨⟨K 0, K 1⟩, K 2⟩, K 3⟩, K 4⟩, i2⟩
theorem rpi_step1 {m : Im} (ok : imOk m = true) {y x : Int} (hx : rpiGood m false y x) (c : ilt x m.w = true) : (ile (imulZ (addZ (rpN m y x) 1) 10) 140737488355328 = true ∧ imIn m x y = true) ∧ ∃ j, rpiGood m false y j ∧ ((addZ (rpN m y x) 1 = rpN m y j ∧ iadd .i64 x 1 = j) ∧ addZ (rpN m y x) 1 = rpN m y j ∧
    ((((∀ i : Nat, ilt (Int.ofNat i) (addZ (rpN m y x) 1) = true → isel (ilt (Int.ofNat i) (rpN m y x)) (pxI m (Int.ofNat i) 0) (isel (ieq (subZ (Int.ofNat i) (rpN m y x)) 0) (pxV m 0 x y) 0) = pxI m (Int.ofNat i) 0) ∧
      ∀ i : Nat, ilt (Int.ofNat i) (addZ (rpN m y x) 1) = true → isel (ilt (Int.ofNat i) (rpN m y x)) (pxI m (Int.ofNat i) 1) (isel (ieq (subZ (Int.ofNat i) (rpN m y x)) 0) (pxV m 1 x y) 0) = pxI m (Int.ofNat i) 1) ∧
      ∀ i : Nat, ilt (Int.ofNat i) (addZ (rpN m y x) 1) = true → isel (ilt (Int.ofNat i) (rpN m y x)) (pxI m (Int.ofNat i) 2) (isel (ieq (subZ (Int.ofNat i) (rpN m y x)) 0) (pxV m 2 x y) 0) = pxI m (Int.ofNat i) 2) ∧
      ∀ i : Nat, ilt (Int.ofNat i) (addZ (rpN m y x) 1) = true → isel (ilt (Int.ofNat i) (rpN m y x)) (pxI m (Int.ofNat i) 3) (isel (ieq (subZ (Int.ofNat i) (rpN m y x)) 0) (pxV m 3 x y) 0) = pxI m (Int.ofNat i) 3) ∧
      ∀ i : Nat, ilt (Int.ofNat i) (addZ (rpN m y x) 1) = true → isel (ilt (Int.ofNat i) (rpN m y x)) (pxI m (Int.ofNat i) 4) (isel (ieq (subZ (Int.ofNat i) (rpN m y x)) 0) (pxV m 4 x y) 0) = pxI m (Int.ofNat i) 4) ∧ (rpiMu m j).succ.le (rpiMu m x) := by
  have c := of_decide_eq_true c
  obtain ⟨⟨hy, h0, h1⟩, hz⟩ := hx
  obtain ⟨i1, i2⟩ := rpi_mu ok h0 c
  obtain ⟨n0, n1, n2⟩ := rpN_in ok hy ⟨h0, h1⟩
  have e : addZ (rpN m y x) 1 = rpN m y (x + 1) := rp_next.symm
  have K : ∀ (k i : Nat), ilt (Int.ofNat i) (addZ (rpN m y x) 1) = true → isel (ilt (Int.ofNat i) (rpN m y x)) (pxI m (Int.ofNat i) k) (isel (ieq (subZ (Int.ofNat i) (rpN m y x)) 0) (pxV m k x y) 0) = pxI m (Int.ofNat i) k := by
    intro k i hi
    have hi := of_decide_eq_true hi
    unfold addZ at hi
    cases q : ilt (Int.ofNat i) (rpN m y x)
    · have q := of_decide_eq_false q
      have ei : Int.ofNat i = rpN m y x := by omega
      have es : ieq (subZ (Int.ofNat i) (rpN m y x)) 0 = true := decide_eq_true (by unfold subZ; omega)
      rw [es, isel_t, isel_f, ei, pxI_at h0 c]
    · rw [isel_t]
  exact ⟨⟨ile_t (by unfold imulZ addZ; omega), imIn_iff.2 ⟨ok, ⟨h0, c⟩, hy⟩⟩, x + 1, ⟨⟨hy, by omega, by omega⟩, by simp; omega⟩, ⟨⟨e, i1⟩, e, ⟨⟨⟨K 0, K 1⟩, K 2⟩, K 3⟩, K 4⟩, i2⟩
theorem rpi_end0 {m : Im} (ok : imOk m = true) {y x : Int} (hx : rpiGood m true y x) (c : ilt x m.w = false) : ∃ j, rpoGood m true j ∧ iadd .i64 y 1 = j ∧ (rpoMu m j).succ.le (rpoMu m y) := by
  have c := of_decide_eq_false c
  have f4 := fit_iff.1 (ok_iff.1 ok).1
  have := (hx.2.1 rfl).2
  omega
theorem rpi_end1 {m : Im} (ok : imOk m = true) {y x : Int} (hx : rpiGood m false y x) (c : ilt x m.w = false) : ∃ j, rpoGood m false j ∧ ((rpN m y x = rpN m j 0 ∧ iadd .i64 y 1 = j) ∧ rpN m y x = rpN m j 0) ∧ (rpoMu m j).succ.le (rpoMu m y) := by
  have c := of_decide_eq_false c
  obtain ⟨⟨hy, h0, h1⟩, hz⟩ := hx
  obtain rfl : x = m.w := by omega
  obtain ⟨i1, i2⟩ := rpo_mu ok hy.1 hy.2
  exact ⟨y + 1, ⟨by omega, by simp; omega⟩, ⟨⟨rp_row.symm, i1⟩, rp_row.symm⟩, i2⟩
theorem a_rpxs : Answers2 29 s_impxs := by
  intro al ans hh hq
  unfold s_impxs at hh
  split at hh <;> try (simp at hh; done)
  rename_i l
  cases em : s_imOf l with
  | none => simp [em] at hh
  | some pm =>
  obtain ⟨m, Am⟩ := pm
  simp only [em] at hh
  simp only [Option.some.injEq] at hh
  subst hh
  refine does_args2 (al' := [.x (.agg (imC m))]) ⟨imOf_eq em fun p hp => hq p (by simp [hp]), trivial⟩ ?_
  have hq := asked hq
  refine QR.does_of_eval (O := o_riat) (QR.orc_cons a_rformd (QR.orc_cons a_rpx QR.orc_nil)) mixed ((fun n => bif Nat.beq n 5 then some (.invs [o_inv_rpo0 m, o_inv_rpo1 m]) else bif Nat.beq n 8 then some (.invF fun g => [o_inv_rpi0 m (g 4), o_inv_rpi1 m (g 4)]) else none)) Try.func29 (by kernel_rfl) (by kernel_rfl) (by simp) ?_
  rw [rpxs_vc]
  delta zz1 zz12 zz19 zz32
  have hG := hq.1
  have e : imN m = bif imOk m then m.w * m.h else 0 := rfl
  have z5 : Nat.blt 0 5 = true := rfl
  cases ok : imOk m
  · rw [ok] at e
    simp [okAns, eqXs, eqX, eqo, eqLo, eqL, eqc, veq, eqUs, bcond_iff, bnot, nilC, intRow_one, hG, ok, e, z5]
  rw [ok] at e
  obtain ⟨f, g⟩ := ok_iff.1 ok
  have w1 := fit_le f
  have f4 := fit_iff.1 f
  simp only [okAns, eqXs, eqX, eqo, eqLo, eqL, eqc, veq, eqUs, bcond_iff, bnot, nilC, intRow_one, hG, ok, z5, true_and, and_true, and_self, implies_true, true_implies, reduceCtorEq, false_implies, Bool.not_true, Bool.not_false, forall_eq, or_false, false_or, and_false, false_and, exists_false, exists_eq_right, exists_eq_right']
  refine ⟨⟨⟨Int.le_refl 0, by omega⟩, by simp⟩, fun y hy => ⟨fun c => ⟨?_, fun x hx => ⟨fun d => rpi_step0 ok hx d, fun d => rpi_end0 ok hx d⟩, fun x hx => ⟨fun d => rpi_step1 ok hx d, fun d => rpi_end1 ok hx d⟩⟩, fun c => ?_⟩, fun y hy => ⟨fun c => ⟨?_, fun x hx => ⟨fun d => rpi_step0 ok hx d, fun d => rpi_end0 ok hx d⟩, fun x hx => ⟨fun d => rpi_step1 ok hx d, fun d => rpi_end1 ok hx d⟩⟩, fun c => ?_⟩⟩
  · have c := of_decide_eq_true c
    exact ⟨⟨⟨hy.1.1, c⟩, Int.le_refl 0, by omega⟩, by simp [hy.2.1 rfl]⟩
  · have c := of_decide_eq_false c
    have := hy.2.1 rfl
    omega
  · have c := of_decide_eq_true c
    have z : ¬ y = 0 := fun k => by have := hy.2.2 k; simp at this
    exact ⟨0, ⟨⟨⟨hy.1.1, c⟩, Int.le_refl 0, by omega⟩, by simp [z]⟩, ⟨rfl, rfl⟩, rfl⟩
  · have c := of_decide_eq_false c
    have h1 := hy.1
    obtain rfl : y = m.h := by omega
    have e2 : imN m = rpN m m.h 0 := by rw [e]; unfold rpN; rw [Int.mul_comm, Int.add_zero]; rfl
    rw [e2]
    exact .slc fun i j _ _ => .v _
theorem pxSame_iff {n n' : Int} {q q' : Int → Nat → Int} : pxSame n n' q q' = true ↔ n = n' ∧ ∀ i k : Nat, (i : Int) < n → k < 5 → q i k = q' i k := by
  unfold pxSame
  rw [Bool.and_eq_true, decide_eq_true_eq, List.all_eq_true]
  refine and_congr_right fun _ => ⟨fun h i k hi hk => ?_, fun h i hi => List.all_eq_true.2 fun k hk => ?_⟩
  · exact beq_iff_eq.1 (List.all_eq_true.1 (h i (List.mem_range.2 (by omega))) k (List.mem_range.2 hk))
  · exact beq_iff_eq.2 (h i k (by have := List.mem_range.1 hi; omega) (List.mem_range.1 hk))
theorem px5 {f g : Nat → Int} : band (band (ieq (f 0) (g 0)) (band (ieq (f 1) (g 1)) (band (ieq (f 2) (g 2)) true))) (band (ieq (f 3) (g 3)) (band (ieq (f 4) (g 4)) true)) = true ↔ ∀ k : Nat, k < 5 → f k = g k := by
  have e : band (band (ieq (f 0) (g 0)) (band (ieq (f 1) (g 1)) (band (ieq (f 2) (g 2)) true))) (band (ieq (f 3) (g 3)) (band (ieq (f 4) (g 4)) true)) = true ↔ (f 0 = g 0 ∧ f 1 = g 1 ∧ f 2 = g 2) ∧ f 3 = g 3 ∧ f 4 = g 4 := by simp [band, ieq]
  rw [e]
  refine ⟨fun ⟨⟨a, b, c⟩, d, h⟩ k hk => ?_, fun h => ⟨⟨h 0 (by decide), h 1 (by decide), h 2 (by decide)⟩, h 3 (by decide), h 4 (by decide)⟩⟩
  match k, hk with
  | 0, _ => exact a
  | 1, _ => exact b
  | 2, _ => exact c
  | 3, _ => exact d
  | 4, _ => exact h
theorem a_rsp : Answers2 27 s_pxsame := by
  intro al ans hh hq
  unfold s_pxsame at hh
  split at hh <;> try (simp at hh; done)
  rename_i c d
  cases en : slcOf 5 c with
  | none => simp [en] at hh
  | some pn =>
  obtain ⟨n, rn⟩ := pn
  cases en2 : slcOf 5 d with
  | none => simp [en2] at hh
  | some pn2 =>
  obtain ⟨n2, rn2⟩ := pn2
  simp only [en, en2] at hh
  simp only [Option.some.injEq] at hh
  subst hh
  obtain ⟨q, hdn⟩ : ∃ q : Int → Nat → Int, q = fun i j => intC (den rn i j) := ⟨_, rfl⟩
  try rw [← hdn]
  obtain ⟨r, hdn2⟩ : ∃ r : Int → Nat → Int, r = fun i j => intC (den rn2 i j) := ⟨_, rfl⟩
  try rw [← hdn2]
  refine does_args2 (al' := [.x (.c (.slc 5 n (.fn fun i j => .v (.int .u16 (q i j))))), .x (.c (.slc 5 n2 (.fn fun i j => .v (.int .u16 (r i j)))))]) ⟨(hdn ▸ slcOf_ints en (by decide) (hq _ (by simp))), (hdn2 ▸ slcOf_ints en2 (by decide) (hq _ (by simp))), trivial⟩ ?_
  have hq := asked hq
  refine QR.does_of_eval (O := (QR.orc [])) QR.orc_nil mixed ((fun n_ => bif Nat.beq n_ 4 then some (.inv (o_inv_rsp n n2 q r)) else none)) Try.func27 (by kernel_rfl) (by kernel_rfl) (by simp) ?_
  rw [rsp_vc]
  delta zz16 zz80
  obtain ⟨_, _, hn, hn2, hb, _⟩ := hq
  simp only [okAns, eqXs, eqX, eqo, eqLo, eqL, eqc, veq, eqUs, bcond_iff, bnot, nilC, intRow_one, true_and, and_true, and_self, implies_true, true_implies, reduceCtorEq, false_implies, Bool.not_true, Bool.not_false, forall_eq, or_false, false_or, and_false, false_and, exists_false, exists_eq_right, exists_eq_right']
  have hn := ile_tt hn
  have hb := ile_tt hb
  have no : pxSame n n2 q r ≠ true → false = pxSame n n2 q r := fun h => (Bool.eq_false_iff.2 h).symm
  refine ⟨fun c => no fun k => ine_tt c (pxSame_iff.1 k).1, fun c => ?_⟩
  obtain rfl := ine_ff c
  refine ⟨⟨⟨Int.le_refl 0, hn⟩, fun p k hp _ => by omega⟩, fun i hi => ⟨fun c => ?_, fun c => ?_⟩⟩
  · have c' := of_decide_eq_true c
    have hi1 := hi.1
    have ei : ((i.toNat : Nat) : Int) = i := by omega
    refine ⟨⟨ile_t hi1.1, c, ile_t hi1.1, c⟩, fun d => no fun k => ?_, fun d => ?_⟩
    · have := px5.2 (fun k' hk' => (pxSame_iff.1 k).2 i.toNat k' (by omega) hk')
      rw [ei] at this
      rw [this] at d; simp at d
    · have d : band (band (ieq (q i 0) (r i 0)) (band (ieq (q i 1) (r i 1)) (band (ieq (q i 2) (r i 2)) true))) (band (ieq (q i 3) (r i 3)) (band (ieq (q i 4) (r i 4)) true)) = true := by simpa using d
      have d := px5.1 d
      have ia : iadd .i64 i 1 = i + 1 := IntWalk.i64_in _ (by omega)
      refine ⟨i + 1, ⟨by omega, fun p k hp hk => ?_⟩, ia, ?_⟩
      · by_cases e : (p : Int) = i
        · rw [e]; exact d k hk
        · exact hi.2 p k (by omega) hk
      · show rspMu n _ < rspMu n _
        unfold rspMu; omega
  · have c := of_decide_eq_false c
    exact (pxSame_iff.2 ⟨rfl, fun p k hp hk => hi.2 p k (by have := hi.1; omega) hk⟩).symm
theorem imN_le (m : Im) : 0 ≤ imN m ∧ imN m ≤ 16777216 := by
  unfold imN
  cases ok : imOk m
  · exact ⟨Int.le_refl 0, (show (0 : Int) ≤ 16777216 by decide)⟩
  · have f4 := fit_iff.1 (ok_iff.1 ok).1
    have := Int.mul_nonneg (show 0 ≤ m.w by omega) (show 0 ≤ m.h by omega)
    exact ⟨this, f4.2.2⟩
theorem a_rieq : Answers2 31 s_imeq := by
  intro al ans hh hq
  unfold s_imeq at hh
  split at hh <;> try (simp at hh; done)
  rename_i l k
  cases em : s_imOf l with
  | none => simp [em] at hh
  | some pm =>
  obtain ⟨m, Am⟩ := pm
  cases en : s_imOf k with
  | none => simp [en] at hh
  | some pn =>
  obtain ⟨n, An⟩ := pn
  simp only [em, en] at hh
  simp only [Option.some.injEq] at hh
  subst hh
  refine does_args2 (al' := [.x (.agg (imC m)), .x (.agg (imC n))]) ⟨imOf_eq em fun p hp => hq p (by simp [hp]), imOf_eq en fun p hp => hq p (by simp [hp]), trivial⟩ ?_
  have hq := asked hq
  refine QR.does_of_eval (O := o_rieq) (QR.orc_cons a_rformd (QR.orc_cons a_rpxs (QR.orc_cons a_rsp QR.orc_nil))) mixed (QR.noLoops) Try.func31 (by kernel_rfl) (by kernel_rfl) (by simp) ?_
  rw [rieq_vc]
  delta zz12 zz18
  obtain ⟨gm, gn, _⟩ := hq
  simp only [okAns, eqXs, eqX, eqo, eqLo, eqL, eqc, veq, eqUs, bcond_iff, bnot, nilC, intRow_one, true_and, and_true, and_self, implies_true, true_implies, reduceCtorEq, false_implies, Bool.not_true, Bool.not_false, forall_eq, or_false, false_or, and_false, false_and, exists_false, exists_eq_right, exists_eq_right', gm, gn, ir5]
  have b1 := imN_le m
  have b2 := imN_le n
  have b3 : imN m ≤ 1099511627776 := by omega
  have e : imEq m n = (imOk m && (imOk n && (decide (m.w = n.w) && (decide (m.h = n.h) && pxSame (imN m) (imN n) (fun i j => pxI m i j) (fun i j => pxI n i j))))) := rfl
  rw [e]
  cases imOk m <;> cases imOk n <;> by_cases h1 : m.w = n.w <;> by_cases h2 : m.h = n.h <;> simp [ieq, h1, h2, ile_t b1.1, ile_t b2.1, ile_t b3]
theorem a_risame : Answers2 22 s_imsame := by
  intro al ans hh hq
  unfold s_imsame at hh
  split at hh <;> try (simp at hh; done)
  rename_i l k
  cases em : s_imOf l with
  | none => simp [em] at hh
  | some pm =>
  obtain ⟨m, Am⟩ := pm
  cases en : s_imOf k with
  | none => simp [en] at hh
  | some pn =>
  obtain ⟨n, An⟩ := pn
  simp only [em, en] at hh
  simp only [Option.some.injEq] at hh
  subst hh
  refine does_args2 (al' := [.x (.agg (imC m)), .x (.agg (imC n))]) ⟨imOf_eq em fun p hp => hq p (by simp [hp]), imOf_eq en fun p hp => hq p (by simp [hp]), trivial⟩ ?_
  have hq := asked hq
  refine QR.does_of_eval (O := o_risame) (QR.orc_cons a_fpls QR.orc_nil) mixed ((fun n_ => bif Nat.beq n_ 2 then some (.rounds 6) else none)) Try.func22 (by kernel_rfl) (by kernel_rfl) (by simp) ?_
  rw [risame_vc]
  obtain ⟨gm, gn, gl, _⟩ := hq
  simp only [okAns, eqXs, eqX, eqo, eqLo, eqL, eqc, veq, eqUs, bcond_iff, bnot, nilC, intRow_one, true_and, and_true, and_self, implies_true, true_implies, reduceCtorEq, false_implies, Bool.not_true, Bool.not_false, forall_eq, or_false, false_or, and_false, false_and, exists_false, exists_eq_right, exists_eq_right', gm, gn]
  obtain ⟨_, _, ⟨w0, h0, s0, n0, _⟩, ⟨w1, h1, s1, n1, _⟩, ⟨w2, h2, s2, n2, _⟩, ⟨w3, h3, s3, n3, _⟩, w4, h4, s4, n4, _⟩ := gm
  obtain ⟨_, _, ⟨u0, v0, t0, k0, _⟩, ⟨u1, v1, t1, k1, _⟩, ⟨u2, v2, t2, k2, _⟩, ⟨u3, v3, t3, k3, _⟩, u4, v4, t4, k4, _⟩ := gn
  unfold imL plL at gl
  simp only [Bool.and_eq_true, decide_eq_true_eq] at gl
  obtain ⟨l0, l1, l2, l3, l4⟩ := gl
  have e : imSame m n = (plSame m.p0 n.p0 && (plSame m.p1 n.p1 && (plSame m.p2 n.p2 && (plSame m.p3 n.p3 && (plSame m.p4 n.p4 && (m.w == n.w && (m.h == n.h && (m.sol == n.sol && (m.c0 == n.c0 && (m.c1 == n.c1 && (m.c2 == n.c2 && (m.a == n.a && m.f == n.f)))))))))))) := rfl
  unfold plSame at e
  generalize spB m.p0.w m.p0.h m.p0.s m.p0.n _ _ _ _ _ _ = g0 at *
  generalize spB m.p1.w m.p1.h m.p1.s m.p1.n _ _ _ _ _ _ = g1 at *
  generalize spB m.p2.w m.p2.h m.p2.s m.p2.n _ _ _ _ _ _ = g2 at *
  generalize spB m.p3.w m.p3.h m.p3.s m.p3.n _ _ _ _ _ _ = g3 at *
  generalize spB m.p4.w m.p4.h m.p4.s m.p4.n _ _ _ _ _ _ = g4 at *
  rw [e]
  have bq : ∀ a b : Int, (a == b) = decide (a = b) := fun a b => by rw [Bool.eq_iff_iff, beq_iff_eq, decide_eq_true_eq]
  simp only [w0, h0, s0, n0, w1, h1, s1, n1, w2, h2, s2, n2, w3, h3, s3, n3, w4, h4, s4, n4, u0, v0, t0, k0, u1, v1, t1, k1, u2, v2, t2, k2, u3, v3, t3, k3, u4, v4, t4, k4, ile_t l0, ile_t l1, ile_t l2, ile_t l3, ile_t l4, true_and]
  cases g0 <;> simp
  cases g1 <;> simp
  cases g2 <;> simp
  cases g3 <;> simp
  cases g4 <;> simp
  by_cases q1 : m.w = n.w <;> by_cases q2 : m.h = n.h <;> cases q3 : m.sol <;> cases q4 : n.sol <;> simp [ieq, beq', band, q1, q2, bq, Bool.and_assoc]
theorem a_rio : Answers2 21 s_imof := by
  intro al ans hh hq
  unfold s_imof at hh
  split at hh <;> try (simp at hh; done)
  rename_i w h c
  cases en : slcOf 5 c with
  | none => simp [en] at hh
  | some pn =>
  obtain ⟨n, rn⟩ := pn
  simp only [en] at hh
  simp only [Option.some.injEq] at hh
  subst hh
  obtain ⟨q, hdn⟩ : ∃ q : Int → Nat → Int, q = fun i j => intC (den rn i j) := ⟨_, rfl⟩
  try rw [← hdn]
  refine does_args2 (al' := [.x (.c (.v (.int .i64 w))), .x (.c (.v (.int .i64 h))), .x (.c (.slc 5 n (.fn fun i j => .v (.int .u16 (q i j)))))]) ⟨.v _, .v _, (hdn ▸ slcOf_ints en (by decide) (hq _ (by simp))), trivial⟩ ?_
  have hq := asked hq
  refine QR.does_of_eval (O := o_rio) (QR.orc_cons a_ffits QR.orc_nil) mixed ((fun n_ => bif Nat.beq n_ 5 then some (.rounds 6) else bif Nat.beq n_ 9 then some (.inv (o_inv_rio w h n q)) else bif Nat.beq n_ 12 then some (.rounds 4) else none)) Try.func21 (by kernel_rfl) (by kernel_rfl) (by simp) ?_
  rw [rio_vc]
  delta zz0 zz7 zz16 zz80 zz84
  obtain ⟨_, iw, ih, hn, _⟩ := hq
  simp only [okAns, eqXs, eqX, eqo, eqLo, eqL, eqc, veq, eqUs, bcond_iff, bnot, nilC, intRow_one, true_and, and_true, and_self, implies_true, true_implies, reduceCtorEq, false_implies, Bool.not_true, Bool.not_false, forall_eq, or_false, false_or, and_false, false_and, exists_false, exists_eq_right, exists_eq_right', iw, ih]
  have z1 : Nat.blt 0 1 = true := rfl
  have no : imofOk w h n = false → eqLo [.v (.int .i64 0), .v (.int .i64 0), .v (.bool false), .v (.int .u16 0), .v (.int .u16 0), .v (.int .u16 0), .v (.int .u16 0), .v (.int .u16 0), .v (.int .i64 0), .v (.int .i64 0), .v (.int .i64 0), .v (.slice none 0 0), .v (.int .i64 0), .v (.int .i64 0), .v (.int .i64 0), .v (.slice none 0 0), .v (.int .i64 0), .v (.int .i64 0), .v (.int .i64 0), .v (.slice none 0 0), .v (.int .i64 0), .v (.int .i64 0), .v (.int .i64 0), .v (.slice none 0 0), .v (.int .i64 0), .v (.int .i64 0), .v (.int .i64 0), .v (.slice none 0 0)] (imC (imofV w h n q)) ∧ false = imofOk w h n := by
    intro k
    have : imofV w h n q = imZero := by unfold imofV; rw [k]; rfl
    rw [this, k]
    simp [imC, imZero, plZero, eqLo, eqo, eqc, veq, nilC, z1]
  refine ⟨fun c => no (decide_eq_false fun k => by rw [k.1] at c; simp at c), fun f => ?_⟩
  have f : fitB w h = true := by simpa using f
  have w1 := fit_le f
  have f4 := fit_iff.1 f
  have p0 := Int.mul_nonneg (show 0 ≤ w by omega) (show 0 ≤ h by omega)
  have em : imul .i64 w h = w * h := IntWalk.i64_in _ (by omega)
  rw [em]
  refine ⟨fun c => no (decide_eq_false fun k => ine_tt c k.2), fun c => ?_⟩
  obtain rfl := ine_ff c
  have ok : imofOk w h (w * h) = true := decide_eq_true ⟨f, rfl⟩
  have c1 : ile 0 (w * h) = true := ile_t p0
  have c2 : ile (w * h) (w * h) = true := ile_t (Int.le_refl _)
  have c3 : ile (imulZ (w * h) 2) 140737488355328 = true := ile_t (by unfold imulZ; omega)
  have c4 : ile (w * h) 140737488355328 = true := ile_t (by omega)
  have eN : w * h = rioN w h := rfl
  have V : ∀ (t : Int) (k : Nat) (i : Nat), 0 = rioV q 0 (Int.ofNat i) k := fun t k i => by
    unfold rioV; exact (if_neg (show ¬ ((i : Nat) : Int) < 0 by omega)).symm
  refine ⟨⟨c1, c2, c3, c4⟩, ⟨c1, c2, c3, c4⟩, ⟨c1, c2, c3, c4⟩, ⟨c1, c2, c3, c4⟩, ⟨c1, c2, c3, c4⟩, ⟨0, ⟨Int.le_refl 0, p0⟩, rfl, rfl, ⟨rfl, fun i _ => V 0 0 i⟩, ⟨rfl, fun i _ => V 0 1 i⟩, ⟨rfl, fun i _ => V 0 2 i⟩, ⟨rfl, fun i _ => V 0 3 i⟩, rfl, fun i _ => V 0 4 i⟩, fun i hi => ⟨fun d => ?_, fun d => ?_⟩⟩
  · have d' := of_decide_eq_true d
    have i0 := ile_t hi.1
    have d2 : ilt i (rioN w h) = true := d
    have ia : iadd .i64 i 1 = i + 1 := IntWalk.i64_in _ (by have := hi.1; omega)
    have K : ∀ k (t : Nat), isel (ieq (Int.ofNat t) i) (q i k) (rioV q i (Int.ofNat t) k) = rioV q (i + 1) (Int.ofNat t) k := fun k t => by
      unfold rioV
      cases e : ieq (Int.ofNat t) i
      · have e := ieq_ff e
        rw [isel_f]
        by_cases l : Int.ofNat t < i
        · rw [if_pos l, if_pos (by omega)]
        · rw [if_neg l, if_neg (by omega)]
      · have e := ieq_t2 e
        rw [isel_t, if_pos (by omega), e]
    refine ⟨⟨i0, d2, i0, d⟩, ⟨i0, d2, i0, d⟩, ⟨i0, d2, i0, d⟩, ⟨i0, d2, i0, d2, i0, d, i0, d⟩, i + 1, ⟨by have := hi.1; omega, by omega⟩, ⟨ia, fun t _ => K 0 t, fun t _ => K 1 t, fun t _ => K 2 t, fun t _ => K 3 t, fun t _ => K 4 t⟩, ?_⟩
    show rioMu _ _ < rioMu _ _
    unfold rioMu; omega
  · have d := of_decide_eq_false d
    have e : imofV w h (w * h) q = ⟨w, h, false, 0, 0, 0, 0, 0, plLaid w h (w * h) q 0, plLaid w h (w * h) q 1, plLaid w h (w * h) q 2, plLaid w h (w * h) q 3, plLaid w h (w * h) q 4⟩ := by unfold imofV; rw [ok]; rfl
    have K : ∀ k, EqC (.slc 1 (rioN w h) (.fn fun t _ => .v (.int .u16 (rioV q i t k)))) (.slc 1 (w * h) (.fn fun t _ => .v (.int .u16 (q t k)))) := fun k => by
      refine .slc fun t j ht hj => ?_
      have ht : (t : Int) < w * h := ht
      have : rioV q i t k = q t k := by unfold rioV; rw [if_pos (by have := hi.2; omega)]
      show EqC (.v (.int .u16 (rioV q i t k))) _
      rw [this]; exact .v _
    rw [e]
    refine ⟨?_, ok.symm⟩
    simp only [imC, plLaid, eqLo, eqo, eqc, veq, true_and, and_true, and_self]
    exact ⟨K 0, K 1, K 2, K 3, K 4⟩
end Go.Proofs.Ytcckcifmhhaepaa
