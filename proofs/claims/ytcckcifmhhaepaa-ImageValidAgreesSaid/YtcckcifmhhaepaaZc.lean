import Derived.Test.YtcckcifmhhaepaaZaa
import Derived.Test.YtcckcifmhhaepaaZb
import Derived.Test.YtcckcifmhhaepaaNc
import Derived.Test.YtcckcifmhhaepaaMc
namespace Go.Proofs.Ytcckcifmhhaepaa
open Go.RowKit PR QR
set_option linter.unusedVariables false
set_option linter.unusedSimpArgs false
set_option maxRecDepth 20000
theorem imC_sol {m : Im} {b : Bool} (h : m.sol = b) : imC m = imC ⟨m.w, m.h, b, m.c0, m.c1, m.c2, m.a, m.f, m.p0, m.p1, m.p2, m.p3, m.p4⟩ := by unfold imC; rw [h]
theorem plW_iff {m : Im} {p : Pl} : plW m p = true ↔ plB p.w p.h p.s p.n = true ∧ p.w = m.w ∧ p.h = m.h := by unfold plW; rw [decide_eq_true_eq]
theorem plZ_iff {p : Pl} : plZ p = true ↔ p.w = 0 ∧ p.h = 0 ∧ p.s = 0 ∧ p.n = 0 := by unfold plZ; rw [decide_eq_true_eq]
theorem ieq_t2 {a b : Int} (h : ieq a b = true) : a = b := of_decide_eq_true h
theorem ieq_ff {a b : Int} (h : ieq a b = false) : a ≠ b := of_decide_eq_false h
theorem ine_tt {a b : Int} (h : ine a b = true) : a ≠ b := by simpa [ine] using h
theorem ine_ff {a b : Int} (h : ine a b = false) : a = b := by simpa [ine] using h
theorem imF_no {m : Im} (hs : m.sol = false) {k : Nat} (hk : k < 5) (h : plW m (imPl m k) = false) : imF m = false := by
  unfold imF; rw [hs]
  match k, hk with
  | 0, _ => simp [show plW m m.p0 = false from h]
  | 1, _ => simp [show plW m m.p1 = false from h]
  | 2, _ => simp [show plW m m.p2 = false from h]
  | 3, _ => simp [show plW m m.p3 = false from h]
  | 4, _ => simp [show plW m m.p4 = false from h]
theorem imF_noS {m : Im} (hs : m.sol = true) {k : Nat} (hk : k < 5) (h : plZ (imPl m k) = false) : imF m = false := by
  unfold imF; rw [hs]
  match k, hk with
  | 0, _ => simp [show plZ m.p0 = false from h]
  | 1, _ => simp [show plZ m.p1 = false from h]
  | 2, _ => simp [show plZ m.p2 = false from h]
  | 3, _ => simp [show plZ m.p3 = false from h]
  | 4, _ => simp [show plZ m.p4 = false from h]
theorem imF_all {m : Im} (hs : m.sol = false) (h : ∀ k : Nat, k < 5 → plW m (imPl m k) = true) : imF m = colZ m := by
  unfold imF; rw [hs]
  simp [show plW m m.p0 = true from h 0 (by decide), show plW m m.p1 = true from h 1 (by decide), show plW m m.p2 = true from h 2 (by decide), show plW m m.p3 = true from h 3 (by decide), show plW m m.p4 = true from h 4 (by decide)]
theorem imF_allS {m : Im} (hs : m.sol = true) (h : ∀ k : Nat, k < 5 → plZ (imPl m k) = true) : imF m = true := by
  unfold imF; rw [hs]
  simp [show plZ m.p0 = true from h 0 (by decide), show plZ m.p1 = true from h 1 (by decide), show plZ m.p2 = true from h 2 (by decide), show plZ m.p3 = true from h 3 (by decide), show plZ m.p4 = true from h 4 (by decide)]
theorem rfo_step {m : Im} {b : Bool} {i : Int} (hi : rfoGood m b i) {k : Nat} (hk : k < 5) (e : i = k) (h : bif b then plZ (imPl m k) = true else plW m (imPl m k) = true) : ∃ j, rfoGood m b j ∧ iadd .i64 i 1 = j ∧ (rfoMu j).succ.le (rfoMu i) := by
  subst e
  have ia : iadd .i64 (k : Int) 1 = k + 1 := IntWalk.i64_in _ (by omega)
  refine ⟨_, ⟨by omega, fun q hq => ?_⟩, ia, ?_⟩
  · by_cases e : q = k
    · subst e; exact h
    · exact hi.2 q (by omega)
  · show rfoMu _ < rfoMu _
    unfold rfoMu; omega
theorem rfF_case {m : Im} (hs : m.sol = false) {i : Int} (hi : rfoGood m false i) (k : Nat) (hk : k < 5) (e : i = k) :
    ((!plB (imPl m k).w (imPl m k).h (imPl m k).s (imPl m k).n) = true → false = imF m) ∧ ((!plB (imPl m k).w (imPl m k).h (imPl m k).s (imPl m k).n) = false → (ine (imPl m k).w m.w = true → false = imF m) ∧ (ine (imPl m k).w m.w = false → (ine (imPl m k).h m.h = true → false = imF m) ∧ (ine (imPl m k).h m.h = false → ∃ j, rfoGood m false j ∧ iadd .i64 i 1 = j ∧ (rfoMu j).succ.le (rfoMu i)))) := by
  have no : plW m (imPl m k) ≠ true → false = imF m := fun h => (imF_no hs hk (Bool.eq_false_iff.2 h)).symm
  refine ⟨fun h => no fun w => ?_, fun h => ⟨fun h2 => no fun w => ine_tt h2 (plW_iff.1 w).2.1, fun h2 => ⟨fun h3 => no fun w => ine_tt h3 (plW_iff.1 w).2.2, fun h3 => rfo_step hi hk e (plW_iff.2 ⟨by simpa using h, ine_ff h2, ine_ff h3⟩)⟩⟩⟩
  rw [(plW_iff.1 w).1] at h; simp at h
theorem rfT_case {m : Im} (hs : m.sol = true) {i : Int} (hi : rfoGood m true i) (k : Nat) (hk : k < 5) (hn : ile 0 (imPl m k).n = true) (e : i = k) :
    (ine (imPl m k).w 0 = true → false = imF m) ∧ (ine (imPl m k).w 0 = false → (ine (imPl m k).h 0 = true → false = imF m) ∧ (ine (imPl m k).h 0 = false → (ine (imPl m k).s 0 = true → false = imF m) ∧ (ine (imPl m k).s 0 = false → ∀ t : Int, t = (imPl m k).n → (igt t 0 = true → false = imF m) ∧ (igt t 0 = false → ∃ j, rfoGood m true j ∧ iadd .i64 i 1 = j ∧ (rfoMu j).succ.le (rfoMu i))))) := by
  have no : plZ (imPl m k) ≠ true → false = imF m := fun h => (imF_noS hs hk (Bool.eq_false_iff.2 h)).symm
  have hn := ile_tt hn
  refine ⟨fun h => no fun w => ine_tt h (plZ_iff.1 w).1, fun h => ⟨fun h2 => no fun w => ine_tt h2 (plZ_iff.1 w).2.1, fun h2 => ⟨fun h3 => no fun w => ine_tt h3 (plZ_iff.1 w).2.2.1, fun h3 t ht => ⟨fun h4 => no fun w => ?_, fun h4 => rfo_step hi hk e (plZ_iff.2 ⟨ine_ff h, ine_ff h2, ine_ff h3, ?_⟩)⟩⟩⟩⟩
  · have := of_decide_eq_true h4
    have := (plZ_iff.1 w).2.2.2
    omega
  · have := of_decide_eq_false h4
    omega
theorem a_rformed : Answers2 47 s_imf := by
  intro al ans hh hq
  unfold s_imf at hh
  split at hh <;> try (simp at hh; done)
  rename_i l
  cases em : s_imOf l with
  | none => simp [em] at hh
  | some p =>
  obtain ⟨m, A⟩ := p
  simp only [em] at hh
  simp only [Option.some.injEq] at hh
  subst hh
  have hG : imG m := hq _ (by simp)
  refine does_args2 (al' := [.x (.agg (imC m))]) ⟨imOf_eq em fun p hp => hq p (by simp [hp]), trivial⟩ ?_
  obtain ⟨_, _, ⟨w0, h0, s0, n0, _⟩, ⟨w1, h1, s1, n1, _⟩, ⟨w2, h2, s2, n2, _⟩, ⟨w3, h3, s3, n3, _⟩, w4, h4, s4, n4, _⟩ := hG
  cases hs : m.sol
  · rw [imC_sol hs]
    refine QR.does_of_eval (O := o_fin) (QR.orc_cons a_fplv QR.orc_nil) mixed (fun n => bif Nat.beq n 2 then some (.inv (o_inv_rfF m)) else none) Try.func47 (by kernel_rfl) (by kernel_rfl) (by simp) ?_
    rw [rfF_vc]
    delta zz4 zz34 zz61 zz62 zz63 zz64 zz70 zz100 zz110
    simp only [okAns, eqXs, eqX, eqo, eqLo, eqL, eqc, veq, eqUs, bcond_iff, bnot, intRow_one, w0, h0, s0, n0, w1, h1, s1, n1, w2, h2, s2, n2, w3, h3, s3, n3, w4, h4, s4, n4, true_and, and_true, implies_true, true_implies, reduceCtorEq, false_implies, and_self, Bool.not_true, Bool.false_eq_true, Bool.not_false]
    refine ⟨⟨0, ⟨by omega, fun k hk => by omega⟩, rfl⟩, fun i hi => ⟨fun c => ⟨fun e => rfF_case hs hi 0 (by decide) (ieq_t2 e), fun e0 => ⟨fun e => rfF_case hs hi 1 (by decide) (ieq_t2 e), fun e1 => ⟨fun e => rfF_case hs hi 2 (by decide) (ieq_t2 e), fun e2 => ⟨fun e => rfF_case hs hi 3 (by decide) (ieq_t2 e), fun e3 => ⟨fun e => rfF_case hs hi 4 (by decide) (ieq_t2 e), fun e4 => ?_⟩⟩⟩⟩⟩, fun c => ?_⟩⟩
    · have := ieq_ff e0; have := ieq_ff e1; have := ieq_ff e2; have := ieq_ff e3; have := ieq_ff e4
      have := hi.1; have := of_decide_eq_true c
      omega
    · have := of_decide_eq_false c
      rw [imF_all hs fun k hk => hi.2 k (by omega)]
      unfold colZ ieq
      rw [Bool.eq_iff_iff]
      simp [band, and_assoc]
  · rw [imC_sol hs]
    refine QR.does_of_eval (O := o_fin) (QR.orc_cons a_fplv QR.orc_nil) mixed (fun n => bif Nat.beq n 2 then some (.inv (o_inv_rfT m)) else none) Try.func47 (by kernel_rfl) (by kernel_rfl) (by simp) ?_
    rw [rfT_vc]
    delta zz5 zz34 zz61 zz62 zz63 zz64 zz70 zz101 zz111
    simp only [okAns, eqXs, eqX, eqo, eqLo, eqL, eqc, veq, eqUs, bcond_iff, bnot, intRow_one, w0, h0, s0, n0, w1, h1, s1, n1, w2, h2, s2, n2, w3, h3, s3, n3, w4, h4, s4, n4, true_and, and_true, implies_true, true_implies, reduceCtorEq, false_implies, and_self, Bool.not_true, Bool.false_eq_true, Bool.not_false]
    refine ⟨⟨0, ⟨by omega, fun k hk => by omega⟩, rfl⟩, fun i hi => ⟨fun c => ⟨fun e => rfT_case hs hi 0 (by decide) n0 (ieq_t2 e), fun e0 => ⟨fun e => rfT_case hs hi 1 (by decide) n1 (ieq_t2 e), fun e1 => ⟨fun e => rfT_case hs hi 2 (by decide) n2 (ieq_t2 e), fun e2 => ⟨fun e => rfT_case hs hi 3 (by decide) n3 (ieq_t2 e), fun e3 => ⟨fun e => rfT_case hs hi 4 (by decide) n4 (ieq_t2 e), fun e4 => ?_⟩⟩⟩⟩⟩, fun c => ?_⟩⟩
    · have := ieq_ff e0; have := ieq_ff e1; have := ieq_ff e2; have := ieq_ff e3; have := ieq_ff e4
      have := hi.1; have := of_decide_eq_true c
      omega
    · have := of_decide_eq_false c
      exact (imF_allS hs fun k hk => hi.2 k (by omega)).symm
theorem im_at {m : Im} {x y : Int} (h : imIn m x y = true) (hs : m.sol = false) {k : Nat} (hk : k < 5) : inB (imPl m k).w (imPl m k).h (imPl m k).s (imPl m k).n x y = true := by
  have h := of_decide_eq_true h
  obtain ⟨h1, h2, h3, h4⟩ := h
  have w : plW m (imPl m k) = true := by
    rw [← Bool.not_eq_false]
    intro c
    rw [imF_no hs hk c] at h2; simp at h2
  obtain ⟨w1, w2, w3⟩ := plW_iff.1 w
  exact in_iff.2 ⟨w1, by rw [w2]; exact h3, by rw [w3]; exact h4⟩
theorem im_ix {m : Im} {x y : Int} (h : imIn m x y = true) (hs : m.sol = false) {k : Nat} (hk : k < 5) :
    iadd .i64 (imul .i64 y (imPl m k).s) x = patI (imPl m k).s x y ∧ ile 0 (patI (imPl m k).s x y) = true ∧ ilt (patI (imPl m k).s x y) (imPl m k).n = true := by
  have h' := im_at h hs hk
  obtain ⟨p1, p2, p3, p4, p5, p6⟩ := at_lt h'
  have f' := (in_iff.1 h').2
  obtain ⟨e1, e2, _⟩ := at_in (s := (imPl m k).s) (x := x) (y := y) (by omega) p3 p6 p4 (by omega) p5
  exact ⟨by rw [e1, e2], ile_t p1, ilt_t p2⟩
theorem a_rpx : Answers2 49 s_impx := by
  intro al ans hh hq
  unfold s_impx at hh
  split at hh <;> try (simp at hh; done)
  rename_i l x y
  cases em : s_imOf l with
  | none => simp [em] at hh
  | some pm =>
  obtain ⟨m, Am⟩ := pm
  simp only [em] at hh
  simp only [Option.some.injEq] at hh
  subst hh
  refine does_args2 (al' := [.x (.agg (imC m)), .x (.c (.v (.int .i64 x))), .x (.c (.v (.int .i64 y)))]) ⟨imOf_eq em fun p hp => hq p (by simp [hp]), .v _, .v _, trivial⟩ ?_
  have hq := asked hq
  refine QR.does_of_eval (O := (QR.orc [])) QR.orc_nil mixed ((fun n => bif Nat.beq n 5 then some (.rounds 6) else none)) Try.func49 (by kernel_rfl) (by kernel_rfl) (by simp) ?_
  rw [rpx_vc]
  delta zz140
  obtain ⟨hi, hG, _⟩ := hq
  have pv : ∀ k, pxV m k x y = bif m.sol then imCol m k else (imPl m k).l (patI (imPl m k).s x y) := fun _ => rfl
  cases hs : m.sol
  · obtain ⟨a0, b0, c0⟩ := im_ix hi hs (k := 0) (by decide)
    obtain ⟨a1, b1, c1⟩ := im_ix hi hs (k := 1) (by decide)
    obtain ⟨a2, b2, c2⟩ := im_ix hi hs (k := 2) (by decide)
    obtain ⟨a3, b3, c3⟩ := im_ix hi hs (k := 3) (by decide)
    obtain ⟨a4, b4, c4⟩ := im_ix hi hs (k := 4) (by decide)
    simp only [imPl] at a0 b0 c0 a1 b1 c1 a2 b2 c2 a3 b3 c3 a4 b4 c4
    simp [okAns, eqXs, eqX, eqo, eqLo, eqL, eqc, veq, eqUs, bcond_iff, hs, pv, imPl, a0, b0, c0, a1, b1, c1, a2, b2, c2, a3, b3, c3, a4, b4, c4]
  · simp [okAns, eqXs, eqX, eqo, eqLo, eqL, eqc, veq, eqUs, bcond_iff, hs, pv, imCol]
theorem a_risol : Answers2 24 s_isol := by
  intro al ans h hq
  unfold s_isol at h
  split at h <;> try (simp at h; done)
  rename_i w h c0 c1 c2 a f
  simp only [Option.some.injEq] at h
  subst h
  have hq := asked hq
  refine QR.does_of_eval (O := (QR.orc [])) QR.orc_nil mixed (QR.noLoops) Try.func24 (by kernel_rfl) (by kernel_rfl) (by simp) ?_
  rw [risol_vc]
  delta zz98
  have z : Nat.blt 0 1 = true := rfl
  simp [okAns, eqXs, eqX, eqo, eqLo, eqL, eqc, veq, eqUs, imC, imSol, plZero, nilC, z]
theorem ok_iff {m : Im} : imOk m = true ↔ fitB m.w m.h = true ∧ imF m = true := by unfold imOk; rw [Bool.and_eq_true]
theorem imIn_iff {m : Im} {x y : Int} : imIn m x y = true ↔ imOk m = true ∧ (0 ≤ x ∧ x < m.w) ∧ 0 ≤ y ∧ y < m.h := by unfold imIn; rw [decide_eq_true_eq, ok_iff]; exact ⟨fun ⟨a, b, c⟩ => ⟨⟨a, b⟩, c⟩, fun ⟨⟨a, b⟩, c⟩ => ⟨a, b, c⟩⟩
theorem imAll_iff {m : Im} {t : Int} (f : fitB m.w m.h = true) : imAll m t = true ↔ ∀ x y : Int, 0 ≤ x → x < m.w → 0 ≤ y → y < m.h → pxB m t x y = true := by
  have f4 := fit_iff.1 f
  unfold imAll
  rw [List.all_eq_true]
  refine ⟨fun h x y x0 x1 y0 y1 => ?_, fun h y hy => List.all_eq_true.2 fun x hx => ?_⟩
  · have := List.all_eq_true.1 (h y.toNat (List.mem_range.2 (by omega))) x.toNat (List.mem_range.2 (by omega))
    rw [show ((x.toNat : Nat) : Int) = x by omega, show ((y.toNat : Nat) : Int) = y by omega] at this
    exact this
  · have := List.mem_range.1 hy
    have := List.mem_range.1 hx
    exact h x y (by omega) (by omega) (by omega) (by omega)
theorem imAll_sol {m : Im} {t : Int} (f : fitB m.w m.h = true) (hs : m.sol = true) : imAll m t = pvB m.c0 m.c1 m.c2 m.a m.f t := by
  have pb : ∀ x y, pxB m t x y = pvB m.c0 m.c1 m.c2 m.a m.f t := fun x y => by unfold pxB pxV; rw [hs]; rfl
  have f4 := fit_iff.1 f
  rw [Bool.eq_iff_iff, imAll_iff f]
  exact ⟨fun h => by rw [← pb 0 0]; exact h 0 0 (by omega) (by omega) (by omega) (by omega), fun h x y _ _ _ _ => by rw [pb]; exact h⟩
theorem a_rval : Answers2 18 s_ime := by
  intro al ans hh hq
  unfold s_ime at hh
  split at hh <;> try (simp at hh; done)
  rename_i l t
  cases em : s_imOf l with
  | none => simp [em] at hh
  | some pm =>
  obtain ⟨m, Am⟩ := pm
  simp only [em] at hh
  simp only [Option.some.injEq] at hh
  subst hh
  refine does_args2 (al' := [.x (.agg (imC m)), .x (.c (.v (.int .u16 t)))]) ⟨imOf_eq em fun p hp => hq p (by simp [hp]), .v _, trivial⟩ ?_
  have hq := asked hq
  refine QR.does_of_eval (O := o_rval) (QR.orc_cons a_ffits (QR.orc_cons a_rformed (QR.orc_cons a_rpvalid2 (QR.orc_cons a_rpx QR.orc_nil)))) mixed ((fun n => bif Nat.beq n 10 then some (.inv (o_inv_rvo m t)) else bif Nat.beq n 13 then some (.invF fun g => [o_inv_rvi m t (g 5)]) else none)) Try.func18 (by kernel_rfl) (by kernel_rfl) (by simp) ?_
  rw [rval_vc]
  delta zz1 zz12 zz112
  have hG := hq.1
  obtain ⟨⟨iw, ih⟩, _⟩ := hq.1
  have e : imE m t = bif fitB m.w m.h then (bif imF m then (bif imAll m t then 0 else 8) else 7) else 6 := rfl
  generalize imE m t = b at *
  cases f : fitB m.w m.h
  · rw [f] at e
    simp [okAns, eqXs, eqX, eqo, eqLo, eqL, eqc, veq, eqUs, bcond_iff, bnot, intRow_one, hG, iw, ih, f, e]
  cases g : imF m
  · rw [f, g] at e
    simp [okAns, eqXs, eqX, eqo, eqLo, eqL, eqc, veq, eqUs, bcond_iff, bnot, intRow_one, hG, iw, ih, f, g, e]
  rw [f, g] at e
  have f4 := fit_iff.1 f
  cases hs : m.sol
  · simp only [okAns, eqXs, eqX, eqo, eqLo, eqL, eqc, veq, eqUs, bcond_iff, bnot, intRow_one, hG, iw, ih, f, g, hs, true_and, and_true, and_self, implies_true, true_implies, reduceCtorEq, false_implies, Bool.not_true, Bool.not_false, forall_eq, or_false, exists_eq_right, exists_eq_right']
    have w1 := fit_le f
    have e : b = bif imAll m t then 0 else 8 := e
    have yes : imAll m t = true → 0 = b := fun k => by rw [e, k]; rfl
    have no : imAll m t ≠ true → 8 = b := fun k => by rw [e, Bool.eq_false_iff.2 k]; rfl
    refine ⟨⟨⟨Int.le_refl 0, by omega⟩, fun a b' _ _ _ _ => by omega⟩, fun y hy => ⟨fun c1 => ⟨⟨⟨⟨hy.1.1, of_decide_eq_true c1⟩, Int.le_refl 0, by omega⟩, hy.2, fun a _ _ => by omega⟩, fun x hx => ⟨fun c2 => ⟨?_, fun c3 => ?_, fun c3 => ?_⟩, fun c2 => ?_⟩⟩, fun c1 => ?_⟩⟩
    · have := of_decide_eq_true c2
      exact imIn_iff.2 ⟨ok_iff.2 ⟨f, g⟩, ⟨hx.1.2.1, this⟩, hx.1.1⟩
    · have c2 := of_decide_eq_true c2
      refine no fun k => ?_
      have k : pvB _ _ _ _ _ _ = true := (imAll_iff f).1 k x y hx.1.2.1 c2 hx.1.1.1 hx.1.1.2
      rw [k] at c3; simp at c3
    · have c2 := of_decide_eq_true c2
      have hx1 := hx.1
      have ia : iadd .i64 x 1 = x + 1 := IntWalk.i64_in _ (by omega)
      refine ⟨x + 1, ⟨⟨hx1.1, by omega, by omega⟩, hx.2.1, fun a a0 a1 => ?_⟩, ia, ?_⟩
      · by_cases ea : a = x
        · subst ea; exact by simpa [pxB] using c3
        · exact hx.2.2 a a0 (by omega)
      · show rviMu m _ < rviMu m _
        unfold rviMu; omega
    · have c2 := of_decide_eq_false c2
      have hx1 := hx.1
      have ia : iadd .i64 y 1 = y + 1 := IntWalk.i64_in _ (by omega)
      refine ⟨y + 1, ⟨by omega, fun a b' a0 a1 b0 b1 => ?_⟩, ia, ?_⟩
      · by_cases eb : b' = y
        · subst eb; exact hx.2.2 a a0 (by omega)
        · exact hx.2.1 a b' a0 a1 b0 (by omega)
      · show rvoMu m _ < rvoMu m _
        unfold rvoMu; omega
    · have c1 := of_decide_eq_false c1
      exact yes ((imAll_iff f).2 fun a b' a0 a1 b0 b1 => hy.2 a b' a0 a1 b0 (by have := hy.1; omega))
  · have : imAll m t = pvB m.c0 m.c1 m.c2 m.a m.f t := imAll_sol f hs
    rw [this] at e
    cases k : pvB m.c0 m.c1 m.c2 m.a m.f t <;> rw [k] at e <;> simp [okAns, eqXs, eqX, eqo, eqLo, eqL, eqc, veq, eqUs, bcond_iff, bnot, intRow_one, hG, iw, ih, f, g, hs, e, k]
theorem pxSame_iff {n n' : Int} {q q' : Int → Nat → Int} : pxSame n n' q q' = true ↔ n = n' ∧ ∀ i k : Nat, (i : Int) < n → k < 5 → q i k = q' i k := by
  unfold pxSame
  rw [Bool.and_eq_true, decide_eq_true_eq, List.all_eq_true]
  refine and_congr_right fun _ => ⟨fun h i k hi hk => ?_, fun h i hi => List.all_eq_true.2 fun k hk => ?_⟩
  · exact beq_iff_eq.1 (List.all_eq_true.1 (h i (List.mem_range.2 (by omega))) k (List.mem_range.2 hk))
  · exact beq_iff_eq.2 (h i k (by have := List.mem_range.1 hi; omega) (List.mem_range.1 hk))
theorem a_rio : Answers2 21 s_imof := by
  intro al ans hh hq
  unfold s_imof at hh
  split at hh <;> try (simp at hh; done)
  rename_i w h c
  cases en : slcOf 5 c with
  | none => simp [en] at hh
  | some pn =>
  obtain ⟨n, rn⟩ := pn
  simp only [en] at hh
  simp only [Option.some.injEq] at hh
  subst hh
  obtain ⟨q, hdn⟩ : ∃ q : Int → Nat → Int, q = fun i j => intC (den rn i j) := ⟨_, rfl⟩
  try rw [← hdn]
  refine does_args2 (al' := [.x (.c (.v (.int .i64 w))), .x (.c (.v (.int .i64 h))), .x (.c (.slc 5 n (.fn fun i j => .v (.int .u16 (q i j)))))]) ⟨.v _, .v _, (hdn ▸ slcOf_ints en (by decide) (hq _ (by simp))), trivial⟩ ?_
  have hq := asked hq
  refine QR.does_of_eval (O := o_rio) (QR.orc_cons a_ffits QR.orc_nil) mixed ((fun n_ => bif Nat.beq n_ 5 then some (.rounds 6) else bif Nat.beq n_ 9 then some (.inv (o_inv_rio w h n q)) else bif Nat.beq n_ 12 then some (.rounds 4) else none)) Try.func21 (by kernel_rfl) (by kernel_rfl) (by simp) ?_
  rw [rio_vc]
  delta zz0 zz7 zz16 zz80 zz84
  obtain ⟨_, iw, ih, hn, _⟩ := hq
  simp only [okAns, eqXs, eqX, eqo, eqLo, eqL, eqc, veq, eqUs, bcond_iff, bnot, nilC, intRow_one, true_and, and_true, and_self, implies_true, true_implies, reduceCtorEq, false_implies, Bool.not_true, Bool.not_false, forall_eq, or_false, false_or, and_false, false_and, exists_false, exists_eq_right, exists_eq_right', iw, ih]
  have z1 : Nat.blt 0 1 = true := rfl
  have no : imofOk w h n = false → eqLo [.v (.int .i64 0), .v (.int .i64 0), .v (.bool false), .v (.int .u16 0), .v (.int .u16 0), .v (.int .u16 0), .v (.int .u16 0), .v (.int .u16 0), .v (.int .i64 0), .v (.int .i64 0), .v (.int .i64 0), .v (.slice none 0 0), .v (.int .i64 0), .v (.int .i64 0), .v (.int .i64 0), .v (.slice none 0 0), .v (.int .i64 0), .v (.int .i64 0), .v (.int .i64 0), .v (.slice none 0 0), .v (.int .i64 0), .v (.int .i64 0), .v (.int .i64 0), .v (.slice none 0 0), .v (.int .i64 0), .v (.int .i64 0), .v (.int .i64 0), .v (.slice none 0 0)] (imC (imofV w h n q)) ∧ false = imofOk w h n := by
    intro k
    have : imofV w h n q = imZero := by unfold imofV; rw [k]; rfl
    rw [this, k]
    simp [imC, imZero, plZero, eqLo, eqo, eqc, veq, nilC, z1]
  refine ⟨fun c => no (decide_eq_false fun k => by rw [k.1] at c; simp at c), fun f => ?_⟩
  have f : fitB w h = true := by simpa using f
  have w1 := fit_le f
  have f4 := fit_iff.1 f
  have p0 := Int.mul_nonneg (show 0 ≤ w by omega) (show 0 ≤ h by omega)
  have em : imul .i64 w h = w * h := IntWalk.i64_in _ (by omega)
  rw [em]
  refine ⟨fun c => no (decide_eq_false fun k => ine_tt c k.2), fun c => ?_⟩
  obtain rfl := ine_ff c
  have ok : imofOk w h (w * h) = true := decide_eq_true ⟨f, rfl⟩
  have c1 : ile 0 (w * h) = true := ile_t p0
  have c2 : ile (w * h) (w * h) = true := ile_t (Int.le_refl _)
  have c3 : ile (imulZ (w * h) 2) 140737488355328 = true := ile_t (by unfold imulZ; omega)
  have c4 : ile (w * h) 140737488355328 = true := ile_t (by omega)
  have eN : w * h = rioN w h := rfl
  have V : ∀ (t : Int) (k : Nat) (i : Nat), 0 = rioV q 0 (Int.ofNat i) k := fun t k i => by
    unfold rioV; exact (if_neg (show ¬ ((i : Nat) : Int) < 0 by omega)).symm
  refine ⟨⟨c1, c2, c3, c4⟩, ⟨c1, c2, c3, c4⟩, ⟨c1, c2, c3, c4⟩, ⟨c1, c2, c3, c4⟩, ⟨c1, c2, c3, c4⟩, ⟨0, ⟨Int.le_refl 0, p0⟩, rfl, rfl, ⟨rfl, fun i _ => V 0 0 i⟩, ⟨rfl, fun i _ => V 0 1 i⟩, ⟨rfl, fun i _ => V 0 2 i⟩, ⟨rfl, fun i _ => V 0 3 i⟩, rfl, fun i _ => V 0 4 i⟩, fun i hi => ⟨fun d => ?_, fun d => ?_⟩⟩
  · have d' := of_decide_eq_true d
    have i0 := ile_t hi.1
    have d2 : ilt i (rioN w h) = true := d
    have ia : iadd .i64 i 1 = i + 1 := IntWalk.i64_in _ (by have := hi.1; omega)
    have K : ∀ k (t : Nat), isel (ieq (Int.ofNat t) i) (q i k) (rioV q i (Int.ofNat t) k) = rioV q (i + 1) (Int.ofNat t) k := fun k t => by
      unfold rioV
      cases e : ieq (Int.ofNat t) i
      · have e := ieq_ff e
        rw [isel_f]
        by_cases l : Int.ofNat t < i
        · rw [if_pos l, if_pos (by omega)]
        · rw [if_neg l, if_neg (by omega)]
      · have e := ieq_t2 e
        rw [isel_t, if_pos (by omega), e]
    refine ⟨⟨i0, d2, i0, d⟩, ⟨i0, d2, i0, d⟩, ⟨i0, d2, i0, d⟩, ⟨i0, d2, i0, d2, i0, d, i0, d⟩, i + 1, ⟨by have := hi.1; omega, by omega⟩, ⟨ia, fun t _ => K 0 t, fun t _ => K 1 t, fun t _ => K 2 t, fun t _ => K 3 t, fun t _ => K 4 t⟩, ?_⟩
    show rioMu _ _ < rioMu _ _
    unfold rioMu; omega
  · have d := of_decide_eq_false d
    have e : imofV w h (w * h) q = ⟨w, h, false, 0, 0, 0, 0, 0, plLaid w h (w * h) q 0, plLaid w h (w * h) q 1, plLaid w h (w * h) q 2, plLaid w h (w * h) q 3, plLaid w h (w * h) q 4⟩ := by unfold imofV; rw [ok]; rfl
    have K : ∀ k, EqC (.slc 1 (rioN w h) (.fn fun t _ => .v (.int .u16 (rioV q i t k)))) (.slc 1 (w * h) (.fn fun t _ => .v (.int .u16 (q t k)))) := fun k => by
      refine .slc fun t j ht hj => ?_
      have ht : (t : Int) < w * h := ht
      have : rioV q i t k = q t k := by unfold rioV; rw [if_pos (by have := hi.2; omega)]
      show EqC (.v (.int .u16 (rioV q i t k))) _
      rw [this]; exact .v _
    rw [e]
    refine ⟨?_, ok.symm⟩
    simp only [imC, plLaid, eqLo, eqo, eqc, veq, true_and, and_true, and_self]
    exact ⟨K 0, K 1, K 2, K 3, K 4⟩
end Go.Proofs.Ytcckcifmhhaepaa
