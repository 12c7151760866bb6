/-
  Layer 13 (rect): what each call answers.
-/
import Derived.Test.YthkndeafhjhdiaaMb
namespace Go.Proofs.Ythkndeafhjhdiaa
open Go.RowKit PR QR
set_option linter.unusedVariables false
set_option linter.unusedSimpArgs false
set_option maxRecDepth 20000

theorem valid_leaf (a b c d : Int) : rvB a b c d = true ↔ F30 a ∧ F30 b ∧ F30 c ∧ F30 d := by unfold rvB F30; rw [decide_eq_true_eq]
theorem re_split (a b c d : Int) : reB a b c d = (bnot (rvB a b c d) || ige a c || ige b d) := by
  rw [Bool.eq_iff_iff]
  unfold reB rvB bnot ige
  simp only [Bool.or_eq_true, Bool.not_eq_true', decide_eq_true_eq, decide_eq_false_iff_not]
  omega
theorem a_rnear : Answers2 31 s_rnear := by
  intro al ans h hq
  unfold s_rnear at h
  split at h <;> try (simp at h; done)
  rename_i a
  simp only [Option.some.injEq] at h
  subst h
  have hq := asked hq
  refine QR.does_of_eval (O := (QR.orc [])) QR.orc_nil mixed (QR.noLoops) Try.func31 (by kernel_rfl) (by kernel_rfl) (by simp) ?_
  rw [rnear_vc]
  unfold nearB
  simp only [bcond_iff, okAns, eqXs, eqX, eqo, eqLo, eqc, veq, eqUs, ile, decide_eq_true_eq, decide_eq_false_iff_not, true_and, and_true, forall_eq]
  repeat' (first | intro _ | constructor)
  all_goals first | (exact (decide_eq_false (by omega)).symm) | (exact (decide_eq_true (by omega)).symm) | (rw [eq_comm, Bool.eq_iff_iff, decide_eq_true_eq, decide_eq_true_eq]; omega)
theorem a_rfits : Answers2 33 s_rfits := by
  intro al ans h hq
  unfold s_rfits at h
  split at h <;> try (simp at h; done)
  rename_i a b d
  simp only [Option.some.injEq] at h
  subst h
  have hq := asked hq
  refine QR.does_of_eval (O := (QR.orc [])) QR.orc_nil mixed (QR.noLoops) Try.func33 (by kernel_rfl) (by kernel_rfl) (by simp) ?_
  rw [rfits_vc]
  unfold fitB
  cases h1 : ile (isub .i64 (-1073741824) a) d <;> simp [bcond_iff, okAns, eqXs, eqX, eqo, eqLo, eqc, veq, eqUs, band, h1]
theorem rv_near (a b c d : Int) : rvB a b c d = (nearB a && (nearB b && (nearB c && nearB d))) := by
  rw [Bool.eq_iff_iff]
  unfold rvB nearB
  simp only [Bool.and_eq_true, decide_eq_true_eq]
theorem a_rvalid : Answers2 12 s_rvalid := by
  intro al ans h hq
  unfold s_rvalid at h
  split at h <;> try (simp at h; done)
  rename_i a b c d
  simp only [Option.some.injEq] at h
  subst h
  have hq := asked hq
  refine QR.does_of_eval (O := o_rval) (QR.orc_cons a_rnear QR.orc_nil) mixed (QR.noLoops) Try.func12 (by kernel_rfl) (by kernel_rfl) (by simp) ?_
  rw [rectval_vc]
  have e := rv_near a b c d
  cases h1 : nearB a <;> cases h2 : nearB b <;> cases h3 : nearB c <;> simp [bcond_iff, okAns, eqXs, eqX, eqo, eqLo, eqc, veq, eqUs, h1, h2, h3, e]
theorem a_fvalid : Answers2 13 s_rvalid := by
  intro al ans h hq
  unfold s_rvalid at h
  split at h <;> try (simp at h; done)
  rename_i a b c d
  simp only [Option.some.injEq] at h
  subst h
  have hq := asked hq
  refine QR.does_of_eval (O := (QR.orc [])) QR.orc_nil mixed (QR.noLoops) Try.func13 (by kernel_rfl) (by kernel_rfl) (by simp) ?_
  rw [fvalid_vc]
  unfold rvB
  simp only [bcond_iff, okAns, eqXs, eqX, eqo, eqLo, eqc, veq, eqUs, ilt, igt, ile, ige, decide_eq_true_eq, decide_eq_false_iff_not, true_and, and_true, forall_eq]
  repeat' (first | intro _ | constructor)
  all_goals first | (exact (decide_eq_false (by omega)).symm) | (exact (decide_eq_true (by omega)).symm) | (rw [eq_comm, Bool.eq_iff_iff, decide_eq_true_eq, decide_eq_true_eq]; omega)
theorem a_rempty : Answers2 14 s_rempty := by
  intro al ans h hq
  unfold s_rempty at h
  split at h <;> try (simp at h; done)
  rename_i a b c d
  simp only [Option.some.injEq] at h
  subst h
  have hq := asked hq
  refine QR.does_of_eval (O := o_remp) (QR.orc_cons a_rvalid QR.orc_nil) mixed (QR.noLoops) Try.func14 (by kernel_rfl) (by kernel_rfl) (by simp) ?_
  rw [rempty_vc]
  have e := re_split a b c d
  cases h1 : bnot (rvB a b c d) <;> cases h2 : ige a c <;> simp [bcond_iff, okAns, eqXs, eqX, eqo, eqLo, eqc, veq, eqUs, h1, h2, e]
theorem a_fempty : Answers2 15 s_rempty := by
  intro al ans h hq
  unfold s_rempty at h
  split at h <;> try (simp at h; done)
  rename_i a b c d
  simp only [Option.some.injEq] at h
  subst h
  have hq := asked hq
  refine QR.does_of_eval (O := o_fre) (QR.orc_cons a_fvalid QR.orc_nil) mixed (QR.noLoops) Try.func15 (by kernel_rfl) (by kernel_rfl) (by simp) ?_
  rw [fempty_vc]
  have e := re_split a b c d
  cases h1 : bnot (rvB a b c d) <;> cases h2 : ige a c <;> simp [bcond_iff, okAns, eqXs, eqX, eqo, eqLo, eqc, veq, eqUs, h1, h2, e]
theorem a_ftidy : Answers2 32 s_rtidy := by
  intro al ans h hq
  unfold s_rtidy at h
  split at h <;> try (simp at h; done)
  rename_i a b c d
  simp only [Option.some.injEq] at h
  subst h
  have hq := asked hq
  refine QR.does_of_eval (O := o_fe) (QR.orc_cons a_fempty QR.orc_nil) mixed (QR.noLoops) Try.func32 (by kernel_rfl) (by kernel_rfl) (by simp) ?_
  rw [ftidy_vc]
  have e : ∀ j, rtiV j a b c d = if reB a b c d = true then 0 else r4G j ⟨a, b, c, d⟩ := by
    intro j
    show r4G j (if r4E ⟨a, b, c, d⟩ = true then r4z else ⟨a, b, c, d⟩) = _
    rw [show r4E ⟨a, b, c, d⟩ = reB a b c d from rfl]
    split
    · unfold r4z r4G; split <;> rfl
    · rfl
  cases h : reB a b c d <;> simp [bcond_iff, okAns, eqXs, eqX, eqo, eqLo, eqL, eqc, veq, eqUs, e, h, r4G]
theorem area_in {a b c d : Int} (h : reB a b c d = false) : imul .i64 (isub .i64 c a) (isub .i64 d b) = (c - a) * (d - b) := by
  have h := re_f.1 h
  unfold F30 at h
  have e1 : isub .i64 c a = c - a := by unfold isub; exact IntWalk.i64_in _ (by omega)
  have e2 : isub .i64 d b = d - b := by unfold isub; exact IntWalk.i64_in _ (by omega)
  rw [e1, e2]
  have p1 := Int.mul_nonneg (show 0 ≤ c - a by omega) (show 0 ≤ d - b by omega)
  have p2 := Int.mul_le_mul (show c - a ≤ 2147483648 by omega) (show d - b ≤ 2147483648 by omega) (by omega) (by decide)
  unfold imul
  exact IntWalk.i64_in _ (by omega)
theorem a_rarea : Answers2 16 s_rarea := by
  intro al ans h hq
  unfold s_rarea at h
  split at h <;> try (simp at h; done)
  rename_i a b c d
  simp only [Option.some.injEq] at h
  subst h
  have hq := asked hq
  refine QR.does_of_eval (O := o_re) (QR.orc_cons a_rempty QR.orc_nil) mixed (QR.noLoops) Try.func16 (by kernel_rfl) (by kernel_rfl) (by simp) ?_
  rw [rarea_vc]
  have e : raV a b c d = if reB a b c d = true then 0 else (c - a) * (d - b) := rfl
  cases h : reB a b c d
  · simp [bcond_iff, okAns, eqXs, eqX, eqo, eqLo, eqc, veq, eqUs, e, h, area_in h]
  · simp [bcond_iff, okAns, eqXs, eqX, eqo, eqLo, eqc, veq, eqUs, e, h]
theorem ti_t {a b c d : Int} (h : reB a b c d = true) (j : Nat) : rtiV j a b c d = 0 := by
  show r4G j (if r4E ⟨a, b, c, d⟩ = true then r4z else ⟨a, b, c, d⟩) = _
  rw [show r4E ⟨a, b, c, d⟩ = reB a b c d from rfl, if_pos h]
  unfold r4z r4G; split <;> rfl
theorem ti_f {a b c d : Int} (h : reB a b c d = false) (j : Nat) : rtiV j a b c d = r4G j ⟨a, b, c, d⟩ := by
  show r4G j (if r4E ⟨a, b, c, d⟩ = true then r4z else ⟨a, b, c, d⟩) = _
  rw [show r4E ⟨a, b, c, d⟩ = reB a b c d from rfl, if_neg (by simp [h])]
theorem a_farea : Answers2 17 s_rarea := by
  intro al ans h hq
  unfold s_rarea at h
  split at h <;> try (simp at h; done)
  rename_i a b c d
  simp only [Option.some.injEq] at h
  subst h
  have hq := asked hq
  refine QR.does_of_eval (O := o_farea) (QR.orc_cons a_ftidy QR.orc_nil) mixed (QR.noLoops) Try.func17 (by kernel_rfl) (by kernel_rfl) (by simp) ?_
  rw [farea_vc]
  have e : raV a b c d = if reB a b c d = true then 0 else (c - a) * (d - b) := rfl
  cases h : reB a b c d
  · simp [bcond_iff, okAns, eqXs, eqX, eqo, eqLo, eqc, veq, eqUs, e, h, ti_f h, r4G, area_in h]
  · have z : imul .i64 (isub .i64 0 0) (isub .i64 0 0) = 0 := rfl
    simp [bcond_iff, okAns, eqXs, eqX, eqo, eqLo, eqc, veq, eqUs, e, h, ti_t h, z]
theorem a_rcont : Answers2 18 s_rcont := by
  intro al ans h hq
  unfold s_rcont at h
  split at h <;> try (simp at h; done)
  rename_i a b c d x y
  simp only [Option.some.injEq] at h
  subst h
  have hq := asked hq
  refine QR.does_of_eval (O := o_re) (QR.orc_cons a_rempty QR.orc_nil) mixed (QR.noLoops) Try.func18 (by kernel_rfl) (by kernel_rfl) (by simp) ?_
  rw [rcont_vc]
  unfold rcB
  simp only [bcond_iff, bnot, okAns, eqXs, eqX, eqo, eqLo, eqc, veq, eqUs, ilt, igt, ile, ige, decide_eq_true_eq, decide_eq_false_iff_not, true_and, and_true, forall_eq, Bool.not_eq_true', Bool.not_eq_false']
  cases h : reB a b c d
  all_goals repeat' (first | intro _ | constructor)
  all_goals first | (exact (decide_eq_false (fun h => by omega)).symm) | (exact (decide_eq_true (by omega)).symm) | (rw [eq_comm, Bool.eq_iff_iff, decide_eq_true_eq, decide_eq_true_eq]; omega) | (simp_all; done)
theorem a_fcont : Answers2 19 s_rcont := by
  intro al ans h hq
  unfold s_rcont at h
  split at h <;> try (simp at h; done)
  rename_i a b c d x y
  simp only [Option.some.injEq] at h
  subst h
  have hq := asked hq
  refine QR.does_of_eval (O := o_fe) (QR.orc_cons a_fempty QR.orc_nil) mixed (QR.noLoops) Try.func19 (by kernel_rfl) (by kernel_rfl) (by simp) ?_
  rw [fcont_vc]
  unfold rcB
  simp only [bcond_iff, bnot, okAns, eqXs, eqX, eqo, eqLo, eqc, veq, eqUs, ilt, igt, ile, ige, decide_eq_true_eq, decide_eq_false_iff_not, true_and, and_true, forall_eq, Bool.not_eq_true', Bool.not_eq_false']
  cases h : reB a b c d
  all_goals repeat' (first | intro _ | constructor)
  all_goals first | (exact (decide_eq_false (fun h => by omega)).symm) | (exact (decide_eq_true (by omega)).symm) | (rw [eq_comm, Bool.eq_iff_iff, decide_eq_true_eq, decide_eq_true_eq]; omega) | (simp_all; done)
theorem imx (a b : Int) : iimax a b = if a ≤ b then b else a := by unfold iimax; split <;> split <;> omega
theorem imn (a b : Int) : iimin a b = if a ≤ b then a else b := by unfold iimin; split <;> split <;> omega
theorem imn_comm (a b : Int) : iimin a b = iimin b a := by unfold iimin; split <;> split <;> omega
theorem imx_comm (a b : Int) : iimax a b = iimax b a := by unfold iimax; split <;> split <;> omega
theorem imn' (a b : Int) : iimin a b = if b ≤ a then b else a := by unfold iimin; split <;> split <;> omega
theorem imx' (a b : Int) : iimax a b = if b ≤ a then a else b := by unfold iimax; split <;> split <;> omega
theorem ri_t {a b c d e f g h : Int} (k : reB a b c d = true ∨ reB e f g h = true) (j : Nat) : riV j a b c d e f g h = 0 := by
  show r4G j (r4I ⟨a, b, c, d⟩ ⟨e, f, g, h⟩) = 0
  rw [r4I_t (x := ⟨a, b, c, d⟩) (y := ⟨e, f, g, h⟩) k]; unfold r4z r4G; split <;> rfl
theorem ri_f {a b c d e f g h : Int} (k1 : reB a b c d = false) (k2 : reB e f g h = false) (j : Nat) : riV j a b c d e f g h = rtiV j (iimax a e) (iimax b f) (iimin c g) (iimin d h) := by
  show r4G j (r4I ⟨a, b, c, d⟩ ⟨e, f, g, h⟩) = _
  rw [r4I_f (x := ⟨a, b, c, d⟩) (y := ⟨e, f, g, h⟩) k1 k2, imx, imx, imn, imn]; rfl
theorem a_rint : Answers2 22 s_rint := by
  intro al ans h hq
  unfold s_rint at h
  split at h <;> try (simp at h; done)
  rename_i a b c d e f g h
  simp only [Option.some.injEq] at h
  subst h
  have hq := asked hq
  refine QR.does_of_eval (O := o_re) (QR.orc_cons a_rempty QR.orc_nil) mixed (QR.noLoops) Try.func22 (by kernel_rfl) (by kernel_rfl) (by simp) ?_
  rw [rint_vc]
  cases k1 : reB a b c d
  · cases k2 : reB e f g h
    · cases k3 : reB (iimax a e) (iimax b f) (iimin c g) (iimin d h)
      · simp [bcond_iff, okAns, eqXs, eqX, eqo, eqLo, eqL, eqc, veq, eqUs, k1, k2, k3, ri_f k1 k2, ti_f k3, r4G]
      · simp [bcond_iff, okAns, eqXs, eqX, eqo, eqLo, eqL, eqc, veq, eqUs, k1, k2, k3, ri_f k1 k2, ti_t k3]
    · simp [bcond_iff, okAns, eqXs, eqX, eqo, eqLo, eqL, eqc, veq, eqUs, k1, k2, ri_t (Or.inr k2)]
  · simp [bcond_iff, okAns, eqXs, eqX, eqo, eqLo, eqL, eqc, veq, eqUs, k1, ri_t (Or.inl k1)]
theorem a_fint : Answers2 23 s_rint := by
  intro al ans h hq
  unfold s_rint at h
  split at h <;> try (simp at h; done)
  rename_i a b c d e f g h
  simp only [Option.some.injEq] at h
  subst h
  have hq := asked hq
  refine QR.does_of_eval (O := o_fint) (QR.orc_cons a_fempty (QR.orc_cons a_ftidy QR.orc_nil)) mixed (QR.noLoops) Try.func23 (by kernel_rfl) (by kernel_rfl) (by simp) ?_
  rw [fint_vc]
  cases k1 : reB a b c d
  · cases k2 : reB e f g h
    · simp [bcond_iff, okAns, eqXs, eqX, eqo, eqLo, eqL, eqc, veq, eqUs, k1, k2, ri_f k1 k2]
    · simp [bcond_iff, okAns, eqXs, eqX, eqo, eqLo, eqL, eqc, veq, eqUs, k1, k2, ri_t (Or.inr k2)]
  · simp [bcond_iff, okAns, eqXs, eqX, eqo, eqLo, eqL, eqc, veq, eqUs, k1, ri_t (Or.inl k1)]
theorem r4_ext {x y : R4} : x = y ↔ x.a = y.a ∧ x.b = y.b ∧ x.c = y.c ∧ x.d = y.d := by cases x; cases y; simp
theorem cov_t {a b c d e f g h : Int} (k : reB e f g h = true) : rcovB a b c d e f g h = true := decide_eq_true (Or.inl k)
theorem cov_f {a b c d e f g h : Int} (k : reB e f g h = false) : rcovB a b c d e f g h = band (ieq (riV 0 a b c d e f g h) e) (band (ieq (riV 1 a b c d e f g h) f) (band (ieq (riV 2 a b c d e f g h) g) (band (ieq (riV 3 a b c d e f g h) h) true))) := by
  rw [Bool.eq_iff_iff]
  unfold rcovB band ieq riV
  rw [decide_eq_true_eq, r4_ext, k]
  simp [r4G]
theorem cov_iff {a b c d e f g h : Int} (k : reB e f g h = false) : rcovB a b c d e f g h = (bnot (reB a b c d) && (ile a e && (ile g c && (ile b f && ile h d)))) := by
  have q := re_f.1 k
  rw [Bool.eq_iff_iff]
  unfold rcovB bnot ile
  simp only [Bool.and_eq_true, decide_eq_true_eq, Bool.not_eq_true', k]
  constructor
  · intro w
    have w : r4I ⟨a, b, c, d⟩ ⟨e, f, g, h⟩ = ⟨e, f, g, h⟩ := by simpa using w
    have ne : r4E (r4I ⟨a, b, c, d⟩ ⟨e, f, g, h⟩) = false := by rw [w]; exact k
    obtain ⟨q1, q2, q3, q4⟩ := r4I_sub ne
    rw [w] at q3 q4
    simp only at q1 q3 q4
    exact ⟨re_f.2 ⟨q1, by omega, by omega⟩, by omega, by omega, by omega, by omega⟩
  · rintro ⟨w1, w2, w3, w4, w5⟩
    have := r4V_in (h := ⟨a, b, c, d⟩) (x := ⟨e, f, g, h⟩) w1 k w2 w4 w3 w5
    unfold r4V at this
    rw [decide_eq_true_eq] at this
    rcases this with this | this
    · (simp [r4E, k] at this)
    · exact Or.inr this
theorem a_rcov : Answers2 20 s_rcov := by
  intro al ans h hq
  unfold s_rcov at h
  split at h <;> try (simp at h; done)
  rename_i a b c d e f g h
  simp only [Option.some.injEq] at h
  subst h
  have hq := asked hq
  refine QR.does_of_eval (O := o_re) (QR.orc_cons a_rempty QR.orc_nil) mixed (QR.noLoops) Try.func20 (by kernel_rfl) (by kernel_rfl) (by simp) ?_
  rw [rcov_vc]
  cases k : reB e f g h
  · rw [cov_iff k]
    cases h1 : bnot (reB a b c d) <;> cases h2 : ile a e <;> cases h3 : ile g c <;> cases h4 : ile b f <;> simp [bcond_iff, okAns, eqXs, eqX, eqo, eqLo, eqc, veq, eqUs, h1, h2, h3, h4]
  · simp [bcond_iff, okAns, eqXs, eqX, eqo, eqLo, eqc, veq, eqUs, k, cov_t k]
theorem a_fcov : Answers2 21 s_rcov := by
  intro al ans h hq
  unfold s_rcov at h
  split at h <;> try (simp at h; done)
  rename_i a b c d e f g h
  simp only [Option.some.injEq] at h
  subst h
  have hq := asked hq
  refine QR.does_of_eval (O := o_fcov) (QR.orc_cons a_fempty (QR.orc_cons a_fint QR.orc_nil)) mixed (QR.noLoops) Try.func21 (by kernel_rfl) (by kernel_rfl) (by simp) ?_
  rw [fcov_vc]
  cases k : reB e f g h
  · simp only [bcond_iff, okAns, eqXs, eqX, eqo, eqLo, eqc, veq, eqUs, k, cov_f k, forall_eq, true_and, and_true, reduceCtorEq, false_implies, true_implies, Bool.false_eq_true]
  · simp [bcond_iff, okAns, eqXs, eqX, eqo, eqLo, eqc, veq, eqUs, k, cov_t k]
theorem rt_t {a b c d x y : Int} (k : reB a b c d = true) (j : Nat) : rtV j a b c d x y = 0 := by
  unfold rtV; rw [if_pos k]; unfold r4z r4G; split <;> rfl
theorem rt_f {a b c d x y : Int} (k : reB a b c d = false) (j : Nat) : rtV j a b c d x y = rtiV j (a + x) (b + y) (c + x) (d + y) := by
  unfold rtV; rw [if_neg (by simp [k])]; rfl
theorem rt_far {a b c d x y : Int} (k : reB a b c d = false) (h : ¬ (-2147483648 ≤ x ∧ x ≤ 2147483648 ∧ -2147483648 ≤ y ∧ y ≤ 2147483648)) (j : Nat) : rtV j a b c d x y = 0 := by
  rw [rt_f k]
  refine ti_t (re_t.2 fun q => ?_) j
  have q1 := re_f.1 k
  unfold F30 at q q1
  omega
theorem rt_near {a b c d x y : Int} (k : reB a b c d = false) (h : -9223372034707292160 ≤ x ∧ x ≤ 9223372034707292159 ∧ -9223372034707292160 ≤ y ∧ y ≤ 9223372034707292159) (j : Nat) : rtiV j (iadd .i64 a x) (iadd .i64 b y) (iadd .i64 c x) (iadd .i64 d y) = rtV j a b c d x y := by
  have q1 := re_f.1 k
  unfold F30 at q1
  have e : ∀ p q : Int, -1073741824 ≤ p ∧ p ≤ 1073741824 → -9223372034707292160 ≤ q ∧ q ≤ 9223372034707292159 → iadd .i64 p q = p + q := fun p q h1 h2 => by unfold iadd; exact IntWalk.i64_in _ (by omega)
  rw [rt_f k, e a x (by omega) (by omega), e b y (by omega) (by omega), e c x (by omega) (by omega), e d y (by omega) (by omega)]
theorem fit_iff {a b d : Int} (ha : F30 a) (hb : F30 b) : fitB a b d = true ↔ -1073741824 - a ≤ d ∧ d ≤ 1073741824 - b := by
  unfold F30 at ha hb
  have e1 : isub .i64 (-1073741824) a = -1073741824 - a := IntWalk.i64_in _ (by omega)
  have e2 : isub .i64 1073741824 b = 1073741824 - b := IntWalk.i64_in _ (by omega)
  unfold fitB
  rw [e1, e2]
  unfold band ile
  rw [Bool.and_eq_true, decide_eq_true_eq, decide_eq_true_eq]
theorem rt_out {a b c d x y : Int} (k : reB a b c d = false) (h : fitB a c x = false ∨ fitB b d y = false) (j : Nat) : rtV j a b c d x y = 0 := by
  rw [rt_f k]
  have q1 := re_f.1 k
  refine ti_t (re_t.2 fun q => ?_) j
  have f1 := fit_iff (a := a) (b := c) (d := x) q1.1.1 q1.1.2.2.1
  have f2 := fit_iff (a := b) (b := d) (d := y) q1.1.2.1 q1.1.2.2.2
  unfold F30 at q q1
  rcases h with h | h
  · rw [f1.2 (by omega)] at h; simp at h
  · rw [f2.2 (by omega)] at h; simp at h
theorem rt_fit {a b c d x y : Int} (k : reB a b c d = false) (h1 : fitB a c x = true) (h2 : fitB b d y = true) : rtV 0 a b c d x y = iadd .i64 a x ∧ rtV 1 a b c d x y = iadd .i64 b y ∧ rtV 2 a b c d x y = iadd .i64 c x ∧ rtV 3 a b c d x y = iadd .i64 d y := by
  have q1 := re_f.1 k
  have f1 := (fit_iff q1.1.1 q1.1.2.2.1).1 h1
  have f2 := (fit_iff q1.1.2.1 q1.1.2.2.2).1 h2
  unfold F30 at q1
  have e : ∀ p q : Int, -1073741824 ≤ p ∧ p ≤ 1073741824 → -9223372034707292160 ≤ q ∧ q ≤ 9223372034707292159 → iadd .i64 p q = p + q := fun p q h1 h2 => by unfold iadd; exact IntWalk.i64_in _ (by omega)
  have z : reB (a + x) (b + y) (c + x) (d + y) = false := re_f.2 (by unfold F30; omega)
  rw [rt_f k, rt_f k, rt_f k, rt_f k, ti_f z, ti_f z, ti_f z, ti_f z, e a x (by omega) (by omega), e b y (by omega) (by omega), e c x (by omega) (by omega), e d y (by omega) (by omega)]
  exact ⟨rfl, rfl, rfl, rfl⟩
theorem a_rtrans : Answers2 26 s_rtrans := by
  intro al ans h hq
  unfold s_rtrans at h
  split at h <;> try (simp at h; done)
  rename_i a b c d x y
  simp only [Option.some.injEq] at h
  subst h
  have hq := asked hq
  refine QR.does_of_eval (O := o_rtr) (QR.orc_cons a_rempty (QR.orc_cons a_rfits QR.orc_nil)) mixed (QR.noLoops) Try.func26 (by kernel_rfl) (by kernel_rfl) (by simp) ?_
  rw [rtrans_vc]
  cases k : reB a b c d
  · cases h1 : fitB a c x
    · simp [bcond_iff, bnot, okAns, eqXs, eqX, eqo, eqLo, eqL, eqc, veq, eqUs, k, h1, rt_out k (Or.inl h1)]
    · cases h2 : fitB b d y
      · simp [bcond_iff, bnot, okAns, eqXs, eqX, eqo, eqLo, eqL, eqc, veq, eqUs, k, h1, h2, rt_out k (Or.inr h2)]
      · obtain ⟨e1, e2, e3, e4⟩ := rt_fit k h1 h2
        simp [bcond_iff, bnot, okAns, eqXs, eqX, eqo, eqLo, eqL, eqc, veq, eqUs, k, h1, h2, e1, e2, e3, e4]
  · simp [bcond_iff, okAns, eqXs, eqX, eqo, eqLo, eqL, eqc, veq, eqUs, k, rt_t k]
theorem a_ftrans : Answers2 27 s_rtrans := by
  intro al ans h hq
  unfold s_rtrans at h
  split at h <;> try (simp at h; done)
  rename_i a b c d x y
  simp only [Option.some.injEq] at h
  subst h
  have hq := asked hq
  refine QR.does_of_eval (O := o_fint) (QR.orc_cons a_fempty (QR.orc_cons a_ftidy QR.orc_nil)) mixed (QR.noLoops) Try.func27 (by kernel_rfl) (by kernel_rfl) (by simp) ?_
  rw [ftrans_vc]
  cases k : reB a b c d
  · simp only [bcond_iff, okAns, eqXs, eqX, eqo, eqLo, eqL, eqc, veq, eqUs, ilt, igt, decide_eq_true_eq, decide_eq_false_iff_not, forall_eq, true_and, and_true, reduceCtorEq, false_implies, true_implies, Bool.false_eq_true]
    refine ⟨fun h => ?_, fun h1 => ⟨fun h => ?_, fun h2 => ⟨fun h => ?_, fun h3 => ⟨fun h => ?_, fun h4 => ?_⟩⟩⟩⟩
    · simp [rt_far k (show ¬ (-2147483648 ≤ x ∧ x ≤ 2147483648 ∧ -2147483648 ≤ y ∧ y ≤ 2147483648) by omega)]
    · simp [rt_far k (show ¬ (-2147483648 ≤ x ∧ x ≤ 2147483648 ∧ -2147483648 ≤ y ∧ y ≤ 2147483648) by omega)]
    · simp [rt_far k (show ¬ (-2147483648 ≤ x ∧ x ≤ 2147483648 ∧ -2147483648 ≤ y ∧ y ≤ 2147483648) by omega)]
    · simp [rt_far k (show ¬ (-2147483648 ≤ x ∧ x ≤ 2147483648 ∧ -2147483648 ≤ y ∧ y ≤ 2147483648) by omega)]
    · simp [rt_near k (show -9223372034707292160 ≤ x ∧ x ≤ 9223372034707292159 ∧ -9223372034707292160 ≤ y ∧ y ≤ 9223372034707292159 by omega)]
  · simp [bcond_iff, okAns, eqXs, eqX, eqo, eqLo, eqL, eqc, veq, eqUs, k, rt_t k]
theorem hu_ints (k : IntKind) (r : QR.Row) : ∀ i, huN (ints k r) i = huN r i
  | 0 => rfl
  | i + 1 => by unfold huN; rw [hu_ints k r i]; rfl
theorem huR_ints (j : Nat) (n : Int) (k : IntKind) (r : QR.Row) : huR j n (ints k r) = huR j n r := by unfold huR; rw [hu_ints]
theorem huR_zero (j : Nat) (r : QR.Row) : huR j 0 r = 0 := by unfold huR huN r4z r4G; simp only [Int.toNat_zero]; split <;> rfl
theorem run_rhull {n : Int} (hn : ile 0 n = true) (hB : ile n 1099511627776 = true) (l : Int → Nat → Int) (A : List Prop) : DoesX Try.prog 24 [.x (.c (.slc 4 n (.fn fun i j => .v (.int .i64 (l i j)))))] ⟨[.agg [.v (.int .i64 (huR 0 n (.fn fun i j => .v (.int .i64 (l i j))))), .v (.int .i64 (huR 1 n (.fn fun i j => .v (.int .i64 (l i j))))), .v (.int .i64 (huR 2 n (.fn fun i j => .v (.int .i64 (l i j))))), .v (.int .i64 (huR 3 n (.fn fun i j => .v (.int .i64 (l i j)))))]], [], A⟩ := by
  have hn := ile_tt hn
  have hB := ile_tt hB
  refine QR.does_of_eval (O := o_re) (QR.orc_cons a_rempty QR.orc_nil) mixed (fun k => bif Nat.beq k 3 then some (.inv (o_inv_hull n l)) else none) Try.func24 (by kernel_rfl) (by kernel_rfl) (by simp) ?_
  rw [rhull_vc]
  simp only [forall_eq, true_and]
  refine ⟨⟨(0, 0, 0, 0, 0), ⟨⟨Int.le_refl 0, hn⟩, rfl⟩, by simp⟩, fun i hi => ?_⟩
  obtain ⟨i, a, b, c, d⟩ := i
  obtain ⟨⟨i0, i1⟩, e⟩ := hi
  simp only at i0 i1 e
  have le : ile 0 i = true := ile_t i0
  have ti : ((i.toNat : Nat) : Int) = i := Int.toNat_of_nonneg i0
  simp only [forall_eq]
  rw [bcond_iff]
  refine ⟨fun c1 => ?_, fun c1 => ?_⟩
  · have lt := of_decide_eq_true c1
    have ia : iadd .i64 i 1 = i + 1 := by unfold iadd; exact IntWalk.i64_in _ (by omega)
    have mu : Nat.le (Nat.succ (huMu n (i + 1))) (huMu n i) := by show huMu n (i + 1) < huMu n i; unfold huMu; omega
    have nx : huN (.fn fun i j => .v (.int .i64 (l i j))) (i + 1).toNat = r4H ⟨a, b, c, d⟩ ⟨l i 0, l i 1, l i 2, l i 3⟩ := by
      rw [show (i + 1).toNat = i.toNat + 1 by omega]
      show r4H (huN _ i.toNat) _ = _
      rw [← e]
      show r4H _ ⟨l i.toNat 0, l i.toNat 1, l i.toNat 2, l i.toNat 3⟩ = _
      rw [ti]
    simp only [bcond_iff, le, c1, ia, true_and, and_true, implies_true]
    cases h1 : reB (l i 0) (l i 1) (l i 2) (l i 3)
    · cases h2 : reB a b c d
      · have hs : r4H ⟨a, b, c, d⟩ ⟨l i 0, l i 1, l i 2, l i 3⟩ = ⟨iimin (l i 0) a, iimin (l i 1) b, iimax (l i 2) c, iimax (l i 3) d⟩ := by
          unfold r4H
          rw [show r4E ⟨l i 0, l i 1, l i 2, l i 3⟩ = false from h1, show r4E ⟨a, b, c, d⟩ = false from h2]
          simp only [Bool.false_eq_true, if_false, imn, imx]
        simp only [Bool.false_eq_true, false_implies, true_implies, true_and, and_true, forall_eq, reduceCtorEq]
        exact ⟨(i + 1, _, _, _, _), ⟨⟨by simp only; omega, by simp only; omega⟩, by rw [nx, hs]⟩, by simp <;> exact ⟨imn_comm _ _, imn_comm _ _, imx_comm _ _, imx_comm _ _⟩, mu⟩
      · have hs : r4H ⟨a, b, c, d⟩ ⟨l i 0, l i 1, l i 2, l i 3⟩ = ⟨l i 0, l i 1, l i 2, l i 3⟩ := by
          unfold r4H
          rw [show r4E ⟨l i 0, l i 1, l i 2, l i 3⟩ = false from h1, show r4E ⟨a, b, c, d⟩ = true from h2]
          simp
        simp only [Bool.false_eq_true, false_implies, true_implies, true_and, and_true, forall_eq, reduceCtorEq]
        exact ⟨(i + 1, _, _, _, _), ⟨⟨by simp only; omega, by simp only; omega⟩, by rw [nx, hs]⟩, by simp, mu⟩
    · have hs : r4H ⟨a, b, c, d⟩ ⟨l i 0, l i 1, l i 2, l i 3⟩ = ⟨a, b, c, d⟩ := by
        unfold r4H
        rw [show r4E ⟨l i 0, l i 1, l i 2, l i 3⟩ = true from h1]
        simp
      simp only [Bool.true_eq_false, false_implies, true_implies, true_and, and_true, forall_eq, reduceCtorEq]
      exact ⟨(i + 1, _, _, _, _), ⟨⟨by simp only; omega, by simp only; omega⟩, by rw [nx, hs]⟩, by simp, mu⟩
  · have := of_decide_eq_false c1
    obtain rfl : i = n := by omega
    have f : ∀ j, huR j i (.fn fun i j => .v (.int .i64 (l i j))) = r4G j ⟨a, b, c, d⟩ := fun j => by unfold huR; rw [← e]
    simp [okAns, eqXs, eqX, eqo, eqLo, eqL, eqc, veq, eqUs, f, r4G]
theorem a_rhull : Answers2 24 s_rhull := by
  intro al ans h hq
  unfold s_rhull at h
  split at h <;> try (simp at h; done)
  · rename_i z n r
    cases hz : Nat.beq z 4
    · rw [hz] at h; simp at h
    rw [hz, cond_true] at h
    obtain rfl := Nat.eq_of_beq_eq_true hz
    simp only [Option.some.injEq] at h
    subst h
    obtain ⟨hr, hn, hB, _⟩ := asked hq
    have := run_rhull hn hB (fun i j => intC (den r i j)) [intRow .i64 4 n r, ile 0 n = true, ile n 1099511627776 = true]
    refine does_args (al' := [.x (.c (.slc 4 n (ints .i64 r)))]) ⟨intRow_eq hr, trivial⟩ ?_
    have e := fun j => huR_ints j n .i64 r
    unfold ints at e ⊢
    rw [e, e, e, e] at this
    exact this
  · rename_i x y z
    simp only [Option.some.injEq] at h
    subst h
    refine does_args (al' := [.x (.c (.slc 4 0 (.fn fun i j => .v (.int .i64 0))))]) ⟨.nil (by decide) rfl, trivial⟩ ?_
    have := run_rhull (n := 0) rfl rfl (fun i j => 0) []
    rw [huR_zero, huR_zero, huR_zero, huR_zero] at this
    exact this
theorem run_fhull {n : Int} (hn : ile 0 n = true) (hB : ile n 1099511627776 = true) (l : Int → Nat → Int) (A : List Prop) : DoesX Try.prog 25 [.x (.c (.slc 4 n (.fn fun i j => .v (.int .i64 (l i j)))))] ⟨[.agg [.v (.int .i64 (huR 0 n (.fn fun i j => .v (.int .i64 (l i j))))), .v (.int .i64 (huR 1 n (.fn fun i j => .v (.int .i64 (l i j))))), .v (.int .i64 (huR 2 n (.fn fun i j => .v (.int .i64 (l i j))))), .v (.int .i64 (huR 3 n (.fn fun i j => .v (.int .i64 (l i j)))))]], [], A⟩ := by
  have hn := ile_tt hn
  have hB := ile_tt hB
  refine QR.does_of_eval (O := o_fe) (QR.orc_cons a_fempty QR.orc_nil) mixed (fun k => bif Nat.beq k 3 then some (.inv (o_inv_rhull n l)) else none) Try.func25 (by kernel_rfl) (by kernel_rfl) (by simp) ?_
  rw [fhull_vc]
  simp only [forall_eq, true_and]
  refine ⟨⟨(0, 0, 0, 0, 0), ⟨⟨Int.le_refl 0, hn⟩, rfl⟩, by simp⟩, fun i hi => ?_⟩
  obtain ⟨i, a, b, c, d⟩ := i
  obtain ⟨⟨i0, i1⟩, e⟩ := hi
  simp only at i0 i1 e
  have le : ile 0 i = true := ile_t i0
  have ti : ((i.toNat : Nat) : Int) = i := Int.toNat_of_nonneg i0
  simp only [forall_eq]
  rw [bcond_iff]
  refine ⟨fun c1 => ?_, fun c1 => ?_⟩
  · have lt := of_decide_eq_true c1
    have ia : iadd .i64 i 1 = i + 1 := by unfold iadd; exact IntWalk.i64_in _ (by omega)
    have mu : Nat.le (Nat.succ (huMu n (i + 1))) (huMu n i) := by show huMu n (i + 1) < huMu n i; unfold huMu; omega
    have nx : huN (.fn fun i j => .v (.int .i64 (l i j))) (i + 1).toNat = r4H ⟨a, b, c, d⟩ ⟨l i 0, l i 1, l i 2, l i 3⟩ := by
      rw [show (i + 1).toNat = i.toNat + 1 by omega]
      show r4H (huN _ i.toNat) _ = _
      rw [← e]
      show r4H _ ⟨l i.toNat 0, l i.toNat 1, l i.toNat 2, l i.toNat 3⟩ = _
      rw [ti]
    simp only [bcond_iff, le, c1, ia, true_and, and_true, implies_true]
    cases h1 : reB (l i 0) (l i 1) (l i 2) (l i 3)
    · cases h2 : reB a b c d
      · have hs : r4H ⟨a, b, c, d⟩ ⟨l i 0, l i 1, l i 2, l i 3⟩ = ⟨iimin (l i 0) a, iimin (l i 1) b, iimax (l i 2) c, iimax (l i 3) d⟩ := by
          unfold r4H
          rw [show r4E ⟨l i 0, l i 1, l i 2, l i 3⟩ = false from h1, show r4E ⟨a, b, c, d⟩ = false from h2]
          simp only [Bool.false_eq_true, if_false, imn, imx]
        simp only [Bool.false_eq_true, false_implies, true_implies, true_and, and_true, forall_eq, reduceCtorEq]
        exact ⟨(i + 1, _, _, _, _), ⟨⟨by simp only; omega, by simp only; omega⟩, by rw [nx, hs]⟩, by simp <;> exact ⟨imn_comm _ _, imn_comm _ _, imx_comm _ _, imx_comm _ _⟩, mu⟩
      · have hs : r4H ⟨a, b, c, d⟩ ⟨l i 0, l i 1, l i 2, l i 3⟩ = ⟨l i 0, l i 1, l i 2, l i 3⟩ := by
          unfold r4H
          rw [show r4E ⟨l i 0, l i 1, l i 2, l i 3⟩ = false from h1, show r4E ⟨a, b, c, d⟩ = true from h2]
          simp
        simp only [Bool.false_eq_true, false_implies, true_implies, true_and, and_true, forall_eq, reduceCtorEq]
        exact ⟨(i + 1, _, _, _, _), ⟨⟨by simp only; omega, by simp only; omega⟩, by rw [nx, hs]⟩, by simp, mu⟩
    · have hs : r4H ⟨a, b, c, d⟩ ⟨l i 0, l i 1, l i 2, l i 3⟩ = ⟨a, b, c, d⟩ := by
        unfold r4H
        rw [show r4E ⟨l i 0, l i 1, l i 2, l i 3⟩ = true from h1]
        simp
      simp only [Bool.true_eq_false, false_implies, true_implies, true_and, and_true, forall_eq, reduceCtorEq]
      exact ⟨(i + 1, _, _, _, _), ⟨⟨by simp only; omega, by simp only; omega⟩, by rw [nx, hs]⟩, by simp, mu⟩
  · have := of_decide_eq_false c1
    obtain rfl : i = n := by omega
    have f : ∀ j, huR j i (.fn fun i j => .v (.int .i64 (l i j))) = r4G j ⟨a, b, c, d⟩ := fun j => by unfold huR; rw [← e]
    simp [okAns, eqXs, eqX, eqo, eqLo, eqL, eqc, veq, eqUs, f, r4G]
theorem a_fhull : Answers2 25 s_rhull := by
  intro al ans h hq
  unfold s_rhull at h
  split at h <;> try (simp at h; done)
  · rename_i z n r
    cases hz : Nat.beq z 4
    · rw [hz] at h; simp at h
    rw [hz, cond_true] at h
    obtain rfl := Nat.eq_of_beq_eq_true hz
    simp only [Option.some.injEq] at h
    subst h
    obtain ⟨hr, hn, hB, _⟩ := asked hq
    have := run_fhull hn hB (fun i j => intC (den r i j)) [intRow .i64 4 n r, ile 0 n = true, ile n 1099511627776 = true]
    refine does_args (al' := [.x (.c (.slc 4 n (ints .i64 r)))]) ⟨intRow_eq hr, trivial⟩ ?_
    have e := fun j => huR_ints j n .i64 r
    unfold ints at e ⊢
    rw [e, e, e, e] at this
    exact this
  · rename_i x y z
    simp only [Option.some.injEq] at h
    subst h
    refine does_args (al' := [.x (.c (.slc 4 0 (.fn fun i j => .v (.int .i64 0))))]) ⟨.nil (by decide) rfl, trivial⟩ ?_
    have := run_fhull (n := 0) rfl rfl (fun i j => 0) []
    rw [huR_zero, huR_zero, huR_zero, huR_zero] at this
    exact this
theorem gr_in {x k b : Int} (h : 0 < k) (h2 : k ≤ 100) (hb : -2000 ≤ b ∧ b ≤ 1073741824) : isub .i64 (gmod x k) b = gmod x k - b ∧ iadd .i64 b (gmod x k) = b + gmod x k := by
  have := gmod_range x h
  unfold isub iadd
  exact ⟨IntWalk.i64_in _ (by omega), IntWalk.i64_in _ (by omega)⟩
theorem a_grect : Answers2 9 s_grect := by
  intro al ans h hq
  unfold s_grect at h
  split at h <;> try (simp at h; done)
  rename_i n0 n1 n2 n3
  simp only [Option.some.injEq] at h
  subst h
  have hq := asked hq
  refine QR.does_of_eval (O := o_grect) (QR.orc_cons (up a_mod) QR.orc_nil) mixed (QR.noLoops) Try.func9 (by kernel_rfl) (by kernel_rfl) (by simp) ?_
  rw [grect_vc]
  have k12 : modOk 12 = true := rfl
  have k8 : modOk 8 = true := rfl
  have k30 : modOk 30 = true := rfl
  have k3 : modOk 3 = true := rfl
  have r0 := gmod_range n0 (k := 12) (by decide)
  have r1 := gmod_range n1 (k := 12) (by decide)
  have r2 := gmod_range n2 (k := 8) (by decide)
  have r3 := gmod_range n3 (k := 8) (by decide)
  have r4 := gmod_range n2 (k := 3) (by decide)
  have e0 : isub .i64 (gmod n0 12) 6 = gmod n0 12 - 6 := IntWalk.i64_in _ (by omega)
  have e1 : isub .i64 (gmod n1 12) 6 = gmod n1 12 - 6 := IntWalk.i64_in _ (by omega)
  have e2 : iadd .i64 (gmod n0 12 - 6) (gmod n2 8) = gmod n0 12 - 6 + gmod n2 8 := IntWalk.i64_in _ (by omega)
  have e3 : iadd .i64 (gmod n1 12 - 6) (gmod n3 8) = gmod n1 12 - 6 + gmod n3 8 := IntWalk.i64_in _ (by omega)
  have e4 : isub .i64 (gmod n0 12 - 6 + gmod n2 8) 1 = gmod n0 12 - 6 + gmod n2 8 - 1 := IntWalk.i64_in _ (by omega)
  have e5 : isub .i64 (gmod n1 12 - 6 + gmod n3 8) 1 = gmod n1 12 - 6 + gmod n3 8 - 1 := IntWalk.i64_in _ (by omega)
  have e6 : iadd .i64 1073741824 (gmod n2 3) = 1073741824 + gmod n2 3 := IntWalk.i64_in _ (by omega)
  have e7 : isub .i64 (1073741824 + gmod n2 3) 1 = 1073741824 + gmod n2 3 - 1 := IntWalk.i64_in _ (by omega)
  have cc : grC n0 n2 = if gmod (iquo .i64 n0 12) 30 = 29 then 1073741824 + gmod n2 3 - 1 else gmod n0 12 - 6 + gmod n2 8 - 1 := rfl
  cases h : ieq (gmod (iquo .i64 n0 12) 30) 29
  · have h' : ¬ gmod (iquo .i64 n0 12) 30 = 29 := by simpa [ieq] using h
    rw [if_neg h'] at cc
    simp [bcond_iff, okAns, eqXs, eqX, eqo, eqLo, eqL, eqc, veq, eqUs, k12, k8, k30, k3, e0, e1, e2, e3, e4, e5, e6, e7, h, cc, grA, grB, grD]
  · have h' : gmod (iquo .i64 n0 12) 30 = 29 := by simpa [ieq] using h
    rw [if_pos h'] at cc
    simp [bcond_iff, okAns, eqXs, eqX, eqo, eqLo, eqL, eqc, veq, eqUs, k12, k8, k30, k3, e0, e1, e2, e3, e4, e5, e6, e7, h, cc, grA, grB, grD]
theorem a_rsame : Answers2 28 s_rsame := by
  intro al ans h hq
  unfold s_rsame at h
  split at h <;> try (simp at h; done)
  rename_i z n r z2 m s
  cases hz : Nat.beq z 4 && Nat.beq z2 4
  · rw [hz] at h; simp at h
  rw [hz, cond_true] at h
  obtain ⟨hz1, hz2⟩ := Bool.and_eq_true_iff.1 hz
  obtain rfl := Nat.eq_of_beq_eq_true hz1
  obtain rfl := Nat.eq_of_beq_eq_true hz2
  simp only [Option.some.injEq] at h
  subst h
  obtain ⟨hr, hs, hn, hB, _⟩ := asked hq
  have hn := ile_tt hn
  have hB := ile_tt hB
  refine does_args (al' := [.x (.c (.slc 4 n (ints .i64 r))), .x (.c (.slc 4 m (ints .i64 s)))]) ⟨intRow_eq hr, intRow_eq hs, trivial⟩ ?_
  have iff : sameR 4 n m r s = true ↔ n = m ∧ ∀ i j : Nat, (i : Int) < n → j < 4 → intC (den r i j) = intC (den s i j) := sameR_iff
  unfold ints
  generalize sameR 4 n m r s = b at *
  suffices H : ∀ (l k : Int → Nat → Int) (A : List Prop), (b = true ↔ n = m ∧ ∀ i j : Nat, (i : Int) < n → j < 4 → l i j = k i j) → DoesX Try.prog 28 [.x (.c (.slc 4 n (.fn fun i j => .v (.int .i64 (l i j))))), .x (.c (.slc 4 m (.fn fun i j => .v (.int .i64 (k i j)))))] ⟨[.c (.v (.bool b))], [], A⟩ from H _ _ _ iff
  intro l k A iff
  refine QR.does_of_eval (O := QR.orc []) QR.orc_nil mixed (fun q => bif Nat.beq q 4 then some (.inv (o_inv_same n m l k)) else none) Try.func28 (by kernel_rfl) (by kernel_rfl) (by simp) ?_
  rw [rsame_vc]
  simp only [forall_eq, true_and]
  rw [bcond_iff]
  refine ⟨fun c => ?_, fun c => ?_⟩
  · have ne : n ≠ m := by simpa [ine] using c
    have : b = false := by cases b with | false => rfl | true => exact absurd (iff.1 rfl).1 ne
    simp [okAns, eqXs, eqX, eqo, eqLo, eqc, veq, eqUs, this]
  have nm : n = m := by simpa [ine] using c
  subst nm
  refine ⟨⟨0, ⟨⟨Int.le_refl 0, hn⟩, fun p j hp => by omega⟩, by simp⟩, fun i hi => ?_⟩
  obtain ⟨⟨i0, i1⟩, e⟩ := hi
  have le : ile 0 i = true := ile_t i0
  have ti : ((i.toNat : Nat) : Int) = i := Int.toNat_of_nonneg i0
  rw [bcond_iff]
  refine ⟨fun c1 => ?_, fun c1 => ?_⟩
  · have lt := of_decide_eq_true c1
    have ia : iadd .i64 i 1 = i + 1 := IntWalk.i64_in _ (by omega)
    have mu : Nat.le (Nat.succ (smMu n (i + 1))) (smMu n i) := by show smMu n (i + 1) < smMu n i; unfold smMu; omega
    cases hc : band (ieq (l i 0) (k i 0)) (band (ieq (l i 1) (k i 1)) (band (ieq (l i 2) (k i 2)) (band (ieq (l i 3) (k i 3)) true)))
    · have : b = false := by
        cases b with
        | false => rfl
        | true =>
          have q := (iff.1 rfl).2 i.toNat
          rw [ti] at q
          have q0 := q 0 lt (by decide)
          have q1 := q 1 lt (by decide)
          have q2 := q 2 lt (by decide)
          have q3 := q 3 lt (by decide)
          rw [q0, q1, q2, q3] at hc
          simp [band, ieq] at hc
      simp [bcond_iff, bnot, okAns, eqXs, eqX, eqo, eqLo, eqc, veq, eqUs, this, le, c1]
    · have hc' : l i 0 = k i 0 ∧ l i 1 = k i 1 ∧ l i 2 = k i 2 ∧ l i 3 = k i 3 := by simpa [band, ieq] using hc
      simp only [bcond_iff, bnot, le, c1, ia, true_and, and_true, implies_true, Bool.not_true, Bool.false_eq_true, false_implies, true_implies]
      refine ⟨i + 1, ⟨⟨by omega, by omega⟩, fun p j hp hj => ?_⟩, by simp, mu⟩
      by_cases h : (p : Int) < i
      · exact e p j h hj
      · obtain rfl : i = (p : Int) := by omega
        have : j = 0 ∨ j = 1 ∨ j = 2 ∨ j = 3 := by omega
        rcases this with rfl | rfl | rfl | rfl
        · exact hc'.1
        · exact hc'.2.1
        · exact hc'.2.2.1
        · exact hc'.2.2.2
  · have := of_decide_eq_false c1
    obtain rfl : i = n := by omega
    have : b = true := iff.2 ⟨rfl, e⟩
    simp [okAns, eqXs, eqX, eqo, eqLo, eqc, veq, eqUs, this]
/-- the list of pieces, by what is empty -/
theorem sb_at {a b c d e f g h : Int} {L : List R4} (k : sbL ⟨a, b, c, d⟩ ⟨e, f, g, h⟩ = L) : sbN a b c d e f g h = (L.length : Nat) ∧ ∀ i j, sbV a b c d e f g h i j = r4G j (L.getD i.toNat r4z) := by
  subst k; exact ⟨rfl, fun _ _ => rfl⟩
theorem a_rsub : Answers2 29 s_rsub := by
  intro al ans h hq
  unfold s_rsub at h
  split at h <;> try (simp at h; done)
  rename_i a b c d e f g h
  simp only [Option.some.injEq] at h
  subst h
  have hq := asked hq
  refine QR.does_of_eval (O := o_rsub) (QR.orc_cons a_rempty (QR.orc_cons a_rint QR.orc_nil)) mixed ((fun n => bif Nat.beq n 7 then some (.rounds 5) else none)) Try.func29 (by kernel_rfl) (by kernel_rfl) (by simp) ?_
  rw [rsub_vc]
  simp only [forall_eq, isel_t, isel_f, bcond_iff, bnot, true_and, and_true, implies_true, Bool.not_eq_true', Bool.not_eq_false']
  have hl : sbL ⟨a, b, c, d⟩ ⟨e, f, g, h⟩ = if reB a b c d = true then [] else if reB (riV 0 a b c d e f g h) (riV 1 a b c d e f g h) (riV 2 a b c d e f g h) (riV 3 a b c d e f g h) = true then [⟨a, b, c, d⟩] else (sbP ⟨a, b, c, d⟩ ⟨riV 0 a b c d e f g h, riV 1 a b c d e f g h, riV 2 a b c d e f g h, riV 3 a b c d e f g h⟩).filter (fun p => !r4E p) := rfl
  have hk : reB a b c d = true → reB (riV 0 a b c d e f g h) (riV 1 a b c d e f g h) (riV 2 a b c d e f g h) (riV 3 a b c d e f g h) = true := fun k => by rw [ri_t (Or.inl k), ri_t (Or.inl k), ri_t (Or.inl k), ri_t (Or.inl k)]; rfl
  generalize riV 0 a b c d e f g h = x0 at *
  generalize riV 1 a b c d e f g h = x1 at *
  generalize riV 2 a b c d e f g h = x2 at *
  generalize riV 3 a b c d e f g h = x3 at *
  have z0 : reB 0 0 0 0 = true := rfl
  cases k1 : reB x0 x1 x2 x3
  · have k0 : reB a b c d = false := by
      cases k0 : reB a b c d with
      | false => rfl
      | true => rw [hk k0] at k1; simp at k1
    rw [k0, k1] at hl
    simp only [Bool.false_eq_true, if_false] at hl
    cases p1 : reB a b c x1 <;> cases p2 : reB a x3 c d <;> cases p3 : reB a x1 x0 x3 <;> cases p4 : reB x2 x1 c x3
    all_goals
      simp only [sbP, List.filter, r4E, p1, p2, p3, p4, Bool.not_true, Bool.not_false] at hl
      obtain ⟨hN, hV⟩ := sb_at hl
      simp only [okAns, eqXs, eqX, eqo, eqLo, eqc, eqUs, hN, hV, Bool.false_eq_true, false_implies, true_implies, true_and, and_true, reduceCtorEq, List.length_cons, List.length_nil]
      first
      | (exact ⟨by decide, rfl⟩)
      | (refine .slc fun i j hi hj => ?_
         have hi' : i = 0 ∨ i = 1 ∨ i = 2 ∨ i = 3 := by omega
         have hj' : j = 0 ∨ j = 1 ∨ j = 2 ∨ j = 3 := by omega
         rcases hi' with rfl | rfl | rfl | rfl <;> rcases hj' with rfl | rfl | rfl | rfl <;> first | (exfalso; revert hi; decide) | exact .v _)
  · cases k0 : reB a b c d
    · rw [k0, k1] at hl
      simp only [Bool.false_eq_true, if_false, if_true] at hl
      obtain ⟨hN, hV⟩ := sb_at hl
      simp only [okAns, eqXs, eqX, eqo, eqLo, eqc, eqUs, hN, hV, z0, Bool.false_eq_true, false_implies, true_implies, true_and, and_true, reduceCtorEq, List.length_cons, List.length_nil]
      refine .slc fun i j hi hj => ?_
      obtain rfl : i = 0 := by omega
      have hj' : j = 0 ∨ j = 1 ∨ j = 2 ∨ j = 3 := by omega
      rcases hj' with rfl | rfl | rfl | rfl <;> exact .v _
    · rw [k0] at hl
      simp only [if_true] at hl
      obtain ⟨hN, hV⟩ := sb_at hl
      simp [okAns, eqXs, eqX, eqo, eqLo, eqc, eqUs, nilC, hN, z0]
theorem a_fsub : Answers2 30 s_rsub := by
  intro al ans h hq
  unfold s_rsub at h
  split at h <;> try (simp at h; done)
  rename_i a b c d e f g h
  simp only [Option.some.injEq] at h
  subst h
  have hq := asked hq
  refine QR.does_of_eval (O := o_fcov) (QR.orc_cons a_fempty (QR.orc_cons a_fint QR.orc_nil)) mixed ((fun n => bif Nat.beq n 9 then some (.rounds 5) else none)) Try.func30 (by kernel_rfl) (by kernel_rfl) (by simp) ?_
  rw [fsub_vc]
  simp only [forall_eq, isel_t, isel_f, bcond_iff, bnot, true_and, and_true, implies_true, Bool.not_eq_true', Bool.not_eq_false']
  have hl : sbL ⟨a, b, c, d⟩ ⟨e, f, g, h⟩ = if reB a b c d = true then [] else if reB (riV 0 a b c d e f g h) (riV 1 a b c d e f g h) (riV 2 a b c d e f g h) (riV 3 a b c d e f g h) = true then [⟨a, b, c, d⟩] else (sbP ⟨a, b, c, d⟩ ⟨riV 0 a b c d e f g h, riV 1 a b c d e f g h, riV 2 a b c d e f g h, riV 3 a b c d e f g h⟩).filter (fun p => !r4E p) := rfl
  generalize riV 0 a b c d e f g h = x0 at *
  generalize riV 1 a b c d e f g h = x1 at *
  generalize riV 2 a b c d e f g h = x2 at *
  generalize riV 3 a b c d e f g h = x3 at *
  have t0 : ilt 0 4 = true := rfl
  have t1 : ilt 1 4 = true := rfl
  have t2 : ilt 2 4 = true := rfl
  have t3 : ilt 3 4 = true := rfl
  have t4 : ilt 4 4 = false := rfl
  cases k0 : reB a b c d
  · cases k1 : reB x0 x1 x2 x3
    · rw [k0, k1] at hl
      simp only [Bool.false_eq_true, if_false] at hl
      cases p1 : reB a b c x1 <;> cases p2 : reB a x3 c d <;> cases p3 : reB a x1 x0 x3 <;> cases p4 : reB x2 x1 c x3
      all_goals
        simp only [sbP, List.filter, r4E, p1, p2, p3, p4, Bool.not_true, Bool.not_false] at hl
        obtain ⟨hN, hV⟩ := sb_at hl
        simp only [okAns, eqXs, eqX, eqo, eqLo, eqc, eqUs, hN, hV, t0, t1, t2, t3, t4, Bool.false_eq_true, false_implies, true_implies, true_and, and_true, reduceCtorEq, List.length_cons, List.length_nil]
        first
        | (exact ⟨by decide, rfl⟩)
        | (refine .slc fun i j hi hj => ?_
           have hi' : i = 0 ∨ i = 1 ∨ i = 2 ∨ i = 3 := by omega
           have hj' : j = 0 ∨ j = 1 ∨ j = 2 ∨ j = 3 := by omega
           rcases hi' with rfl | rfl | rfl | rfl <;> rcases hj' with rfl | rfl | rfl | rfl <;> first | (exfalso; revert hi; decide) | exact .v _)
    · rw [k0, k1] at hl
      simp only [Bool.false_eq_true, if_false, if_true] at hl
      obtain ⟨hN, hV⟩ := sb_at hl
      simp only [okAns, eqXs, eqX, eqo, eqLo, eqc, eqUs, hN, hV, Bool.false_eq_true, false_implies, true_implies, true_and, and_true, reduceCtorEq, List.length_cons, List.length_nil]
      refine .slc fun i j hi hj => ?_
      obtain rfl : i = 0 := by omega
      have hj' : j = 0 ∨ j = 1 ∨ j = 2 ∨ j = 3 := by omega
      rcases hj' with rfl | rfl | rfl | rfl <;> exact .v _
  · rw [k0] at hl
    simp only [if_true] at hl
    obtain ⟨hN, hV⟩ := sb_at hl
    simp [okAns, eqXs, eqX, eqo, eqLo, eqc, eqUs, nilC, hN]
end Go.Proofs.Ythkndeafhjhdiaa
