import Derived.Test.YtdpmigbenkndbaaMb
namespace Go.Proofs.Ytdpmigbenkndbaa
open Go.RowKit PR QR
set_option linter.unusedVariables false
set_option linter.unusedSimpArgs false
set_option maxRecDepth 20000
theorem re_split (a b c d : Int) : reB a b c d = (bnot (rvB a b c d) || ige a c || ige b d) := by
  rw [Bool.eq_iff_iff]
  unfold reB rvB bnot ige
  simp only [Bool.or_eq_true, Bool.not_eq_true', decide_eq_true_eq, decide_eq_false_iff_not]
  omega
theorem a_rnear : Answers2 36 s_rnear := by
  intro al ans h hq
  unfold s_rnear at h
  split at h <;> try (simp at h; done)
  rename_i a
  simp only [Option.some.injEq] at h
  subst h
  have hq := asked hq
  refine QR.does_of_eval (O := (QR.orc [])) QR.orc_nil mixed (QR.noLoops) Try.func36 (by kernel_rfl) (by kernel_rfl) (by simp) ?_
  rw [rnear_vc]
  unfold nearB
  simp only [bcond_iff, okAns, eqXs, eqX, eqo, eqLo, eqc, veq, eqUs, ile, decide_eq_true_eq, decide_eq_false_iff_not, true_and, and_true, forall_eq]
  repeat' (first | intro _ | constructor)
  all_goals first | (exact (decide_eq_false (by omega)).symm) | (exact (decide_eq_true (by omega)).symm) | (rw [eq_comm, Bool.eq_iff_iff, decide_eq_true_eq, decide_eq_true_eq]; omega)
theorem rv_near (a b c d : Int) : rvB a b c d = (nearB a && (nearB b && (nearB c && nearB d))) := by
  rw [Bool.eq_iff_iff]
  unfold rvB nearB
  simp only [Bool.and_eq_true, decide_eq_true_eq]
theorem a_rrvalid : Answers2 34 s_rvalid := by
  intro al ans h hq
  unfold s_rvalid at h
  split at h <;> try (simp at h; done)
  rename_i a b c d
  simp only [Option.some.injEq] at h
  subst h
  have hq := asked hq
  refine QR.does_of_eval (O := o_rvld) (QR.orc_cons a_rnear QR.orc_nil) mixed (QR.noLoops) Try.func34 (by kernel_rfl) (by kernel_rfl) (by simp) ?_
  rw [rectval_vc]
  have e := rv_near a b c d
  cases h1 : nearB a <;> cases h2 : nearB b <;> cases h3 : nearB c <;> simp [bcond_iff, okAns, eqXs, eqX, eqo, eqLo, eqc, veq, eqUs, h1, h2, h3, e]
theorem a_fvalid : Answers2 35 s_rvalid := by
  intro al ans h hq
  unfold s_rvalid at h
  split at h <;> try (simp at h; done)
  rename_i a b c d
  simp only [Option.some.injEq] at h
  subst h
  have hq := asked hq
  refine QR.does_of_eval (O := (QR.orc [])) QR.orc_nil mixed (QR.noLoops) Try.func35 (by kernel_rfl) (by kernel_rfl) (by simp) ?_
  rw [fvalid_vc]
  unfold rvB
  simp only [bcond_iff, okAns, eqXs, eqX, eqo, eqLo, eqc, veq, eqUs, ilt, igt, ile, ige, decide_eq_true_eq, decide_eq_false_iff_not, true_and, and_true, forall_eq]
  repeat' (first | intro _ | constructor)
  all_goals first | (exact (decide_eq_false (by omega)).symm) | (exact (decide_eq_true (by omega)).symm) | (rw [eq_comm, Bool.eq_iff_iff, decide_eq_true_eq, decide_eq_true_eq]; omega)
theorem a_rempty : Answers2 26 s_rempty := by
  intro al ans h hq
  unfold s_rempty at h
  split at h <;> try (simp at h; done)
  rename_i a b c d
  simp only [Option.some.injEq] at h
  subst h
  have hq := asked hq
  refine QR.does_of_eval (O := o_remp) (QR.orc_cons a_rrvalid QR.orc_nil) mixed (QR.noLoops) Try.func26 (by kernel_rfl) (by kernel_rfl) (by simp) ?_
  rw [rempty_vc]
  have e := re_split a b c d
  cases h1 : bnot (rvB a b c d) <;> cases h2 : ige a c <;> simp [bcond_iff, okAns, eqXs, eqX, eqo, eqLo, eqc, veq, eqUs, h1, h2, e]
theorem a_fempty : Answers2 28 s_rempty := by
  intro al ans h hq
  unfold s_rempty at h
  split at h <;> try (simp at h; done)
  rename_i a b c d
  simp only [Option.some.injEq] at h
  subst h
  have hq := asked hq
  refine QR.does_of_eval (O := o_fre) (QR.orc_cons a_fvalid QR.orc_nil) mixed (QR.noLoops) Try.func28 (by kernel_rfl) (by kernel_rfl) (by simp) ?_
  rw [fempty_vc]
  have e := re_split a b c d
  cases h1 : bnot (rvB a b c d) <;> cases h2 : ige a c <;> simp [bcond_iff, okAns, eqXs, eqX, eqo, eqLo, eqc, veq, eqUs, h1, h2, e]
theorem a_ftidy : Answers2 31 s_rtidy := by
  intro al ans h hq
  unfold s_rtidy at h
  split at h <;> try (simp at h; done)
  rename_i a b c d
  simp only [Option.some.injEq] at h
  subst h
  have hq := asked hq
  refine QR.does_of_eval (O := o_fe) (QR.orc_cons a_fempty QR.orc_nil) mixed (QR.noLoops) Try.func31 (by kernel_rfl) (by kernel_rfl) (by simp) ?_
  rw [ftidy_vc]
  have e : ∀ j, rtiV j a b c d = if reB a b c d = true then 0 else r4G j ⟨a, b, c, d⟩ := by
    intro j
    show r4G j (if r4E ⟨a, b, c, d⟩ = true then r4z else ⟨a, b, c, d⟩) = _
    rw [show r4E ⟨a, b, c, d⟩ = reB a b c d from rfl]
    split
    · unfold r4z r4G; split <;> rfl
    · rfl
  cases h : reB a b c d <;> simp [bcond_iff, okAns, eqXs, eqX, eqo, eqLo, eqL, eqc, veq, eqUs, e, h, r4G]
theorem area_in {a b c d : Int} (h : reB a b c d = false) : imul .i64 (isub .i64 c a) (isub .i64 d b) = (c - a) * (d - b) := by
  have h := re_f.1 h
  unfold F30 at h
  have e1 : isub .i64 c a = c - a := by unfold isub; exact IntWalk.i64_in _ (by omega)
  have e2 : isub .i64 d b = d - b := by unfold isub; exact IntWalk.i64_in _ (by omega)
  rw [e1, e2]
  have p1 := Int.mul_nonneg (show 0 ≤ c - a by omega) (show 0 ≤ d - b by omega)
  have p2 := Int.mul_le_mul (show c - a ≤ 2147483648 by omega) (show d - b ≤ 2147483648 by omega) (by omega) (by decide)
  unfold imul
  exact IntWalk.i64_in _ (by omega)
theorem ti_t {a b c d : Int} (h : reB a b c d = true) (j : Nat) : rtiV j a b c d = 0 := by
  show r4G j (if r4E ⟨a, b, c, d⟩ = true then r4z else ⟨a, b, c, d⟩) = _
  rw [show r4E ⟨a, b, c, d⟩ = reB a b c d from rfl, if_pos h]
  unfold r4z r4G; split <;> rfl
theorem ti_f {a b c d : Int} (h : reB a b c d = false) (j : Nat) : rtiV j a b c d = r4G j ⟨a, b, c, d⟩ := by
  show r4G j (if r4E ⟨a, b, c, d⟩ = true then r4z else ⟨a, b, c, d⟩) = _
  rw [show r4E ⟨a, b, c, d⟩ = reB a b c d from rfl, if_neg (by simp [h])]
theorem a_farea : Answers2 21 s_rarea := by
  intro al ans h hq
  unfold s_rarea at h
  split at h <;> try (simp at h; done)
  rename_i a b c d
  simp only [Option.some.injEq] at h
  subst h
  have hq := asked hq
  refine QR.does_of_eval (O := o_farea) (QR.orc_cons a_ftidy QR.orc_nil) mixed (QR.noLoops) Try.func21 (by kernel_rfl) (by kernel_rfl) (by simp) ?_
  rw [farea_vc]
  have e : raV a b c d = if reB a b c d = true then 0 else (c - a) * (d - b) := rfl
  cases h : reB a b c d
  · simp [bcond_iff, okAns, eqXs, eqX, eqo, eqLo, eqc, veq, eqUs, e, h, ti_f h, r4G, area_in h]
  · have z : imul .i64 (isub .i64 0 0) (isub .i64 0 0) = 0 := rfl
    simp [bcond_iff, okAns, eqXs, eqX, eqo, eqLo, eqc, veq, eqUs, e, h, ti_t h, z]
theorem a_rcont : Answers2 29 s_rcont := by
  intro al ans h hq
  unfold s_rcont at h
  split at h <;> try (simp at h; done)
  rename_i a b c d x y
  simp only [Option.some.injEq] at h
  subst h
  have hq := asked hq
  refine QR.does_of_eval (O := o_re) (QR.orc_cons a_rempty QR.orc_nil) mixed (QR.noLoops) Try.func29 (by kernel_rfl) (by kernel_rfl) (by simp) ?_
  rw [rcont_vc]
  unfold rcB
  simp only [bcond_iff, bnot, okAns, eqXs, eqX, eqo, eqLo, eqc, veq, eqUs, ilt, igt, ile, ige, decide_eq_true_eq, decide_eq_false_iff_not, true_and, and_true, forall_eq, Bool.not_eq_true', Bool.not_eq_false']
  cases h : reB a b c d
  all_goals repeat' (first | intro _ | constructor)
  all_goals first | (exact (decide_eq_false (fun h => by omega)).symm) | (exact (decide_eq_true (by omega)).symm) | (rw [eq_comm, Bool.eq_iff_iff, decide_eq_true_eq, decide_eq_true_eq]; omega) | (simp_all; done)
theorem a_fcont : Answers2 20 s_rcont := by
  intro al ans h hq
  unfold s_rcont at h
  split at h <;> try (simp at h; done)
  rename_i a b c d x y
  simp only [Option.some.injEq] at h
  subst h
  have hq := asked hq
  refine QR.does_of_eval (O := o_fe) (QR.orc_cons a_fempty QR.orc_nil) mixed (QR.noLoops) Try.func20 (by kernel_rfl) (by kernel_rfl) (by simp) ?_
  rw [fcont_vc]
  unfold rcB
  simp only [bcond_iff, bnot, okAns, eqXs, eqX, eqo, eqLo, eqc, veq, eqUs, ilt, igt, ile, ige, decide_eq_true_eq, decide_eq_false_iff_not, true_and, and_true, forall_eq, Bool.not_eq_true', Bool.not_eq_false']
  cases h : reB a b c d
  all_goals repeat' (first | intro _ | constructor)
  all_goals first | (exact (decide_eq_false (fun h => by omega)).symm) | (exact (decide_eq_true (by omega)).symm) | (rw [eq_comm, Bool.eq_iff_iff, decide_eq_true_eq, decide_eq_true_eq]; omega) | (simp_all; done)
theorem imx (a b : Int) : iimax a b = if a ≤ b then b else a := by unfold iimax; split <;> split <;> omega
theorem imn (a b : Int) : iimin a b = if a ≤ b then a else b := by unfold iimin; split <;> split <;> omega
theorem ri_t {a b c d e f g h : Int} (k : reB a b c d = true ∨ reB e f g h = true) (j : Nat) : riV j a b c d e f g h = 0 := by
  show r4G j (r4I ⟨a, b, c, d⟩ ⟨e, f, g, h⟩) = 0
  rw [r4I_t (x := ⟨a, b, c, d⟩) (y := ⟨e, f, g, h⟩) k]; unfold r4z r4G; split <;> rfl
theorem ri_f {a b c d e f g h : Int} (k1 : reB a b c d = false) (k2 : reB e f g h = false) (j : Nat) : riV j a b c d e f g h = rtiV j (iimax a e) (iimax b f) (iimin c g) (iimin d h) := by
  show r4G j (r4I ⟨a, b, c, d⟩ ⟨e, f, g, h⟩) = _
  rw [r4I_f (x := ⟨a, b, c, d⟩) (y := ⟨e, f, g, h⟩) k1 k2, imx, imx, imn, imn]; rfl
theorem a_fint : Answers2 30 s_rint := by
  intro al ans h hq
  unfold s_rint at h
  split at h <;> try (simp at h; done)
  rename_i a b c d e f g h
  simp only [Option.some.injEq] at h
  subst h
  have hq := asked hq
  refine QR.does_of_eval (O := o_fint) (QR.orc_cons a_fempty (QR.orc_cons a_ftidy QR.orc_nil)) mixed (QR.noLoops) Try.func30 (by kernel_rfl) (by kernel_rfl) (by simp) ?_
  rw [fint_vc]
  cases k1 : reB a b c d
  · cases k2 : reB e f g h
    · simp [bcond_iff, okAns, eqXs, eqX, eqo, eqLo, eqL, eqc, veq, eqUs, k1, k2, ri_f k1 k2]
    · simp [bcond_iff, okAns, eqXs, eqX, eqo, eqLo, eqL, eqc, veq, eqUs, k1, k2, ri_t (Or.inr k2)]
  · simp [bcond_iff, okAns, eqXs, eqX, eqo, eqLo, eqL, eqc, veq, eqUs, k1, ri_t (Or.inl k1)]
theorem r4_ext {x y : R4} : x = y ↔ x.a = y.a ∧ x.b = y.b ∧ x.c = y.c ∧ x.d = y.d := by cases x; cases y; simp
theorem cov_t {a b c d e f g h : Int} (k : reB e f g h = true) : rcovB a b c d e f g h = true := decide_eq_true (Or.inl k)
theorem cov_f {a b c d e f g h : Int} (k : reB e f g h = false) : rcovB a b c d e f g h = band (ieq (riV 0 a b c d e f g h) e) (band (ieq (riV 1 a b c d e f g h) f) (band (ieq (riV 2 a b c d e f g h) g) (band (ieq (riV 3 a b c d e f g h) h) true))) := by
  rw [Bool.eq_iff_iff]
  unfold rcovB band ieq riV
  rw [decide_eq_true_eq, r4_ext, k]
  simp [r4G]
theorem a_fcov : Answers2 19 s_rcov := by
  intro al ans h hq
  unfold s_rcov at h
  split at h <;> try (simp at h; done)
  rename_i a b c d e f g h
  simp only [Option.some.injEq] at h
  subst h
  have hq := asked hq
  refine QR.does_of_eval (O := o_fcov) (QR.orc_cons a_fempty (QR.orc_cons a_fint QR.orc_nil)) mixed (QR.noLoops) Try.func19 (by kernel_rfl) (by kernel_rfl) (by simp) ?_
  rw [fcov_vc]
  cases k : reB e f g h
  · simp only [bcond_iff, okAns, eqXs, eqX, eqo, eqLo, eqc, veq, eqUs, k, cov_f k, forall_eq, true_and, and_true, reduceCtorEq, false_implies, true_implies, Bool.false_eq_true]
  · simp [bcond_iff, okAns, eqXs, eqX, eqo, eqLo, eqc, veq, eqUs, k, cov_t k]
theorem a_grect : Answers2 8 s_grect := by
  intro al ans h hq
  unfold s_grect at h
  split at h <;> try (simp at h; done)
  rename_i n0 n1 n2 n3
  simp only [Option.some.injEq] at h
  subst h
  have hq := asked hq
  refine QR.does_of_eval (O := o_grect) (QR.orc_cons (up a_mod) QR.orc_nil) mixed (QR.noLoops) Try.func8 (by kernel_rfl) (by kernel_rfl) (by simp) ?_
  rw [grect_vc]
  have k12 : modOk 12 = true := rfl
  have k8 : modOk 8 = true := rfl
  have k30 : modOk 30 = true := rfl
  have k3 : modOk 3 = true := rfl
  have r0 := gmod_range n0 (k := 12) (by decide)
  have r1 := gmod_range n1 (k := 12) (by decide)
  have r2 := gmod_range n2 (k := 8) (by decide)
  have r3 := gmod_range n3 (k := 8) (by decide)
  have r4 := gmod_range n2 (k := 3) (by decide)
  have e0 : isub .i64 (gmod n0 12) 6 = gmod n0 12 - 6 := IntWalk.i64_in _ (by omega)
  have e1 : isub .i64 (gmod n1 12) 6 = gmod n1 12 - 6 := IntWalk.i64_in _ (by omega)
  have e2 : iadd .i64 (gmod n0 12 - 6) (gmod n2 8) = gmod n0 12 - 6 + gmod n2 8 := IntWalk.i64_in _ (by omega)
  have e3 : iadd .i64 (gmod n1 12 - 6) (gmod n3 8) = gmod n1 12 - 6 + gmod n3 8 := IntWalk.i64_in _ (by omega)
  have e4 : isub .i64 (gmod n0 12 - 6 + gmod n2 8) 1 = gmod n0 12 - 6 + gmod n2 8 - 1 := IntWalk.i64_in _ (by omega)
  have e5 : isub .i64 (gmod n1 12 - 6 + gmod n3 8) 1 = gmod n1 12 - 6 + gmod n3 8 - 1 := IntWalk.i64_in _ (by omega)
  have e6 : iadd .i64 1073741824 (gmod n2 3) = 1073741824 + gmod n2 3 := IntWalk.i64_in _ (by omega)
  have e7 : isub .i64 (1073741824 + gmod n2 3) 1 = 1073741824 + gmod n2 3 - 1 := IntWalk.i64_in _ (by omega)
  have cc : grtC n0 n2 = if gmod (iquo .i64 n0 12) 30 = 29 then 1073741824 + gmod n2 3 - 1 else gmod n0 12 - 6 + gmod n2 8 - 1 := rfl
  cases h : ieq (gmod (iquo .i64 n0 12) 30) 29
  · have h' : ¬ gmod (iquo .i64 n0 12) 30 = 29 := by simpa [ieq] using h
    rw [if_neg h'] at cc
    simp [bcond_iff, okAns, eqXs, eqX, eqo, eqLo, eqL, eqc, veq, eqUs, k12, k8, k30, k3, e0, e1, e2, e3, e4, e5, e6, e7, h, cc, grA, grB, grD]
  · have h' : gmod (iquo .i64 n0 12) 30 = 29 := by simpa [ieq] using h
    rw [if_pos h'] at cc
    simp [bcond_iff, okAns, eqXs, eqX, eqo, eqLo, eqL, eqc, veq, eqUs, k12, k8, k30, k3, e0, e1, e2, e3, e4, e5, e6, e7, h, cc, grA, grB, grD]
end Go.Proofs.Ytdpmigbenkndbaa
