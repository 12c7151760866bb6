/-
  Layer 8 (mix): what each call answers.
-/
import Derived.Test.YtichmiifldbnhaaDoorHb
namespace Go.Proofs.YtichmiifldbnhaaDoor
open Go.RowKit PR QR
set_option linter.unusedVariables false
set_option linter.unusedSimpArgs false

theorem wa_at {a b c d X Y : Int} (h1 : w2 a b = X) (h2 : w2 c d = Y) (k : X + Y < 340282366920938463463374607431768211456) : waH a b c d = hi64 (X + Y) ∧ waL a b c d = lo64 (X + Y) := by
  have ok : waOk a b c d = true := by unfold waOk; rw [h1, h2]; exact decide_eq_true k
  unfold waH waL; rw [ok, h1, h2]; exact ⟨rfl, rfl⟩
theorem wk_at {a b c X : Int} (h1 : w2 a b = X) (k : X * c < 340282366920938463463374607431768211456) : wkH a b c = hi64 (X * c) ∧ wkL a b c = lo64 (X * c) := by
  have ok : wkOk a b c = true := by unfold wkOk; rw [h1]; exact decide_eq_true k
  unfold wkH wkL; rw [ok, h1]; exact ⟨rfl, rfl⟩
theorem wd_at (a b c : Int) : wdH a b c = hi64 (a * b * c) ∧ wdL a b c = lo64 (a * b * c) := ⟨rfl, rfl⟩
theorem w2_zero (p : Int) : w2 0 p = p := by unfold w2; omega
theorem fullB_iff {m : Int} : fullB m = true ↔ m = 255 ∨ m = 65535 := by unfold fullB; rw [decide_eq_true_eq]

theorem a_depth8 : Answers2 26 s_full8 := by
  intro al ans h hq
  unfold s_full8 at h
  split at h <;> try (simp at h; done)
  rename_i m
  simp only [Option.some.injEq] at h
  subst h
  have hq := asked hq
  refine QR.does_of_eval (O := (QR.orc [])) QR.orc_nil mixed (QR.noLoops) Tryd.func26 (by kernel_rfl) (by kernel_rfl) (by simp) ?_
  rw [depth8_vc]
  simp only [bcond_iff, okAns, eqXs, eqX, eqL, eqc, veq, eqUs, forall_eq, true_and, and_true, ieq, beq_iff_eq, beq_eq_false_iff_ne, ne_eq]
  unfold fullB
  exact ⟨fun c => by simp [c], fun c => by simp only [c, false_or]; rfl⟩
theorem a_full8 : Answers2 30 s_full8 := by
  intro al ans h hq
  unfold s_full8 at h
  split at h <;> try (simp at h; done)
  rename_i m
  simp only [Option.some.injEq] at h
  subst h
  have hq := asked hq
  refine QR.does_of_eval (O := (QR.orc [])) QR.orc_nil mixed (QR.noLoops) Tryd.func30 (by kernel_rfl) (by kernel_rfl) (by simp) ?_
  rw [full8_vc]
  simp only [bcond_iff, okAns, eqXs, eqX, eqL, eqc, veq, eqUs, forall_eq, true_and, and_true, ieq, beq_iff_eq, beq_eq_false_iff_ne, ne_eq]
  unfold fullB
  exact ⟨fun c => by simp [c], fun c => by simp only [c, false_or]; rfl⟩
theorem a_num8 : Answers2 27 s_num8 := by
  intro al ans h hq
  unfold s_num8 at h
  split at h <;> try (simp at h; done)
  rename_i fa al h p q r d be
  simp only [Option.some.injEq] at h
  subst h
  have hq := asked hq
  refine QR.does_of_eval (O := o_num8) (QR.orc_cons (up a_mul) (QR.orc_cons (up a_add) (QR.orc_cons (up a_mulsmall) QR.orc_nil))) mixed (QR.noLoops) Tryd.func27 (by kernel_rfl) (by kernel_rfl) (by simp) ?_
  rw [num8_vc]
  obtain ⟨rfl, g, _⟩ := hq
  obtain ⟨⟨f0, f1⟩, ⟨a0, a1⟩, ⟨p0, p1⟩, ⟨d0, d1⟩, ⟨b0, b1⟩⟩ := of_decide_eq_true g
  have n1 := Int.mul_nonneg a0 d0
  have n2 := Int.mul_le_mul a1 d1 d0 (by decide)
  have n3 := Int.mul_nonneg b0 d0
  have n4 := Int.mul_le_mul b1 d1 d0 (by decide)
  have n5 := Int.mul_nonneg (show 0 ≤ al * d + p by omega) f0
  have n6 := Int.mul_le_mul (show al * d + p ≤ 36893488147419103231 by omega) f1 f0 (by decide)
  have i1 : inU fa = true := inU_iff.2 (by omega)
  have i2 : inU al = true := inU_iff.2 (by omega)
  have i3 : inU p = true := inU_iff.2 (by omega)
  have i4 : inU d = true := inU_iff.2 (by omega)
  have i5 : inU be = true := inU_iff.2 (by omega)
  obtain ⟨m1, m2, m3⟩ := wm_spec i2 i4
  obtain ⟨k1, k2, k3⟩ := wm_spec i5 i4
  obtain ⟨x1, x2⟩ := wa_at m3 (w2_zero p) (by omega)
  obtain ⟨x3, x4, x5⟩ := hilo_range (al * d + p) (by omega) (by omega)
  obtain ⟨y1, y2⟩ := wk_at (c := fa) x5 (by omega)
  obtain ⟨y3, y4, y5⟩ := hilo_range ((al * d + p) * fa) n5 (by omega)
  obtain ⟨z1, z2⟩ := wa_at y5 k3 (by omega)
  simp only [okAns, eqXs, eqX, eqL, eqc, veq, eqUs, forall_eq, true_and, and_true, i1, i2, i3, i4, i5, inU_zero, m1, m2, k1, k2, x1, x2, x3, x4, y1, y2, y3, y4, z1, z2, nmH, nmL, nmZ]

theorem mx_in {o k m s a d b : Int} (hm : in16 m = true) (hs : in16 s = true) (ha : in16 a = true) (hd : in16 d = true) (hb : in16 b = true) :
    inU (mxH o k m s a d b) = true ∧ inU (mxL o k m s a d b) = true ∧ inU (mxQ o k m s a d b) = true ∧ inU (mxR o k m s a d b) = true ∧ inU (mxD o k m s a d b) = true := by
  rw [in16_iff] at *
  cases ok : mxOk o k m s a d b
  · obtain ⟨z1, z2, z3, z4, _⟩ := mx_no ok
    unfold mxH mxL
    rw [z1, z2, z3, z4]; decide
  · obtain ⟨_, _, g7, g8, p0, q0, q1, s0, s1, d0, d1, le, sq⟩ := mx_facts ok hs.1 hd.1
    have c := (mc_eq ok hs.1 hd.1).1
    have h1 : mxH o k m s a d b < 4294967296 := by
      unfold hvOk flOk vldB at c
      simp only [Bool.and_eq_true, decide_eq_true_eq] at c
      exact c.1.1.1.1.1
    have h0 : 0 ≤ mxH o k m s a d b := by unfold mxH hi64; omega
    exact ⟨inU_iff.2 ⟨h0, by omega⟩, inU_lo _, inU_iff.2 ⟨q0, by omega⟩, inU_iff.2 ⟨s0, by omega⟩, inU_iff.2 ⟨by omega, d1⟩⟩

theorem sub16 {m b : Int} (hm : in16 m = true) (hb : in16 b = true) (h : b ≤ m) : isub .u16 m b = m - b ∧ in16 (m - b) = true ∧ isub .u64 m b = m - b := by
  rw [in16_iff] at *
  refine ⟨?_, by omega, ?_⟩
  · unfold isub; rw [IntKind.wrap_u16]; omega
  · unfold isub; rw [IntKind.wrap_u64]; omega
theorem mulIn {x y : Int} (h : 0 ≤ x * y) (k : x * y < 18446744073709551616) : imul .u64 x y = x * y := by rw [imulU]; exact modM h k
/-- what both ways of computing a composite need: sizes -/
theorem mx_ways {o k m s a d b : Int} (ok : mxOk o k m s a d b = true) (hm : in16 m = true) (hs : in16 s = true) (ha : in16 a = true) (hd : in16 d = true) (hb : in16 b = true) :
    (in16 (faV o a b m) = true ∧ in16 (fbV o a b m) = true) ∧ (isub .u16 m b = m - b ∧ iconv .u64 (m - b) = m - b ∧ isub .u64 m b = m - b) ∧ (0 ≤ (m - b) * s ∧ (m - b) * s ≤ 4294836225 ∧ imul .u64 (m - b) s = (m - b) * s) ∧
    (0 ≤ fbV o a b m * d ∧ fbV o a b m * d ≤ 4294836225 ∧ imul .u64 (fbV o a b m) d = fbV o a b m * d) ∧ (0 ≤ fbV o a b m * d * m ∧ fbV o a b m * d * m ≤ 281462092005375 ∧ imul .u64 (fbV o a b m * d) m = fbV o a b m * d * m) ∧
    (imul .u64 (faV o a b m) (blQ k s a d b) = faV o a b m * blQ k s a d b ∧ imul .u64 m m = m * m ∧ imul .u64 (m * m) (blD k s a d b) = m * m * blD k s a d b) ∧
    (0 ≤ blP k s a d b ∧ blP k s a d b < 18446744073709551616 ∧ 0 < blD k s a d b ∧ blD k s a d b ≤ 4294836225) ∧
    nmOk (faV o a b m) ((m - b) * s) (blP k s a d b) (blD k s a d b) (fbV o a b m * d * m) = true ∧ nmZ (faV o a b m) ((m - b) * s) (blP k s a d b) (blD k s a d b) (fbV o a b m * d * m) = mxP o k m s a d b := by
  obtain ⟨hk, ho, hmm⟩ := mx_iff.1 ok
  obtain ⟨z1, z2, z3⟩ := sub16 hm hb ho.2.2.2
  have z4 := conv64 z2
  obtain ⟨f1, f2⟩ := fa_in (k := o) ha hb hm
  rw [in16_iff] at hm hs ha hd hb z2
  obtain ⟨_, _, g7, g8, p0, q0, q1, s0, s1, d0, d1, le, sq⟩ := mx_facts ok hs.1 hd.1
  obtain ⟨e1, e2, e3, e4⟩ := mx_at ok
  obtain ⟨l0, l1⟩ := bl_lt (k := k) ⟨hk.1, hk.2.1⟩ hs.1 hk.2.2.1 (show a ≤ 65535 by omega) hd.1 hk.2.2.2 (show b ≤ 65535 by omega)
  have okb : blOk k s a d b = true := decide_eq_true hk
  rw [← (bl_at okb).1] at l0 l1
  have F1 := in16_iff.1 f1
  have F2 := in16_iff.1 f2
  have a0 := Int.mul_nonneg z2.1 hs.1
  have a1 := Int.mul_le_mul (show m - b ≤ 65535 by omega) (show s ≤ 65535 by omega) hs.1 (by decide)
  have b0 := Int.mul_nonneg F2.1 hd.1
  have b1 := Int.mul_le_mul (show fbV o a b m ≤ 65535 by omega) (show d ≤ 65535 by omega) hd.1 (by decide)
  have c0 := Int.mul_nonneg b0 hm.1
  have c1 := Int.mul_le_mul (show fbV o a b m * d ≤ 4294836225 by omega) (show m ≤ 65535 by omega) hm.1 (by decide)
  have mm0 := Int.mul_nonneg hm.1 hm.1
  have mm := Int.mul_le_mul (show m ≤ 65535 by omega) (show m ≤ 65535 by omega) hm.1 (by decide)
  rw [e2] at q0 q1
  rw [e4] at d0 d1
  refine ⟨⟨f1, f2⟩, ⟨z1, z4.1, z3⟩, ⟨a0, by omega, mulIn a0 (by omega)⟩, ⟨b0, by omega, mulIn b0 (by omega)⟩, ⟨c0, by omega, mulIn c0 (by omega)⟩, ⟨mulIn q0 (by omega), mulIn mm0 (by omega), mulIn (by omega) d1⟩, ⟨l0, l1, g7, g8⟩, ?_, ?_⟩
  · exact decide_eq_true ⟨by omega, by omega, by omega, by omega, by omega⟩
  · rw [e1]; unfold nmZ mxN; grind
theorem a_mval : Answers2 16 s_mval := by
  intro al ans h hq
  unfold s_mval at h
  split at h <;> try (simp at h; done)
  rename_i o k m s a d b
  simp only [Option.some.injEq] at h
  subst h
  have hq := asked hq
  refine QR.does_of_eval (O := o_val8) (QR.orc_cons a_factors (QR.orc_cons a_exact6 (QR.orc_cons a_depth8 (QR.orc_cons a_num8 QR.orc_nil)))) mixed (QR.noLoops) Tryd.func16 (by kernel_rfl) (by kernel_rfl) (by simp) ?_
  rw [mval_vc]
  obtain ⟨g1, g2, g3, g4, g5, _⟩ := hq
  cases ok : mxOk o k m s a d b
  · obtain ⟨y1, y2, y3, y4, _⟩ := mx_no ok
    have y5 : mxH o k m s a d b = 0 := by unfold mxH; rw [y1]; rfl
    have y6 : mxL o k m s a d b = 0 := by unfold mxL; rw [y1]; rfl
    have no := ok
    unfold mxOk at no
    cases c1 : opOk7 o a b m <;> cases c2 : blOk k s a d b <;> cases c3 : fullB m <;> simp [c1, c2, c3, bcond_iff, bnot, okAns, eqXs, eqX, eqL, eqc, veq, eqUs, g1, g2, g3, g4, g5, y2, y3, y4, y5, y6] at no ⊢
  · obtain ⟨⟨f1, f2⟩, ⟨z1, z2, z3⟩, ⟨a0, a1, a2⟩, ⟨b0, b1, b2⟩, ⟨c0, c1, c2⟩, ⟨q1, q2, q3⟩, ⟨p0, p1, p2, p3⟩, nm, nz⟩ := mx_ways ok g1 g2 g3 g4 g5
    obtain ⟨e1, e2, e3, e4⟩ := mx_at ok
    have k1 := ok
    unfold mxOk at k1
    simp only [Bool.and_eq_true] at k1
    obtain ⟨⟨k1, k2⟩, k3⟩ := k1
    have u1 := (conv64 f1).1
    have u2 := (conv64 f2).1
    have u3 := (conv64 g1).1
    have u4 := (conv64 g2).1
    have u5 := (conv64 g4).1
    simp only [k1, k2, k3, bcond_iff, bnot, Bool.not_true, okAns, eqXs, eqX, eqL, eqc, veq, eqUs, forall_eq, true_and, and_true, Bool.false_eq_true, false_implies, true_implies, forall_const, g1, g2, g3, g4, g5, z1, z2, z3, a2, b2, c2, q1, q2, q3, u1, u2, u3, u4, u5, nm, e2, e3, e4]
    simp only [mxH, mxL, ← nz]
    first | done | exact ⟨rfl, rfl⟩
theorem a_mcol : Answers2 13 s_mcol := by
  intro al ans h hq
  unfold s_mcol at h
  split at h <;> try (simp at h; done)
  rename_i o k m s a d b
  simp only [Option.some.injEq] at h
  subst h
  have hq := asked hq
  refine QR.does_of_eval (O := o_col8) (QR.orc_cons a_mval (QR.orc_cons (up a_half3) QR.orc_nil)) mixed (QR.noLoops) Tryd.func13 (by kernel_rfl) (by kernel_rfl) (by simp) ?_
  rw [mcol_vc]
  obtain ⟨g1, g2, g3, g4, g5, _⟩ := hq
  obtain ⟨i1, i2, i3, i4, i5⟩ := mx_in (o := o) (k := k) g1 g2 g3 g4 g5
  cases ok : mxOk o k m s a d b
  · obtain ⟨_, _, _, _, z⟩ := mx_no ok
    simp [bcond_iff, bnot, okAns, eqXs, eqX, eqc, veq, eqUs, g1, g2, g3, g4, g5, z]
  · have e : mcV o k m s a d b = iconv .u16 (hvV (mxH o k m s a d b) (mxL o k m s a d b) (mxQ o k m s a d b) (mxR o k m s a d b) (mxD o k m s a d b)) := by unfold mcV; rw [ok]; rfl
    simp [bcond_iff, bnot, okAns, eqXs, eqX, eqc, veq, eqUs, g1, g2, g3, g4, g5, i1, i2, i3, i4, i5, e]
theorem a_rmval : Answers2 17 s_mval := by
  intro al ans h hq
  unfold s_mval at h
  split at h <;> try (simp at h; done)
  rename_i o k m s a d b
  simp only [Option.some.injEq] at h
  subst h
  have hq := asked hq
  refine QR.does_of_eval (O := o_rval8) (QR.orc_cons a_rfactors (QR.orc_cons a_rbl (QR.orc_cons a_full8 (QR.orc_cons a_wide6 (QR.orc_cons (up a_radd) (QR.orc_cons (up a_rmulsmall) QR.orc_nil)))))) mixed (QR.noLoops) Tryd.func17 (by kernel_rfl) (by kernel_rfl) (by simp) ?_
  rw [rmval_vc]
  obtain ⟨g1, g2, g3, g4, g5, _⟩ := hq
  cases ok : mxOk o k m s a d b
  · obtain ⟨y1, y2, y3, y4, _⟩ := mx_no ok
    have y5 : mxH o k m s a d b = 0 := by unfold mxH; rw [y1]; rfl
    have y6 : mxL o k m s a d b = 0 := by unfold mxL; rw [y1]; rfl
    have no := ok
    unfold mxOk at no
    cases c1 : opOk7 o a b m <;> cases c2 : blOk k s a d b <;> cases c3 : fullB m <;> simp [c1, c2, c3, bcond_iff, bnot, okAns, eqXs, eqX, eqL, eqc, veq, eqUs, g1, g2, g3, g4, g5, y2, y3, y4, y5, y6] at no ⊢
  · obtain ⟨⟨f1, f2⟩, ⟨z1, z2, z3⟩, ⟨a0, a1, a2⟩, ⟨b0, b1, b2⟩, ⟨c0, c1, c2⟩, ⟨q1, q2, q3⟩, ⟨p0, p1, p2, p3⟩, nm, nz⟩ := mx_ways ok g1 g2 g3 g4 g5
    obtain ⟨e1, e2, e3, e4⟩ := mx_at ok
    have k1 := ok
    unfold mxOk at k1
    simp only [Bool.and_eq_true] at k1
    obtain ⟨⟨k1, k2⟩, k3⟩ := k1
    have u1 := (conv64 f1).1
    have u2 := (conv64 f2).1
    have u3 := (conv64 g1).1
    have u4 := (conv64 g2).1
    have u5 := (conv64 g4).1
    have u6 := (conv64 g5).1
    have F1 := in16_iff.1 f1
    have M := in16_iff.1 g1
    have iF := (conv64 f1).2
    have iM := (conv64 g1).2
    have iP : inU (blP k s a d b) = true := inU_iff.2 ⟨p0, p1⟩
    have iD : inU (blD k s a d b) = true := inU_iff.2 ⟨by omega, by omega⟩
    have iA : inU ((m - b) * s) = true := inU_iff.2 ⟨a0, by omega⟩
    have iB : inU (fbV o a b m * d) = true := inU_iff.2 ⟨b0, by omega⟩
    -- the three summands
    have s0 := Int.mul_nonneg p0 F1.1
    have s1 := Int.mul_le_mul (show blP k s a d b ≤ 18446744073709551615 by omega) (show faV o a b m ≤ 65535 by omega) F1.1 (by decide)
    have t0 := Int.mul_nonneg a0 F1.1
    have t1 := Int.mul_le_mul a1 (show faV o a b m ≤ 65535 by omega) F1.1 (by decide)
    have t2 := Int.mul_nonneg t0 (show 0 ≤ blD k s a d b by omega)
    have t3 := Int.mul_le_mul t1 p3 (show 0 ≤ blD k s a d b by omega) (by decide)
    have v2 := Int.mul_nonneg c0 (show 0 ≤ blD k s a d b by omega)
    have v3 := Int.mul_le_mul c1 p3 (show 0 ≤ blD k s a d b by omega) (by decide)
    obtain ⟨x1, x2⟩ := wk_at (c := faV o a b m) (w2_zero (blP k s a d b)) (by omega)
    obtain ⟨x3, x4, x5⟩ := hilo_range (blP k s a d b * faV o a b m) s0 (by omega)
    have w1 : wdOk ((m - b) * s) (faV o a b m) (blD k s a d b) = true := decide_eq_true ⟨t2, by omega⟩
    have w2' : wdOk (fbV o a b m * d) m (blD k s a d b) = true := decide_eq_true ⟨v2, by omega⟩
    obtain ⟨w3, w4, w5⟩ := wd_in w1
    obtain ⟨w6, w7, w8⟩ := wd_in w2'
    obtain ⟨y1, y2⟩ := wa_at x5 w5 (by omega)
    obtain ⟨y3, y4, y5⟩ := hilo_range (blP k s a d b * faV o a b m + (m - b) * s * faV o a b m * blD k s a d b) (by omega) (by omega)
    obtain ⟨r1, r2⟩ := wa_at y5 w8 (by omega)
    have fin : blP k s a d b * faV o a b m + (m - b) * s * faV o a b m * blD k s a d b + fbV o a b m * d * m * blD k s a d b = mxP o k m s a d b := by rw [e1]; unfold mxN; grind
    simp only [k1, k2, k3, bcond_iff, bnot, Bool.not_true, okAns, eqXs, eqX, eqL, eqc, veq, eqUs, forall_eq, true_and, and_true, Bool.false_eq_true, false_implies, true_implies, forall_const, g1, g2, g3, g4, g5, inU_zero, z1, z2, z3, a2, b2, c2, q1, q2, q3, u1, u2, u3, u4, u5, u6, iF, iM, iP, iD, iA, iB, x1, x2, x3, x4, w1, w2', w3, w4, w6, w7, y1, y2, y3, y4, r1, r2, fin, e2, e3, e4, mxH, mxL]
theorem a_rmcol : Answers2 14 s_mcol := by
  intro al ans h hq
  unfold s_mcol at h
  split at h <;> try (simp at h; done)
  rename_i o k m s a d b
  simp only [Option.some.injEq] at h
  subst h
  have hq := asked hq
  refine QR.does_of_eval (O := o_rcol8) (QR.orc_cons a_rmval (QR.orc_cons (up a_rhalf3) QR.orc_nil)) mixed (QR.noLoops) Tryd.func14 (by kernel_rfl) (by kernel_rfl) (by simp) ?_
  rw [rmcol_vc]
  obtain ⟨g1, g2, g3, g4, g5, _⟩ := hq
  obtain ⟨i1, i2, i3, i4, i5⟩ := mx_in (o := o) (k := k) g1 g2 g3 g4 g5
  cases ok : mxOk o k m s a d b
  · obtain ⟨_, _, _, _, z⟩ := mx_no ok
    simp [bcond_iff, bnot, okAns, eqXs, eqX, eqc, veq, eqUs, g1, g2, g3, g4, g5, z]
  · have e : mcV o k m s a d b = iconv .u16 (hvV (mxH o k m s a d b) (mxL o k m s a d b) (mxQ o k m s a d b) (mxR o k m s a d b) (mxD o k m s a d b)) := by unfold mcV; rw [ok]; rfl
    simp [bcond_iff, bnot, okAns, eqXs, eqX, eqc, veq, eqUs, g1, g2, g3, g4, g5, i1, i2, i3, i4, i5, e]

-- what the laws need of the generator
theorem gs_in {a n : Int} : 0 ≤ gsV a (gxMax n) ∧ gsV a (gxMax n) ≤ gxMax n := gsV_range a (gx16 n)
theorem ga_in {x f n : Int} : 0 ≤ gsV x (gsV f (gxMax n)) ∧ gsV x (gsV f (gxMax n)) ≤ gsV f (gxMax n) := gsV_range x (gs16 f n)
theorem gmod_i64 {op k : Int} (h : 0 < k) (h2 : k ≤ 100) : iadd .i64 1 (gmod op k) = 1 + gmod op k ∧ isub .i64 (gmod op k) 1 = gmod op k - 1 := by
  have r := gmod_range op h
  unfold iadd isub
  exact ⟨IntWalk.i64_in _ (by omega), IntWalk.i64_in _ (by omega)⟩
theorem ine_rfl (a : Int) : ine a a = false := by simp [ine]
theorem hvV_eq {p q r d : Int} (ok : hvOk 0 p q r d = true) : hvV 0 p q r d = hvZ p q r d := by
  unfold hvV; rw [ok, show w2 0 p = p by unfold w2; omega]; rfl
theorem hvOk_of {p q r d : Int} (h0 : 0 ≤ p) (hq : q < 70368744177664) (hr : r < 8589934592) (hd : 1 ≤ d) (h1 : flZ p q r d < 9223372036854775807) : hvOk 0 p q r d = true := by
  have e : w2 0 p = p := by unfold w2; omega
  unfold hvOk flOk flI vldB
  rw [e]
  have h2 : hvZ p q r d < 9223372036854775808 := by unfold hvZ; split <;> omega
  simp only [Bool.and_eq_true, decide_eq_true_eq]
  exact ⟨⟨⟨⟨⟨by decide, hq⟩, hr⟩, hd⟩, by omega⟩, h2⟩
theorem mc_half {o k m s a d b : Int} (ok : mxOk o k m s a d b = true) (h0 : 0 ≤ s) (h2 : 0 ≤ d) : hvV (mxH o k m s a d b) (mxL o k m s a d b) (mxQ o k m s a d b) (mxR o k m s a d b) (mxD o k m s a d b) = mcV o k m s a d b := by
  obtain ⟨okv, ce, _⟩ := mc_eq ok h0 h2
  have w : w2 (mxH o k m s a d b) (mxL o k m s a d b) = mxP o k m s a d b := by unfold w2 mxH mxL hi64 lo64; omega
  rw [ce, ← w]; unfold hvV; rw [okv]; rfl
/-- a blended colour of opaque samples is the nearest integer of its term -/
theorem st_hv {k s d m : Int} (hk : 1 ≤ k ∧ k ≤ 12) (hm : 0 < m) (hM : m ≤ 65535) (h0 : 0 ≤ s) (h1 : s ≤ m) (h2 : 0 ≤ d) (h3 : d ≤ m) (v0 : 0 ≤ hvZ (blP k s m d m) (blQ k s m d m) (blR k s m d m) (blD k s m d m * m)) (v1 : hvZ (blP k s m d m) (blQ k s m d m) (blR k s m d m) (blD k s m d m * m) ≤ m) :
    stOk6 k s d m = true ∧ stV6 k s d m = hvZ (blP k s m d m) (blQ k s m d m) (blR k s m d m) (blD k s m d m * m) := by
  have ok : blOk k s m d m = true := decide_eq_true ⟨hk.1, hk.2, h1, h3⟩
  obtain ⟨g1, g2, g3, g4, g5, g6, g7, g8, g9⟩ := bl_facts (k := k) hk h0 h1 hM h2 h3 hM
  have so : stOk6 k s d m = true := (stOk_iff h0 hM).2 ⟨ok, by omega⟩
  have D0 := Int.mul_pos g7 hm
  have D1 := Int.mul_le_mul g8 hM (by omega) (by decide)
  have em : imul .u64 (blD k s m d m) (iconv .u64 m) = blD k s m d m * m := by
    rw [u64_id (by omega) (by omega), imulU]; exact modM (by omega) (by omega)
  have fl : flZ (blP k s m d m) (blQ k s m d m) (blR k s m d m) (blD k s m d m * m) < 9223372036854775807 := by
    have : flZ (blP k s m d m) (blQ k s m d m) (blR k s m d m) (blD k s m d m * m) ≤ hvZ (blP k s m d m) (blQ k s m d m) (blR k s m d m) (blD k s m d m * m) := by unfold hvZ; split <;> omega
    omega
  have okv := hvOk_of (p := blP k s m d m) (q := blQ k s m d m) (r := blR k s m d m) (d := blD k s m d m * m) g1 (by omega) (by omega) (by omega) fl
  refine ⟨so, ?_⟩
  have u := u16_id v0 (by omega)
  unfold stV6 rdV
  rw [so, em, hvV_eq okv]
  exact u
end Go.Proofs.YtichmiifldbnhaaDoor
