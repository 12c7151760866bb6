import Derived.Test.YtpjhdjakpbabhaaGreatDoorZaa
import Derived.Test.YtpjhdjakpbabhaaGreatDoorZ0
import Derived.Test.YtpjhdjakpbabhaaGreatDoorLb
namespace Go.Proofs.YtpjhdjakpbabhaaGreatDoor
open Go.RowKit PR QR
set_option linter.unusedVariables false
set_option linter.unusedSimpArgs false
section
variable {c0 c1 c2 a own f k0 k1 k2 ka kf m o k s0 s1 s2 sa sf s c d b : Int}
theorem ieq_tt {a b : Int} (h : ieq a b = true) : a = b := by unfold ieq at h; exact of_decide_eq_true (by simpa using h)
theorem ieq_t {a b : Int} (h : a = b) : ieq a b = true := by subst h; exact ieq_rfl' a
theorem pv_m (h : pvB k0 k1 k2 ka kf m = true) : k0 ≤ ka ∧ k1 ≤ ka ∧ k2 ≤ ka ∧ ka ≤ kf ∧ kf ≤ m := of_decide_eq_true h
theorem gs_kn {o : Int} (hs : pvB s0 s1 s2 sa sf m = true) (hv : vaB c0 c1 c2 a own f k0 k1 k2 ka kf m = true) (ho : o = 4) :
    knOk k m s0 sa sf c0 k0 ka = gsOk true o k m s0 s1 s2 sa sf c0 c1 c2 a own f k0 k1 k2 ka kf ∧ knOk k m s1 sa sf c1 k1 ka = gsOk true o k m s0 s1 s2 sa sf c0 c1 c2 a own f k0 k1 k2 ka kf ∧ knOk k m s2 sa sf c2 k2 ka = gsOk true o k m s0 s1 s2 sa sf c0 c1 c2 a own f k0 k1 k2 ka kf := by
  subst ho
  obtain ⟨⟨q1, q2, q3, q4, q5, q6, q7⟩, ⟨r1, r2, r3, r4, r5⟩, hm⟩ := va_iff.1 hv
  have p := pv_iff.1 hs
  have e : ∀ x : Bool, (x = true ↔ 1 ≤ k ∧ k ≤ 12) → x = gsOk true 4 k m s0 s1 s2 sa sf c0 c1 c2 a own f k0 k1 k2 ka kf := by
    intro x h
    rw [Bool.eq_iff_iff, h, gs_iff]
    exact ⟨fun q => ⟨⟨by decide, q, fun _ => rfl⟩, p, hv⟩, fun q => q.1.2.1⟩
  refine ⟨e _ ?_, e _ ?_, e _ ?_⟩ <;> rw [kn_iff]
  · exact ⟨fun q => q.1.1, fun q => ⟨⟨q, p.1, p.2.2.2.1, p.2.2.2.2, r1, r5, by omega⟩, hm⟩⟩
  · exact ⟨fun q => q.1.1, fun q => ⟨⟨q, p.2.1, p.2.2.2.1, p.2.2.2.2, r2, r5, by omega⟩, hm⟩⟩
  · exact ⟨fun q => q.1.1, fun q => ⟨⟨q, p.2.2.1, p.2.2.2.1, p.2.2.2.2, r3, r5, by omega⟩, hm⟩⟩
theorem gs_mx (hs : pvB s0 s1 s2 sa sf m = true) (hv : vaB c0 c1 c2 a own f k0 k1 k2 ka kf m = true) :
    mxOk o k m s0 sa c0 a = gsOk false o k m s0 s1 s2 sa sf c0 c1 c2 a own f k0 k1 k2 ka kf ∧ mxOk o k m s1 sa c1 a = gsOk false o k m s0 s1 s2 sa sf c0 c1 c2 a own f k0 k1 k2 ka kf ∧ mxOk o k m s2 sa c2 a = gsOk false o k m s0 s1 s2 sa sf c0 c1 c2 a own f k0 k1 k2 ka kf := by
  obtain ⟨⟨q1, q2, q3, q4, q5, q6, q7⟩, ⟨r1, r2, r3, r4, r5⟩, hm⟩ := va_iff.1 hv
  have p := pv_iff.1 hs
  have e : ∀ x : Bool, (x = true ↔ (1 ≤ o ∧ o ≤ 12) ∧ 1 ≤ k ∧ k ≤ 12) → x = gsOk false o k m s0 s1 s2 sa sf c0 c1 c2 a own f k0 k1 k2 ka kf := by
    intro x h
    rw [Bool.eq_iff_iff, h, gs_iff]
    exact ⟨fun q => ⟨⟨q.1, q.2, fun h => by simp at h⟩, p, hv⟩, fun q => ⟨q.1.1, q.1.2.1⟩⟩
  refine ⟨e _ ?_, e _ ?_, e _ ?_⟩ <;> rw [mx_iff]
  · exact ⟨fun q => ⟨⟨q.2.1.1, q.2.1.2.1⟩, q.1.1, q.1.2.1⟩, fun q => ⟨⟨q.2.1, q.2.2, p.1, q1⟩, ⟨q.1.1, q.1.2, by omega, q6⟩, hm⟩⟩
  · exact ⟨fun q => ⟨⟨q.2.1.1, q.2.1.2.1⟩, q.1.1, q.1.2.1⟩, fun q => ⟨⟨q.2.1, q.2.2, p.2.1, q2⟩, ⟨q.1.1, q.1.2, by omega, q6⟩, hm⟩⟩
  · exact ⟨fun q => ⟨⟨q.2.1.1, q.2.1.2.1⟩, q.1.1, q.1.2.1⟩, fun q => ⟨⟨q.2.1, q.2.2, p.2.2.1, q3⟩, ⟨q.1.1, q.1.2, by omega, q6⟩, hm⟩⟩
theorem gs_no {kn : Bool} (h : pvB s0 s1 s2 sa sf m = false ∨ vaB c0 c1 c2 a own f k0 k1 k2 ka kf m = false) : gsOk kn o k m s0 s1 s2 sa sf c0 c1 c2 a own f k0 k1 k2 ka kf = false := by
  unfold gsOk; rcases h with h | h <;> rw [h] <;> simp
theorem gs_not4 (h : ¬ o = 4) : gsOk true o k m s0 s1 s2 sa sf c0 c1 c2 a own f k0 k1 k2 ka kf = false := by
  cases e : gsOk true o k m s0 s1 s2 sa sf c0 c1 c2 a own f k0 k1 k2 ka kf
  · rfl
  · exact absurd ((gs_iff.1 e).1.2.2 rfl) h
end
theorem a_gben : Answers2 88 s_gben := by
  intro al ans h hq
  unfold s_gben at h
  split at h <;> try (simp at h; done)
  rename_i c0 c1 c2 a own f
  simp only [Option.some.injEq] at h
  subst h
  have hq := asked hq
  refine QR.does_of_eval (O := (QR.orc [])) QR.orc_nil mixed (QR.noLoops) Tryz.func88 (by kernel_rfl) (by kernel_rfl) (by simp) ?_
  rw [gben_vc]
  simp [bcond_iff, okAns, eqXs, eqX, eqo, eqLo, eqL, eqc, veq, eqUs]
theorem a_gva : Answers2 51 s_va := by
  intro al ans h hq
  unfold s_va at h
  split at h <;> try (simp at h; done)
  rename_i c0 c1 c2 a own f k0 k1 k2 ka kf m
  simp only [Option.some.injEq] at h
  subst h
  have hq := asked hq
  refine QR.does_of_eval (O := o_gva) (QR.orc_cons a_pvalid2 (QR.orc_cons a_gben QR.orc_nil)) mixed (QR.noLoops) Tryz.func51 (by kernel_rfl) (by kernel_rfl) (by simp) ?_
  rw [gva_vc]
  cases hv : vaB c0 c1 c2 a own f k0 k1 k2 ka kf m
  · have key : (m = 255 ∨ m = 65535) → kf = ka → pvB k0 k1 k2 ka kf m = true → pvB c0 c1 c2 a a m = true → ile own a = true → ile own f = true → ile f m = false := fun hm h0 h1 h2 h3 h4 => by
      cases e : ile f m
      · rfl
      · have p := pv_m h1
        have q := pv_m h2
        have e0 := h0
        have := va_iff.2 ⟨⟨q.1, q.2.1, q.2.2.1, ile_tt h3, ile_tt h4, q.2.2.2.2, ile_tt e⟩, ⟨p.1, p.2.1, p.2.2.1, e0.symm, by omega⟩, hm⟩
        rw [hv] at this; simp at this
    by_cases e1 : m = 255
    · subst e1
      have z := key (Or.inl rfl)
      by_cases x0 : kf = ka <;> cases x1 : pvB k0 k1 k2 ka kf 255 <;> cases x2 : pvB c0 c1 c2 a a 255 <;> cases x3 : ile own a <;> cases x4 : ile own f <;>
        simp [bcond_iff, bnot, okAns, eqXs, eqX, eqo, eqLo, eqL, eqc, veq, eqUs, ine, x0, x1, x2, x3, x4]
      exact z x0 x1 x2 x3 x4
    · by_cases e2 : m = 65535
      · subst e2
        have z := key (Or.inr rfl)
        by_cases x0 : kf = ka <;> cases x1 : pvB k0 k1 k2 ka kf 65535 <;> cases x2 : pvB c0 c1 c2 a a 65535 <;> cases x3 : ile own a <;> cases x4 : ile own f <;>
          simp [bcond_iff, bnot, okAns, eqXs, eqX, eqo, eqLo, eqL, eqc, veq, eqUs, ine, x0, x1, x2, x3, x4]
        exact z x0 x1 x2 x3 x4
      · simp [bcond_iff, okAns, eqXs, eqX, eqo, eqLo, eqL, eqc, veq, eqUs, ine, e1, e2]
  · obtain ⟨⟨q1, q2, q3, q4, q5, q6, q7⟩, ⟨r1, r2, r3, r4, r5⟩, hm⟩ := va_iff.1 hv
    have p : pvB k0 k1 k2 ka kf m = true := decide_eq_true (by omega)
    have p2 : pvB c0 c1 c2 a a m = true := decide_eq_true (by omega)
    have e : kf = ka := r4.symm
    subst e
    rcases hm with rfl | rfl <;> simp [bcond_iff, bnot, okAns, eqXs, eqX, eqo, eqLo, eqL, eqc, veq, eqUs, ine, ile_t q4, ile_t q5, ile_t q7, p, p2]
set_option maxRecDepth 20000 in
theorem a_gadd : Answers2 60 s_gadd := by
  intro al ans h hq
  unfold s_gadd at h
  split at h <;> try (simp at h; done)
  rename_i o k m s0 s1 s2 sa sf c0 c1 c2 a own f
  simp only [Option.some.injEq] at h
  subst h
  have hq := asked hq
  refine QR.does_of_eval (O := o_gadd) (QR.orc_cons a_oshape (QR.orc_cons a_oalpha (QR.orc_cons a_mcol QR.orc_nil))) mixed ((fun n => bif Nat.beq n 3 then some (.rounds 4) else none)) Tryz.func60 (by kernel_rfl) (by kernel_rfl) (by simp) ?_
  rw [gadd_vc]
  delta zz266 zz303
  obtain ⟨gm, g0, g1, g2, ga, gf, h0, h1, h2, h3, h4, h5, _⟩ := hq
  cases x0 : mxOk o k m s0 sa c0 a <;> cases x1 : mxOk o k m s1 sa c1 a <;> cases x2 : mxOk o k m s2 sa c2 a <;>
    simp [bcond_iff, bnot, okAns, eqXs, eqX, eqo, eqLo, eqL, eqc, veq, eqUs, adOk, x0, x1, x2, bz_f, bz_t, gm, g0, g1, g2, ga, gf, h0, h1, h2, h3, h4, h5]
set_option maxRecDepth 20000 in
theorem a_grep : Answers2 61 s_grep := by
  intro al ans h hq
  unfold s_grep at h
  split at h <;> try (simp at h; done)
  rename_i k m s0 s1 s2 sa sf c0 c1 c2 a own f k0 k1 k2 ka kf
  simp only [Option.some.injEq] at h
  subst h
  have hq := asked hq
  refine QR.does_of_eval (O := o_grep) (QR.orc_cons a_oshape (QR.orc_cons a_kcol (QR.orc_cons a_kal (QR.orc_cons a_kown QR.orc_nil)))) mixed ((fun n => bif Nat.beq n 5 then some (.rounds 4) else none)) Tryz.func61 (by kernel_rfl) (by kernel_rfl) (by simp) ?_
  rw [grep_vc]
  delta zz266 zz303 zz304
  obtain ⟨gm, g0, g1, g2, ga, gf, h0, h1, h2, h3, h4, h5, e0, e1, e2, e3, e4, _⟩ := hq
  cases x0 : knOk k m s0 sa sf c0 k0 ka <;> cases x1 : knOk k m s1 sa sf c1 k1 ka <;> cases x2 : knOk k m s2 sa sf c2 k2 ka <;>
    simp [bcond_iff, bnot, okAns, eqXs, eqX, eqo, eqLo, eqL, eqc, veq, eqUs, rpOk, x0, x1, x2, bz_f, bz_t, gm, g0, g1, g2, ga, gf, h0, h1, h2, h3, h4, h5, e0, e1, e2, e3, e4]
theorem a_grm : Answers2 62 s_grm := by
  intro al ans h hq
  unfold s_grm at h
  split at h <;> try (simp at h; done)
  rename_i m own c d
  simp only [Option.some.injEq] at h
  subst h
  have hq := asked hq
  refine QR.does_of_eval (O := o_grm) (QR.orc_cons (up a_rndhalf) QR.orc_nil) mixed (QR.noLoops) Tryz.func62 (by kernel_rfl) (by kernel_rfl) (by simp) ?_
  rw [grm_vc]
  obtain ⟨gm, h4, h0, e0, hl, _⟩ := hq
  have hl := ile_tt hl
  obtain ⟨x1, x2, x3⟩ := sub16 gm h4 hl
  obtain ⟨p0, p1, p2⟩ := mulI16 gm h0
  obtain ⟨q0, q1, q2⟩ := mulI16 x2 e0
  simp only [x1, (conv64 x2).1, (conv64 gm).1, (conv64 h0).1, (conv64 e0).1, p2, q2]
  have um : inU m = true := (conv64 gm).2
  have t := in16_iff.1 gm
  cases g : igt ((m - own) * d) (m * c)
  · have g' := of_decide_eq_false g
    have e : isub .u64 (m * c) ((m - own) * d) = m * c - (m - own) * d := by unfold isub; rw [IntKind.wrap_u64]; omega
    have u : inU (m * c - (m - own) * d) = true := inU_iff.2 (by omega)
    simp [bcond_iff, okAns, eqXs, eqX, eqo, eqLo, eqL, eqc, veq, eqUs, rmV, g, e, u, um]
  · simp [bcond_iff, okAns, eqXs, eqX, eqo, eqLo, eqL, eqc, veq, eqUs, rmV, g]
section
variable {c0 c1 c2 a own f k0 k1 k2 ka kf m o k s0 s1 s2 sa sf s c d b : Int}
theorem ad_ok (hs : pvB s0 s1 s2 sa sf m = true) (hv : vaB c0 c1 c2 a own f k0 k1 k2 ka kf m = true) : adOk o k m s0 s1 s2 sa c0 c1 c2 a = gsOk false o k m s0 s1 s2 sa sf c0 c1 c2 a own f k0 k1 k2 ka kf := by
  obtain ⟨m0, m1, m2⟩ := gs_mx (o := o) (k := k) hs hv
  unfold adOk; rw [m0, m1, m2]; cases gsOk false o k m s0 s1 s2 sa sf c0 c1 c2 a own f k0 k1 k2 ka kf <;> rfl
theorem rp_ok (hs : pvB s0 s1 s2 sa sf m = true) (hv : vaB c0 c1 c2 a own f k0 k1 k2 ka kf m = true) : rpOk k m s0 s1 s2 sa sf c0 c1 c2 k0 k1 k2 ka = gsOk true 4 k m s0 s1 s2 sa sf c0 c1 c2 a own f k0 k1 k2 ka kf := by
  obtain ⟨m0, m1, m2⟩ := gs_kn (o := 4) (k := k) hs hv rfl
  unfold rpOk; rw [m0, m1, m2]; cases gsOk true 4 k m s0 s1 s2 sa sf c0 c1 c2 a own f k0 k1 k2 ka kf <;> rfl
end
set_option maxRecDepth 20000 in
theorem a_gstep : Answers2 19 s_gstep := by
  intro al ans h hq
  unfold s_gstep at h
  split at h <;> try (simp at h; done)
  rename_i kn o k m s0 s1 s2 sa sf c0 c1 c2 a own f k0 k1 k2 ka kf
  simp only [Option.some.injEq] at h
  subst h
  have hq := asked hq
  refine QR.does_of_eval (O := o_gstep) (QR.orc_cons a_gva (QR.orc_cons a_pvalid2 (QR.orc_cons a_gadd (QR.orc_cons a_grep QR.orc_nil)))) mixed (QR.noLoops) Tryz.func19 (by kernel_rfl) (by kernel_rfl) (by simp) ?_
  obtain ⟨gm, g0, g1, g2, ga, gf, h0, h1, h2, h3, h4, h5, e0, e1, e2, e3, e4, _⟩ := hq
  cases kn
  · skip
    rw [gstepF_vc]
    delta zz266 zz302 zz303
    cases hv : vaB c0 c1 c2 a own f k0 k1 k2 ka kf m
    · have n := gs_no (kn := false) (o := o) (k := k) (s0 := s0) (s1 := s1) (s2 := s2) (sa := sa) (sf := sf) (Or.inr hv)
      simp [bcond_iff, bnot, okAns, eqXs, eqX, eqo, eqLo, eqL, eqc, veq, eqUs, n, bz_f]
    · cases hs : pvB s0 s1 s2 sa sf m
      · have n := gs_no (kn := false) (o := o) (k := k) (c0 := c0) (c1 := c1) (c2 := c2) (a := a) (own := own) (f := f) (k0 := k0) (k1 := k1) (k2 := k2) (ka := ka) (kf := kf) (Or.inl hs)
        simp [bcond_iff, bnot, okAns, eqXs, eqX, eqo, eqLo, eqL, eqc, veq, eqUs, n, bz_f]
      · have m0 := ad_ok (o := o) (k := k) hs hv
        simp [bcond_iff, bnot, okAns, eqXs, eqX, eqo, eqLo, eqL, eqc, veq, eqUs, m0, gm, g0, g1, g2, ga, gf, h0, h1, h2, h3, h4, h5, gsC, gsA, gsO, gsF]
  · skip
    rw [gstepT_vc]
    delta zz266 zz302 zz303
    cases hv : vaB c0 c1 c2 a own f k0 k1 k2 ka kf m
    · have n := gs_no (kn := true) (o := o) (k := k) (s0 := s0) (s1 := s1) (s2 := s2) (sa := sa) (sf := sf) (Or.inr hv)
      simp [bcond_iff, bnot, okAns, eqXs, eqX, eqo, eqLo, eqL, eqc, veq, eqUs, n, bz_f]
    · cases hs : pvB s0 s1 s2 sa sf m
      · have n := gs_no (kn := true) (o := o) (k := k) (c0 := c0) (c1 := c1) (c2 := c2) (a := a) (own := own) (f := f) (k0 := k0) (k1 := k1) (k2 := k2) (ka := ka) (kf := kf) (Or.inl hs)
        simp [bcond_iff, bnot, okAns, eqXs, eqX, eqo, eqLo, eqL, eqc, veq, eqUs, n, bz_f]
      · by_cases h4o : o = 4
        · subst h4o
          have m0 := rp_ok (k := k) hs hv
          simp [bcond_iff, bnot, okAns, eqXs, eqX, eqo, eqLo, eqL, eqc, veq, eqUs, ine, m0, gm, g0, g1, g2, ga, gf, h0, h1, h2, h3, h4, h5, e0, e1, e2, e3, e4, gsC, gsA, gsO, gsF]
        · have n := gs_not4 (k := k) (m := m) (s0 := s0) (s1 := s1) (s2 := s2) (sa := sa) (sf := sf) (c0 := c0) (c1 := c1) (c2 := c2) (a := a) (own := own) (f := f) (k0 := k0) (k1 := k1) (k2 := k2) (ka := ka) (kf := kf) h4o
          simp [bcond_iff, bnot, okAns, eqXs, eqX, eqo, eqLo, eqL, eqc, veq, eqUs, ine, h4o, n, bz_f]
section
variable {c0 c1 c2 a own f k0 k1 k2 ka kf m o k s0 s1 s2 sa sf s c d b : Int}
theorem rm_gr (hc : in16 c = true) (hd : in16 d = true) (ho : in16 own = true) (hm : in16 m = true) (h : own ≤ m) (q : m = 255 ∨ m = 65535) (cm : c ≤ m) : iimin (rmV m own c d) own = grV true c d own m := by
  have c0 := in16_iff.1 hc
  have d0 := in16_iff.1 hd
  have o0 := in16_iff.1 ho
  rw [gr_at c0.1 o0.1 (by omega)]
  unfold rmV grC
  have n0 := Int.mul_nonneg (show 0 ≤ m - own by omega) d0.1
  have n1 := Int.mul_nonneg (show 0 ≤ m by omega) c0.1
  cases g : igt ((m - own) * d) (m * c)
  · have g' := of_decide_eq_false g
    simp only [cond_false]
    by_cases e : m * c ≤ (m - own) * d
    · rw [if_pos e, show m * c - (m - own) * d = 0 by omega]
      have : hlf 0 m = 0 := by
        rw [hlf_div (by omega) (by omega), Int.ediv_eq_iff_of_pos (by omega)]; omega
      rw [this]
      have : iconv .u16 0 = 0 := by decide
      rw [this]; unfold iimin; split <;> omega
    · rw [if_neg e]
      have l : hlf (m * c - (m - own) * d) m ≤ m := by
        refine hlf_le (by omega) (by omega) ?_ (by omega)
        have : m * c ≤ m * m := Int.mul_le_mul_of_nonneg_left cm (by omega)
        omega
      have := hlf_nonneg (m * c - (m - own) * d) m
      rw [u16_id this (by omega)]
  · have g' := of_decide_eq_true g
    simp only [cond_true]
    rw [if_pos (by omega)]
    unfold iimin; split <;> omega
end
theorem a_gres : Answers2 20 s_gres := by
  intro al ans h hq
  unfold s_gres at h
  split at h <;> try (simp at h; done)
  rename_i c0 c1 c2 a own f k0 k1 k2 ka kf m
  simp only [Option.some.injEq] at h
  subst h
  have hq := asked hq
  refine QR.does_of_eval (O := o_gres) (QR.orc_cons a_gva (QR.orc_cons a_grm QR.orc_nil)) mixed ((fun n => bif Nat.beq n 5 then some (.rounds 4) else none)) Tryz.func20 (by kernel_rfl) (by kernel_rfl) (by simp) ?_
  rw [gres_vc]
  obtain ⟨gm, h0, h1, h2, h3, h4, h5, e0, e1, e2, e3, e4, _⟩ := hq
  cases hv : vaB c0 c1 c2 a own f k0 k1 k2 ka kf m
  · simp [bcond_iff, bnot, okAns, eqXs, eqX, eqo, eqLo, eqL, eqc, veq, eqUs, bz_f, grV]
  · obtain ⟨⟨q1, q2, q3, q4, q5, q6, q7⟩, _, hm⟩ := va_iff.1 hv
    have r0 := rm_gr h0 e0 h4 gm (by omega) hm (by omega)
    have r1 := rm_gr h1 e1 h4 gm (by omega) hm (by omega)
    have r2 := rm_gr h2 e2 h4 gm (by omega) hm (by omega)
    have l : ile own m = true := ile_t (by omega)
    simp [bcond_iff, bnot, okAns, eqXs, eqX, eqo, eqLo, eqL, eqc, veq, eqUs, bz_t, r0, r1, r2, l, gm, h0, h1, h2, h4, e0, e1, e2]
theorem a_gback : Answers2 16 s_gback := by
  intro al ans h hq
  unfold s_gback at h
  split at h <;> try (simp at h; done)
  rename_i n0 n1 n2 n3 n4 m
  simp only [Option.some.injEq] at h
  subst h
  have hq := asked hq
  refine QR.does_of_eval (O := o_gback) (QR.orc_cons a_gpixel2 QR.orc_nil) mixed (QR.noLoops) Tryz.func16 (by kernel_rfl) (by kernel_rfl) (by simp) ?_
  rw [gback_vc]
  obtain ⟨hm, _⟩ := hq
  simp [okAns, eqXs, eqX, eqo, eqLo, eqL, eqc, veq, eqUs, hm]
theorem ga_fin (n4 own : Int) {m : Int} (h : in16 m = true) : in16 (gaF n4 own m) = true := by
  unfold gaF
  cases ieq (gmod own 4) 3
  · exact gpF_in16 n4 h
  · exact gsV_in16 _ h
theorem iimin_in {x y : Int} (hx : in16 x = true) (hy : in16 y = true) : in16 (iimin x y) = true := by unfold iimin; split <;> assumption
theorem a_gaccum : Answers2 14 s_gaccum := by
  intro al ans h hq
  unfold s_gaccum at h
  split at h <;> try (simp at h; done)
  rename_i n0 n1 n2 n3 n4 own m
  simp only [Option.some.injEq] at h
  subst h
  have hq := asked hq
  refine QR.does_of_eval (O := o_gaccum) (QR.orc_cons a_gpixel2 (QR.orc_cons (up a_mod) (QR.orc_cons a_gsample2 QR.orc_nil))) mixed (QR.noLoops) Tryz.func14 (by kernel_rfl) (by kernel_rfl) (by simp) ?_
  rw [gaccum_vc]
  obtain ⟨hm, _⟩ := hq
  have k4 : modOk 4 = true := rfl
  have ia := gpA_in16 n3 n4 hm
  have if' := gpF_in16 n4 hm
  have ig := gsV_in16 (iquo .i64 own 4) hm
  have i1 := iimin_in ia ig
  have i2 := iimin_in ia if'
  cases e : ieq (gmod own 4) 3 <;> simp [bcond_iff, okAns, eqXs, eqX, eqo, eqLo, eqL, eqc, veq, eqUs, hm, k4, e, i1, i2, gaF, gaO]
end Go.Proofs.YtpjhdjakpbabhaaGreatDoor
