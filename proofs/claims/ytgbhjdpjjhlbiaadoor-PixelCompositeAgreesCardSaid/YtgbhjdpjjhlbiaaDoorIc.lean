/-
  Layer 9 (pixel): what each call answers.
-/
import Derived.Test.YtgbhjdpjjhlbiaaDoorIb
namespace Go.Proofs.YtgbhjdpjjhlbiaaDoor
open Go.RowKit PR QR
set_option linter.unusedVariables false
set_option linter.unusedSimpArgs false

theorem a_pvf : Answers2 24 s_pvf := by
  intro al ans h hq
  unfold s_pvf at h
  split at h <;> try (simp at h; done)
  rename_i c0 c1 c2 a f m
  simp only [Option.some.injEq] at h
  subst h
  have hq := asked hq
  refine QR.does_of_eval (O := o_pvf) (QR.orc_cons (up a_pvalid) QR.orc_nil) mixed (QR.noLoops) Tryd.func24 (by kernel_rfl) (by kernel_rfl) (by simp) ?_
  rw [pvf_vc]
  simp only [bcond_iff, okAns, eqXs, eqX, eqL, eqc, veq, eqUs, forall_eq, true_and, and_true, ieq, beq_iff_eq, beq_eq_false_iff_ne, ne_eq, pvfB, fullB]
  refine ⟨fun c => ?_, fun c => ⟨fun d => ?_, fun d => ?_⟩⟩ <;> simp [c]
  · simp [d]
  · simp [d]
theorem a_transp : Answers2 14 s_transp := by
  intro al ans h hq
  unfold s_transp at h
  split at h <;> try (simp at h; done)
  rename_i c0 c1 c2 a f
  simp only [Option.some.injEq] at h
  subst h
  have hq := asked hq
  refine QR.does_of_eval (O := (QR.orc [])) QR.orc_nil mixed (QR.noLoops) Tryd.func14 (by kernel_rfl) (by kernel_rfl) (by simp) ?_
  rw [transp_vc]
  simp only [bcond_iff, okAns, eqXs, eqX, eqL, eqc, veq, eqUs, forall_eq, true_and, and_true, ieq, band, tpB]
  by_cases h0 : c0 = 0 <;> by_cases h1 : c1 = 0 <;> by_cases h2 : c2 = 0 <;> by_cases h3 : a = 0 <;> by_cases h4 : f = 0 <;> simp [h0, h1, h2, h3, h4]
theorem a_opaque : Answers2 15 s_opaque := by
  intro al ans h hq
  unfold s_opaque at h
  split at h <;> try (simp at h; done)
  rename_i c0 c1 c2 a f m
  simp only [Option.some.injEq] at h
  subst h
  have hq := asked hq
  refine QR.does_of_eval (O := o_opq) (QR.orc_cons a_pvf QR.orc_nil) mixed (QR.noLoops) Tryd.func15 (by kernel_rfl) (by kernel_rfl) (by simp) ?_
  rw [opaque_vc]
  cases h : pvfB c0 c1 c2 a f m
  · have h' : (fullB m && pvB c0 c1 c2 a f m) = false := h
    simp [bcond_iff, okAns, eqXs, eqX, eqL, eqc, veq, eqUs, oqB, h']
  · have h' : (fullB m && pvB c0 c1 c2 a f m) = true := h
    simp only [bcond_iff, okAns, eqXs, eqX, eqL, eqc, veq, eqUs, oqB, h', Bool.true_and, ieq]
    by_cases e : a = m <;> simp [e]
theorem in3_cases {i : Int} (h : in3 i = true) : i = 0 ∨ i = 1 ∨ i = 2 := by
  have := of_decide_eq_true h; omega
theorem a_pcol : Answers2 25 s_pcol := by
  intro al ans h hq
  unfold s_pcol at h
  split at h <;> try (simp at h; done)
  rename_i i o k m s0 s1 s2 sa sf d0 d1 d2 da df
  simp only [Option.some.injEq] at h
  subst h
  have hq := asked hq
  refine QR.does_of_eval (O := o_pcol) (QR.orc_cons a_mcol QR.orc_nil) mixed (QR.noLoops) Tryd.func25 (by kernel_rfl) (by kernel_rfl) (by simp) ?_
  rw [pcol_vc]
  obtain ⟨g, gm, g0, g1, g2, ga, e0, e1, e2, ea, _⟩ := hq
  rcases in3_cases g with rfl | rfl | rfl <;> simp [bcond_iff, okAns, eqXs, eqX, eqL, eqc, veq, eqUs, ieq, p3, gm, g0, g1, g2, ga, e0, e1, e2, ea]
/-- valid pixels: the colours are in order exactly if the operator and the mode are known -/
theorem pv_mx {o k m s0 s1 s2 sa sf d0 d1 d2 da df : Int} (hs : pvfB s0 s1 s2 sa sf m = true) (hd : pvB d0 d1 d2 da df m = true) :
    mxOk o k m s0 sa d0 da = pcOk o k m s0 s1 s2 sa sf d0 d1 d2 da df ∧ mxOk o k m s1 sa d1 da = pcOk o k m s0 s1 s2 sa sf d0 d1 d2 da df ∧ mxOk o k m s2 sa d2 da = pcOk o k m s0 s1 s2 sa sf d0 d1 d2 da df := by
  unfold pvfB at hs
  unfold pcOk mxOk blOk opOk7
  obtain ⟨hf, hs⟩ := Bool.and_eq_true_iff.1 hs
  rw [hf, hs, hd]
  obtain ⟨a0, a1, a2, a3, a4⟩ := of_decide_eq_true hs
  obtain ⟨b0, b1, b2, b3, b4⟩ := of_decide_eq_true hd
  have c1 : sa ≤ m := by omega
  have c2 : da ≤ m := by omega
  refine ⟨?_, ?_, ?_⟩ <;> simp only [a0, a1, a2, b0, b1, b2, c1, c2, and_true, Bool.and_true] <;> rw [Bool.eq_iff_iff] <;> simp only [Bool.and_eq_true, decide_eq_true_eq] <;> grind
theorem bz_t (x : Int) : bz true x = x := rfl
theorem bz_f (x : Int) : bz false x = 0 := rfl
theorem p3s (x y z : Int) : p3 0 x y z = x ∧ p3 1 x y z = y ∧ p3 2 x y z = z := ⟨rfl, rfl, rfl⟩
theorem in3s : in3 0 = true ∧ in3 1 = true ∧ in3 2 = true ∧ in3 (iadd .i64 0 1) = true ∧ in3 (iadd .i64 (iadd .i64 0 1) 1) = true ∧ in3 (iadd .i64 1 1) = true := by decide
theorem a_comp : Answers2 17 s_comp := by
  intro al ans h hq
  unfold s_comp at h
  split at h <;> try (simp at h; done)
  rename_i o k m s0 s1 s2 sa sf d0 d1 d2 da df
  simp only [Option.some.injEq] at h
  subst h
  have hq := asked hq
  refine QR.does_of_eval (O := o_comp) (QR.orc_cons a_pvf (QR.orc_cons a_pcol (QR.orc_cons a_oalpha (QR.orc_cons a_oshape QR.orc_nil)))) mixed ((fun n => bif Nat.beq n 6 then some (.rounds 4) else none)) Tryd.func17 (by kernel_rfl) (by kernel_rfl) (by simp) ?_
  rw [comp_vc]
  obtain ⟨gm, g0, g1, g2, ga, gf, e0, e1, e2, ea, ef, _⟩ := hq
  obtain ⟨t0, t1, t2⟩ := p3s s0 s1 s2
  obtain ⟨u0, u1, u2⟩ := p3s d0 d1 d2
  obtain ⟨i0, i1, i2, i3, i4, i5⟩ := in3s
  cases h : pvfB s0 s1 s2 sa sf m
  · have h' : pcOk o k m s0 s1 s2 sa sf d0 d1 d2 da df = false := by
      unfold pvfB at h; unfold pcOk
      cases x : fullB m <;> cases y : pvB s0 s1 s2 sa sf m <;> simp [x, y] at h ⊢
    simp [bcond_iff, bnot, okAns, eqXs, eqX, eqL, eqc, veq, eqUs, h', bz_f]
  · cases hd : pvfB d0 d1 d2 da df m
    · have h' : pcOk o k m s0 s1 s2 sa sf d0 d1 d2 da df = false := by
        unfold pvfB at hd; unfold pcOk
        cases x : fullB m <;> cases y : pvB d0 d1 d2 da df m <;> simp [x, y] at hd ⊢
      simp [bcond_iff, bnot, okAns, eqXs, eqX, eqL, eqc, veq, eqUs, h', bz_f]
    · obtain ⟨m0, m1, m2⟩ := pv_mx (o := o) (k := k) h (Bool.and_eq_true_iff.1 hd).2
      simp only [t0, t1, t2, u0, u1, u2, m0, m1, m2]
      cases hp : pcOk o k m s0 s1 s2 sa sf d0 d1 d2 da df
      · simp [bcond_iff, bnot, okAns, eqXs, eqX, eqL, eqc, veq, eqUs, bz_f, gm, g0, g1, g2, ga, gf, e0, e1, e2, ea, ef, i0]
      · simp [bcond_iff, bnot, okAns, eqXs, eqX, eqL, eqc, veq, eqUs, bz_t, gm, g0, g1, g2, ga, gf, e0, e1, e2, ea, ef, i0, i1, i2, i3, i4, i5]
theorem a_rcomp : Answers2 18 s_comp := by
  intro al ans h hq
  unfold s_comp at h
  split at h <;> try (simp at h; done)
  rename_i o k m s0 s1 s2 sa sf d0 d1 d2 da df
  simp only [Option.some.injEq] at h
  subst h
  have hq := asked hq
  refine QR.does_of_eval (O := o_rcomp) (QR.orc_cons a_isop (QR.orc_cons a_ismode (QR.orc_cons a_full8 (QR.orc_cons (up a_rpvalid) (QR.orc_cons a_roalpha (QR.orc_cons a_roshape (QR.orc_cons a_rmcol QR.orc_nil))))))) mixed ((fun n => bif Nat.beq n 5 then some (.rounds 4) else none)) Tryd.func18 (by kernel_rfl) (by kernel_rfl) (by simp) ?_
  rw [rcomp_vc]
  obtain ⟨gm, g0, g1, g2, ga, gf, e0, e1, e2, ea, ef, _⟩ := hq
  have P : pcOk o k m s0 s1 s2 sa sf d0 d1 d2 da df = (((band (ige o 1) (ile o 12)) && (band (ige k 1) (ile k 12))) && (pvB s0 s1 s2 sa sf m && pvB d0 d1 d2 da df m) && fullB m) := by
    unfold pcOk band ige ile
    congr 2
    rw [Bool.eq_iff_iff]; simp only [Bool.and_eq_true, decide_eq_true_eq]
  rw [P]
  cases band (ige o 1) (ile o 12) <;> cases band (ige k 1) (ile k 12) <;> cases fullB m <;> cases pvB s0 s1 s2 sa sf m <;> cases pvB d0 d1 d2 da df m <;>
    simp [bcond_iff, bnot, okAns, eqXs, eqX, eqL, eqc, veq, eqUs, bz_f, bz_t, gm, g0, g1, g2, ga, gf, e0, e1, e2, ea, ef]
end Go.Proofs.YtgbhjdpjjhlbiaaDoor
