/-
  Layer 5 (sample): the laws.
-/
import Derived.Test.YtledddiahepapaaVb
namespace Go.Proofs.Ytledddiahepapaa
open Go.RowKit PR
set_option linter.unusedVariables false

theorem and255_16 {v : Int} (h : in16 v = true) : iand .u16 v 255 = v % 256 := by
  rw [in16_iff] at h
  obtain ⟨n, rfl⟩ := Int.eq_ofNat_of_zero_le h.1
  unfold iand bits
  have e1 : (BitVec.ofInt IntKind.u16.bits (n : Int)).toNat = n := by rw [BitVec.ofInt_natCast, BitVec.toNat_ofNat]; exact Nat.mod_eq_of_lt (show n < 65536 by omega)
  have e2 : (BitVec.ofInt IntKind.u16.bits (255 : Int)).toNat = 255 := rfl
  simp only [BitVec.toNat_and, e1, e2]
  have := Nat.and_two_pow_sub_one_eq_mod n 8
  rw [show (2 : Nat) ^ 8 - 1 = 255 from rfl, show (2 : Nat) ^ 8 = 256 from rfl] at this
  rw [this, IntKind.wrap_u16]
  omega
theorem t8_range {v : Int} (h : 0 ≤ v) (k : v ≤ 65535) : 0 ≤ t8 v ∧ t8 v ≤ 255 := by unfold t8; omega
theorem t16_range {v : Int} (h : 0 ≤ v) : 0 ≤ t16 v ∧ t16 v ≤ 65535 := by unfold t16; split <;> omega
theorem t8_mono {a b : Int} (h : a ≤ b) : t8 a ≤ t8 b := by unfold t8; omega
theorem t16_mono {a b : Int} (h : a ≤ b) : t16 a ≤ t16 b := by unfold t16; split <;> split <;> omega
theorem t8_t16 {v : Int} (h : 0 ≤ v) (k : v ≤ 255) : t8 (t16 v) = v := by unfold t8 t16; rw [if_pos k]; omega
theorem t16_t8 {v : Int} (h : 0 ≤ v) (k : v ≤ 65535) : t16 (t8 v) - v ≤ 128 ∧ v - t16 (t8 v) ≤ 128 := by
  have := t8_range h k
  unfold t16; rw [if_pos this.2]; unfold t8; omega
theorem pv_iff {c0 c1 c2 a f m : Int} : pvB c0 c1 c2 a f m = true ↔ c0 ≤ a ∧ c1 ≤ a ∧ c2 ≤ a ∧ a ≤ f ∧ f ≤ m := by simp [pvB]

theorem a_awake5 : Answers 14 s_yes := by
  intro args v bs h hok
  unfold s_yes at h
  split at h <;> try (simp at h; done)
  skip
  simp only [Option.some.injEq, Prod.mk.injEq] at h
  obtain ⟨rfl, rfl⟩ := h
  refine does_of_eval (O := o_awake5) (orc_cons a_smax (orc_cons a_to16 (orc_cons a_to8 (orc_cons a_premul (orc_cons a_straight orc_nil))))) mixed (named) Try.func14 (by kernel_rfl) (by kernel_rfl) rfl ?_
  rw [awake5_vc]
  have e1 : smV 16 = 65535 := rfl
  have e2 : smOk 16 = true := rfl
  have e3 : t16 128 = 32896 := rfl
  have e4 : t8 32767 = 127 := rfl
  have e5 : pmV 200 128 255 = 100 := by decide +kernel
  have e6 : stV 100 128 255 = 199 := by decide +kernel
  have i1 : in16 32767 = true := rfl
  have i2 : in16 128 = true := rfl
  simp [bcond_iff, ieq, e1, e2, e3, e4, e5, e6, i1, i2]

set_option linter.unusedVariables false in
theorem SampleValidAgrees_core (b c0 c1 c2 a f n0 n1 n2 n3 n4 at' v m : Int) (w0 : (Lit.int .i64 b).wf = true) (w1 : (Lit.int .u16 c0).wf = true) (w2 : (Lit.int .u16 c1).wf = true) (w3 : (Lit.int .u16 c2).wf = true) (w4 : (Lit.int .u16 a).wf = true) (w5 : (Lit.int .u16 f).wf = true) (w6 : (Lit.int .i64 n0).wf = true) (w7 : (Lit.int .i64 n1).wf = true) (w8 : (Lit.int .i64 n2).wf = true) (w9 : (Lit.int .i64 n3).wf = true) (w10 : (Lit.int .i64 n4).wf = true) (w11 : (Lit.int .i64 at').wf = true) (w12 : (Lit.int .u16 v).wf = true) (w13 : (Lit.int .u16 m).wf = true) (w : World) :
    Calls Try.prog 3 #[.int .i64 b, .agg #[.int .u16 c0, .int .u16 c1, .int .u16 c2, .int .u16 a, .int .u16 f], .agg #[.int .i64 n0, .int .i64 n1, .int .i64 n2, .int .i64 n3, .int .i64 n4], .int .i64 at', .int .u16 v, .int .u16 m] w fun e w' => e = .returned (.bool true) ∧ Below w.heap.size w w' := by
  refine calls_of_eval (O := o_law5a) (orc_cons a_gmax (orc_cons a_gpixel (orc_cons a_smax (orc_cons a_rsmax (orc_cons a_mod (orc_cons a_awake5 (orc_cons a_pvalid (orc_cons a_rpvalid orc_nil)))))))) mixed (named) Try.func3 (by kernel_rfl) rfl (args := [.int .i64 b, .agg #[.int .u16 c0, .int .u16 c1, .int .u16 c2, .int .u16 a, .int .u16 f], .agg #[.int .i64 n0, .int .i64 n1, .int .i64 n2, .int .i64 n3, .int .i64 n4], .int .i64 at', .int .u16 v, .int .u16 m]) ?_ w
  rw [SampleValidAgrees_vc]
  have g : in16 (gxMax b) = true := by rcases gxMax_cases b with h | h <;> rw [h] <;> rfl
  have k := gmod_range at' (k := 5) (by decide)
  have k4 : modOk 4 = true := rfl
  have k5 : modOk 5 = true := rfl
  simp [bcond_iff, bnot, beq_rfl', ieq_rfl', gp_valid, g, k4, k5]
  simp only [ieq, beq_eq_false_iff_ne, ne_eq, beq_iff_eq]
  omega

set_option linter.unusedVariables false in
theorem SampleDepthsAgree_core (v c0 c1 c2 a f : Int) (w0 : (Lit.int .u16 v).wf = true) (w1 : (Lit.int .u16 c0).wf = true) (w2 : (Lit.int .u16 c1).wf = true) (w3 : (Lit.int .u16 c2).wf = true) (w4 : (Lit.int .u16 a).wf = true) (w5 : (Lit.int .u16 f).wf = true) (w : World) :
    Calls Try.prog 4 #[.int .u16 v, .agg #[.int .u16 c0, .int .u16 c1, .int .u16 c2, .int .u16 a, .int .u16 f]] w fun e w' => e = .returned (.bool true) ∧ Below w.heap.size w w' := by
  refine calls_of_eval (O := o_law5b) (orc_cons a_awake5 (orc_cons a_to16 (orc_cons a_rto16 (orc_cons a_to8 (orc_cons a_rto8 (orc_cons a_widen (orc_cons a_rwiden (orc_cons a_narrow (orc_cons a_rnarrow orc_nil))))))))) mixed (named) Try.func4 (by kernel_rfl) rfl (args := [.int .u16 v, .agg #[.int .u16 c0, .int .u16 c1, .int .u16 c2, .int .u16 a, .int .u16 f]]) ?_ w
  rw [SampleDepthsAgree_vc]
  simp [bcond_iff, band, ieq_rfl', wf16 w0, wf16 w1, wf16 w2, wf16 w3, wf16 w4, wf16 w5]

set_option linter.unusedVariables false in
theorem SampleDepthsRoundTrip_core (v : Int) (w0 : (Lit.int .u16 v).wf = true) (w : World) :
    Calls Try.prog 5 #[.int .u16 v] w fun e w' => e = .returned (.bool true) ∧ Below w.heap.size w w' := by
  refine calls_of_eval (O := o_law5c) (orc_cons a_awake5 (orc_cons a_to16 (orc_cons a_to8 orc_nil))) mixed (named) Try.func5 (by kernel_rfl) rfl (args := [.int .u16 v]) ?_ w
  rw [SampleDepthsRoundTrip_vc]
  have i0 := wf16 w0
  have h := in16_iff.1 i0
  have r1 := t8_range h.1 (by omega)
  have r2 := t16_range r1.1
  have r3 := t16_t8 h.1 (by omega)
  have r4 := t8_t16 (v := v % 256) (by omega) (by omega)
  have r5 := t16_range (v := v % 256) (by omega)
  have i1 : in16 (t8 v) = true := in16_iff.2 (by omega)
  have i2 : in16 (t16 (v % 256)) = true := in16_iff.2 (by omega)
  have i3 : in16 (v % 256) = true := in16_iff.2 (by omega)
  have e1 : isub .i64 (iconv .i64 (t16 (t8 v))) (iconv .i64 v) = t16 (t8 v) - v := by
    rw [i64_id (by omega) (by omega), i64_id (by omega) (by omega)]; unfold isub; exact IntWalk.i64_in _ (by omega)
  have e2 : isub .i64 (iconv .i64 v) (iconv .i64 (t16 (t8 v))) = v - t16 (t8 v) := by
    rw [i64_id (by omega) (by omega), i64_id (by omega) (by omega)]; unfold isub; exact IntWalk.i64_in _ (by omega)
  have l1 : ile (t16 (t8 v) - v) 128 = true := decide_eq_true r3.1
  have l2 : ile (v - t16 (t8 v)) 128 = true := decide_eq_true r3.2
  have l3 : ile (t8 v) 255 = true := decide_eq_true r1.2
  rw [and255_16 i0]
  simp [bcond_iff, ieq_rfl', i0, i1, i2, i3, r4, e1, e2, l1, l2, l3]

set_option linter.unusedVariables false in
theorem SampleConversionsKeepPixelsValid_core (n0 n1 n2 n3 n4 x y : Int) (w0 : (Lit.int .i64 n0).wf = true) (w1 : (Lit.int .i64 n1).wf = true) (w2 : (Lit.int .i64 n2).wf = true) (w3 : (Lit.int .i64 n3).wf = true) (w4 : (Lit.int .i64 n4).wf = true) (w5 : (Lit.int .u16 x).wf = true) (w6 : (Lit.int .u16 y).wf = true) (w : World) :
    Calls Try.prog 6 #[.agg #[.int .i64 n0, .int .i64 n1, .int .i64 n2, .int .i64 n3, .int .i64 n4], .int .u16 x, .int .u16 y] w fun e w' => e = .returned (.bool true) ∧ Below w.heap.size w w' := by
  refine calls_of_eval (O := o_law5d) (orc_cons a_awake5 (orc_cons a_gpixel (orc_cons a_widen (orc_cons a_pvalid (orc_cons a_narrow (orc_cons a_to8 (orc_cons a_to16 orc_nil))))))) mixed (named) Try.func6 (by kernel_rfl) rfl (args := [.agg #[.int .i64 n0, .int .i64 n1, .int .i64 n2, .int .i64 n3, .int .i64 n4], .int .u16 x, .int .u16 y]) ?_ w
  rw [SampleConversionsKeepPixelsValid_vc]
  have i1 : in16 255 = true := rfl
  have i2 : in16 65535 = true := rfl
  have p1 := pv_iff.1 (gp_valid n0 n1 n2 n3 n4 i1)
  have p2 := pv_iff.1 (gp_valid n0 n1 n2 n3 n4 i2)
  have a0 := (gpC_range n0 n3 n4 i1).1
  have a1 := (gpC_range n1 n3 n4 i1).1
  have a2 := (gpC_range n2 n3 n4 i1).1
  have a3 := (gpA_range n3 n4 i1).1
  have b0 := (gpC_range n0 n3 n4 i2).1
  have b1 := (gpC_range n1 n3 n4 i2).1
  have b2 := (gpC_range n2 n3 n4 i2).1
  have b3 := (gpA_range n3 n4 i2).1
  generalize gpC n0 n3 n4 255 = x0 at *
  generalize gpC n1 n3 n4 255 = x1 at *
  generalize gpC n2 n3 n4 255 = x2 at *
  generalize gpA n3 n4 255 = x3 at *
  generalize gpF n4 255 = x4 at *
  generalize gpC n0 n3 n4 65535 = y0 at *
  generalize gpC n1 n3 n4 65535 = y1 at *
  generalize gpC n2 n3 n4 65535 = y2 at *
  generalize gpA n3 n4 65535 = y3 at *
  generalize gpF n4 65535 = y4 at *
  have q1 : pvB (t16 x0) (t16 x1) (t16 x2) (t16 x3) (t16 x4) 65535 = true :=
    pv_iff.2 ⟨t16_mono p1.1, t16_mono p1.2.1, t16_mono p1.2.2.1, t16_mono p1.2.2.2.1, (t16_range (by omega)).2⟩
  have q2 : pvB (t8 y0) (t8 y1) (t8 y2) (t8 y3) (t8 y4) 255 = true :=
    pv_iff.2 ⟨t8_mono p2.1, t8_mono p2.2.1, t8_mono p2.2.2.1, t8_mono p2.2.2.2.1, (t8_range (by omega) (by omega)).2⟩
  have c0 : in16 x0 = true := in16_iff.2 (by omega)
  have c1 : in16 x1 = true := in16_iff.2 (by omega)
  have c2 : in16 x2 = true := in16_iff.2 (by omega)
  have c3 : in16 x3 = true := in16_iff.2 (by omega)
  have c4 : in16 x4 = true := in16_iff.2 (by omega)
  have d0 : in16 y0 = true := in16_iff.2 (by omega)
  have d1 : in16 y1 = true := in16_iff.2 (by omega)
  have d2 : in16 y2 = true := in16_iff.2 (by omega)
  have d3 : in16 y3 = true := in16_iff.2 (by omega)
  have d4 : in16 y4 = true := in16_iff.2 (by omega)
  have t16_in : ∀ z : Int, 0 ≤ z → in16 (t16 z) = true := fun z hz => in16_iff.2 (by have := t16_range hz; omega)
  have e0 := t16_in x0 (by omega)
  have e1 := t16_in x1 (by omega)
  have e2 := t16_in x2 (by omega)
  have e3 := t16_in x3 (by omega)
  have e4 := t16_in x4 (by omega)
  have f0 := t8_t16 (v := x0) (by omega) (by omega)
  have f1 := t8_t16 (v := x1) (by omega) (by omega)
  have f2 := t8_t16 (v := x2) (by omega) (by omega)
  have f3 := t8_t16 (v := x3) (by omega) (by omega)
  have f4 := t8_t16 (v := x4) (by omega) (by omega)
  have g5 := wf16 w5
  have g6 := wf16 w6
  have k1 : igt x y = false → ile (t8 x) (t8 y) = true := fun h => decide_eq_true (t8_mono (by have := of_decide_eq_false h; omega))
  have k2 : igt x y = false → ile (t16 x) (t16 y) = true := fun h => decide_eq_true (t16_mono (by have := of_decide_eq_false h; omega))
  cases h : igt x y
  · have k1 := k1 h
    have k2 := k2 h
    simp [bcond_iff, band, ieq_rfl', i1, i2, q1, q2, c0, c1, c2, c3, c4, d0, d1, d2, d3, d4, e0, e1, e2, e3, e4, f0, f1, f2, f3, f4, g5, g6, k1, k2]
  · simp [bcond_iff, band, ieq_rfl', i1, i2, q1, q2, c0, c1, c2, c3, c4, d0, d1, d2, d3, d4, e0, e1, e2, e3, e4, f0, f1, f2, f3, f4, g5, g6]

set_option linter.unusedVariables false in
theorem SamplePremultiplyAgrees_core (c a m n : Int) (w0 : (Lit.int .u16 c).wf = true) (w1 : (Lit.int .u16 a).wf = true) (w2 : (Lit.int .u16 m).wf = true) (w3 : (Lit.int .i64 n).wf = true) (w : World) :
    Calls Try.prog 7 #[.int .u16 c, .int .u16 a, .int .u16 m, .int .i64 n] w fun e w' => e = .returned (.bool true) ∧ Below w.heap.size w w' := by
  refine calls_of_eval (O := o_law5e) (orc_cons a_awake5 (orc_cons a_gmax (orc_cons a_premul (orc_cons a_rpremul (orc_cons a_straight (orc_cons a_rstraight orc_nil)))))) mixed (named) Try.func7 (by kernel_rfl) rfl (args := [.int .u16 c, .int .u16 a, .int .u16 m, .int .i64 n]) ?_ w
  rw [SamplePremultiplyAgrees_vc]
  simp [bcond_iff, ieq_rfl']

theorem iimin_l {a b : Int} (h : a ≤ b) : iimin a b = a := by unfold iimin; rw [if_neg (by omega)]
theorem iimin_r {a b : Int} (h : b ≤ a) : iimin a b = b := by unfold iimin; split <;> omega
theorem mul_le_r {a b c : Int} (h : a ≤ b) (hc : 0 ≤ c) : a * c ≤ b * c := Int.mul_le_mul_of_nonneg_right h hc
/-- the unpremultiplied sample, and what becomes of it -/
theorem straight_facts {x y m : Int} (hx : 0 ≤ x) (hxy : x ≤ y) (hym : y ≤ m) (hm : m = 255 ∨ m = 65535) :
    0 ≤ stV x y m ∧ stV x y m ≤ m ∧ pmV (stV x y m) y m = x ∧ pmV (stV x y m) m m = stV x y m := by
  have key : 0 ≤ stV x y m ∧ stV x y m ≤ m ∧ ((y = 0 ∧ stV x y m = 0) ∨ (0 < y ∧ 2 * (stV x y m * y) ≤ 2 * (x * m) + y ∧ 2 * (x * m) + y < 2 * (stV x y m * y) + 2 * y)) := by
    unfold stV nr5
    rw [iimin_l hxy, imul16 hx (by omega) (by omega) (by omega), u64_id (a := y) (by omega) (by omega)]
    by_cases h0 : y = 0
    · subst h0
      rw [hlf_zero]
      exact ⟨by decide, by show (0 : Int) ≤ m; omega, Or.inl ⟨rfl, rfl⟩⟩
    · have hp := Int.mul_nonneg hx (by omega : 0 ≤ m)
      have hpy := mul_le_r hxy (by omega : 0 ≤ m)
      rw [hlf_div hp (by omega)]
      have u1 : 0 ≤ (2 * (x * m) + y) / (2 * y) := Int.ediv_nonneg (by omega) (by omega)
      have v1 := Int.mul_ediv_add_emod (2 * (x * m) + y) (2 * y)
      have v2 := Int.emod_nonneg (2 * (x * m) + y) (by omega : 2 * y ≠ 0)
      have v3 := Int.emod_lt_of_pos (2 * (x * m) + y) (by omega : 0 < 2 * y)
      have u2 : (2 * (x * m) + y) / (2 * y) ≤ m := by
        have : (2 * (x * m) + y) / (2 * y) < m + 1 := Int.ediv_lt_of_lt_mul (by omega) (by
          rw [Int.add_mul, Int.one_mul, Int.mul_left_comm m 2 y, Int.mul_comm m y]; omega)
        omega
      generalize (2 * (x * m) + y) / (2 * y) = s at *
      rw [u16_id u1 (by omega)]
      have e : 2 * y * s = 2 * (s * y) := by rw [Int.mul_assoc, Int.mul_comm y s]
      exact ⟨u1, u2, Or.inr ⟨by omega, by omega, by omega⟩⟩
  obtain ⟨h1, h2, h3⟩ := key
  generalize stV x y m = s at *
  refine ⟨h1, h2, ?_, ?_⟩
  · unfold pmV nr5
    rw [iimin_l h2, iimin_l hym, imul16 h1 (by omega) (by omega) (by omega), u64_id (a := m) (by omega) (by omega), hlf_div (Int.mul_nonneg h1 (by omega)) (by omega)]
    have e : (2 * (s * y) + m) / (2 * m) = x := by
      rcases h3 with ⟨rfl, rfl⟩ | ⟨h4, h5, h6⟩
      · rcases hm with rfl | rfl <;> omega
      · rcases hm with rfl | rfl <;> omega
    rw [e, u16_id hx (by omega)]
  · unfold pmV nr5
    rw [iimin_l h2, iimin_l (Int.le_refl m), imul16 h1 (by omega) (by omega) (by omega), u64_id (a := m) (by omega) (by omega), hlf_div (Int.mul_nonneg h1 (by omega)) (by omega)]
    have e : (2 * (s * m) + m) / (2 * m) = s := by
      rcases hm with rfl | rfl <;> omega
    rw [e, u16_id h1 (by omega)]

set_option linter.unusedVariables false in
theorem SampleStraightRoundTrip_core (c a n : Int) (w0 : (Lit.int .i64 c).wf = true) (w1 : (Lit.int .i64 a).wf = true) (w2 : (Lit.int .i64 n).wf = true) (w : World) :
    Calls Try.prog 8 #[.int .i64 c, .int .i64 a, .int .i64 n] w fun e w' => e = .returned (.bool true) ∧ Below w.heap.size w w' := by
  refine calls_of_eval (O := o_law5f) (orc_cons a_awake5 (orc_cons a_gmax (orc_cons a_galpha (orc_cons a_premul (orc_cons a_straight orc_nil))))) mixed (named) Try.func8 (by kernel_rfl) rfl (args := [.int .i64 c, .int .i64 a, .int .i64 n]) ?_ w
  rw [SampleStraightRoundTrip_vc]
  have g : in16 (gxMax n) = true := by rcases gxMax_cases n with h | h <;> rw [h] <;> rfl
  have r1 := gsV_range a g
  have r2 := gsV_range c (gsV_in16 a g)
  obtain ⟨s1, s2, s3, s4⟩ := straight_facts r2.1 r2.2 r1.2 (gxMax_cases n)
  have l : ile (stV (gsV c (gsV a (gxMax n))) (gsV a (gxMax n)) (gxMax n)) (gxMax n) = true := decide_eq_true s2
  simp [bcond_iff, ieq_rfl', g, s3, s4, l]
end Go.Proofs.Ytledddiahepapaa
