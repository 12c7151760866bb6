/-
  The laws of layer 3 (surd): each returns true for all arguments in their ranges.
-/
import Derived.Test.YthpeegfdaonkpaaSt
namespace Go.Proofs.Ythpeegfdaonkpaa
open Go.RowKit PR
set_option linter.unusedVariables false

theorem inU_wf {a : Int} (h : (Lit.int .u64 a).wf = true) : inU a = true := by
  obtain ⟨n, rfl, hn⟩ := u64_nat h
  exact inU_iff.2 (by omega)
theorem ieq_self (a : Int) : ieq a a = true := by simp [ieq]
theorem beq_self' (a : Bool) : beq' a a = true := by simp [beq']
theorem gx_in (n0 n1 n2 n3 : Int) : inU (gxPh n0 n3) = true ∧ inU (gxPl n0) = true ∧ inU (gxQ n0 n1) = true ∧ inU (gxR n0 n2) = true ∧ inU (gxD n0 n1 n3) = true := by
  have := gx_range n0 n1 n2 n3
  simp only [inU_iff]
  omega
theorem inU_iadd (a b : Int) : inU (iadd .u64 a b) = true := by rw [inU_iff]; unfold iadd; rw [IntKind.wrap_u64]; omega

theorem a_awake3 : Answers 11 s_yes := by
  intro args v bs h hok
  unfold s_yes at h
  split at h <;> try (simp at h; done)
  skip
  simp only [Option.some.injEq, Prod.mk.injEq] at h
  obtain ⟨rfl, rfl⟩ := h
  refine does_of_eval (O := o_awake3) (orc_cons a_half3 (orc_cons a_compare orc_nil)) mixed (noLoops) Try.func11 (by kernel_rfl) (by kernel_rfl) rfl ?_
  rw [awake3_vc]
  have e1 : hvOk 0 0 1 2 1 = true := by decide
  have e2 : hvV 0 0 1 2 1 = 1 := by decide
  have e3 : hvOk 0 1 1 4 2 = true := by decide
  have e4 : hvV 0 1 1 4 2 = 2 := by decide
  have e5 : vldB 0 2 2 2 = true := by decide
  have e6 : cmpX 0 0 2 2 2 1 = 1 := by decide
  have i0 : inU 0 = true := rfl
  have i1 : inU 1 = true := rfl
  have i2 : inU 2 = true := rfl
  have i4 : inU 4 = true := rfl
  simp only [e1, e2, e3, e4, e5, e6, ieq_self, i0, i1, i2, i4, bcond, cond_true, and_self]

theorem SurdValidAgrees_core (x0 x1 x2 x3 x4 n0 n1 n2 n3 k : Int) (w0 : (Lit.int .u64 x0).wf = true) (w1 : (Lit.int .u64 x1).wf = true) (w2 : (Lit.int .u64 x2).wf = true) (w3 : (Lit.int .u64 x3).wf = true) (w4 : (Lit.int .u64 x4).wf = true)
    (v0 : (Lit.int .i64 n0).wf = true) (v1 : (Lit.int .i64 n1).wf = true) (v2 : (Lit.int .i64 n2).wf = true) (v3 : (Lit.int .i64 n3).wf = true) (v4 : (Lit.int .i64 k).wf = true) (w : World) :
    Calls Try.prog 3 #[.agg #[.int .u64 x0, .int .u64 x1, .int .u64 x2, .int .u64 x3, .int .u64 x4], .agg #[.int .i64 n0, .int .i64 n1, .int .i64 n2, .int .i64 n3], .int .i64 k] w fun e w' => e = .returned (.bool true) ∧ Below w.heap.size w w' := by
  refine calls_of_eval (O := o_law3a) (orc_cons a_gx (orc_cons a_mod (orc_cons a_awake3 (orc_cons a_valid (orc_cons a_rvalid orc_nil))))) mixed noLoops Try.func3 (by kernel_rfl) rfl (args := [.agg #[.int .u64 x0, .int .u64 x1, .int .u64 x2, .int .u64 x3, .int .u64 x4], .agg #[.int .i64 n0, .int .i64 n1, .int .i64 n2, .int .i64 n3], .int .i64 k]) ?_ w
  rw [SurdValidAgrees_vc]
  simp [bcond_iff, beq_self']

theorem SurdCompareAgrees_core (x0 x1 x2 x3 x4 n0 n1 n2 n3 k : Int) (w0 : (Lit.int .u64 x0).wf = true) (w1 : (Lit.int .u64 x1).wf = true) (w2 : (Lit.int .u64 x2).wf = true) (w3 : (Lit.int .u64 x3).wf = true) (w4 : (Lit.int .u64 x4).wf = true)
    (v0 : (Lit.int .i64 n0).wf = true) (v1 : (Lit.int .i64 n1).wf = true) (v2 : (Lit.int .i64 n2).wf = true) (v3 : (Lit.int .i64 n3).wf = true) (v4 : (Lit.int .u64 k).wf = true) (w : World) :
    Calls Try.prog 4 #[.agg #[.int .u64 x0, .int .u64 x1, .int .u64 x2, .int .u64 x3, .int .u64 x4], .agg #[.int .i64 n0, .int .i64 n1, .int .i64 n2, .int .i64 n3], .int .u64 k] w fun e w' => e = .returned (.bool true) ∧ Below w.heap.size w w' := by
  refine calls_of_eval (O := o_law3b) (orc_cons a_gx (orc_cons a_rfloor (orc_cons a_compare (orc_cons a_rcompare (orc_cons a_awake3 orc_nil))))) mixed noLoops Try.func4 (by kernel_rfl) rfl (args := [.agg #[.int .u64 x0, .int .u64 x1, .int .u64 x2, .int .u64 x3, .int .u64 x4], .agg #[.int .i64 n0, .int .i64 n1, .int .i64 n2, .int .i64 n3], .int .u64 k]) ?_ w
  rw [SurdCompareAgrees_vc]
  obtain ⟨g1, g2, g3, g4, g5⟩ := gx_in n0 n1 n2 n3
  simp [bcond_iff, beq_self', ieq_self, inU_wf w0, inU_wf w1, inU_wf w2, inU_wf w3, inU_wf w4, inU_wf v4, g1, g2, g3, g4, g5, inU_iadd]

theorem SurdRoundingAgrees_core (x0 x1 x2 x3 x4 n0 n1 n2 n3 : Int) (w0 : (Lit.int .u64 x0).wf = true) (w1 : (Lit.int .u64 x1).wf = true) (w2 : (Lit.int .u64 x2).wf = true) (w3 : (Lit.int .u64 x3).wf = true) (w4 : (Lit.int .u64 x4).wf = true)
    (v0 : (Lit.int .i64 n0).wf = true) (v1 : (Lit.int .i64 n1).wf = true) (v2 : (Lit.int .i64 n2).wf = true) (v3 : (Lit.int .i64 n3).wf = true) (w : World) :
    Calls Try.prog 5 #[.agg #[.int .u64 x0, .int .u64 x1, .int .u64 x2, .int .u64 x3, .int .u64 x4], .agg #[.int .i64 n0, .int .i64 n1, .int .i64 n2, .int .i64 n3]] w fun e w' => e = .returned (.bool true) ∧ Below w.heap.size w w' := by
  refine calls_of_eval (O := o_law3c) (orc_cons a_gx (orc_cons a_floor (orc_cons a_rfloor (orc_cons a_half3 (orc_cons a_rhalf3 (orc_cons a_awake3 orc_nil)))))) mixed noLoops Try.func5 (by kernel_rfl) rfl (args := [.agg #[.int .u64 x0, .int .u64 x1, .int .u64 x2, .int .u64 x3, .int .u64 x4], .agg #[.int .i64 n0, .int .i64 n1, .int .i64 n2, .int .i64 n3]]) ?_ w
  rw [SurdRoundingAgrees_vc]
  obtain ⟨g1, g2, g3, g4, g5⟩ := gx_in n0 n1 n2 n3
  simp [bcond_iff, beq_self', ieq_self, inU_wf w0, inU_wf w1, inU_wf w2, inU_wf w3, inU_wf w4, g1, g2, g3, g4, g5]

theorem fl_ord {ph pl q r d : Int} (hv : vldB ph q r d = true) (h5 : fiveU ph pl q r d) (n : Int) : ige (ordI ph pl q r d n) 0 = true ↔ n ≤ flI ph pl q r d := by
  obtain ⟨i1, i2, i3, i4, i5, p1, p2, o1, _, q2, d1, s1, s2⟩ := vld_spec hv h5
  unfold ige ordI flI
  rw [decide_eq_true_eq]
  exact ord_fl s1 d1

theorem floor_facts {ph pl q r d : Int} (h5 : fiveU ph pl q r d) (hf : flOk ph pl q r d = true) :
    vldB ph q r d = true ∧ 0 ≤ flV ph pl q r d ∧ flV ph pl q r d < 9223372036854775808 ∧ flV ph pl q r d = flI ph pl q r d ∧ ige (cmpX ph pl q r d (flV ph pl q r d)) 0 = true ∧ ilt (cmpX ph pl q r d (iadd .u64 (flV ph pl q r d) 1)) 0 = true ∧
    (hvOk ph pl q r d = true → hvV ph pl q r d = flV ph pl q r d ∨ hvV ph pl q r d = iadd .u64 (flV ph pl q r d) 1) := by
  have hf' := hf
  simp only [flOk, Bool.and_eq_true, decide_eq_true_eq] at hf'
  obtain ⟨hv, flt⟩ := hf'
  obtain ⟨_, _, _, _, _, p1, p2, o1, o2, q2, d1, s1, s2⟩ := vld_spec hv h5
  have fl0 : 0 ≤ flI ph pl q r d := fl_nonneg p1 s1 d1
  have eV : flV ph pl q r d = flI ph pl q r d := by unfold flV; rw [hf]; rfl
  have e2 : iadd .u64 (flI ph pl q r d) 1 = flI ph pl q r d + 1 := by unfold iadd; rw [IntKind.wrap_u64]; omega
  rw [eV, e2]
  refine ⟨hv, fl0, flt, rfl, ?_, ?_, fun h => ?_⟩
  · unfold cmpX; rw [hv, cond_true]; exact (fl_ord hv h5 _).2 (Int.le_refl _)
  · unfold cmpX; rw [hv, cond_true]
    have : ¬ ige (ordI ph pl q r d (flI ph pl q r d + 1)) 0 = true := fun hc => by have := (fl_ord hv h5 _).1 hc; omega
    unfold ige at this; unfold ilt
    simp only [ge_iff_le, decide_eq_true_eq] at this ⊢
    omega
  · unfold hvV; rw [h, cond_true]
    unfold hvZ
    split
    · exact Or.inr rfl
    · exact Or.inl rfl

theorem SurdFloorByCompare_core (n0 n1 n2 n3 : Int) (v0 : (Lit.int .i64 n0).wf = true) (v1 : (Lit.int .i64 n1).wf = true) (v2 : (Lit.int .i64 n2).wf = true) (v3 : (Lit.int .i64 n3).wf = true) (w : World) :
    Calls Try.prog 6 #[.agg #[.int .i64 n0, .int .i64 n1, .int .i64 n2, .int .i64 n3]] w fun e w' => e = .returned (.bool true) ∧ Below w.heap.size w w' := by
  refine calls_of_eval (O := o_law3d) (orc_cons a_gx (orc_cons a_floor (orc_cons a_compare (orc_cons a_half3 (orc_cons a_awake3 orc_nil))))) mixed noLoops Try.func6 (by kernel_rfl) rfl (args := [.agg #[.int .i64 n0, .int .i64 n1, .int .i64 n2, .int .i64 n3]]) ?_ w
  rw [SurdFloorByCompare_vc]
  obtain ⟨g1, g2, g3, g4, g5⟩ := gx_in n0 n1 n2 n3
  generalize gxPh n0 n3 = ph at *
  generalize gxPl n0 = pl at *
  generalize gxQ n0 n1 = q at *
  generalize gxR n0 n2 = r at *
  generalize gxD n0 n1 n3 = d at *
  have h5 : fiveU ph pl q r d := ⟨g1, g2, g3, g4, g5⟩
  have iF : inU (flV ph pl q r d) = true := by
    by_cases hf : flOk ph pl q r d = true
    · have := floor_facts h5 hf; exact inU_iff.2 (by omega)
    · unfold flV; rw [Bool.eq_false_iff.2 hf]; rfl
  cases hf : flOk ph pl q r d
  · simp [bcond_iff, bnot, g1, g2, g3, g4, g5]
  · obtain ⟨hv, _, _, _, c1, c2, hh⟩ := floor_facts h5 hf
    cases ho : hvOk ph pl q r d
    · simp [bcond_iff, bnot, g1, g2, g3, g4, g5, hv, c1, c2, inU_iadd, iF]
    · rcases hh ho with e | e <;> simp [bcond_iff, bnot, g1, g2, g3, g4, g5, hv, c1, c2, inU_iadd, iF, e, ieq_self]

theorem mul4 (a b c d : Int) : a * b * (c * d) = a * c * (b * d) := by rw [Int.mul_assoc, Int.mul_left_comm b, ← Int.mul_assoc]
theorem isq_sq {x : Int} (h : 0 ≤ x) : isq (x * x) = x := by
  have h0 := Int.mul_nonneg h h
  have := (le_isq h0 h).2 (Int.le_refl _)
  obtain ⟨h1, h2, h3⟩ := isq_spec h0
  by_cases hc : isq (x * x) ≤ x
  · omega
  · have := Int.mul_le_mul (by omega : x + 1 ≤ isq (x * x)) (by omega : x + 1 ≤ isq (x * x)) (by omega) h1
    have e : (x + 1) * (x + 1) = x * x + 2 * x + 1 := by rw [Int.add_mul, Int.mul_add]; omega
    omega

/-- the nearest integer, by the whole part alone -/
theorem hv_whole {p q r d s : Int} (hs : 0 ≤ s) (hS : q * q * r = s * s) (hd : 0 < d) : hvZ p q r d = if (2 * ((p + s) / d) + 1) * d ≤ 2 * (p + s) then (p + s) / d + 1 else (p + s) / d := by
  have e1 : isq (q * q * r) = s := by rw [hS]; exact isq_sq hs
  have e2 : (2 * q) * (2 * q) * r = (2 * s) * (2 * s) := by
    rw [show (2 * q) * (2 * q) * r = 4 * (q * q * r) by
      rw [show (2 * q) * (2 * q) = 4 * (q * q) by rw [mul4]; rfl, Int.mul_assoc], hS, mul4]; rfl
  have e3 : isq ((2 * q) * (2 * q) * r) = 2 * s := by rw [e2]; exact isq_sq (by omega)
  have hS2 : 0 ≤ (2 * q) * (2 * q) * r := by rw [e2]; exact Int.mul_nonneg (by omega) (by omega)
  unfold hvZ flZ
  rw [e1]
  have := ordZ_ge (p := 2 * p) (m := (2 * ((p + s) / d) + 1) * d) hS2
  rw [e3] at this
  by_cases hc : (2 * ((p + s) / d) + 1) * d ≤ 2 * (p + s)
  · rw [if_pos (this.2 (by omega)), if_pos hc]
  · rw [if_neg (fun h => hc (by have := this.1 h; omega)), if_neg hc]

theorem hlf_int {n d : Int} (hn : 0 ≤ n) (hd : 0 < d) : hlf n d = if (2 * (n / d) + 1) * d ≤ 2 * n then n / d + 1 else n / d := by
  obtain ⟨a, rfl⟩ : ∃ a : Nat, n = a := ⟨n.toNat, by omega⟩
  obtain ⟨b, rfl⟩ : ∃ b : Nat, d = b := ⟨d.toNat, by omega⟩
  unfold hlf half
  simp only [Int.toNat_natCast]
  rw [if_neg (by omega)]
  have h1 := Nat.div_add_mod a b
  have h2 := Nat.mod_lt a (by omega : 0 < b)
  have e1 : ((a : Int) / (b : Int)) = ((a / b : Nat) : Int) := by simp
  have e2 : (2 * ((a / b : Nat) : Int) + 1) * (b : Int) = (((2 * (a / b) + 1) * b : Nat) : Int) := by simp
  rw [e1, e2]
  have e3 : (2 * (a / b) + 1) * b = 2 * (b * (a / b)) + b := by rw [Nat.add_mul, Nat.one_mul, Nat.mul_assoc, Nat.mul_comm (a / b)]
  rw [e3]
  generalize b * (a / b) = z at *
  by_cases hc : b - a % b ≤ a % b
  · rw [if_pos hc, if_pos (by omega)]; rfl
  · rw [if_neg hc, if_neg (by omega)]

theorem SurdSquares_core (p q k d : Int) (v0 : (Lit.int .i64 p).wf = true) (v1 : (Lit.int .i64 q).wf = true) (v2 : (Lit.int .i64 k).wf = true) (v3 : (Lit.int .i64 d).wf = true) (w : World) :
    Calls Try.prog 7 #[.int .i64 p, .int .i64 q, .int .i64 k, .int .i64 d] w fun e w' => e = .returned (.bool true) ∧ Below w.heap.size w w' := by
  refine calls_of_eval (O := o_law3e) (orc_cons a_mod (orc_cons a_half3 (orc_cons a_half (orc_cons a_awake3 orc_nil)))) mixed noLoops Try.func7 (by kernel_rfl) rfl (args := [.int .i64 p, .int .i64 q, .int .i64 k, .int .i64 d]) ?_ w
  rw [SurdSquares_vc]
  have m : ∀ n k : Int, 1 ≤ k → k ≤ 4611686018427387904 → iconv .u64 (gmod n k) = n % k := by
    intro n k h1 h2
    have a := Int.emod_nonneg n (show k ≠ 0 by omega)
    have b := Int.emod_lt_of_pos n (show 0 < k by omega)
    unfold iconv gmod; rw [IntKind.wrap_u64]; omega
  have m1 : iconv .u64 (iadd .i64 1 (gmod d 1048576)) = 1 + d % 1048576 := by
    unfold iconv iadd gmod; rw [IntWalk.i64_in _ (by omega), IntKind.wrap_u64]; omega
  rw [m1, m _ 1099511627776 (by decide) (by decide), m _ 1048576 (by decide) (by decide), m _ 65536 (by decide) (by decide)]
  clear m m1
  obtain ⟨a, ha, a0, a1⟩ : ∃ a, p % 1099511627776 = a ∧ 0 ≤ a ∧ a < 1099511627776 := ⟨_, rfl, by omega, by omega⟩
  obtain ⟨b, hb, b0, b1⟩ : ∃ b, q % 1048576 = b ∧ 0 ≤ b ∧ b < 1048576 := ⟨_, rfl, by omega, by omega⟩
  obtain ⟨c, hc, c0, c1⟩ : ∃ c, k % 65536 = c ∧ 0 ≤ c ∧ c < 65536 := ⟨_, rfl, by omega, by omega⟩
  obtain ⟨e, he, e0, e1⟩ : ∃ e, 1 + d % 1048576 = e ∧ 1 ≤ e ∧ e ≤ 1048576 := ⟨_, rfl, by omega, by omega⟩
  rw [ha, hb, hc, he]
  clear ha hb hc he
  have cc0 := Int.mul_nonneg c0 c0
  have cc1 := Int.mul_le_mul (by omega : c ≤ 65535) (by omega : c ≤ 65535) c0 (by decide)
  have bc0 := Int.mul_nonneg b0 c0
  have bc1 := Int.mul_le_mul (by omega : b ≤ 1048575) (by omega : c ≤ 65535) c0 (by decide)
  have u1 : imul .u64 c c = c * c := by unfold imul; rw [IntKind.wrap_u64]; omega
  have u2 : imul .u64 b c = b * c := by unfold imul; rw [IntKind.wrap_u64]; omega
  have u3 : iadd .u64 a (b * c) = a + b * c := by unfold iadd; rw [IntKind.wrap_u64]; omega
  rw [u1, u2, u3]
  have sq1 : b * b * (c * c) = (b * c) * (b * c) := mul4 b b c c
  have h1 := hv_whole (p := a) (q := b) (r := c * c) (d := e) bc0 sq1 (by omega)
  have h2 := hv_whole (p := a + b * c) (q := 0) (r := 0) (d := e) (s := 0) (by decide) (by simp) (by omega)
  rw [Int.add_zero] at h2
  have hl := hlf_int (n := a + b * c) (d := e) (by omega) (by omega)
  rw [← h1] at h2 hl
  have f1 : flZ a b (c * c) e = (a + b * c) / e := by unfold flZ; rw [sq1, isq_sq bc0]
  have f2 : flZ (a + b * c) 0 0 e = (a + b * c) / e := by unfold flZ; rw [show isq (0 * 0 * 0) = 0 by decide, Int.add_zero]
  have fb : (a + b * c) / e ≤ a + b * c := Int.ediv_le_self _ (by omega)
  have fn : 0 ≤ (a + b * c) / e := Int.ediv_nonneg (by omega) (by omega)
  have w1 : w2 0 a = a := by unfold w2; omega
  have w3 : w2 0 (a + b * c) = a + b * c := by unfold w2; omega
  have hz : hvZ a b (c * c) e ≤ (a + b * c) / e + 1 := by rw [h1]; split <;> omega
  have ok1 : hvOk 0 a b (c * c) e = true := by
    unfold hvOk flOk vldB flI; rw [w1, f1]
    simp only [Bool.and_eq_true, decide_eq_true_eq]; omega
  have ok2 : hvOk 0 (a + b * c) 0 0 e = true := by
    unfold hvOk flOk vldB flI; rw [w3, f2, h2]
    simp only [Bool.and_eq_true, decide_eq_true_eq]; omega
  have r1 : hvV 0 a b (c * c) e = hvZ a b (c * c) e := by unfold hvV; rw [ok1, w1]; rfl
  have r2 : hvV 0 (a + b * c) 0 0 e = hvZ a b (c * c) e := by unfold hvV; rw [ok2, w3, h2]; rfl
  have i0 : inU 0 = true := rfl
  have i1 : inU a = true := inU_iff.2 (by omega)
  have i2 : inU b = true := inU_iff.2 (by omega)
  have i3 : inU (c * c) = true := inU_iff.2 (by omega)
  have i4 : inU e = true := inU_iff.2 (by omega)
  have i5 : inU (a + b * c) = true := inU_iff.2 (by omega)
  rw [ok1, ok2, r1, r2, hl]
  simp [bcond_iff, ieq_self, i0, i1, i2, i3, i4, i5]

theorem cmpZ_scale {a b m : Int} (hm : 0 < m) : cmpZ (m * a) (m * b) = cmpZ a b := by
  unfold cmpZ
  simp only [Int.mul_lt_mul_left hm]
  by_cases h : a < b
  · rw [if_pos h, if_pos h]
  · rw [if_neg h, if_neg h]
    by_cases h2 : a = b
    · rw [if_pos h2, if_pos (by rw [h2])]
    · rw [if_neg h2, if_neg (fun hc => h2 (Int.eq_of_mul_eq_mul_left (by omega) hc))]

theorem ordZ_scale {p q r x m : Int} (hm : 0 < m) : ordZ (m * p) (m * q) r (m * x) = ordZ p q r x := by
  unfold ordZ
  simp only [Int.mul_lt_mul_left hm]
  have e1 : m * q * (m * q) * r = (m * m) * (q * q * r) := by rw [mul4, Int.mul_assoc]
  have e2 : (m * x - m * p) * (m * x - m * p) = (m * m) * ((x - p) * (x - p)) := by rw [← Int.mul_sub, mul4]
  rw [e1, e2, cmpZ_scale (Int.mul_pos hm hm)]

theorem fl_scale {p q r d m : Int} (hm : 0 < m) (hS : 0 ≤ q * q * r) (hd : 0 < d) : flZ (m * p) (m * q) r (m * d) = flZ p q r d := by
  have hS2 : 0 ≤ m * q * (m * q) * r := by
    rw [show m * q * (m * q) * r = (m * m) * (q * q * r) by rw [mul4, Int.mul_assoc]]
    exact Int.mul_nonneg (Int.le_of_lt (Int.mul_pos hm hm)) hS
  have k : ∀ n, n ≤ flZ (m * p) (m * q) r (m * d) ↔ n ≤ flZ p q r d := fun n => by
    rw [← ord_fl hS2 (Int.mul_pos hm hd), ← ord_fl hS hd, Int.mul_left_comm n m d, ordZ_scale hm]
  exact Int.le_antisymm ((k _).1 (Int.le_refl _)) ((k _).2 (Int.le_refl _))

theorem hv_scale {p q r d m : Int} (hm : 0 < m) (hS : 0 ≤ q * q * r) (hd : 0 < d) : hvZ (m * p) (m * q) r (m * d) = hvZ p q r d := by
  unfold hvZ
  rw [fl_scale hm hS hd, Int.mul_left_comm 2 m p, Int.mul_left_comm 2 m q, Int.mul_left_comm _ m d, ordZ_scale hm]

theorem SurdScales_core (n0 n1 n2 n3 k : Int) (v0 : (Lit.int .i64 n0).wf = true) (v1 : (Lit.int .i64 n1).wf = true) (v2 : (Lit.int .i64 n2).wf = true) (v3 : (Lit.int .i64 n3).wf = true) (v4 : (Lit.int .i64 k).wf = true) (w : World) :
    Calls Try.prog 8 #[.agg #[.int .i64 n0, .int .i64 n1, .int .i64 n2, .int .i64 n3], .int .i64 k] w fun e w' => e = .returned (.bool true) ∧ Below w.heap.size w w' := by
  refine calls_of_eval (O := o_law3f) (orc_cons a_gx (orc_cons a_mod (orc_cons a_rmulsmall (orc_cons a_half3 (orc_cons a_awake3 orc_nil))))) mixed noLoops Try.func8 (by kernel_rfl) rfl (args := [.agg #[.int .i64 n0, .int .i64 n1, .int .i64 n2, .int .i64 n3], .int .i64 k]) ?_ w
  rw [SurdScales_vc]
  have m1 : iconv .u64 (iadd .i64 1 (gmod k 1000)) = 1 + k % 1000 := by
    unfold iconv iadd gmod; rw [IntWalk.i64_in _ (by omega), IntKind.wrap_u64]; omega
  rw [m1]
  obtain ⟨m, hm, h0, h1⟩ : ∃ m, 1 + k % 1000 = m ∧ 1 ≤ m ∧ m ≤ 1000 := ⟨_, rfl, by omega, by omega⟩
  rw [hm]
  clear m1 hm
  obtain ⟨g1, g2, g3, g4, g5⟩ := gx_in n0 n1 n2 n3
  have rg := gx_range n0 n1 n2 n3
  generalize gxPh n0 n3 = ph at *
  generalize gxPl n0 = pl at *
  generalize gxQ n0 n1 = q at *
  generalize gxR n0 n2 = r at *
  generalize gxD n0 n1 n3 = d at *
  rw [bcond_iff]
  refine ⟨fun _ => by simp, fun hg => ?_⟩
  have hg := of_decide_eq_false hg
  obtain ⟨⟨a1, a2⟩, ⟨b1, b2⟩, ⟨c1, c2⟩, ⟨r1, r2⟩, ⟨d1, d2⟩, dd⟩ := rg
  have de : d ≤ 65536 ∧ ph = 0 := by omega
  obtain ⟨de, rfl⟩ := de
  have im : inU m = true := inU_iff.2 (by omega)
  have pm0 := Int.mul_nonneg b1 (by omega : 0 ≤ m)
  have pm1 := Int.mul_le_mul (by omega : pl ≤ 1099511627775) h1 (by omega) (by decide)
  have qm0 := Int.mul_nonneg c1 (by omega : 0 ≤ m)
  have qm1 := Int.mul_le_mul (by omega : q ≤ 1048575) h1 (by omega) (by decide)
  have dm0 := Int.mul_pos (by omega : 0 < d) (by omega : 0 < m)
  have dm1 := Int.mul_le_mul de h1 (by omega) (by decide)
  have e1 : imul .u64 q m = q * m := by unfold imul; rw [IntKind.wrap_u64]; omega
  have e2 : imul .u64 d m = d * m := by unfold imul; rw [IntKind.wrap_u64]; omega
  rw [e1, e2]
  have ww : w2 0 pl = pl := by unfold w2; omega
  have okm : wkOk 0 pl m = true := by unfold wkOk; rw [ww]; exact decide_eq_true (by omega)
  obtain ⟨k1, k2, k3⟩ := wk_spec g1 g2 im
  have k3 := k3 okm
  rw [ww] at k3
  have kh : wkH 0 pl m = 0 := by unfold wkH; rw [okm, ww, cond_true]; unfold hi64; omega
  have S0 : 0 ≤ q * q * r := Int.mul_nonneg (Int.mul_nonneg c1 c1) r1
  have fs : flZ (pl * m) (q * m) r (d * m) = flZ pl q r d := by
    rw [Int.mul_comm pl, Int.mul_comm q m, Int.mul_comm d m]; exact fl_scale (by omega) S0 (by omega)
  have hs : hvZ (pl * m) (q * m) r (d * m) = hvZ pl q r d := by
    rw [Int.mul_comm pl, Int.mul_comm q m, Int.mul_comm d m]; exact hv_scale (by omega) S0 (by omega)
  have V1 : vldB 0 q r d = true := by unfold vldB; simp only [Bool.and_eq_true, decide_eq_true_eq]; omega
  have V2 : vldB (wkH 0 pl m) (q * m) r (d * m) = true := by unfold vldB; rw [kh]; simp only [Bool.and_eq_true, decide_eq_true_eq]; omega
  have O : hvOk (wkH 0 pl m) (wkL 0 pl m) (q * m) r (d * m) = hvOk 0 pl q r d := by
    unfold hvOk flOk flI; rw [V1, V2, k3, ww, fs, hs]
  have R : hvV (wkH 0 pl m) (wkL 0 pl m) (q * m) r (d * m) = hvV 0 pl q r d := by
    unfold hvV; rw [O, k3, ww, hs]
  have i1 : inU (q * m) = true := inU_iff.2 (by omega)
  have i2 : inU (d * m) = true := inU_iff.2 (by omega)
  rw [O, R]
  simp [bcond_iff, ieq_self, beq_self', g1, g2, g3, g4, g5, i1, i2, k1, k2, im]
end Go.Proofs.Ythpeegfdaonkpaa
