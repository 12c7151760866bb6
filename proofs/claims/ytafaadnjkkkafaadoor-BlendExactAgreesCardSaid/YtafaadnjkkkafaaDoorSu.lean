/-
  The laws of layer 3 (surd): each returns true for all arguments in their ranges.
-/
import Derived.Test.YtafaadnjkkkafaaDoorSt
namespace Go.Proofs.YtafaadnjkkkafaaDoor
open Go.RowKit PR
set_option linter.unusedVariables false

theorem inU_wf {a : Int} (h : (Lit.int .u64 a).wf = true) : inU a = true := by
  obtain ⟨n, rfl, hn⟩ := u64_nat h
  exact inU_iff.2 (by omega)
theorem ieq_self (a : Int) : ieq a a = true := by simp [ieq]
theorem beq_self' (a : Bool) : beq' a a = true := by simp [beq']
theorem gx_in (n0 n1 n2 n3 : Int) : inU (gxPh n0 n3) = true ∧ inU (gxPl n0) = true ∧ inU (gxQ n0 n1) = true ∧ inU (gxR n0 n2) = true ∧ inU (gxD n0 n1 n3) = true := by
  have := gx_range n0 n1 n2 n3
  simp only [inU_iff]
  omega
theorem inU_iadd (a b : Int) : inU (iadd .u64 a b) = true := by rw [inU_iff]; unfold iadd; rw [IntKind.wrap_u64]; omega

theorem fl_ord {ph pl q r d : Int} (hv : vldB ph q r d = true) (h5 : fiveU ph pl q r d) (n : Int) : ige (ordI ph pl q r d n) 0 = true ↔ n ≤ flI ph pl q r d := by
  obtain ⟨i1, i2, i3, i4, i5, p1, p2, o1, _, q2, d1, s1, s2⟩ := vld_spec hv h5
  unfold ige ordI flI
  rw [decide_eq_true_eq]
  exact ord_fl s1 d1

theorem floor_facts {ph pl q r d : Int} (h5 : fiveU ph pl q r d) (hf : flOk ph pl q r d = true) :
    vldB ph q r d = true ∧ 0 ≤ flV ph pl q r d ∧ flV ph pl q r d < 9223372036854775808 ∧ flV ph pl q r d = flI ph pl q r d ∧ ige (cmpX ph pl q r d (flV ph pl q r d)) 0 = true ∧ ilt (cmpX ph pl q r d (iadd .u64 (flV ph pl q r d) 1)) 0 = true ∧
    (hvOk ph pl q r d = true → hvV ph pl q r d = flV ph pl q r d ∨ hvV ph pl q r d = iadd .u64 (flV ph pl q r d) 1) := by
  have hf' := hf
  simp only [flOk, Bool.and_eq_true, decide_eq_true_eq] at hf'
  obtain ⟨hv, flt⟩ := hf'
  obtain ⟨_, _, _, _, _, p1, p2, o1, o2, q2, d1, s1, s2⟩ := vld_spec hv h5
  have fl0 : 0 ≤ flI ph pl q r d := fl_nonneg p1 s1 d1
  have eV : flV ph pl q r d = flI ph pl q r d := by unfold flV; rw [hf]; rfl
  have e2 : iadd .u64 (flI ph pl q r d) 1 = flI ph pl q r d + 1 := by unfold iadd; rw [IntKind.wrap_u64]; omega
  rw [eV, e2]
  refine ⟨hv, fl0, flt, rfl, ?_, ?_, fun h => ?_⟩
  · unfold cmpX; rw [hv, cond_true]; exact (fl_ord hv h5 _).2 (Int.le_refl _)
  · unfold cmpX; rw [hv, cond_true]
    have : ¬ ige (ordI ph pl q r d (flI ph pl q r d + 1)) 0 = true := fun hc => by have := (fl_ord hv h5 _).1 hc; omega
    unfold ige at this; unfold ilt
    simp only [ge_iff_le, decide_eq_true_eq] at this ⊢
    omega
  · unfold hvV; rw [h, cond_true]
    unfold hvZ
    split
    · exact Or.inr rfl
    · exact Or.inl rfl

theorem mul4 (a b c d : Int) : a * b * (c * d) = a * c * (b * d) := by rw [Int.mul_assoc, Int.mul_left_comm b, ← Int.mul_assoc]
theorem isq_sq {x : Int} (h : 0 ≤ x) : isq (x * x) = x := by
  have h0 := Int.mul_nonneg h h
  have := (le_isq h0 h).2 (Int.le_refl _)
  obtain ⟨h1, h2, h3⟩ := isq_spec h0
  by_cases hc : isq (x * x) ≤ x
  · omega
  · have := Int.mul_le_mul (by omega : x + 1 ≤ isq (x * x)) (by omega : x + 1 ≤ isq (x * x)) (by omega) h1
    have e : (x + 1) * (x + 1) = x * x + 2 * x + 1 := by rw [Int.add_mul, Int.mul_add]; omega
    omega

/-- the nearest integer, by the whole part alone -/
theorem hv_whole {p q r d s : Int} (hs : 0 ≤ s) (hS : q * q * r = s * s) (hd : 0 < d) : hvZ p q r d = if (2 * ((p + s) / d) + 1) * d ≤ 2 * (p + s) then (p + s) / d + 1 else (p + s) / d := by
  have e1 : isq (q * q * r) = s := by rw [hS]; exact isq_sq hs
  have e2 : (2 * q) * (2 * q) * r = (2 * s) * (2 * s) := by
    rw [show (2 * q) * (2 * q) * r = 4 * (q * q * r) by
      rw [show (2 * q) * (2 * q) = 4 * (q * q) by rw [mul4]; rfl, Int.mul_assoc], hS, mul4]; rfl
  have e3 : isq ((2 * q) * (2 * q) * r) = 2 * s := by rw [e2]; exact isq_sq (by omega)
  have hS2 : 0 ≤ (2 * q) * (2 * q) * r := by rw [e2]; exact Int.mul_nonneg (by omega) (by omega)
  unfold hvZ flZ
  rw [e1]
  have := ordZ_ge (p := 2 * p) (m := (2 * ((p + s) / d) + 1) * d) hS2
  rw [e3] at this
  by_cases hc : (2 * ((p + s) / d) + 1) * d ≤ 2 * (p + s)
  · rw [if_pos (this.2 (by omega)), if_pos hc]
  · rw [if_neg (fun h => hc (by have := this.1 h; omega)), if_neg hc]

theorem hlf_int {n d : Int} (hn : 0 ≤ n) (hd : 0 < d) : hlf n d = if (2 * (n / d) + 1) * d ≤ 2 * n then n / d + 1 else n / d := by
  obtain ⟨a, rfl⟩ : ∃ a : Nat, n = a := ⟨n.toNat, by omega⟩
  obtain ⟨b, rfl⟩ : ∃ b : Nat, d = b := ⟨d.toNat, by omega⟩
  unfold hlf half
  simp only [Int.toNat_natCast]
  rw [if_neg (by omega)]
  have h1 := Nat.div_add_mod a b
  have h2 := Nat.mod_lt a (by omega : 0 < b)
  have e1 : ((a : Int) / (b : Int)) = ((a / b : Nat) : Int) := by simp
  have e2 : (2 * ((a / b : Nat) : Int) + 1) * (b : Int) = (((2 * (a / b) + 1) * b : Nat) : Int) := by simp
  rw [e1, e2]
  have e3 : (2 * (a / b) + 1) * b = 2 * (b * (a / b)) + b := by rw [Nat.add_mul, Nat.one_mul, Nat.mul_assoc, Nat.mul_comm (a / b)]
  rw [e3]
  generalize b * (a / b) = z at *
  by_cases hc : b - a % b ≤ a % b
  · rw [if_pos hc, if_pos (by omega)]; rfl
  · rw [if_neg hc, if_neg (by omega)]

theorem cmpZ_scale {a b m : Int} (hm : 0 < m) : cmpZ (m * a) (m * b) = cmpZ a b := by
  unfold cmpZ
  simp only [Int.mul_lt_mul_left hm]
  by_cases h : a < b
  · rw [if_pos h, if_pos h]
  · rw [if_neg h, if_neg h]
    by_cases h2 : a = b
    · rw [if_pos h2, if_pos (by rw [h2])]
    · rw [if_neg h2, if_neg (fun hc => h2 (Int.eq_of_mul_eq_mul_left (by omega) hc))]

theorem ordZ_scale {p q r x m : Int} (hm : 0 < m) : ordZ (m * p) (m * q) r (m * x) = ordZ p q r x := by
  unfold ordZ
  simp only [Int.mul_lt_mul_left hm]
  have e1 : m * q * (m * q) * r = (m * m) * (q * q * r) := by rw [mul4, Int.mul_assoc]
  have e2 : (m * x - m * p) * (m * x - m * p) = (m * m) * ((x - p) * (x - p)) := by rw [← Int.mul_sub, mul4]
  rw [e1, e2, cmpZ_scale (Int.mul_pos hm hm)]

theorem fl_scale {p q r d m : Int} (hm : 0 < m) (hS : 0 ≤ q * q * r) (hd : 0 < d) : flZ (m * p) (m * q) r (m * d) = flZ p q r d := by
  have hS2 : 0 ≤ m * q * (m * q) * r := by
    rw [show m * q * (m * q) * r = (m * m) * (q * q * r) by rw [mul4, Int.mul_assoc]]
    exact Int.mul_nonneg (Int.le_of_lt (Int.mul_pos hm hm)) hS
  have k : ∀ n, n ≤ flZ (m * p) (m * q) r (m * d) ↔ n ≤ flZ p q r d := fun n => by
    rw [← ord_fl hS2 (Int.mul_pos hm hd), ← ord_fl hS hd, Int.mul_left_comm n m d, ordZ_scale hm]
  exact Int.le_antisymm ((k _).1 (Int.le_refl _)) ((k _).2 (Int.le_refl _))

theorem hv_scale {p q r d m : Int} (hm : 0 < m) (hS : 0 ≤ q * q * r) (hd : 0 < d) : hvZ (m * p) (m * q) r (m * d) = hvZ p q r d := by
  unfold hvZ
  rw [fl_scale hm hS hd, Int.mul_left_comm 2 m p, Int.mul_left_comm 2 m q, Int.mul_left_comm _ m d, ordZ_scale hm]

end Go.Proofs.YtafaadnjkkkafaaDoor
