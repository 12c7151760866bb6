/-
  Floating-point numbers of 64 bits: their order, and what a nearest number is, in whole numbers.
-/
import Derived.Test.YtljjffcjoohgfaaUa
namespace Go.Proofs.Ytljjffcjoohgfaa
open Go.RowKit PR
set_option linter.unusedVariables false

def fRung (x : Nat) : Nat := x % 9223372036854775808
def fNeg (x : Nat) : Bool := x / 9223372036854775808 % 2 == 1
def fNan (x : Nat) : Prop := 9218868437227405312 < fRung x
instance (x : Nat) : Decidable (fNan x) := inferInstanceAs (Decidable (_ < _))
def fKey (x : Nat) : Int := if fNeg x = true then -(fRung x : Int) else fRung x
def rMag (r : Nat) : Nat := if r < 4503599627370496 then r else 4503599627370496 + r % 4503599627370496
def rExp (r : Nat) : Nat := if r < 4503599627370496 then 0 else r / 4503599627370496 - 1

theorem rnV_eq (r : Nat) : rnV r = rMag r * 2 ^ rExp r := by
  unfold rnV rMag rExp
  split
  · simp
  · rfl

theorem read_spec (x : Nat) : Ieee.double.read x =
    if fRung x < 9218868437227405312 then .number (fNeg x) (rMag (fRung x)) (-1074 + (rExp (fRung x) : Int))
    else if fRung x = 9218868437227405312 then .infinity (fNeg x) else .nan (fNeg x) (fRung x - 9218868437227405312) := by
  have e1 : Ieee.double.signWeight = 9223372036854775808 := rfl
  have e2 : Ieee.double.binade = 4503599627370496 := rfl
  have e3 : Ieee.double.infRung = 9218868437227405312 := rfl
  have e4 : Ieee.double.leastPlace = -1074 := rfl
  unfold Ieee.Format.read
  rw [e1, e2, e3, e4]
  show (if fRung x < 4503599627370496 then _ else _) = _
  unfold rMag rExp
  by_cases h : fRung x < 4503599627370496
  · rw [if_pos h, if_pos (by omega), if_pos h, if_pos h]
    rfl
  · rw [if_neg h, if_neg h, if_neg h]
    rfl

theorem rnV_step (r : Nat) : rnV r < rnV (r + 1) := by
  unfold rnV
  split
  · split
    · omega
    · rename_i h1 h2
      have : r + 1 = 4503599627370496 := by omega
      rw [this]
      have : (4503599627370496 + 4503599627370496 % 4503599627370496) * 2 ^ (4503599627370496 / 4503599627370496 - 1) = 4503599627370496 := by decide
      omega
  · rename_i h1
    rw [if_neg (by omega)]
    by_cases h : r % 4503599627370496 + 1 < 4503599627370496
    · have e1 : (r + 1) / 4503599627370496 = r / 4503599627370496 := by omega
      have e2 : (r + 1) % 4503599627370496 = r % 4503599627370496 + 1 := by omega
      rw [e1, e2]
      exact Nat.mul_lt_mul_of_lt_of_le (by omega) (Nat.le_refl _) (Nat.two_pow_pos _)
    · have e1 : (r + 1) / 4503599627370496 - 1 = (r / 4503599627370496 - 1) + 1 := by omega
      have e2 : (r + 1) % 4503599627370496 = 0 := by omega
      rw [e1, e2, Nat.pow_succ]
      have : r % 4503599627370496 = 4503599627370495 := by omega
      rw [this]
      have := Nat.two_pow_pos (r / 4503599627370496 - 1)
      generalize 2 ^ (r / 4503599627370496 - 1) = p at *
      omega

theorem rnV_lt {a b : Nat} (h : a < b) : rnV a < rnV b := by
  obtain ⟨d, rfl⟩ : ∃ d, b = a + 1 + d := ⟨b - (a + 1), by omega⟩
  clear h
  induction d with
  | zero => exact rnV_step a
  | succ d ih => exact Nat.lt_trans ih (rnV_step (a + 1 + d))
theorem rnV_lt_iff {a b : Nat} : rnV a < rnV b ↔ a < b := by
  refine ⟨fun h => ?_, rnV_lt⟩
  by_cases e : a < b
  · exact e
  · rcases Nat.eq_or_lt_of_le (Nat.le_of_not_lt e) with e | e
    · rw [e] at h; omega
    · have := rnV_lt e; omega
theorem rnV_le {a b : Nat} (h : a ≤ b) : rnV a ≤ rnV b := by
  rcases Nat.eq_or_lt_of_le h with e | e
  · rw [e]; omega
  · exact Nat.le_of_lt (rnV_lt e)
theorem rnV_zero : rnV 0 = 0 := rfl
theorem rnV_one : rnV 4607182418800017408 = 2 ^ 1074 := by decide +kernel

theorem cmp_congr {a b c d : Int} (h1 : a < b ↔ c < d) (h2 : a = b ↔ c = d) : compare a b = compare c d := by
  simp only [compare, compareOfLessAndEq, h1, h2]

theorem signed_eq (s : Bool) (m k : Nat) : Ieee.signed s m k = if s = true then -((m * 2 ^ k : Nat) : Int) else ((m * 2 ^ k : Nat) : Int) := by
  unfold Ieee.signed
  rw [Nat.shiftLeft_eq]

/-- two numbers, each with its sign, compare as their rungs do -/
theorem signed_cmp (s t : Bool) (a b : Nat) (c : Nat) (hc : 0 < c) (x y : Nat) (hx : x * c = rnV a) (hy : y * c = rnV b) :
    compare (if s = true then -(x : Int) else x) (if t = true then -(y : Int) else y) = compare (if s = true then -(a : Int) else a) (if t = true then -(b : Int) else b) := by
  have key : (x < y ↔ a < b) ∧ (x = y ↔ a = b) ∧ (y < x ↔ b < a) ∧ (x = 0 ↔ a = 0) ∧ (y = 0 ↔ b = 0) := by
    have l1 : x < y ↔ a < b := by
      rw [← rnV_lt_iff (a := a), ← hx, ← hy]
      exact (Nat.mul_lt_mul_right hc).symm
    have l2 : y < x ↔ b < a := by
      rw [← rnV_lt_iff (a := b), ← hx, ← hy]
      exact (Nat.mul_lt_mul_right hc).symm
    have z1 : ∀ u v : Nat, u * c = rnV v → (u = 0 ↔ v = 0) := by
      intro u v h
      refine ⟨fun e => ?_, fun e => ?_⟩
      · subst e
        rw [Nat.zero_mul] at h
        rcases Nat.eq_zero_or_pos v with e | e
        · exact e
        · have := rnV_lt e; rw [rnV_zero] at this; omega
      · subst e
        rw [rnV_zero] at h
        rcases Nat.eq_zero_or_pos u with e | e
        · exact e
        · have := Nat.mul_pos e hc; omega
    exact ⟨l1, by omega, l2, z1 x a hx, z1 y b hy⟩
  refine cmp_congr ?_ ?_ <;> (split <;> split <;> omega)

theorem order_num (s t : Bool) (a b : Nat) : (Ieee.Datum.number s (rMag a) (-1074 + (rExp a : Int))).order (.number t (rMag b) (-1074 + (rExp b : Int))) =
    some (compare (if s = true then -(a : Int) else a) (if t = true then -(b : Int) else b)) := by
  unfold Ieee.Datum.order
  simp only [signed_eq]
  congr 1
  refine signed_cmp s t a b (2 ^ (min (rExp a) (rExp b))) (Nat.two_pow_pos _) _ _ ?_ ?_
  · rw [rnV_eq, Nat.mul_assoc, ← Nat.pow_add]
    congr 2
    omega
  · rw [rnV_eq, Nat.mul_assoc, ← Nat.pow_add]
    congr 2
    omega

theorem order_spec (x y : Nat) : Ieee.double.order x y = if fNan x ∨ fNan y then none else some (compare (fKey x) (fKey y)) := by
  unfold Ieee.Format.order
  rw [read_spec x, read_spec y]
  unfold fNan fKey
  by_cases hx : fRung x < 9218868437227405312
  · rw [if_pos hx]
    by_cases hy : fRung y < 9218868437227405312
    · rw [if_pos hy, if_neg (by omega), order_num]
    · rw [if_neg hy]
      by_cases ey : fRung y = 9218868437227405312
      · rw [if_pos ey, if_neg (by omega)]
        show some (if fNeg y = true then Ordering.gt else Ordering.lt) = _
        congr 1
        rw [ey]
        cases hn : fNeg y
        · simp only [Bool.false_eq_true, if_false]
          symm; rw [Int.compare_eq_lt]; split <;> omega
        · simp only [if_true]
          symm; rw [Int.compare_eq_gt]; split <;> omega
      · rw [if_neg ey, if_pos (by omega)]
        rfl
  · rw [if_neg hx]
    by_cases ex : fRung x = 9218868437227405312
    · rw [if_pos ex]
      by_cases hy : fRung y < 9218868437227405312
      · rw [if_pos hy, if_neg (by omega)]
        show some (if fNeg x = true then Ordering.lt else Ordering.gt) = _
        congr 1
        rw [ex]
        cases hn : fNeg x
        · simp only [Bool.false_eq_true, if_false]
          symm; rw [Int.compare_eq_gt]; split <;> omega
        · simp only [if_true]
          symm; rw [Int.compare_eq_lt]; split <;> omega
      · rw [if_neg hy]
        by_cases ey : fRung y = 9218868437227405312
        · rw [if_pos ey, if_neg (by omega)]
          show some (compare (fNeg y).toNat (fNeg x).toNat) = _
          congr 1
          rw [ex, ey]
          cases fNeg x <;> cases fNeg y <;> decide
        · rw [if_neg ey, if_pos (by omega)]
          cases fNeg x <;> rfl
    · rw [if_neg ex, if_pos (Or.inl (by omega))]
      split
      · rfl
      · split <;> rfl

theorem fne_spec (x : Nat) : fne .f64 x x = true ↔ fNan x := by
  show (Ieee.double.order x x != some .eq) = true ↔ _
  rw [order_spec]
  by_cases h : fNan x
  · simp [h]
  · simp only [h, or_self, if_false, iff_false]
    simp
theorem cmp_lt {a b : Int} : compare a b = .lt ↔ a < b := Int.compare_eq_lt
theorem cmp_eq {a b : Int} : compare a b = .eq ↔ a = b := Int.compare_eq_eq
theorem cmp_gt {a b : Int} : compare a b = .gt ↔ b < a := Int.compare_eq_gt
theorem feq_spec (x y : Nat) (hx : ¬ fNan x) (hy : ¬ fNan y) : feq .f64 x y = true ↔ fKey x = fKey y := by
  show (Ieee.double.order x y == some .eq) = true ↔ _
  rw [order_spec]; simp [hx, hy]
theorem fle_spec (x y : Nat) (hx : ¬ fNan x) (hy : ¬ fNan y) : fle .f64 x y = true ↔ fKey x ≤ fKey y := by
  show (Ieee.double.order x y == some .lt || Ieee.double.order x y == some .eq) = true ↔ _
  rw [order_spec]; simp [hx, hy, cmp_lt]; omega
theorem fge_spec (x y : Nat) (hx : ¬ fNan x) (hy : ¬ fNan y) : fge .f64 x y = true ↔ fKey y ≤ fKey x := by
  show (Ieee.double.order x y == some .gt || Ieee.double.order x y == some .eq) = true ↔ _
  rw [order_spec]; simp [hx, hy, cmp_gt]; omega
theorem flt_spec (x y : Nat) (hx : ¬ fNan x) (hy : ¬ fNan y) : flt .f64 x y = true ↔ fKey x < fKey y := by
  show (Ieee.double.order x y == some .lt) = true ↔ _
  rw [order_spec]; simp [hx, hy, cmp_lt]
theorem fgt_spec (x y : Nat) (hx : ¬ fNan x) (hy : ¬ fNan y) : fgt .f64 x y = true ↔ fKey y < fKey x := by
  show (Ieee.double.order x y == some .gt) = true ↔ _
  rw [order_spec]; simp [hx, hy, cmp_gt]
theorem nan_zero : ¬ fNan 0 := by unfold fNan fRung; omega
theorem nan_one : ¬ fNan 4607182418800017408 := by unfold fNan fRung; omega
theorem key_zero : fKey 0 = 0 := rfl
theorem key_one : fKey 4607182418800017408 = 4607182418800017408 := rfl
theorem key_pos {x : Nat} (h : x < 18446744073709551616) (k : 0 < fKey x) : fKey x = x := by
  unfold fKey at *
  by_cases e : fNeg x = true
  · rw [if_pos e] at k; omega
  · rw [if_neg e]
    unfold fNeg at e
    unfold fRung
    simp only [beq_iff_eq] at e
    omega
theorem key_small {x : Nat} (h : x < 9218868437227405312) : fKey x = x ∧ ¬ fNan x := by
  have e : fRung x = x := by unfold fRung; omega
  unfold fKey fNan
  rw [e]
  have : ¬ fNeg x = true := by unfold fNeg; simp; omega
  rw [if_neg this]
  exact ⟨rfl, by omega⟩

/-- the result of FromFloat by the key alone -/
def kV (k m : Int) : Int := if k ≤ 0 then 0 else if 4607182418800017408 ≤ k then m else ffC k.toNat m
theorem ffV_key {x : Nat} {m : Int} (h : x < 18446744073709551616) (hn : ¬ fNan x) : ffV x m = kV (fKey x) m := by
  unfold ffV kV
  have h1 : fne .f64 x x = false := by rw [← Bool.not_eq_true]; exact fun h => hn ((fne_spec x).1 h)
  have h2 := fle_spec x 0 hn nan_zero
  have h3 := fge_spec x _ hn nan_one
  rw [key_zero] at h2
  rw [key_one] at h3
  rw [h1]
  cases e2 : fle .f64 x 0
  · rw [e2] at h2
    have h2 : ¬ fKey x ≤ 0 := by simpa using h2
    cases e3 : fge .f64 x 4607182418800017408
    · rw [e3] at h3
      have h3 : ¬ 4607182418800017408 ≤ fKey x := by simpa using h3
      rw [if_neg h2, if_neg h3, key_pos h (by omega)]
      rfl
    · rw [if_neg h2, if_pos (h3.1 e3)]; rfl
  · rw [if_pos (h2.1 e2)]; rfl

theorem p1075 : (2 : Int) ^ 1075 = 2 * 2 ^ 1074 := by decide +kernel
theorem p1074 : (0 : Int) < 2 ^ 1074 := by decide +kernel
theorem p1074n : ((2 ^ 1074 : Nat) : Int) = 2 ^ 1074 := by decide +kernel
theorem ffC_eq (x : Nat) (m : Int) : ∃ p : Int, 0 < p ∧ p = 2 ^ 1074 ∧ ffC x m = (2 * (rnV x : Int) * m + p) / (2 * p) := ⟨2 ^ 1074, p1074, rfl, by unfold ffC; rw [p1075]⟩
theorem ffC_mono {x y : Nat} {m : Int} (hm : 0 ≤ m) (h : x ≤ y) : ffC x m ≤ ffC y m := by
  obtain ⟨p, p0, hp, e⟩ := ffC_eq x m
  obtain ⟨q, q0, hq, e'⟩ := ffC_eq y m
  obtain rfl : q = p := by rw [hp, hq]
  rw [e, e']
  refine Int.ediv_le_ediv (by omega) ?_
  have := rnV_le h
  have : (2 * (rnV x : Int)) * m ≤ (2 * (rnV y : Int)) * m := Int.mul_le_mul_of_nonneg_right (by omega) hm
  omega
theorem ffC_nonneg {x : Nat} {m : Int} (hm : 0 ≤ m) : 0 ≤ ffC x m := by
  obtain ⟨p, p0, hp, e⟩ := ffC_eq x m
  rw [e]
  clear hp e
  refine Int.ediv_nonneg ?_ (by omega)
  have := Int.mul_nonneg (show 0 ≤ 2 * (rnV x : Int) by omega) hm
  omega
theorem ffC_le {x : Nat} {m : Int} (hm : 0 ≤ m) (h : x < 4607182418800017408) : ffC x m ≤ m := by
  obtain ⟨p, p0, hp, e⟩ := ffC_eq x m
  rw [e]
  have h2 : (2 * (rnV x : Int) * m + p) / (2 * p) < m + 1 := by
    rw [Int.ediv_lt_iff_lt_mul (by omega)]
    have h3 := rnV_lt h
    rw [rnV_one] at h3
    have h3 : (rnV x : Int) < p := by rw [hp, ← p1074n]; exact_mod_cast h3
    clear hp e
    have h1 : (2 * (rnV x : Int)) * m ≤ (2 * p) * m := Int.mul_le_mul_of_nonneg_right (by omega) hm
    rw [Int.add_mul, Int.one_mul, Int.mul_comm m]
    omega
  omega
theorem kV_mono {a b m : Int} (hm : 0 ≤ m) (h : a ≤ b) : kV a m ≤ kV b m := by
  unfold kV
  by_cases h1 : a ≤ 0
  · rw [if_pos h1]
    split
    · omega
    · split
      · exact hm
      · exact ffC_nonneg hm
  · rw [if_neg h1, if_neg (show ¬ b ≤ 0 by omega)]
    by_cases h2 : 4607182418800017408 ≤ a
    · rw [if_pos h2, if_pos (by omega)]; omega
    · rw [if_neg h2]
      split
      · exact ffC_le hm (by omega)
      · exact ffC_mono hm (by omega)
theorem kV_range {k m : Int} (hm : 0 ≤ m) : 0 ≤ kV k m ∧ kV k m ≤ m := by
  unfold kV
  split
  · omega
  · split
    · omega
    · exact ⟨ffC_nonneg hm, ffC_le hm (by omega)⟩
end Go.Proofs.Ytljjffcjoohgfaa
