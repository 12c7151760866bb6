/-
  Layer 4 (unit): a sample returns from its number.
-/
import Derived.Test.YtljjffcjoohgfaaUd
namespace Go.Proofs.Ytljjffcjoohgfaa
open Go.RowKit PR
set_option linter.unusedVariables false

theorem log2_norm {n : Nat} (h : 0 < n) (hl : n.log2 ≤ 52) : 4503599627370496 ≤ n * 2 ^ (52 - n.log2) ∧ n * 2 ^ (52 - n.log2) < 9007199254740992 ∧ (n * 2 ^ (52 - n.log2)).log2 = 52 := by
  obtain ⟨l1, l2⟩ := log2_bounds h
  have b1 : (4503599627370496 : Nat) = 2 ^ n.log2 * 2 ^ (52 - n.log2) := by rw [← Nat.pow_add, show n.log2 + (52 - n.log2) = 52 by omega]
  have b2 : (9007199254740992 : Nat) = 2 ^ (n.log2 + 1) * 2 ^ (52 - n.log2) := by rw [← Nat.pow_add, show n.log2 + 1 + (52 - n.log2) = 53 by omega]
  have c1 := Nat.mul_le_mul_right (2 ^ (52 - n.log2)) l1
  have c2 := Nat.mul_lt_mul_of_lt_of_le l2 (Nat.le_refl (2 ^ (52 - n.log2))) (Nat.two_pow_pos _)
  rw [← b1] at c1
  rw [← b2] at c2
  exact ⟨c1, c2, log2_unique c1 c2⟩

theorem quot_eq (A B : Nat) (i j : Int) (hB : B ≠ 0) (lA : A.log2 = 52) (lB : B.log2 = 52) : (Ieee.Datum.number false A i).quotient 54 (.number false B j) =
    some (.number false (2 * (A * 18014398509481984 / B) + (A * 18014398509481984 % B != 0).toNat) (i - j - 55)) := by
  have e : (18014398509481984 : Nat) = 2 ^ 54 := by decide
  unfold Ieee.Datum.quotient
  simp only [if_neg hB, lA, lB]
  rw [show 54 + 52 - 52 = 54 from rfl, Nat.shiftLeft_eq, ← e]
  congr 2
  omega

theorem fop_quo (x y : Nat) : fop .quo .f64 x y = (((Ieee.double.read x).quotient 54 (Ieee.double.read y)).map Ieee.double.write).getD 0 := rfl
theorem write_num (s : Bool) (m : Nat) (p : Int) : Ieee.double.write (.number s m p) = Ieee.double.nearest s m p := rfl

/-- the quotient of two whole numbers, before it is rounded -/
theorem quo_value {v m : Nat} (hv : 0 < v) (hm : 0 < m) (lv : v.log2 ≤ 52) (lm : m.log2 ≤ 52) :
    fop .quo .f64 (fofi .f64 (v : Int)) (fofi .f64 (m : Int)) = Ieee.double.nearest false (2 * ((v * 2 ^ (52 - v.log2)) * 18014398509481984 / (m * 2 ^ (52 - m.log2))) + ((v * 2 ^ (52 - v.log2)) * 18014398509481984 % (m * 2 ^ (52 - m.log2)) != 0).toNat) ((v.log2 : Int) - (m.log2 : Int) - 55) := by
  obtain ⟨a1, a2, a3⟩ := log2_norm hv lv
  obtain ⟨b1, b2, b3⟩ := log2_norm hm lm
  rw [fop_quo, read_int hv lv, read_int hm lm, quot_eq _ _ _ _ (by omega) a3 b3, show (-((52 - v.log2 : Nat) : Int)) - (-((52 - m.log2 : Nat) : Int)) - 55 = (v.log2 : Int) - (m.log2 : Int) - 55 by omega, Option.map_some, Option.getD_some, write_num]

theorem pow_sum {a b q K : Nat} (h1 : a ≤ 967 + b) (h2 : 52 ≤ q) (hK : K = 1074) : (2 : Nat) ^ (967 + b - a + q) * 2 ^ (a + 55) = 2 ^ (q - 52) * 2 ^ b * 2 ^ K := by
  rw [← Nat.pow_add, ← Nat.pow_add, ← Nat.pow_add]
  congr 1
  omega
def isP (P : Nat) : Prop := (P : Int) = 2 ^ 1074
theorem ex_pow (k : Nat) (h : rnV 4607182418800017408 = 2 ^ k) : ∃ P j : Nat, j = k ∧ P = 2 ^ j ∧ 0 < P ∧ rnV 4607182418800017408 = P ∧ (P : Int) = 2 ^ k := ⟨2 ^ k, k, rfl, rfl, Nat.two_pow_pos k, h, by simp⟩
theorem ex_p1074 : ∃ P k : Nat, k = 1074 ∧ P = 2 ^ k ∧ 0 < P ∧ rnV 4607182418800017408 = P ∧ isP P := ex_pow 1074 rnV_one

theorem rt_core {v m : Nat} (hv : 0 < v) (hvm : v < m) (hm : m < 65536) : ∃ R, fop .quo .f64 (fofi .f64 (v : Int)) (fofi .f64 (m : Int)) = R ∧ 0 < R ∧ R < 4607182418800017408 ∧ ffC R (m : Int) = v := by
  have lv := log2_16 hv (by omega)
  have lm := log2_16 (show 0 < m by omega) hm
  have lvm : v.log2 ≤ m.log2 := by
    rcases Nat.lt_or_ge m.log2 v.log2 with e | e
    · obtain ⟨l1, _⟩ := log2_bounds hv
      obtain ⟨_, l2⟩ := log2_bounds (show 0 < m by omega)
      have : 2 ^ (m.log2 + 1) ≤ 2 ^ v.log2 := Nat.pow_le_pow_right (by omega) e
      omega
    · exact e
  rw [quo_value hv (by omega) (by omega) (by omega)]
  obtain ⟨a1, a2, a3⟩ := log2_norm hv (by omega)
  obtain ⟨b1, b2, b3⟩ := log2_norm (show 0 < m by omega) (by omega)
  generalize ha : 52 - v.log2 = a at *
  generalize hb : 52 - m.log2 = b at *
  generalize hV : v * 2 ^ a = V at *
  generalize hN : m * 2 ^ b = N at *
  have e54 : (2 : Nat) ^ 54 = 18014398509481984 := by decide
  have q1 := Nat.div_add_mod (V * 18014398509481984) N
  have q2 := Nat.mod_lt (V * 18014398509481984) (show 0 < N by omega)
  have qlo : 9007199254740992 ≤ V * 18014398509481984 / N := by
    rw [Nat.le_div_iff_mul_le (by omega)]; omega
  have qhi : V * 18014398509481984 / N < 36028797018963968 := by
    rw [Nat.div_lt_iff_lt_mul (by omega)]; omega
  generalize V * 18014398509481984 / N = q at *
  generalize V * 18014398509481984 % N = r at *
  generalize hQ : 2 * q + (r != 0).toNat = Q at *
  have t1 : (r != 0).toNat ≤ 1 := by cases (r != 0) <;> simp
  -- Q N lies within N of 2 V 2^54
  have QN : Q * N ≤ 2 * (V * 18014398509481984) + N ∧ 2 * (V * 18014398509481984) ≤ Q * N + 2 * N := by
    have c1 : Q * N = 2 * (N * q) + (r != 0).toNat * N := by rw [← hQ, Nat.add_mul, Nat.mul_assoc, Nat.mul_comm q N]
    have c2 : (r != 0).toNat * N ≤ N := by
      have := Nat.mul_le_mul_right N t1
      omega
    omega
  have lQ : Q.log2 = 54 ∨ Q.log2 = 55 := by
    rcases Nat.lt_or_ge Q (2 ^ 55) with e | e
    · exact Or.inl (log2_unique (by rw [e54]; omega) e)
    · exact Or.inr (log2_unique e (by rw [show (2 : Nat) ^ (55 + 1) = 72057594037927936 by decide]; omega))
  obtain ⟨kept, k1, k2, k3, k4, k5, _⟩ := nearest_spec Q ((v.log2 : Int) - (m.log2 : Int) - 55) (by omega) (967 + b - a + Q.log2) (by omega) (by omega)
  obtain ⟨k5, k6⟩ := k5 (by omega)
  rw [k1]
  refine ⟨_, rfl, ?_⟩
  clear k1
  generalize (967 + b - a + Q.log2) * 4503599627370496 + kept = R at *
  generalize hg : 2 ^ (Q.log2 - 52) = g at *
  have g8 : g ≤ 8 := by rcases lQ with e | e <;> rw [← hg, e] <;> decide
  -- 2 kept g N lies within 12 N of 4 V 2^54
  have d1 : 2 * (kept * g * N) ≤ 4 * (V * 18014398509481984) + 10 * N := by
    have := Nat.mul_le_mul_right N k5
    have h8 := Nat.mul_le_mul_right N g8
    rw [Nat.add_mul] at this
    have e1 : 2 * (kept * g) * N = 2 * (kept * g * N) := Nat.mul_assoc ..
    have e2 : 2 * Q * N = 2 * (Q * N) := Nat.mul_assoc ..
    omega
  have d2 : 4 * (V * 18014398509481984) ≤ 2 * (kept * g * N) + 12 * N := by
    have := Nat.mul_le_mul_right N k6
    have h8 := Nat.mul_le_mul_right N g8
    rw [Nat.add_mul] at this
    have e1 : 2 * (kept * g) * N = 2 * (kept * g * N) := Nat.mul_assoc ..
    have e2 : 2 * Q * N = 2 * (Q * N) := Nat.mul_assoc ..
    omega
  -- the same over 2 ^ (a + 55)
  obtain ⟨P, K, hK, hP, P0, hP1, hP2⟩ := ex_p1074
  obtain ⟨T, hT⟩ : ∃ T, T = (2 : Nat) ^ (a + 55) := ⟨_, rfl⟩
  have T0 : 0 < T := by rw [hT]; exact Nat.two_pow_pos _
  have f1 : 2 * rnV R * m * T = 2 * (kept * g * N) * P := by
    rw [k4, hT, ← hN, hP, ← hg]
    have := pow_sum (a := a) (b := b) (q := Q.log2) (by omega) (by omega) hK
    calc 2 * (kept * 2 ^ (967 + b - a + Q.log2)) * m * 2 ^ (a + 55) = 2 * kept * m * (2 ^ (967 + b - a + Q.log2) * 2 ^ (a + 55)) := by simp only [Nat.mul_assoc, Nat.mul_comm, Nat.mul_left_comm]
      _ = 2 * kept * m * (2 ^ (Q.log2 - 52) * 2 ^ b * 2 ^ K) := by rw [this]
      _ = 2 * (kept * 2 ^ (Q.log2 - 52) * (m * 2 ^ b)) * 2 ^ K := by simp only [Nat.mul_assoc, Nat.mul_comm, Nat.mul_left_comm]
  clear hP hK
  have f2 : 2 * v * P * T = 4 * (V * 18014398509481984) * P := by
    rw [hT, ← hV, Nat.pow_add, show (2 : Nat) ^ 55 = 2 * 18014398509481984 by decide]
    rw [show 4 * (v * 2 ^ a * 18014398509481984) * P = 2 * (2 * (v * 2 ^ a * 18014398509481984)) * P by rw [← Nat.mul_assoc 2 2]]
    simp only [Nat.mul_assoc, Nat.mul_comm, Nat.mul_left_comm]
  have f3 : 12 * N < T := by
    rw [hT, ← hN, Nat.pow_add]
    have p1 : (2 : Nat) ^ b ≤ 2 ^ a := Nat.pow_le_pow_right (by omega) (by omega)
    have p2 := Nat.mul_le_mul (by omega : m ≤ 65535) p1
    have p3 := Nat.two_pow_pos a
    rw [show (2 : Nat) ^ 55 = 36028797018963968 by decide]
    omega
  have f4 : 12 * N * P < T * P := Nat.mul_lt_mul_of_lt_of_le f3 (Nat.le_refl _) P0
  have g1 : 2 * rnV R * m < 2 * v * P + P := by
    refine Nat.lt_of_mul_lt_mul_right (a := T) ?_
    rw [Nat.add_mul, f1, f2]
    have h1 := Nat.mul_le_mul_right P d1
    rw [Nat.add_mul] at h1
    have e3 : P * T = T * P := Nat.mul_comm ..
    have e4 : 12 * N * P = 10 * N * P + 2 * N * P := by rw [← Nat.add_mul, ← Nat.add_mul]
    omega
  have g2 : 2 * v * P < 2 * rnV R * m + P := by
    refine Nat.lt_of_mul_lt_mul_right (a := T) ?_
    rw [Nat.add_mul, f1, f2]
    have h1 := Nat.mul_le_mul_right P d2
    rw [Nat.add_mul] at h1
    have e3 : P * T = T * P := Nat.mul_comm ..
    omega
  clear f1 f2 f3 f4 d1 d2 k5 k6 QN hT hg
  have R0 : 0 < R := by
    rcases Nat.eq_zero_or_pos R with h | h
    · have := Nat.mul_le_mul_right P (show 2 ≤ 2 * v by omega)
      rw [h, rnV_zero] at g2
      clear hP2 hP1
      omega
    · exact h
  refine ⟨R0, ?_, ?_⟩
  · rw [← rnV_lt_iff, hP1]
    have h1 : 2 * v * P + 2 * P ≤ 2 * P * m := by
      have := Nat.mul_le_mul_left (2 * P) (show v + 1 ≤ m from hvm)
      rw [Nat.mul_add, Nat.mul_one] at this
      have e : 2 * P * v = 2 * v * P := by rw [Nat.mul_right_comm]
      omega
    have h2 : 2 * rnV R * m < 2 * P * m := by omega
    have := Nat.lt_of_mul_lt_mul_right h2
    omega
  · obtain ⟨p, p0, hp, e⟩ := ffC_eq R (m : Int)
    have hpP : p = (P : Int) := by rw [hp]; exact hP2.symm
    rw [e, hpP]
    have e1 : 2 * (rnV R : Int) * (m : Int) = ((2 * rnV R * m : Nat) : Int) := by simp
    rw [e1, ← Int.natCast_add, show (2 : Int) * (P : Int) = ((2 * P : Nat) : Int) by simp, ← Int.natCast_ediv]
    clear hp hpP e hP2 hP1
    refine congrArg (fun n : Nat => (n : Int)) ?_
    generalize 2 * rnV R * m = z at *
    rw [Nat.div_eq_iff (by omega)]
    have e2 : v * (2 * P) = 2 * v * P := by rw [Nat.mul_left_comm, Nat.mul_assoc]
    constructor <;> omega

theorem rt_one {m : Nat} (h0 : 0 < m) (hm : m < 65536) : fop .quo .f64 (fofi .f64 (m : Int)) (fofi .f64 (m : Int)) = 4607182418800017408 := by
  have lm := log2_16 h0 hm
  rw [quo_value h0 h0 (by omega) (by omega)]
  obtain ⟨b1, b2, b3⟩ := log2_norm h0 (by omega)
  generalize m * 2 ^ (52 - m.log2) = N at *
  rw [Nat.mul_div_right _ (by omega), Nat.mul_mod_right, show (m.log2 : Int) - (m.log2 : Int) - 55 = -55 by omega]
  decide +kernel

theorem rt_zero {m : Nat} (h0 : 0 < m) (hm : m < 65536) : fop .quo .f64 (fofi .f64 0) (fofi .f64 (m : Int)) = 0 := by
  have lm := log2_16 h0 hm
  show ((((Ieee.double.read (fofi .f64 0)).quotient 54 (Ieee.double.read (fofi .f64 (m : Int)))).map Ieee.double.write)).getD 0 = _
  rw [read_zero, read_int h0 (by omega)]
  obtain ⟨b1, b2, b3⟩ := log2_norm h0 (by omega)
  unfold Ieee.Datum.quotient
  simp only
  rw [if_neg (by omega)]
  simp only [Nat.zero_shiftLeft, Nat.zero_div, Nat.zero_mod, bne_self_eq_false, Bool.toNat_false]
  rfl
end Go.Proofs.Ytljjffcjoohgfaa
