/-
  Floating-point numbers of 64 bits: whole numbers and quotients, rounded to the nearest.
-/
import Derived.Test.YtljjffcjoohgfaaUb
namespace Go.Proofs.Ytljjffcjoohgfaa
open Go.RowKit PR
set_option linter.unusedVariables false

theorem cut_zero (n : Nat) (s : Bool) : Ieee.Toward.even.cut s n 0 = n := by
  unfold Ieee.Toward.cut
  simp [Nat.mod_one]

/-- the whole number that a cut leaves is off by half a unit at the most -/
theorem cut_near (s : Bool) (n d : Nat) (hd : d ≤ n.log2 + 2) :
    2 * (Ieee.Toward.even.cut s n d * 2 ^ d) ≤ 2 * n + 2 ^ d ∧ 2 * n ≤ 2 * (Ieee.Toward.even.cut s n d * 2 ^ d) + 2 ^ d ∧ n / 2 ^ d ≤ Ieee.Toward.even.cut s n d ∧ Ieee.Toward.even.cut s n d ≤ n / 2 ^ d + 1 := by
  unfold Ieee.Toward.cut
  simp only [Nat.min_eq_left hd, Nat.shiftLeft_eq, Nat.one_mul]
  have hp := Nat.two_pow_pos d
  have h1 := Nat.div_add_mod n (2 ^ d)
  have h2 := Nat.mod_lt n hp
  generalize n / 2 ^ d = q at *
  generalize n % 2 ^ d = r at *
  generalize 2 ^ d = g at *
  have e0 : q * g = g * q := Nat.mul_comm _ _
  have e1 : (q + 1) * g = g * q + g := by rw [Nat.add_mul, Nat.one_mul, e0]
  cases hb : (decide (g < 2 * r) || g == 2 * r && q % 2 == 1)
  · simp only [Bool.toNat_false, Nat.add_zero, e0]
    simp only [Bool.or_eq_false_iff, decide_eq_false_iff_not] at hb
    omega
  · simp only [Bool.toNat_true, e1]
    simp only [Bool.or_eq_true, decide_eq_true_eq, Bool.and_eq_true, beq_iff_eq] at hb
    omega

theorem log2_bounds {n : Nat} (h : 0 < n) : 2 ^ n.log2 ≤ n ∧ n < 2 ^ (n.log2 + 1) :=
  ⟨Nat.log2_self_le (by omega), Nat.lt_log2_self⟩
theorem log2_unique {n e : Nat} (h1 : 2 ^ e ≤ n) (h2 : n < 2 ^ (e + 1)) : n.log2 = e := by
  have h0 : 0 < n := Nat.lt_of_lt_of_le (Nat.two_pow_pos e) h1
  exact (Nat.log2_eq_iff (by omega)).2 ⟨h1, h2⟩

theorem pow_split {a b : Nat} (h : b ≤ a) : 2 ^ a = 2 ^ b * 2 ^ (a - b) := by rw [← Nat.pow_add]; congr 1; omega

theorem rnV_form (E kept : Nat) (k1 : 4503599627370496 ≤ kept) (k2 : kept ≤ 9007199254740992) : rnV (E * 4503599627370496 + kept) = kept * 2 ^ E := by
  obtain ⟨x, hx⟩ : ∃ x, x = E * 4503599627370496 + kept := ⟨_, rfl⟩
  rw [← hx]
  unfold rnV
  rw [if_neg (by omega)]
  rcases Nat.eq_or_lt_of_le k2 with h | h
  · have a1 : x / 4503599627370496 - 1 = E + 1 := by omega
    have a2 : x % 4503599627370496 = 0 := by omega
    rw [a1, a2, Nat.pow_succ]
    clear a1 a2 hx
    generalize 2 ^ E = p
    rw [h]
    omega
  · have a1 : x / 4503599627370496 - 1 = E := by omega
    have a2 : 4503599627370496 + x % 4503599627370496 = kept := by omega
    rw [a1, a2]

/-- the nearest word of a number whose last digit has a place in the format, and that is not too great -/
theorem nearest_spec (n : Nat) (p : Int) (hn : 0 < n) (E : Nat) (hE : p + (n.log2 : Int) - 52 = (E : Int) - 1074) (hb : E ≤ 2044) :
    ∃ kept : Nat, Ieee.double.nearest false n p = E * 4503599627370496 + kept ∧ 4503599627370496 ≤ kept ∧ kept ≤ 9007199254740992 ∧ rnV (E * 4503599627370496 + kept) = kept * 2 ^ E ∧
      (52 ≤ n.log2 → 2 * (kept * 2 ^ (n.log2 - 52)) ≤ 2 * n + 2 ^ (n.log2 - 52) ∧ 2 * n ≤ 2 * (kept * 2 ^ (n.log2 - 52)) + 2 ^ (n.log2 - 52)) ∧
      (n.log2 ≤ 52 → kept = n * 2 ^ (52 - n.log2)) := by
  have e1 : Ieee.double.binade = 4503599627370496 := rfl
  have e2 : Ieee.double.infRung = 9218868437227405312 := rfl
  have e3 : Ieee.double.leastPlace = -1074 := rfl
  have e4 : Ieee.double.fractionBits = 52 := rfl
  obtain ⟨l1, l2⟩ := log2_bounds hn
  have key : ∃ kept : Nat, Ieee.Toward.even.cut false (n <<< (p - ((E : Int) - 1074)).toNat) (((E : Int) - 1074) - p).toNat = kept ∧ 4503599627370496 ≤ kept ∧ kept ≤ 9007199254740992 ∧
      (52 ≤ n.log2 → 2 * (kept * 2 ^ (n.log2 - 52)) ≤ 2 * n + 2 ^ (n.log2 - 52) ∧ 2 * n ≤ 2 * (kept * 2 ^ (n.log2 - 52)) + 2 ^ (n.log2 - 52)) ∧
      (n.log2 ≤ 52 → kept = n * 2 ^ (52 - n.log2)) := by
    by_cases h : n.log2 ≤ 52
    · have a1 : (p - ((E : Int) - 1074)).toNat = 52 - n.log2 := by omega
      have a2 : (((E : Int) - 1074) - p).toNat = 0 := by omega
      rw [a1, a2, cut_zero, Nat.shiftLeft_eq]
      have b1 : (4503599627370496 : Nat) = 2 ^ n.log2 * 2 ^ (52 - n.log2) := by rw [← Nat.pow_add, show n.log2 + (52 - n.log2) = 52 by omega]
      have b2 : (9007199254740992 : Nat) = 2 ^ (n.log2 + 1) * 2 ^ (52 - n.log2) := by rw [← Nat.pow_add, show n.log2 + 1 + (52 - n.log2) = 53 by omega]
      have c1 := Nat.mul_le_mul_right (2 ^ (52 - n.log2)) l1
      have c2 := Nat.mul_le_mul_right (2 ^ (52 - n.log2)) (Nat.le_of_lt l2)
      refine ⟨_, rfl, by omega, by omega, fun h' => ?_, fun _ => rfl⟩
      have : n.log2 = 52 := by omega
      rw [this]
      simp
    · have a1 : (p - ((E : Int) - 1074)).toNat = 0 := by omega
      have a2 : (((E : Int) - 1074) - p).toNat = n.log2 - 52 := by omega
      rw [a1, a2, Nat.shiftLeft_zero]
      obtain ⟨k1, k2, k3, k4⟩ := cut_near false n (n.log2 - 52) (by omega)
      refine ⟨_, rfl, ?_, ?_, fun _ => ⟨k1, k2⟩, fun h' => absurd h' h⟩
      · have : 4503599627370496 ≤ n / 2 ^ (n.log2 - 52) := by
          rw [Nat.le_div_iff_mul_le (Nat.two_pow_pos _), show (4503599627370496 : Nat) = 2 ^ 52 from rfl, ← Nat.pow_add, show 52 + (n.log2 - 52) = n.log2 by omega]
          exact l1
        omega
      · have : n / 2 ^ (n.log2 - 52) < 9007199254740992 := by
          rw [Nat.div_lt_iff_lt_mul (Nat.two_pow_pos _), show (9007199254740992 : Nat) = 2 ^ 53 from rfl, ← Nat.pow_add, show 53 + (n.log2 - 52) = n.log2 + 1 by omega]
          exact l2
        omega
  obtain ⟨kept, hk, k1, k2, k3, k4⟩ := key
  refine ⟨kept, ?_, k1, k2, ?_, k3, k4⟩
  · unfold Ieee.Format.nearest
    rw [if_neg (by omega), e1, e2, e3, e4]
    have hl : max (p + (n.log2 : Int) - ((52 : Nat) : Int)) (-1074) = (E : Int) - 1074 := by omega
    simp only [hl, hk]
    unfold Ieee.Format.word
    simp only [Bool.false_eq_true, if_false]
    have hz : ((E : Int) - 1074 - -1074).toNat = E := by clear hk hl k1 k2 k3 k4 l1 l2 e1 e2 e3 e4 hE; omega
    rw [hz]
    refine Nat.min_eq_left ?_
    clear hk hl k3 k4 l1 l2 e1 e2 e3 e4 hE hz
    omega
  · exact rnV_form E kept k1 k2

theorem read_small {x : Nat} (h : x < 9218868437227405312) : Ieee.double.read x = .number false (rMag x) (-1074 + (rExp x : Int)) := by
  have e : fRung x = x := by unfold fRung; omega
  rw [read_spec, e, if_pos h]
  have : fNeg x = false := by unfold fNeg; simp; omega
  rw [this]

/-- a whole number as a word -/
theorem read_int {n : Nat} (h : 0 < n) (hl : n.log2 ≤ 52) : Ieee.double.read (fofi .f64 (n : Int)) = .number false (n * 2 ^ (52 - n.log2)) (-((52 - n.log2 : Nat) : Int)) := by
  have e : fofi .f64 (n : Int) = Ieee.double.nearest false n 0 := by
    show Ieee.double.nearest (decide ((n : Int) < 0)) (n : Int).natAbs 0 = _
    rw [show decide ((n : Int) < 0) = false by simp, Int.natAbs_natCast]
  obtain ⟨kept, h1, h2, h3, h4, _, h6⟩ := nearest_spec n 0 h (1022 + n.log2) (by omega) (by omega)
  have h6 := h6 hl
  have l2 := (log2_bounds h).2
  have hk : kept < 9007199254740992 := by
    rw [h6, show (9007199254740992 : Nat) = 2 ^ (n.log2 + 1) * 2 ^ (52 - n.log2) by rw [← Nat.pow_add, show n.log2 + 1 + (52 - n.log2) = 53 by omega]]
    exact Nat.mul_lt_mul_of_lt_of_le l2 (Nat.le_refl _) (Nat.two_pow_pos _)
  rw [e, h1, read_small (by omega)]
  unfold rMag rExp
  rw [if_neg (by omega), if_neg (by omega), ← h6]
  congr 1 <;> omega
theorem read_zero : Ieee.double.read (fofi .f64 0) = .number false 0 (-1074) := by decide +kernel

theorem nearest_not_nan (s : Bool) (n : Nat) (p : Int) : ∃ t, Ieee.double.read (Ieee.double.nearest s n p) = .infinity t ∨ ∃ m q, Ieee.double.read (Ieee.double.nearest s n p) = .number t m q := by
  have e2 : Ieee.double.infRung = 9218868437227405312 := rfl
  have e3 : Ieee.double.signWeight = 9223372036854775808 := rfl
  have key : ∃ r, r ≤ 9218868437227405312 ∧ Ieee.double.nearest s n p = Ieee.double.word s r := by
    unfold Ieee.Format.nearest
    split
    · exact ⟨0, by omega, rfl⟩
    · exact ⟨_, Nat.min_le_right .., by rw [e2]⟩
  obtain ⟨r, hr, e⟩ := key
  have hf : fRung (Ieee.double.word s r) ≤ 9218868437227405312 := by
    unfold Ieee.Format.word fRung
    rw [e3]
    split <;> omega
  rw [e, read_spec]
  split
  · exact ⟨_, Or.inr ⟨_, _, rfl⟩⟩
  · rw [if_pos (by omega)]
    exact ⟨_, Or.inl rfl⟩

/-- what a quotient asks: a numerator that is a number, a denominator that is a whole number and not 0 -/
theorem quo_ok {x : Nat} {n : Nat} (h : 0 < n) (hl : n.log2 ≤ 52) (hx : ∃ t, Ieee.double.read x = .infinity t ∨ ∃ m q, Ieee.double.read x = .number t m q) : fok .quo .f64 x (fofi .f64 (n : Int)) = true := by
  show (((Ieee.double.read x).quotient 54 (Ieee.double.read (fofi .f64 (n : Int)))).map Ieee.double.write).isSome = true
  rw [read_int h hl]
  have hp : n * 2 ^ (52 - n.log2) ≠ 0 := by
    have := Nat.mul_pos h (Nat.two_pow_pos (52 - n.log2)); omega
  obtain ⟨t, e | ⟨m, q, e⟩⟩ := hx
  · rw [e]; rfl
  · rw [e]
    simp only [Ieee.Datum.quotient]
    rw [if_neg hp]
    rfl

theorem log2_16 {n : Nat} (h : 0 < n) (hn : n < 65536) : n.log2 ≤ 15 := by
  obtain ⟨l1, l2⟩ := log2_bounds h
  rcases Nat.lt_or_ge 15 n.log2 with e | e
  · have : 2 ^ 16 ≤ 2 ^ n.log2 := Nat.pow_le_pow_right (by omega) e
    omega
  · exact e

theorem read_u16 {v : Nat} (hv : v < 65536) : ∃ m q, Ieee.double.read (fofi .f64 (v : Int)) = .number false m q := by
  rcases Nat.eq_zero_or_pos v with rfl | h
  · exact ⟨_, _, read_zero⟩
  · exact ⟨_, _, read_int h (by have := log2_16 h hv; omega)⟩

theorem quo16_ok {v m : Int} (hv : in16 v = true) (hm : in16 m = true) (h0 : m ≠ 0) : fok .quo .f64 (fofi .f64 v) (fofi .f64 m) = true := by
  simp only [in16, decide_eq_true_eq] at hv hm
  obtain ⟨a, rfl⟩ : ∃ a : Nat, v = a := ⟨v.toNat, by omega⟩
  obtain ⟨b, rfl⟩ : ∃ b : Nat, m = b := ⟨m.toNat, by omega⟩
  obtain ⟨p, q, e⟩ := read_u16 (v := a) (by omega)
  have := log2_16 (n := b) (by omega) (by omega)
  exact quo_ok (by omega) (by omega) ⟨false, Or.inr ⟨p, q, e⟩⟩
end Go.Proofs.Ytljjffcjoohgfaa
