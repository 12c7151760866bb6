/-
  Contracts of the specification's Mul, Of and DivMod on two words: the product, the number, quotient and remainder, for all words (divisor 0 answers false).
-/
import Derived.Test.YtafaadnjkkkafaaDoorB
namespace Go.Proofs.YtafaadnjkkkafaaDoor
open Go.RowKit
set_option linter.unusedVariables false

/-- the two words of a number -/
def Word2 (n : Nat) (hi lo : Nat) : Prop := hi * 18446744073709551616 + lo = n ∧ lo < 18446744073709551616 ∧ hi < 18446744073709551616

theorem mul64 (a b : Nat) (ha : a < 18446744073709551616) (hb : b < 18446744073709551616) (w : World) :
    Calls Tryd.prog 57 #[.int .u64 a, .int .u64 b] w fun e w' => ∃ hi lo : Nat, e = .returned (.tuple #[.int .u64 hi, .int .u64 lo]) ∧ Word2 (a * b) hi lo ∧ w = w' :=
  (Tryd.bits_Mul64 a b ha hb w).mono fun e w' ⟨he, hw⟩ => ⟨_, _, he, ⟨by omega, by omega, by
    have : a * b ≤ 18446744073709551615 * 18446744073709551615 := Nat.mul_le_mul (by omega) (by omega)
    omega⟩, hw.symm⟩

theorem ref_mul (a b : Nat) (ha : a < 18446744073709551616) (hb : b < 18446744073709551616) (w : World) :
    Calls Tryd.prog 46 #[.int .u64 a, .int .u64 b] w fun e w' => ∃ hi lo : Nat, e = .returned (.agg #[.int .u64 hi, .int .u64 lo]) ∧ Word2 (a * b) hi lo ∧ Below w.heap.size w w' := by
  go_enter Tryd.func46, Tryd.ntmps46
  go_wp2_with (go_at_call 57; refine (mul64 a b ha hb _).mono ?_; rintro e w' ⟨hi, lo, rfl, H, rfl⟩)
  exact bodyPost_ret (v := .agg #[.int .u64 hi, .int .u64 lo]) (by simp [results, Tryd.results46, go_sem]) rfl ⟨hi, lo, rfl, H, (Below.refl _ _).alloc (Nat.le_refl _) _⟩

theorem and1 (x : Nat) (h : x < 18446744073709551616) : bits .and .u64 (x : Int) 1 = ((x % 2 : Nat) : Int) := by
  have e := bits_and_u64_nat x 1 h (by omega)
  rw [Nat.and_one_is_mod] at e
  exact e
theorem shl_or (r b : Nat) (hb : b ≤ 1) : bits .or .u64 (IntKind.u64.wrap ((r : Int) * 2)) (b : Int) = (((2 * r + b) % 18446744073709551616 : Nat) : Int) := by
  have e : IntKind.u64.wrap ((r : Int) * 2) = ((2 * r % 18446744073709551616 : Nat) : Int) := by rw [IntKind.wrap_u64]; omega
  rw [e, or_add _ _ 1 (by omega) (by omega) (by omega) (by omega)]
  omega
theorem or_bit (q j : Nat) (hj : j ≤ 63) (hm : q % 2 ^ (j + 1) = 0) (h : q + 2 ^ j < 18446744073709551616) : bits .or .u64 (q : Int) (IntKind.u64.wrap (2 ^ j)) = ((q + 2 ^ j : Nat) : Int) := by
  have e : (2 : Int) ^ j = ((2 ^ j : Nat) : Int) := by simp
  rw [e, IntKind.wrap_u64, Int.emod_eq_of_lt (by omega) (by omega)]
  exact or_add q (2 ^ j) (j + 1) (by omega) (by rw [Nat.pow_succ]; have := Nat.two_pow_pos j; omega) hm h

end Go.Proofs.YtafaadnjkkkafaaDoor
