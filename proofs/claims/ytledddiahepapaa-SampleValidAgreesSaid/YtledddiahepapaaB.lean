/-
  The contract of math/bits.Div64 where the upper word is below the divisor: quotient and remainder of the two words.
-/
import Derived.Test.YtledddiahepapaaShelf
import Derived.WalkKit
import Derived.Lib.Hide
import Derived.Test.YtledddiahepapaaA
import Derived.Test.YtledddiahepapaaMath
import Derived.BigQuiet
import Derived.Deep.QuietTactic
import Derived.Deep.DeepFit
import Derived.Deep.DeepCutAuto
import Derived.Deep.CutBlock
namespace Go.Proofs.Ytledddiahepapaa
open Go.RowKit
set_option linter.unusedVariables false
theorem ret2 {k k' : IntKind} {a b a' b' : Int} (h : a = a') (h' : b = b') : Ending.returned (.tuple #[.int k a, .int k' b]) = .returned (.tuple #[.int k a', .int k' b']) := by rw [h, h']
theorem bits_shl (x s M : Nat) (h : x * 2 ^ s < 18446744073709551616) (hM : M = x * 2 ^ s) : Value.int IntKind.u64 (IntKind.u64.wrap ((x : Int) * 2 ^ s)) = .int .u64 M := by
  subst hM
  rw [IntKind.wrap_u64]
  have e : ((x * 2 ^ s : Nat) : Int) = (x : Int) * 2 ^ s := by simp
  rw [← e, Int.emod_eq_of_lt (by omega) (by omega)]

theorem shl_mod (x s : Nat) : IntKind.u64.wrap ((x : Int) * 2 ^ s) = ((x * 2 ^ s % 18446744073709551616 : Nat) : Int) := by
  rw [IntKind.wrap_u64]
  simp
theorem and32 (L : Nat) (h : L < 18446744073709551616) : bits .and .u64 (L : Int) 4294967295 = ((L % 4294967296 : Nat) : Int) := Mul64.maskN L h
theorem shr32 (L : Nat) : (L : Int) / 4294967296 = ((L / 4294967296 : Nat) : Int) := by omega

/-- two parts that share no bit -/
theorem or_add (a b s : Nat) (ha : a < 18446744073709551616) (hb : b < 2 ^ s) (hd : a % 2 ^ s = 0) (h : a + b < 18446744073709551616) :
    bits .or .u64 (a : Int) (b : Int) = ((a + b : Nat) : Int) := by
  have hb' : b < 18446744073709551616 := by omega
  rw [bits_or_u64_nat a b ha hb']
  congr 1
  obtain ⟨q, rfl⟩ : ∃ q, a = 2 ^ s * q := ⟨a / 2 ^ s, by have := Nat.div_add_mod a (2 ^ s); omega⟩
  rw [Nat.two_pow_add_eq_or_of_lt hb]

end Go.Proofs.Ytledddiahepapaa
