/-
  Contracts of wide.DivMod, Half and Sqrt on two words: quotient and remainder, the nearest integer, the greatest integer whose square is at most the number.
-/
import Derived.Test.YtledddiahepapaaM
import Derived.Test.YtledddiahepapaaF
namespace Go.Proofs.Ytledddiahepapaa
open Go.RowKit
set_option linter.unusedVariables false

theorem Box2.drew {w : World} {b : Nat} {x y : Value} (h : Box2 w b x y) : Box2 w.drew b x y := h
theorem Box2.alloc {w : World} {b : Nat} {x y : Value} (h : Box2 w b x y) (hlt : b < w.heap.size) (o : Obj) : Box2 (w.alloc o) b x y :=
  h.keep ((Below.refl _ _).alloc (Nat.le_refl _) o) hlt

theorem two_div (hi lo d : Nat) (hd : 0 < d) :
    (hi * 18446744073709551616 + lo) / d = hi / d * 18446744073709551616 + (hi % d * 18446744073709551616 + lo) / d ∧ (hi * 18446744073709551616 + lo) % d = (hi % d * 18446744073709551616 + lo) % d := by
  have e : hi * 18446744073709551616 + lo = (hi % d * 18446744073709551616 + lo) + hi / d * 18446744073709551616 * d := by
    have h1 := Nat.div_add_mod hi d
    have h2 : hi * 18446744073709551616 = (d * (hi / d) + hi % d) * 18446744073709551616 := by rw [h1]
    rw [Nat.add_mul, Nat.mul_comm d, Nat.mul_right_comm] at h2
    rw [h2, Nat.add_right_comm, Nat.add_comm]
    generalize hi / d * 18446744073709551616 * d = a
    generalize hi % d * 18446744073709551616 = b
    omega
  constructor
  · rw [e, Nat.add_mul_div_right _ _ hd]; omega
  · rw [e, Nat.add_mul_mod_self_right]

theorem wroot_lt {n s : Nat} (h : IsRoot n s) (hn : n < 340282366920938463463374607431768211456) : s < 18446744073709551616 := by
  by_cases hl : s < 18446744073709551616
  · exact hl
  · have h2 := Nat.mul_le_mul (by omega : 18446744073709551616 ≤ s) (by omega : 18446744073709551616 ≤ s)
    have := h.1
    omega
theorem wroot_start {n s b : Nat} (h : IsRoot n s) (hb : n < 2 ^ b) : s < 2 ^ ((b + 1) / 2) := by
  have h1 : 2 ^ b ≤ 2 ^ ((b + 1) / 2) * 2 ^ ((b + 1) / 2) := by
    rw [← Nat.pow_add]; exact Nat.pow_le_pow_right (by decide) (by omega)
  by_cases hl : s < 2 ^ ((b + 1) / 2)
  · exact hl
  · have h2 := Nat.mul_le_mul (by omega : 2 ^ ((b + 1) / 2) ≤ s) (by omega : 2 ^ ((b + 1) / 2) ≤ s)
    have := h.1
    omega
theorem root_ge {n s x : Nat} (h : IsRoot n s) (hx : x * x ≤ n) : x ≤ s := by
  by_cases hl : x ≤ s
  · exact hl
  · have h2 := Nat.mul_le_mul (by omega : s + 1 ≤ x) (by omega : s + 1 ≤ x)
    have := h.2
    omega

theorem shl_one (k : Nat) (hk : k ≤ 64) : IntKind.u64.wrap (IntKind.u64.wrap ((2 : Int) ^ k) - 1) = ((2 ^ k - 1 : Nat) : Int) := by
  have e : (2 : Int) ^ k = ((2 ^ k : Nat) : Int) := by simp
  have h1 : 2 ^ k ≤ 18446744073709551616 := Nat.pow_le_pow_right (n := 2) (j := 64) (by decide) hk
  have h2 := Nat.two_pow_pos k
  rw [e]
  generalize 2 ^ k = z at *
  rw [IntKind.wrap_u64, IntKind.wrap_u64]
  omega

end Go.Proofs.Ytledddiahepapaa
