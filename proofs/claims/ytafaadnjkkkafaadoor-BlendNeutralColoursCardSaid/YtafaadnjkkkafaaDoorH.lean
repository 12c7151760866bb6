/-
  The laws RoundHalfAgrees, RoundHalfIsNearest and RoundHalfIsMonotone, walked: each returns true for all arguments in their ranges.
-/
import Derived.Test.YtafaadnjkkkafaaDoorG
namespace Go.Proofs.YtafaadnjkkkafaaDoor
open Go.RowKit
set_option linter.unusedVariables false

/-- an unsigned argument as a natural number -/
theorem u64_nat {a : Int} (h : (Lit.int .u64 a).wf = true) : ∃ n : Nat, a = n ∧ n < 18446744073709551616 := by
  have hx : 0 ≤ a ∧ a ≤ 18446744073709551615 := by simpa [Lit.wf, IntKind.min, IntKind.max, IntKind.signed, IntKind.bits] using h
  exact ⟨a.toNat, by omega, by omega⟩
theorem u32_nat {a : Int} (h : (Lit.int .u32 a).wf = true) : ∃ n : Nat, a = n ∧ n < 4294967296 := by
  have hx : 0 ≤ a ∧ a ≤ 4294967295 := by simpa [Lit.wf, IntKind.min, IntKind.max, IntKind.signed, IntKind.bits] using h
  exact ⟨a.toNat, by omega, by omega⟩
theorem u16_nat {a : Int} (h : (Lit.int .u16 a).wf = true) : ∃ n : Nat, a = n ∧ n < 65536 := by
  have hx : 0 ≤ a ∧ a ≤ 65535 := by simpa [Lit.wf, IntKind.min, IntKind.max, IntKind.signed, IntKind.bits] using h
  exact ⟨a.toNat, by omega, by omega⟩
theorem i64_rng {a : Int} (h : (Lit.int .i64 a).wf = true) : -9223372036854775808 ≤ a ∧ a ≤ 9223372036854775807 := by
  simpa [Lit.wf, IntKind.min, IntKind.max, IntKind.signed, IntKind.bits] using h

theorem below_drewN (w : World) (n : Nat) : Below w.heap.size w (w.drewN n) := ⟨rfl, rfl, rfl, Nat.le_refl _, fun _ _ => rfl⟩

theorem half_mono (n d : Nat) : half n d ≤ half (n + 1) d ∧ half (n + 1) d ≤ half n d + 1 := by
  by_cases h0 : d = 0
  · subst h0; unfold half; rw [if_pos rfl, if_pos rfl]; omega
  · have hp : 0 < d := by omega
    have m1 := Nat.div_add_mod n d
    have l1 := Nat.mod_lt n hp
    have m2 := Nat.div_add_mod (n + 1) d
    have l2 := Nat.mod_lt (n + 1) hp
    by_cases hl : n % d + 1 = d
    · have e1 : n + 1 = d * (n / d + 1) := by rw [Nat.mul_add, Nat.mul_one]; omega
      have e2 : (n + 1) / d = n / d + 1 := by rw [e1, Nat.mul_div_cancel_left _ hp]
      have e3 : (n + 1) % d = 0 := by rw [e1, Nat.mul_mod_right]
      have e4 : half (n + 1) d = n / d + 1 := by rw [half_down hp rfl (by rw [e3]; omega), e2]
      rw [e4]
      by_cases hh : d - n % d ≤ n % d
      · rw [half_up hp rfl hh]; omega
      · rw [half_down hp rfl hh]; omega
    · have hlt : n % d + 1 < d := by omega
      have e1 : n + 1 = d * (n / d) + (n % d + 1) := by omega
      have e2 : (n + 1) / d = n / d := by rw [e1, Nat.mul_add_div hp, Nat.div_eq_of_lt hlt, Nat.add_zero]
      have e3 : (n + 1) % d = n % d + 1 := by rw [e1, Nat.mul_add_mod, Nat.mod_eq_of_lt hlt]
      by_cases hh : d - n % d ≤ n % d
      · rw [half_up hp rfl hh, half_up hp rfl (by rw [e3]; omega), e2]; omega
      · rw [half_down hp rfl hh]
        by_cases hk : d - (n + 1) % d ≤ (n + 1) % d
        · rw [half_up hp rfl hk, e2]; omega
        · rw [half_down hp rfl hk, e2]; omega
theorem half_le (n d : Nat) : half n d ≤ n := by
  by_cases h0 : d = 0
  · subst h0; unfold half; rw [if_pos rfl]; omega
  · have hp : 0 < d := by omega
    by_cases hh : d - n % d ≤ n % d
    · rw [half_up hp rfl hh]
      have l1 := Nat.mod_lt n hp
      have h2 : n / d < n := Nat.div_lt_self (by
        rcases Nat.eq_zero_or_pos n with h | h
        · subst h; simp at hh; omega
        · exact h) (by omega)
      exact h2
    · rw [half_down hp rfl hh]; exact Nat.div_le_self _ _

end Go.Proofs.YtafaadnjkkkafaaDoor
