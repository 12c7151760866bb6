/-
  The contract of round.Sqrt: the greatest integer whose square is at most n, for every word n.
-/
import Derived.Test.YtafaadnjkkkafaaDoorB
namespace Go.Proofs.YtafaadnjkkkafaaDoor
open Go.RowKit
set_option linter.unusedVariables false

/-- s is the greatest integer whose square is at most n -/
def IsRoot (n s : Nat) : Prop := s * s ≤ n ∧ n < (s + 1) * (s + 1)

theorem root_ex : ∀ n : Nat, ∃ s, IsRoot n s
  | 0 => ⟨0, by unfold IsRoot; omega⟩
  | n + 1 => by
    obtain ⟨s, h1, h2⟩ := root_ex n
    by_cases h : n + 1 < (s + 1) * (s + 1)
    · exact ⟨s, by omega, h⟩
    · refine ⟨s + 1, by omega, ?_⟩
      have : (s + 1 + 1) * (s + 1 + 1) = (s + 1) * (s + 1) + (2 * s + 3) := by
        simp only [Nat.add_mul, Nat.mul_add, Nat.mul_one, Nat.one_mul]; omega
      omega

theorem root_unique {n s t : Nat} (h : IsRoot n s) (k : IsRoot n t) : s = t := by
  obtain ⟨h1, h2⟩ := h
  obtain ⟨k1, k2⟩ := k
  rcases Nat.lt_trichotomy s t with h | h | h
  · have : (s + 1) * (s + 1) ≤ t * t := Nat.mul_le_mul h h
    omega
  · exact h
  · have : (t + 1) * (t + 1) ≤ s * s := Nat.mul_le_mul h h
    omega

theorem newton_ge {n s x : Nat} (h : IsRoot n s) (hx : 0 < x) : s ≤ (x + n / x) / 2 := by
  have h1 : 2 * s ≤ x + n / x := by
    by_cases hs : 2 * s ≤ x
    · exact Nat.le_trans hs (Nat.le_add_right _ _)
    · have h2 : 2 * s - x ≤ n / x := by
        rw [Nat.le_div_iff_mul_le hx]
        refine Nat.le_trans ?_ h.1
        -- (2s - x) x <= s s
        obtain ⟨k, hk⟩ : ∃ k, 2 * s = x + k := ⟨2 * s - x, by omega⟩
        have e : 2 * s - x = k := by omega
        rw [e]
        have h4 : 4 * (k * x) ≤ (x + k) * (x + k) := by
          rcases Nat.le_total k x with hl | hl
          · obtain ⟨j, rfl⟩ := Nat.exists_eq_add_of_le hl
            have : (k + j + k) * (k + j + k) = 4 * (k * (k + j)) + j * j := by simp only [Nat.add_mul, Nat.mul_add, Nat.mul_comm j k]; omega
            omega
          · obtain ⟨j, rfl⟩ := Nat.exists_eq_add_of_le hl
            have : (x + (x + j)) * (x + (x + j)) = 4 * ((x + j) * x) + j * j := by simp only [Nat.add_mul, Nat.mul_add, Nat.mul_comm j x]; omega
            omega
        have h5 : (x + k) * (x + k) = 4 * (s * s) := by rw [← hk, Nat.mul_mul_mul_comm]
        omega
      generalize n / x = z at *
      omega
  omega

theorem newton_end {n s x : Nat} (h : IsRoot n s) (hx : 0 < x) (hs : s ≤ x) (he : x ≤ (x + n / x) / 2) : x = s := by
  have h1 : x ≤ n / x := by omega
  have h2 := (Nat.le_div_iff_mul_le hx).1 h1
  by_cases hlt : s < x
  · have := Nat.mul_le_mul (Nat.succ_le_of_lt hlt) (Nat.succ_le_of_lt hlt)
    have := h.2
    exact absurd this (by simp only [Nat.succ_eq_add_one] at *; omega)
  · omega

theorem newton_small {n s x : Nat} (h : IsRoot n s) (hs : s ≤ x) (hs0 : 0 < s) : n / x ≤ s + 2 := by
  have h1 : n / x ≤ n / s := Nat.div_le_div_left hs hs0
  have h2 : n / s < s + 3 := by
    rw [Nat.div_lt_iff_lt_mul hs0]
    have h3 := h.2
    have e1 : (s + 1) * (s + 1) = s * s + 2 * s + 1 := by simp only [Nat.add_mul, Nat.mul_add, Nat.mul_one, Nat.one_mul]; omega
    have e2 : (s + 3) * s = s * s + 3 * s := by rw [Nat.add_mul]
    omega
  omega

theorem root_start {n s b : Nat} (h : IsRoot n s) (hb : n < 2 ^ b) : s ≤ 2 ^ ((b + 1) / 2) := by
  have h1 : 2 ^ b ≤ 2 ^ ((b + 1) / 2) * 2 ^ ((b + 1) / 2) := by
    rw [← Nat.pow_add]; exact Nat.pow_le_pow_right (by decide) (by omega)
  by_cases hl : s ≤ 2 ^ ((b + 1) / 2)
  · exact hl
  · have hl' : 2 ^ ((b + 1) / 2) ≤ s := by omega
    have h2 := Nat.mul_le_mul hl' hl'
    have := h.1
    omega
theorem root_pos {n s : Nat} (h : IsRoot n s) (hn : 0 < n) : 0 < s := by
  rcases Nat.eq_zero_or_pos s with e | e
  · subst e; have := h.2; omega
  · exact e
theorem root_lt {n s : Nat} (h : IsRoot n s) (hn : n < 18446744073709551616) : s < 4294967296 := by
  by_cases hl : s < 4294967296
  · exact hl
  · have h2 := Nat.mul_le_mul (by omega : 4294967296 ≤ s) (by omega : 4294967296 ≤ s)
    have := h.1
    omega

end Go.Proofs.YtafaadnjkkkafaaDoor
