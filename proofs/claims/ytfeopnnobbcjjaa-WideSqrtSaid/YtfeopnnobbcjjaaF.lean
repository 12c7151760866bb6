/-
  The contract of round.Sqrt: the greatest integer whose square is at most n, for every word n.
-/
import Derived.Test.YtfeopnnobbcjjaaB
namespace Go.Proofs.Ytfeopnnobbcjjaa
open Go.RowKit
set_option linter.unusedVariables false

/-- s is the greatest integer whose square is at most n -/
def IsRoot (n s : Nat) : Prop := s * s ≤ n ∧ n < (s + 1) * (s + 1)

theorem root_ex : ∀ n : Nat, ∃ s, IsRoot n s
  | 0 => ⟨0, by unfold IsRoot; omega⟩
  | n + 1 => by
    obtain ⟨s, h1, h2⟩ := root_ex n
    by_cases h : n + 1 < (s + 1) * (s + 1)
    · exact ⟨s, by omega, h⟩
    · refine ⟨s + 1, by omega, ?_⟩
      have : (s + 1 + 1) * (s + 1 + 1) = (s + 1) * (s + 1) + (2 * s + 3) := by
        simp only [Nat.add_mul, Nat.mul_add, Nat.mul_one, Nat.one_mul]; omega
      omega

theorem root_unique {n s t : Nat} (h : IsRoot n s) (k : IsRoot n t) : s = t := by
  obtain ⟨h1, h2⟩ := h
  obtain ⟨k1, k2⟩ := k
  rcases Nat.lt_trichotomy s t with h | h | h
  · have : (s + 1) * (s + 1) ≤ t * t := Nat.mul_le_mul h h
    omega
  · exact h
  · have : (t + 1) * (t + 1) ≤ s * s := Nat.mul_le_mul h h
    omega

theorem newton_ge {n s x : Nat} (h : IsRoot n s) (hx : 0 < x) : s ≤ (x + n / x) / 2 := by
  have h1 : 2 * s ≤ x + n / x := by
    by_cases hs : 2 * s ≤ x
    · exact Nat.le_trans hs (Nat.le_add_right _ _)
    · have h2 : 2 * s - x ≤ n / x := by
        rw [Nat.le_div_iff_mul_le hx]
        refine Nat.le_trans ?_ h.1
        -- (2s - x) x <= s s
        obtain ⟨k, hk⟩ : ∃ k, 2 * s = x + k := ⟨2 * s - x, by omega⟩
        have e : 2 * s - x = k := by omega
        rw [e]
        have h4 : 4 * (k * x) ≤ (x + k) * (x + k) := by
          rcases Nat.le_total k x with hl | hl
          · obtain ⟨j, rfl⟩ := Nat.exists_eq_add_of_le hl
            have : (k + j + k) * (k + j + k) = 4 * (k * (k + j)) + j * j := by simp only [Nat.add_mul, Nat.mul_add, Nat.mul_comm j k]; omega
            omega
          · obtain ⟨j, rfl⟩ := Nat.exists_eq_add_of_le hl
            have : (x + (x + j)) * (x + (x + j)) = 4 * ((x + j) * x) + j * j := by simp only [Nat.add_mul, Nat.mul_add, Nat.mul_comm j x]; omega
            omega
        have h5 : (x + k) * (x + k) = 4 * (s * s) := by rw [← hk, Nat.mul_mul_mul_comm]
        omega
      generalize n / x = z at *
      omega
  omega

theorem newton_end {n s x : Nat} (h : IsRoot n s) (hx : 0 < x) (hs : s ≤ x) (he : x ≤ (x + n / x) / 2) : x = s := by
  have h1 : x ≤ n / x := by omega
  have h2 := (Nat.le_div_iff_mul_le hx).1 h1
  by_cases hlt : s < x
  · have := Nat.mul_le_mul (Nat.succ_le_of_lt hlt) (Nat.succ_le_of_lt hlt)
    have := h.2
    exact absurd this (by simp only [Nat.succ_eq_add_one] at *; omega)
  · omega

theorem newton_small {n s x : Nat} (h : IsRoot n s) (hs : s ≤ x) (hs0 : 0 < s) : n / x ≤ s + 2 := by
  have h1 : n / x ≤ n / s := Nat.div_le_div_left hs hs0
  have h2 : n / s < s + 3 := by
    rw [Nat.div_lt_iff_lt_mul hs0]
    have h3 := h.2
    have e1 : (s + 1) * (s + 1) = s * s + 2 * s + 1 := by simp only [Nat.add_mul, Nat.mul_add, Nat.mul_one, Nat.one_mul]; omega
    have e2 : (s + 3) * s = s * s + 3 * s := by rw [Nat.add_mul]
    omega
  omega

theorem root_start {n s b : Nat} (h : IsRoot n s) (hb : n < 2 ^ b) : s ≤ 2 ^ ((b + 1) / 2) := by
  have h1 : 2 ^ b ≤ 2 ^ ((b + 1) / 2) * 2 ^ ((b + 1) / 2) := by
    rw [← Nat.pow_add]; exact Nat.pow_le_pow_right (by decide) (by omega)
  by_cases hl : s ≤ 2 ^ ((b + 1) / 2)
  · exact hl
  · have hl' : 2 ^ ((b + 1) / 2) ≤ s := by omega
    have h2 := Nat.mul_le_mul hl' hl'
    have := h.1
    omega
theorem root_pos {n s : Nat} (h : IsRoot n s) (hn : 0 < n) : 0 < s := by
  rcases Nat.eq_zero_or_pos s with e | e
  · subst e; have := h.2; omega
  · exact e
theorem root_lt {n s : Nat} (h : IsRoot n s) (hn : n < 18446744073709551616) : s < 4294967296 := by
  by_cases hl : s < 4294967296
  · exact hl
  · have h2 := Nat.mul_le_mul (by omega : 4294967296 ≤ s) (by omega : 4294967296 ≤ s)
    have := h.1
    omega

theorem sqrt_any (n s : Nat) (h : IsRoot n s) (hn : n < 18446744073709551616) (w : World) :
    Calls Try.prog 24 #[.int .u64 n] w fun e w' => e = .returned (.int .u64 s) ∧ w = w' := by
  by_cases h0 : n = 0
  · subst h0
    have : s = 0 := root_unique h ⟨by omega, by omega⟩
    subst this
    go_enter Try.func24, Try.ntmps24
    go_wp2
    go_ret
    exact ⟨rfl, rfl⟩
  · have hp : 0 < n := by omega
    have h1 : ((n : Int) == 0) = false := by simpa using h0
    have sp := root_pos h hp
    have sl := root_lt h hn
    have ⟨b1, _, b3, _⟩ := Num.bitLenAux_spec 64 n hn
    have c : ∀ w : World, Calls Try.prog 46 #[.int .u64 n] w fun e w' => e = .returned (.int .i64 ((Lib.bitLenAux 64 n : Nat) : Int)) ∧ w = w' := fun w =>
      (Try.bits_Len64 (n : Int) w (by omega) (by omega)).mono fun e w' ⟨he, hw⟩ => ⟨he, hw.symm⟩
    have st := root_start h b1
    generalize Lib.bitLenAux 64 n = bl at *
    have H := Lib.hid h
    have ST := Lib.hid st
    clear h st b1
    go_enter Try.func24, Try.ntmps24
    go_wp2_with (go_at_call 46; refine (c _).mono ?_; rintro e w1 ⟨rfl, rfl⟩)
    go_loop [3] (fun t => ∃ x : Nat, t = .int .u64 x ∧ s ≤ x ∧ x ≤ 4294967296) (fun t => (intOf t).toNat)
    case atStart =>
      have h2 : 2 ^ ((bl + 1) / 2) ≤ 4294967296 := Nat.pow_le_pow_right (n := 2) (j := 32) (by decide) (by omega)
      refine ⟨2 ^ ((bl + 1) / 2), ?_, ST.out, h2⟩
      have e : (2 : Int) ^ ((bl + 1) / 2) = ((2 ^ ((bl + 1) / 2) : Nat) : Int) := by simp
      rw [e]
      generalize 2 ^ ((bl + 1) / 2) = z at *
      rw [IntKind.wrap_u64, Int.emod_eq_of_lt (by omega) (by omega)]
    case round =>
      obtain ⟨x, rfl, hs, hx⟩ := hrel
      have sm := newton_small H.out hs sp
      have hw := u64_div n x hn
      have e1 : ((n / x : Nat) : Int) = (n : Int) / (x : Int) := by simp
      have d1 : (n : Int) / (x : Int) ≤ 4294967298 := by rw [← e1]; generalize n / x = z at *; omega
      have d2 : (0 : Int) ≤ (n : Int) / (x : Int) := Int.ediv_nonneg (by omega) (by omega)
      have hx1 : 1 ≤ (x : Int) := by omega
      by_cases he : x ≤ (x + n / x) / 2
      · have E := Lib.hid (newton_end H.out (by omega) hs he)
        have t : (x : Int) ≤ ((x : Int) + (n : Int) / (x : Int)) / 2 := by rw [← e1]; generalize n / x = z at *; omega
        clear he e1 sm
        go_wp2
        go_ret
        exact ⟨by rw [← E.out]; rfl, rfl⟩
      · have G := Lib.hid (newton_ge H.out (by omega : 0 < x))
        have t : ¬ (x : Int) ≤ ((x : Int) + (n : Int) / (x : Int)) / 2 := by rw [← e1]; generalize n / x = z at *; omega
        have HE := Lib.hid he
        have HD := Lib.hid e1
        clear he e1 sm
        go_wp2
        go_round
        case rel => exact ⟨(x + n / x) / 2, by rw [← HD.out]; go_num, G.out, by have := HE.out; generalize (x + n / x) / 2 = z at *; omega⟩
        case measure => simp [intOf]; rw [← HD.out]; have := HE.out; generalize n / x = z at *; omega
end Go.Proofs.Ytfeopnnobbcjjaa
