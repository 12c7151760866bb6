/-
  The laws RoundHalfAgrees, RoundHalfIsNearest and RoundHalfIsMonotone, walked: each returns true for all arguments in their ranges.
-/
import Derived.Test.YtfeopnnobbcjjaaG
namespace Go.Proofs.Ytfeopnnobbcjjaa
open Go.RowKit
set_option linter.unusedVariables false

/-- an unsigned argument as a natural number -/
theorem u64_nat {a : Int} (h : (Lit.int .u64 a).wf = true) : ∃ n : Nat, a = n ∧ n < 18446744073709551616 := by
  have hx : 0 ≤ a ∧ a ≤ 18446744073709551615 := by simpa [Lit.wf, IntKind.min, IntKind.max, IntKind.signed, IntKind.bits] using h
  exact ⟨a.toNat, by omega, by omega⟩
theorem u32_nat {a : Int} (h : (Lit.int .u32 a).wf = true) : ∃ n : Nat, a = n ∧ n < 4294967296 := by
  have hx : 0 ≤ a ∧ a ≤ 4294967295 := by simpa [Lit.wf, IntKind.min, IntKind.max, IntKind.signed, IntKind.bits] using h
  exact ⟨a.toNat, by omega, by omega⟩
theorem u16_nat {a : Int} (h : (Lit.int .u16 a).wf = true) : ∃ n : Nat, a = n ∧ n < 65536 := by
  have hx : 0 ≤ a ∧ a ≤ 65535 := by simpa [Lit.wf, IntKind.min, IntKind.max, IntKind.signed, IntKind.bits] using h
  exact ⟨a.toNat, by omega, by omega⟩
theorem i64_rng {a : Int} (h : (Lit.int .i64 a).wf = true) : -9223372036854775808 ≤ a ∧ a ≤ 9223372036854775807 := by
  simpa [Lit.wf, IntKind.min, IntKind.max, IntKind.signed, IntKind.bits] using h

theorem below_drewN (w : World) (n : Nat) : Below w.heap.size w (w.drewN n) := ⟨rfl, rfl, rfl, Nat.le_refl _, fun _ _ => rfl⟩

theorem awake1 (w : World) : Calls Try.prog 17 #[] w fun e w' => e = .returned (.bool true) ∧ ∃ m, w' = w.drewN m := by
  have m1 : mdv 9223372036854775808 4 8 = 4611686018427387904 := by decide +kernel
  have m2 : mdo 9223372036854775808 4 8 = true := by decide +kernel
  have c1 : ∀ w : World, Calls Try.prog 22 #[.int .u64 9223372036854775808, .int .u64 4, .int .u64 8] w fun e w' => e = .returned (.tuple #[.int .u64 4611686018427387904, .bool true]) ∧ ∃ m, w' = w.drewN m := fun w => by
    have c := muldiv_any 9223372036854775808 4 8 (by decide) (by decide) (by decide) w
    rw [m1, m2] at c
    exact c
  have c2 : ∀ w : World, Calls Try.prog 18 #[.int .u64 5, .int .u64 2] w fun e w' => e = .returned (.int .u64 3) ∧ ∃ m, w' = w.drewN m := fun w => half_any 5 2 (by decide) (by decide) w
  have c3 : ∀ w : World, Calls Try.prog 18 #[.int .u64 4, .int .u64 3] w fun e w' => e = .returned (.int .u64 1) ∧ ∃ m, w' = w.drewN m := fun w => half_any 4 3 (by decide) (by decide) w
  have c4 : ∀ w : World, Calls Try.prog 20 #[.int .u32 32513] w fun e w' => e = .returned (.int .u32 128) ∧ w = w' := fun w => by
    have c := by255_any 32513 (by decide) w
    have e : half 32513 255 = 128 := by decide +kernel
    rw [e] at c
    exact c
  have c5 : ∀ w : World, Calls Try.prog 24 #[.int .u64 99] w fun e w' => e = .returned (.int .u64 9) ∧ w = w' := fun w => sqrt_any 99 9 ⟨by decide, by decide⟩ (by decide) w
  clear m1 m2
  go_enter Try.func17, Try.ntmps17
  go_wp2_with (first
    | (go_at_call 22; (with_reducible refine (c1 _).mono ?_); rintro e w1 ⟨rfl, m, rfl⟩)
    | (go_at_call 18; (with_reducible refine (c2 _).mono ?_); rintro e w1 ⟨rfl, m2, rfl⟩)
    | (go_at_call 18; (with_reducible refine (c3 _).mono ?_); rintro e w1 ⟨rfl, m3, rfl⟩)
    | (go_at_call 20; (with_reducible refine (c4 _).mono ?_); rintro e w1 ⟨rfl, rfl⟩)
    | (go_at_call 24; (with_reducible refine (c5 _).mono ?_); rintro e w1 ⟨rfl, rfl⟩))
  go_ret
  exact ⟨rfl, _, rfl⟩

theorem RoundHalfAgrees_core (a0 a1 a2 : Int) (w0 : (Lit.int .u64 a0).wf = true) (w1 : (Lit.int .u64 a1).wf = true) (w2 : (Lit.int .i64 a2).wf = true) (w : World) :
    Calls Try.prog 3 #[.int .u64 a0, .int .u64 a1, .int .i64 a2] w fun e w' => e = .returned (.bool true) ∧ Below w.heap.size w w' := by
  obtain ⟨n, rfl, hn⟩ := u64_nat w0
  obtain ⟨d, rfl, hd⟩ := u64_nat w1
  have hs := i64_rng w2
  clear w0 w1 w2
  obtain ⟨e, he, hel⟩ : ∃ e : Nat, a2 % 70 = (e : Int) ∧ e < 70 := ⟨(a2 % 70).toNat, by omega, by omega⟩
  have cm : ∀ w : World, Calls Try.prog 16 #[.int .i64 a2, .int .i64 70] w fun r w' => r = .returned (.int .i64 (e : Int)) ∧ w = w' := fun w => by
    have c := mod_any a2 70 (by omega) (by omega) w
    rw [he] at c
    exact c
  have ct : ∀ w : World, Calls Try.prog 18 #[.int .u64 ((n : Int) / 2 * 2 + 1), .int .u64 2] w fun e w' => e = .returned (.int .u64 (((n : Int) / 2 * 2 + 1) / 2 + 1)) ∧ ∃ m, w' = w.drewN m := fun w => by
    have c := half_any (n / 2 * 2 + 1) 2 (by omega) (by decide) w
    have ht : half (n / 2 * 2 + 1) 2 = (n / 2 * 2 + 1) / 2 + 1 := by unfold half; rw [if_neg (by decide), if_pos (by omega)]
    rw [ht] at c
    exact c
  have c0 : ∀ w : World, Calls Try.prog 18 #[.int .u64 (n : Int), .int .u64 0] w fun e w' => e = .returned (.int .u64 0) ∧ ∃ m, w' = w.drewN m := fun w => by
    have c := half_any n 0 hn (by decide) w
    have h0 : half n 0 = 0 := by unfold half; rw [if_pos rfl]
    rw [h0] at c
    exact c
  go_enter Try.func3, Try.ntmps3
  go_wp2_with (first
    | (go_at_call 16; refine (cm _).mono ?_; rintro e w1 ⟨rfl, rfl⟩)
    | (go_at_call 17; refine (awake1 _).mono ?_; rintro e w1 ⟨rfl, m1, rfl⟩)
    | (go_at_call 18; (with_reducible refine (ct _).mono ?_); rintro e w1 ⟨rfl, m2, rfl⟩)
    | (go_at_call 18; (with_reducible refine (c0 _).mono ?_); rintro e w1 ⟨rfl, m2, rfl⟩)
    | (go_at_call 18; refine (half_any _ _ (by omega) (by omega) _).mono ?_; rintro e w1 ⟨rfl, m2, rfl⟩)
    | (go_at_call 19; refine (ref_half _ _ (by omega) (by omega) _).mono ?_; rintro e w1 ⟨rfl, m2, rfl⟩))
  go_ret
  exact ⟨rfl, below_drewN _ _⟩

theorem RoundHalfIsNearest_core (a0 a1 : Int) (w0 : (Lit.int .u32 a0).wf = true) (w1 : (Lit.int .u32 a1).wf = true) (w : World) :
    Calls Try.prog 4 #[.int .u32 a0, .int .u32 a1] w fun e w' => e = .returned (.bool true) ∧ Below w.heap.size w w' := by
  obtain ⟨n, rfl, hn⟩ := u32_nat w0
  obtain ⟨d, rfl, hd⟩ := u32_nat w1
  clear w0 w1
  by_cases h0 : d = 0
  · subst h0
    go_enter Try.func4, Try.ntmps4
    go_wp2_with (go_at_call 17; refine (awake1 _).mono ?_; rintro e w1 ⟨rfl, m1, rfl⟩)
    go_ret
    exact ⟨rfl, below_drewN _ _⟩
  · have h1 : ((d : Int) == 0) = false := by simpa using h0
    have hm := Nat.div_add_mod n d
    have hl := Nat.mod_lt n (Nat.pos_of_ne_zero h0)
    have hb : half n d * d ≤ n + d := by
      by_cases hh : d - n % d ≤ n % d
      · rw [half_up (by omega) rfl hh, Nat.add_mul, Nat.one_mul, Nat.mul_comm (n / d)]; omega
      · rw [half_down (by omega) rfl hh, Nat.mul_comm (n / d)]; omega
    have hc : 2 * (half n d * d) ≤ 2 * n + d ∧ 2 * n < 2 * (half n d * d) + d := by
      by_cases hh : d - n % d ≤ n % d
      · rw [half_up (by omega) rfl hh, Nat.add_mul, Nat.one_mul, Nat.mul_comm (n / d)]; omega
      · rw [half_down (by omega) rfl hh, Nat.mul_comm (n / d)]; omega
    have hq : half n d ≤ n + d := Nat.le_trans (Nat.le_mul_of_pos_right _ (by omega)) hb
    have c := half_any n d (by omega) (by omega)
    generalize half n d = q at *
    have e1 : ((q * d : Nat) : Int) = (q : Int) * (d : Int) := Int.natCast_mul _ _
    have p0 : (0 : Int) ≤ 2 * (q : Int) * (d : Int) := by rw [Int.mul_assoc]; omega
    have p1 : 2 * (q : Int) * (d : Int) ≤ 2 * (n : Int) + (d : Int) := by rw [Int.mul_assoc]; omega
    have p2 : 2 * (n : Int) < 2 * (q : Int) * (d : Int) + (d : Int) := by rw [Int.mul_assoc]; omega
    clear e1 hc hb hm hl
    go_enter Try.func4, Try.ntmps4
    go_wp2_with (first
      | (go_at_call 17; refine (awake1 _).mono ?_; rintro e w1 ⟨rfl, m1, rfl⟩)
      | (go_at_call 18; refine (c _).mono ?_; rintro e w1 ⟨rfl, m2, rfl⟩))
    go_ret
    exact ⟨rfl, below_drewN _ _⟩

theorem half_mono (n d : Nat) : half n d ≤ half (n + 1) d ∧ half (n + 1) d ≤ half n d + 1 := by
  by_cases h0 : d = 0
  · subst h0; unfold half; rw [if_pos rfl, if_pos rfl]; omega
  · have hp : 0 < d := by omega
    have m1 := Nat.div_add_mod n d
    have l1 := Nat.mod_lt n hp
    have m2 := Nat.div_add_mod (n + 1) d
    have l2 := Nat.mod_lt (n + 1) hp
    by_cases hl : n % d + 1 = d
    · have e1 : n + 1 = d * (n / d + 1) := by rw [Nat.mul_add, Nat.mul_one]; omega
      have e2 : (n + 1) / d = n / d + 1 := by rw [e1, Nat.mul_div_cancel_left _ hp]
      have e3 : (n + 1) % d = 0 := by rw [e1, Nat.mul_mod_right]
      have e4 : half (n + 1) d = n / d + 1 := by rw [half_down hp rfl (by rw [e3]; omega), e2]
      rw [e4]
      by_cases hh : d - n % d ≤ n % d
      · rw [half_up hp rfl hh]; omega
      · rw [half_down hp rfl hh]; omega
    · have hlt : n % d + 1 < d := by omega
      have e1 : n + 1 = d * (n / d) + (n % d + 1) := by omega
      have e2 : (n + 1) / d = n / d := by rw [e1, Nat.mul_add_div hp, Nat.div_eq_of_lt hlt, Nat.add_zero]
      have e3 : (n + 1) % d = n % d + 1 := by rw [e1, Nat.mul_add_mod, Nat.mod_eq_of_lt hlt]
      by_cases hh : d - n % d ≤ n % d
      · rw [half_up hp rfl hh, half_up hp rfl (by rw [e3]; omega), e2]; omega
      · rw [half_down hp rfl hh]
        by_cases hk : d - (n + 1) % d ≤ (n + 1) % d
        · rw [half_up hp rfl hk, e2]; omega
        · rw [half_down hp rfl hk, e2]; omega
theorem half_le (n d : Nat) : half n d ≤ n := by
  by_cases h0 : d = 0
  · subst h0; unfold half; rw [if_pos rfl]; omega
  · have hp : 0 < d := by omega
    by_cases hh : d - n % d ≤ n % d
    · rw [half_up hp rfl hh]
      have l1 := Nat.mod_lt n hp
      have h2 : n / d < n := Nat.div_lt_self (by
        rcases Nat.eq_zero_or_pos n with h | h
        · subst h; simp at hh; omega
        · exact h) (by omega)
      exact h2
    · rw [half_down hp rfl hh]; exact Nat.div_le_self _ _

theorem RoundHalfIsMonotone_core (a0 a1 : Int) (w0 : (Lit.int .u64 a0).wf = true) (w1 : (Lit.int .u64 a1).wf = true) (w : World) :
    Calls Try.prog 5 #[.int .u64 a0, .int .u64 a1] w fun e w' => e = .returned (.bool true) ∧ Below w.heap.size w w' := by
  obtain ⟨n, rfl, hn⟩ := u64_nat w0
  obtain ⟨d, rfl, hd⟩ := u64_nat w1
  clear w0 w1
  by_cases h0 : n = 18446744073709551615
  · have h1 : ((n : Int) == 18446744073709551615) = true := by rw [beq_iff_eq]; omega
    clear h0
    go_enter Try.func5, Try.ntmps5
    go_wp2_with (go_at_call 17; refine (awake1 _).mono ?_; rintro e w1 ⟨rfl, m1, rfl⟩)
    go_ret
    exact ⟨rfl, below_drewN _ _⟩
  · have h1 : ((n : Int) == 18446744073709551615) = false := by rw [beq_eq_false_iff_ne]; omega
    have h2 : (n : Int) + 1 ≤ 18446744073709551615 := by omega
    obtain ⟨k1, k2⟩ := half_mono n d
    have k3 := half_le (n + 1) d
    have c1 := half_any n d hn hd
    have c2 : ∀ w : World, Calls Try.prog 18 #[.int .u64 ((n : Int) + 1), .int .u64 d] w fun e w' => e = .returned (.int .u64 (half (n + 1) d)) ∧ ∃ m, w' = w.drewN m := half_any (n + 1) d (by omega) hd
    generalize half n d = p at *
    generalize half (n + 1) d = q at *
    have k4 : (q : Int) ≤ 18446744073709551615 := by omega
    have k5 : (p : Int) ≤ (q : Int) := by omega
    have k6 : (q : Int) - (p : Int) ≤ 1 := by omega
    clear h0 k1 k2 k3
    go_enter Try.func5, Try.ntmps5
    go_wp2_with (first
      | (go_at_call 17; refine (awake1 _).mono ?_; rintro e w1 ⟨rfl, m1, rfl⟩)
      | (go_at_call 18; (with_reducible refine (c1 _).mono ?_); rintro e w1 ⟨rfl, m2, rfl⟩)
      | (go_at_call 18; (with_reducible refine (c2 _).mono ?_); rintro e w1 ⟨rfl, m2, rfl⟩))
    go_ret
    exact ⟨rfl, below_drewN _ _⟩
end Go.Proofs.Ytfeopnnobbcjjaa
