/-
  Contracts of the specification's Half, of round.By255, round.By65535, round.MulDiv and of the generator's Mod, for all arguments.
-/
import Derived.Test.YtfeopnnobbcjjaaD
namespace Go.Proofs.Ytfeopnnobbcjjaa
open Go.RowKit
set_option linter.unusedVariables false

theorem half_up_lt' (n d : Nat) (hlt : n % d < d) (h : d - n % d ≤ n % d) (hn : n < 18446744073709551616) : (n : Int) / (d : Int) + 1 ≤ 18446744073709551615 := by
  have h1 : n / d ≤ n / 2 := Nat.div_le_div_left (by omega) (by omega)
  have e1 : (n : Int) / (d : Int) = ((n / d : Nat) : Int) := by simp
  rw [e1]
  generalize n / d = x at *
  omega
theorem ref_half (n d : Nat) (hn : n < 18446744073709551616) (hd : d < 18446744073709551616) (w : World) :
    Calls Try.prog 19 #[.int .u64 n, .int .u64 d] w fun e w' => e = .returned (.int .u64 (half n d)) ∧ ∃ m, w' = w.drewN m := by
  by_cases h0 : d = 0
  · subst h0
    go_enter Try.func19, Try.ntmps19
    go_wp2
    go_ret
    exact ⟨rfl, 0, rfl⟩
  · have hp : 0 < d := by omega
    have hp1 : 1 ≤ (d : Int) := by omega
    have hp2 : ((d : Int) == 0) = false := by simpa using h0
    have hw := u64_div n d hn
    have hr := Nat.mod_lt n hp
    by_cases h : d - n % d ≤ n % d
    · have e := Lib.hid (half_up hp rfl h)
      have hz := half_up_lt' n d hr h hn
      have h1 : (d : Int) - (n : Int) % (d : Int) ≤ (n : Int) % (d : Int) := by
        have e1 : (n : Int) % (d : Int) = ((n % d : Nat) : Int) := by simp
        rw [e1]; omega
      have h2 : (0 : Int) ≤ (n : Int) % (d : Int) := Int.emod_nonneg _ (by omega)
      have h3 : (n : Int) % (d : Int) < (d : Int) := Int.emod_lt_of_pos _ (by omega)
      have h4 : (0 : Int) ≤ (n : Int) / (d : Int) := Int.ediv_nonneg (by omega) (by omega)
      clear h hr
      go_enter Try.func19, Try.ntmps19
      go_wp2
      go_quiet (fail)
      go_wp2
      go_ret
      refine ⟨?_, _, rfl⟩
      rw [e.out]
      exact ret_u64 (by simp)
    · have e := Lib.hid (half_down hp rfl h)
      have h1 : ¬ (d : Int) - (n : Int) % (d : Int) ≤ (n : Int) % (d : Int) := by
        have e1 : (n : Int) % (d : Int) = ((n % d : Nat) : Int) := by simp
        rw [e1]; omega
      have h2 : (0 : Int) ≤ (n : Int) % (d : Int) := Int.emod_nonneg _ (by omega)
      have h3 : (n : Int) % (d : Int) < (d : Int) := Int.emod_lt_of_pos _ (by omega)
      clear h hr
      go_enter Try.func19, Try.ntmps19
      go_wp2
      go_quiet (fail)
      go_wp2
      go_ret
      refine ⟨?_, _, rfl⟩
      rw [e.out]
      exact ret_u64 (by simp)

theorem half255 (n : Nat) : half n 255 = (n + 127) / 255 := by
  unfold half
  rw [if_neg (by decide)]
  split <;> omega
theorem half65535 (n : Nat) : half n 65535 = (n + 32767) / 65535 := by
  unfold half
  rw [if_neg (by decide)]
  split <;> omega
theorem fast255 (n : Nat) (hn : n < 4294967296) : (n + 128 + (n + 128 + (n + 128 + (n + 128 + (n + 128) / 256) / 256) / 256) / 256) / 256 = (n + 127) / 255 := by
  omega
theorem fast65535 (h l : Nat) (hh : h < 281474976710656) (hl : l < 65536) : h + (h + l + 32768 + (h + l + 32768 + (h + l + 32768 + (h + l + 32768) / 65536) / 65536) / 65536) / 65536 = (h * 65536 + l + 32767) / 65535 := by
  omega
theorem ret_u32 {a b : Int} (h : a = b) : Ending.returned (.int .u32 a) = .returned (.int .u32 b) := by rw [h]

theorem by255_any (n : Nat) (hn : n < 4294967296) (w : World) :
    Calls Try.prog 20 #[.int .u32 n] w fun e w' => e = .returned (.int .u32 (half n 255)) ∧ w = w' := by
  go_enter Try.func20, Try.ntmps20
  go_wp2
  go_ret
  refine ⟨?_, rfl⟩
  rw [half255, ← fast255 n hn]
  exact ret_u32 (by simp)

theorem by65535_any (n : Nat) (hn : n < 18446744073709551616) (w : World) :
    Calls Try.prog 21 #[.int .u64 n] w fun e w' => e = .returned (.int .u64 (half n 65535)) ∧ w = w' := by
  obtain ⟨h, l, hh, hl, e⟩ : ∃ h l : Nat, h < 281474976710656 ∧ l < 65536 ∧ n = h * 65536 + l := ⟨n / 65536, n % 65536, by omega, by omega, by omega⟩
  have e1 : (n : Int) / 65536 = (h : Int) := by omega
  have e2 : bits .and .u64 (n : Int) 65535 = (l : Int) := by
    have e := bits_and_u64_nat n 65535 hn (by omega)
    have e' : n &&& 65535 = n % 65536 := Nat.and_two_pow_sub_one_eq_mod n 16
    rw [e'] at e
    have e3 : n % 65536 = l := by omega
    rw [e3] at e
    exact e
  have E := Lib.hid e
  clear e
  go_enter Try.func21, Try.ntmps21
  go_wp2
  go_ret
  refine ⟨?_, rfl⟩
  rw [half65535, E.out, ← fast65535 h l hh hl]
  exact ret_u64 (by simp)

theorem mod_arith (n k : Int) (hk : 1 ≤ k) (hk' : k ≤ 4611686018427387904) : (wrap64 (n.tmod k + k)).tmod k = n % k := by
  have h1 : -k < n.tmod k := by
    by_cases h : 0 ≤ n
    · have := Int.tmod_nonneg k h; omega
    · have h1 := Int.tmod_lt_of_pos (-n) (by omega : 0 < k)
      rw [Int.neg_tmod] at h1
      omega
  have h2 : n.tmod k < k := Int.tmod_lt_of_pos n (by omega)
  rw [IntWalk.wrap64_in _ ⟨by omega, by omega⟩, Int.tmod_eq_emod_of_nonneg (by omega), Int.add_emod_right]
  have h3 := Int.mul_tdiv_add_tmod n k
  have h4 : n % k = (k * n.tdiv k + n.tmod k) % k := by rw [h3]
  rw [h4, Int.mul_add_emod_self_left]

theorem mod_any (n k : Int) (hk : 1 ≤ k) (hk' : k ≤ 4611686018427387904) (w : World) :
    Calls Try.prog 16 #[.int .i64 n, .int .i64 k] w fun e w' => e = .returned (.int .i64 (n % k)) ∧ w = w' := by
  have h := Lib.hid (mod_arith n k hk hk')
  go_enter Try.func16, Try.ntmps16
  go_wp2
  go_ret
  refine ⟨?_, rfl⟩
  rw [← h.out]
  rfl

set_option maxRecDepth 100000 in
theorem muldiv_any (a b d : Nat) (ha : a < 18446744073709551616) (hb : b < 18446744073709551616) (hd : d < 18446744073709551616) (w : World) :
    Calls Try.prog 22 #[.int .u64 a, .int .u64 b, .int .u64 d] w fun e w' => e = .returned (.tuple #[.int .u64 (mdv a b d), .bool (mdo a b d)]) ∧ ∃ m, w' = w.drewN m := by
  obtain ⟨hi, lo, H, c1⟩ : ∃ hi lo : Nat, Word2 (a * b) hi lo ∧ ∀ w : World, Calls Try.prog 44 #[.int .u64 a, .int .u64 b] w fun e w' => e = .returned (.tuple #[.int .u64 hi, .int .u64 lo]) ∧ w = w' := by
    refine ⟨a * b / 18446744073709551616, a * b % 18446744073709551616, ⟨by omega, by omega, ?_⟩, fun w => (Try.bits_Mul64 a b ha hb w).mono fun e w' ⟨h1, h2⟩ => ⟨h1, h2.symm⟩⟩
    have : a * b ≤ 18446744073709551615 * 18446744073709551615 := Nat.mul_le_mul (by omega) (by omega)
    omega
  by_cases h0 : d ≤ hi
  · have e := mdv_no (a := a) (b := b) (d := d) (fun ⟨n0, h⟩ => by
      have h1 : a * b / d ≤ half (a * b) d := by
        by_cases hh : d - a * b % d ≤ a * b % d
        · rw [half_up (by omega) rfl hh]; exact Nat.le_succ _
        · rw [half_down (by omega) rfl hh]; exact Nat.le_refl _
      have h2 : 18446744073709551616 ≤ a * b / d := by
        rw [Nat.le_div_iff_mul_le (by omega), ← H.1]
        have := Nat.mul_le_mul_left 18446744073709551616 h0
        omega
      omega)
    rw [e.1, e.2]
    have h0' : (d : Int) ≤ (hi : Int) := by omega
    clear e
    go_enter Try.func22, Try.ntmps22
    go_wp2_with (go_at_call 44; refine (c1 _).mono ?_; rintro e w' ⟨rfl, rfl⟩)
    go_ret2
    exact ⟨rfl, 0, rfl⟩
  · have h0' : ¬ (d : Int) ≤ (hi : Int) := by omega
    have hp : 0 < d := by omega
    obtain ⟨q, r, eq, er, hq, hr, c2⟩ : ∃ q r : Nat, q = a * b / d ∧ r = a * b % d ∧ q < 18446744073709551616 ∧ r < d ∧ ∀ w : World, Calls Try.prog 45 #[.int .u64 hi, .int .u64 lo, .int .u64 d] w fun e w' => e = .returned (.tuple #[.int .u64 q, .int .u64 r]) ∧ ∃ m, w' = w.drewN m := by
      refine ⟨_, _, rfl, rfl, ?_, Nat.mod_lt _ hp, fun w => ?_⟩
      · rw [Nat.div_lt_iff_lt_mul hp, ← H.1]
        have h1 : (hi + 1) * 18446744073709551616 ≤ d * 18446744073709551616 := Nat.mul_le_mul_right _ (by omega)
        have h2 := H.2.1
        rw [Nat.mul_comm 18446744073709551616 d]
        omega
      · have c := div64_any hi lo d (by omega) H.2.1 hd w
        rw [H.1] at c
        exact c
    by_cases hh : d - r ≤ r
    · have e := half_up hp er hh
      rw [← eq] at e
      by_cases hz : q + 1 < 18446744073709551616
      · have m := mdv_yes (a := a) (b := b) (d := d) ⟨by omega, by rw [e]; exact hz⟩
        rw [m.1, m.2, e]
        have c3 := nearest_up q r d hr hd hh hz
        have hz' : (q : Int) + 1 ≤ 18446744073709551615 := by omega
        clear e m eq er hz hz' hh
        go_enter Try.func22, Try.ntmps22
        go_wp2_with (first
          | (go_at_call 44; refine (c1 _).mono ?_; rintro e w1 ⟨rfl, rfl⟩)
          | (go_at_call 45; refine (c2 _).mono ?_; rintro e w1 ⟨rfl, m, rfl⟩)
          | (go_at_call 43; refine (c3 _).mono ?_; rintro e w1 ⟨rfl, rfl⟩))
        go_ret2
        exact ⟨rfl, _, rfl⟩
      · have m := mdv_no (a := a) (b := b) (d := d) (fun h => hz (by have := h.2; rw [e] at this; exact this))
        rw [m.1, m.2]
        have qe : (q : Int) = 18446744073709551615 := by omega
        rw [qe] at c2
        have c3 := nearest_wrap r d hr hd hh
        clear e m eq er hz qe hq
        go_enter Try.func22, Try.ntmps22
        go_wp2_with (first
          | (go_at_call 44; refine (c1 _).mono ?_; rintro e w1 ⟨rfl, rfl⟩)
          | (go_at_call 45; refine (c2 _).mono ?_; rintro e w1 ⟨rfl, m, rfl⟩)
          | (go_at_call 43; refine (c3 _).mono ?_; rintro e w1 ⟨rfl, rfl⟩))
        go_ret2
        exact ⟨rfl, _, rfl⟩
    · have e := half_down hp er hh
      rw [← eq] at e
      have m := mdv_yes (a := a) (b := b) (d := d) ⟨by omega, by rw [e]; exact hq⟩
      rw [m.1, m.2, e]
      have c3 := nearest_down q r d hr hd hh
      have t : ¬ ((q : Int) < (q : Int)) := by omega
      clear e m eq er
      go_enter Try.func22, Try.ntmps22
      go_wp2_with (first
        | (go_at_call 44; refine (c1 _).mono ?_; rintro e w1 ⟨rfl, rfl⟩)
        | (go_at_call 45; refine (c2 _).mono ?_; rintro e w1 ⟨rfl, m, rfl⟩)
        | (go_at_call 43; refine (c3 _).mono ?_; rintro e w1 ⟨rfl, rfl⟩))
      go_ret2
      exact ⟨rfl, _, rfl⟩

end Go.Proofs.Ytfeopnnobbcjjaa
