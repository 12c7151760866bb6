/-
  Contracts of the specification's Half, of round.By255, round.By65535, round.MulDiv and of the generator's Mod, for all arguments.
-/
import Derived.Test.YtledddiahepapaaD
namespace Go.Proofs.Ytledddiahepapaa
open Go.RowKit
set_option linter.unusedVariables false

theorem half_up_lt' (n d : Nat) (hlt : n % d < d) (h : d - n % d ≤ n % d) (hn : n < 18446744073709551616) : (n : Int) / (d : Int) + 1 ≤ 18446744073709551615 := by
  have h1 : n / d ≤ n / 2 := Nat.div_le_div_left (by omega) (by omega)
  have e1 : (n : Int) / (d : Int) = ((n / d : Nat) : Int) := by simp
  rw [e1]
  generalize n / d = x at *
  omega
theorem ref_half (n d : Nat) (hn : n < 18446744073709551616) (hd : d < 18446744073709551616) (w : World) :
    Calls Try.prog 32 #[.int .u64 n, .int .u64 d] w fun e w' => e = .returned (.int .u64 (half n d)) ∧ ∃ m, w' = w.drewN m := by
  by_cases h0 : d = 0
  · subst h0
    go_enter Try.func32, Try.ntmps32
    go_wp2
    go_ret
    exact ⟨rfl, 0, rfl⟩
  · have hp : 0 < d := by omega
    have hp1 : 1 ≤ (d : Int) := by omega
    have hp2 : ((d : Int) == 0) = false := by simpa using h0
    have hw := u64_div n d hn
    have hr := Nat.mod_lt n hp
    by_cases h : d - n % d ≤ n % d
    · have e := Lib.hid (half_up hp rfl h)
      have hz := half_up_lt' n d hr h hn
      have h1 : (d : Int) - (n : Int) % (d : Int) ≤ (n : Int) % (d : Int) := by
        have e1 : (n : Int) % (d : Int) = ((n % d : Nat) : Int) := by simp
        rw [e1]; omega
      have h2 : (0 : Int) ≤ (n : Int) % (d : Int) := Int.emod_nonneg _ (by omega)
      have h3 : (n : Int) % (d : Int) < (d : Int) := Int.emod_lt_of_pos _ (by omega)
      have h4 : (0 : Int) ≤ (n : Int) / (d : Int) := Int.ediv_nonneg (by omega) (by omega)
      clear h hr
      go_enter Try.func32, Try.ntmps32
      go_wp2
      go_quiet (fail)
      go_wp2
      go_ret
      refine ⟨?_, _, rfl⟩
      rw [e.out]
      exact ret_u64 (by simp)
    · have e := Lib.hid (half_down hp rfl h)
      have h1 : ¬ (d : Int) - (n : Int) % (d : Int) ≤ (n : Int) % (d : Int) := by
        have e1 : (n : Int) % (d : Int) = ((n % d : Nat) : Int) := by simp
        rw [e1]; omega
      have h2 : (0 : Int) ≤ (n : Int) % (d : Int) := Int.emod_nonneg _ (by omega)
      have h3 : (n : Int) % (d : Int) < (d : Int) := Int.emod_lt_of_pos _ (by omega)
      clear h hr
      go_enter Try.func32, Try.ntmps32
      go_wp2
      go_quiet (fail)
      go_wp2
      go_ret
      refine ⟨?_, _, rfl⟩
      rw [e.out]
      exact ret_u64 (by simp)

theorem half255 (n : Nat) : half n 255 = (n + 127) / 255 := by
  unfold half
  rw [if_neg (by decide)]
  split <;> omega
theorem half65535 (n : Nat) : half n 65535 = (n + 32767) / 65535 := by
  unfold half
  rw [if_neg (by decide)]
  split <;> omega
theorem fast255 (n : Nat) (hn : n < 4294967296) : (n + 128 + (n + 128 + (n + 128 + (n + 128 + (n + 128) / 256) / 256) / 256) / 256) / 256 = (n + 127) / 255 := by
  omega
theorem fast65535 (h l : Nat) (hh : h < 281474976710656) (hl : l < 65536) : h + (h + l + 32768 + (h + l + 32768 + (h + l + 32768 + (h + l + 32768) / 65536) / 65536) / 65536) / 65536 = (h * 65536 + l + 32767) / 65535 := by
  omega
theorem ret_u32 {a b : Int} (h : a = b) : Ending.returned (.int .u32 a) = .returned (.int .u32 b) := by rw [h]

theorem by65535_any (n : Nat) (hn : n < 18446744073709551616) (w : World) :
    Calls Try.prog 31 #[.int .u64 n] w fun e w' => e = .returned (.int .u64 (half n 65535)) ∧ w = w' := by
  obtain ⟨h, l, hh, hl, e⟩ : ∃ h l : Nat, h < 281474976710656 ∧ l < 65536 ∧ n = h * 65536 + l := ⟨n / 65536, n % 65536, by omega, by omega, by omega⟩
  have e1 : (n : Int) / 65536 = (h : Int) := by omega
  have e2 : bits .and .u64 (n : Int) 65535 = (l : Int) := by
    have e := bits_and_u64_nat n 65535 hn (by omega)
    have e' : n &&& 65535 = n % 65536 := Nat.and_two_pow_sub_one_eq_mod n 16
    rw [e'] at e
    have e3 : n % 65536 = l := by omega
    rw [e3] at e
    exact e
  have E := Lib.hid e
  clear e
  go_enter Try.func31, Try.ntmps31
  go_wp2
  go_ret
  refine ⟨?_, rfl⟩
  rw [half65535, E.out, ← fast65535 h l hh hl]
  exact ret_u64 (by simp)

theorem mod_arith (n k : Int) (hk : 1 ≤ k) (hk' : k ≤ 4611686018427387904) : (wrap64 (n.tmod k + k)).tmod k = n % k := by
  have h1 : -k < n.tmod k := by
    by_cases h : 0 ≤ n
    · have := Int.tmod_nonneg k h; omega
    · have h1 := Int.tmod_lt_of_pos (-n) (by omega : 0 < k)
      rw [Int.neg_tmod] at h1
      omega
  have h2 : n.tmod k < k := Int.tmod_lt_of_pos n (by omega)
  rw [IntWalk.wrap64_in _ ⟨by omega, by omega⟩, Int.tmod_eq_emod_of_nonneg (by omega), Int.add_emod_right]
  have h3 := Int.mul_tdiv_add_tmod n k
  have h4 : n % k = (k * n.tdiv k + n.tmod k) % k := by rw [h3]
  rw [h4, Int.mul_add_emod_self_left]

theorem mod_any (n k : Int) (hk : 1 ≤ k) (hk' : k ≤ 4611686018427387904) (w : World) :
    Calls Try.prog 13 #[.int .i64 n, .int .i64 k] w fun e w' => e = .returned (.int .i64 (n % k)) ∧ w = w' := by
  have h := Lib.hid (mod_arith n k hk hk')
  go_enter Try.func13, Try.ntmps13
  go_wp2
  go_ret
  refine ⟨?_, rfl⟩
  rw [← h.out]
  rfl

end Go.Proofs.Ytledddiahepapaa
