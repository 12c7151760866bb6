/-
  Contracts of round.nearest and round.Half: the integer nearest to n / d, for all words n, d below 2^64 (0 if d is 0). No condition beyond the words' ranges.
-/
import Derived.Test.YtledddiahepapaaRows
import Derived.WalkKit
import Derived.BigQuiet
import Derived.Deep.QuietTactic
import Derived.Deep.DeepFit
namespace Go.Proofs.Ytledddiahepapaa
open Go.RowKit

theorem ret_u64 {a b : Int} (h : a = b) : Ending.returned (.int .u64 a) = .returned (.int .u64 b) := by rw [h]

theorem u64_div (n d : Nat) (hn : n < 18446744073709551616) : IntKind.u64.wrap ((n : Int) / d) = (n : Int) / d :=
  IntWalk.u64_in _ ⟨Int.ediv_nonneg (by omega) (by omega), Int.le_trans (Int.ediv_le_self _ (by omega)) (by omega)⟩

theorem nearest_up (q r d : Nat) (hr : r < d) (hd : d < 18446744073709551616) (h : d - r ≤ r) (hz : q + 1 < 18446744073709551616) (w : World) :
    Calls Try.prog 36 #[.int .u64 q, .int .u64 r, .int .u64 d] w fun e w' => e = .returned (.int .u64 ((q + 1 : Nat) : Int)) ∧ w' = w := by
  have h1 : (d : Int) - r ≤ r := by omega
  go_enter Try.func36, Try.ntmps36
  go_wp2
  go_ret
  exact ⟨rfl, rfl⟩
theorem nearest_down (q r d : Nat) (hr : r < d) (hd : d < 18446744073709551616) (h : ¬ d - r ≤ r) (w : World) :
    Calls Try.prog 36 #[.int .u64 q, .int .u64 r, .int .u64 d] w fun e w' => e = .returned (.int .u64 (q : Int)) ∧ w' = w := by
  have h1 : ¬ (d : Int) - r ≤ r := by omega
  go_enter Try.func36, Try.ntmps36
  go_wp2
  go_ret
  exact ⟨rfl, rfl⟩
theorem nearest_wrap (r d : Nat) (hr : r < d) (hd : d < 18446744073709551616) (h : d - r ≤ r) (w : World) :
    Calls Try.prog 36 #[.int .u64 18446744073709551615, .int .u64 r, .int .u64 d] w fun e w' => e = .returned (.int .u64 0) ∧ w' = w := by
  have h1 : (d : Int) - r ≤ r := by omega
  go_enter Try.func36, Try.ntmps36
  go_wp2
  go_ret
  exact ⟨rfl, rfl⟩

def half (n d : Nat) : Nat := if d = 0 then 0 else if d - n % d ≤ n % d then n / d + 1 else n / d

theorem half_lt (n d : Nat) (hd : 2 ≤ d) (hn : n < 18446744073709551616): n / d + 1 < 18446744073709551616 := by
  have : n / d ≤ n / 2 := Nat.div_le_div_left hd (by omega)
  omega

theorem half_any (n d : Nat) (hn : n < 18446744073709551616) (hd : d < 18446744073709551616) (w : World) :
    Calls Try.prog 35 #[.int .u64 n, .int .u64 d] w fun e w' => e = .returned (.int .u64 (half n d)) ∧ ∃ m, w' = w.drewN m := by
  by_cases h0 : d = 0
  · subst h0
    go_enter Try.func35, Try.ntmps35
    go_wp2
    go_ret
    exact ⟨rfl, 0, rfl⟩
  · have hp : 0 < d := by omega
    have hp1 : 1 ≤ (d : Int) := by omega
    have hp2 : ((d : Int) == 0) = false := by simpa using h0
    have hw := u64_div n d hn
    by_cases h : d - n % d ≤ n % d
    · have hr := Nat.mod_lt n hp
      have e : half n d = n / d + 1 := by unfold half; rw [if_neg h0, if_pos h]
      have hz : n / d + 1 < 18446744073709551616 := by
        by_cases hd1 : d = 1
        · subst hd1; omega
        · exact half_lt n d (by omega) hn
      rw [e]
      have c := nearest_up (n / d) (n % d) d hr hd h hz
      rw [Int.natCast_ediv, Int.natCast_emod] at c
      clear h e hr hz
      go_enter Try.func35, Try.ntmps35
      go_wp2
      go_quiet ((go_at_call 36; exact Calls.quiet_of_same (c _)))
      go_wp2
      go_ret
      exact ⟨rfl, _, rfl⟩
    · have hr := Nat.mod_lt n hp
      have e : half n d = n / d := by unfold half; rw [if_neg h0, if_neg h]
      rw [e]
      have c := nearest_down (n / d) (n % d) d hr hd h
      rw [Int.natCast_ediv, Int.natCast_emod] at c
      clear h e hr
      go_enter Try.func35, Try.ntmps35
      go_wp2
      go_quiet ((go_at_call 36; exact Calls.quiet_of_same (c _)))
      go_wp2
      go_ret
      exact ⟨rfl, _, rfl⟩

end Go.Proofs.Ytledddiahepapaa
