/-
  Contracts of the specification's Half, of round.By255, round.By65535, round.MulDiv and of the generator's Mod, for all arguments.
-/
import Derived.Test.YtafaadnjkkkafaaDoorD
namespace Go.Proofs.YtafaadnjkkkafaaDoor
open Go.RowKit
set_option linter.unusedVariables false

theorem half_up_lt' (n d : Nat) (hlt : n % d < d) (h : d - n % d ≤ n % d) (hn : n < 18446744073709551616) : (n : Int) / (d : Int) + 1 ≤ 18446744073709551615 := by
  have h1 : n / d ≤ n / 2 := Nat.div_le_div_left (by omega) (by omega)
  have e1 : (n : Int) / (d : Int) = ((n / d : Nat) : Int) := by simp
  rw [e1]
  generalize n / d = x at *
  omega
theorem half255 (n : Nat) : half n 255 = (n + 127) / 255 := by
  unfold half
  rw [if_neg (by decide)]
  split <;> omega
theorem half65535 (n : Nat) : half n 65535 = (n + 32767) / 65535 := by
  unfold half
  rw [if_neg (by decide)]
  split <;> omega
theorem fast255 (n : Nat) (hn : n < 4294967296) : (n + 128 + (n + 128 + (n + 128 + (n + 128 + (n + 128) / 256) / 256) / 256) / 256) / 256 = (n + 127) / 255 := by
  omega
theorem fast65535 (h l : Nat) (hh : h < 281474976710656) (hl : l < 65536) : h + (h + l + 32768 + (h + l + 32768 + (h + l + 32768 + (h + l + 32768) / 65536) / 65536) / 65536) / 65536 = (h * 65536 + l + 32767) / 65535 := by
  omega
theorem ret_u32 {a b : Int} (h : a = b) : Ending.returned (.int .u32 a) = .returned (.int .u32 b) := by rw [h]

theorem mod_arith (n k : Int) (hk : 1 ≤ k) (hk' : k ≤ 4611686018427387904) : (wrap64 (n.tmod k + k)).tmod k = n % k := by
  have h1 : -k < n.tmod k := by
    by_cases h : 0 ≤ n
    · have := Int.tmod_nonneg k h; omega
    · have h1 := Int.tmod_lt_of_pos (-n) (by omega : 0 < k)
      rw [Int.neg_tmod] at h1
      omega
  have h2 : n.tmod k < k := Int.tmod_lt_of_pos n (by omega)
  rw [IntWalk.wrap64_in _ ⟨by omega, by omega⟩, Int.tmod_eq_emod_of_nonneg (by omega), Int.add_emod_right]
  have h3 := Int.mul_tdiv_add_tmod n k
  have h4 : n % k = (k * n.tdiv k + n.tmod k) % k := by rw [h3]
  rw [h4, Int.mul_add_emod_self_left]

theorem mod_any (n k : Int) (hk : 1 ≤ k) (hk' : k ≤ 4611686018427387904) (w : World) :
    Calls Tryd.prog 12 #[.int .i64 n, .int .i64 k] w fun e w' => e = .returned (.int .i64 (n % k)) ∧ w = w' := by
  have h := Lib.hid (mod_arith n k hk hk')
  go_enter Tryd.func12, Tryd.ntmps12
  go_wp2
  go_ret
  refine ⟨?_, rfl⟩
  rw [← h.out]
  rfl

end Go.Proofs.YtafaadnjkkkafaaDoor
