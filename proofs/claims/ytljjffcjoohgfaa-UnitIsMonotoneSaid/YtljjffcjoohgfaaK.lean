/-
  Contracts of wide.Of, Mul, Add, Sub and Compare and of the specification's Compare and Sub on two words.
-/
import Derived.Test.YtljjffcjoohgfaaE
import Derived.Test.YtljjffcjoohgfaaI
import Derived.Shelf.Spec.BitsCarry
namespace Go.Proofs.Ytljjffcjoohgfaa
open Go.RowKit
set_option linter.unusedVariables false

theorem Word2.lt {n hi lo : Nat} (h : Word2 n hi lo) : n < 340282366920938463463374607431768211456 := by
  obtain ⟨a, b, c⟩ := h; omega
theorem Word2.unique {n a b c d : Nat} (h : Word2 n a b) (k : Word2 n c d) : a = c ∧ b = d := by
  obtain ⟨h1, h2, h3⟩ := h; obtain ⟨k1, k2, k3⟩ := k; omega
theorem Word2.inj {n m a b : Nat} (h : Word2 n a b) (k : Word2 m a b) : n = m := by
  obtain ⟨h1, h2, h3⟩ := h; obtain ⟨k1, k2, k3⟩ := k; omega
theorem word2_of (n : Nat) (h : n < 340282366920938463463374607431768211456) : ∃ hi lo, Word2 n hi lo := ⟨n / 18446744073709551616, n % 18446744073709551616, by omega, by omega, by omega⟩
theorem word2_mk (hi lo : Nat) (h : hi < 18446744073709551616) (k : lo < 18446744073709551616) : Word2 (hi * 18446744073709551616 + lo) hi lo := ⟨rfl, k, h⟩

/-- two structs of two words are equal where the words are -/
theorem eql_u128 (a b c d : Int) (w : World) : (binOp .eql 44 (.agg #[.int .u64 a, .int .u64 b]) (.agg #[.int .u64 c, .int .u64 d])).run Try.prog w = .ok (.bool (a == c && b == d)) w := by
  rw [run_eql_struct, run_equalIn_agg w 9999 _ _ _ (by kernel_rfl) (by kernel_rfl)]
  simp [go_sem, Try.underlying44, Try.underlying24]
  by_cases h : a = c <;> by_cases k : b = d <;> simp [h, k]

theorem wide_mul (a b : Nat) (ha : a < 18446744073709551616) (hb : b < 18446744073709551616) (w : World) :
    Calls Try.prog 22 #[.int .u64 a, .int .u64 b] w fun e w' => ∃ hi lo : Nat, e = .returned (.agg #[.int .u64 hi, .int .u64 lo]) ∧ Word2 (a * b) hi lo ∧ Below w.heap.size w w' := by
  go_enter Try.func22, Try.ntmps22
  go_wp2_with (go_at_call 27; refine (mul64 a b ha hb _).mono ?_; rintro e w' ⟨hi, lo, rfl, H, rfl⟩)
  exact bodyPost_ret (v := .agg #[.int .u64 hi, .int .u64 lo]) (by simp [results, Try.results22, go_sem]) rfl ⟨hi, lo, rfl, H, (Below.refl _ _).alloc (Nat.le_refl _) _⟩

/-- what both comparisons answer -/
def cmp3 (x y : Nat) : Int := if x < y then -1 else if x = y then 0 else 1

theorem cmp3_lt {x y : Nat} (h : x < y) : cmp3 x y = -1 := by unfold cmp3; rw [if_pos h]
theorem cmp3_eq (x : Nat) : cmp3 x x = 0 := by unfold cmp3; rw [if_neg (by omega), if_pos rfl]
theorem cmp3_gt {x y : Nat} (h : y < x) : cmp3 x y = 1 := by unfold cmp3; rw [if_neg (by omega), if_neg (by omega)]

theorem below_alloc {w a : World} (h : Below w.heap.size w a) (o : Obj) : Below w.heap.size w (a.alloc o) := h.alloc h.size o
theorem below_drew {w a : World} (h : Below w.heap.size w a) : Below w.heap.size w a.drew := h.drew
theorem below_drewn {w a : World} (h : Below w.heap.size w a) (n : Nat) : Below w.heap.size w (a.drewN n) := h.trans ⟨rfl, rfl, rfl, Nat.le_refl _, fun _ _ => rfl⟩
theorem below_set {w a : World} (h : Below w.heap.size w a) {p : Addr} (hp : w.heap.size ≤ p.block) (u : Value) : Below w.heap.size w (a.setCell p u) := h.setCell hp u

end Go.Proofs.Ytljjffcjoohgfaa
