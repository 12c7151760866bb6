/-
  Contracts of wide.Of, Mul, Add, Sub and Compare and of the specification's Compare and Sub on two words.
-/
import Derived.Test.YtledddiahepapaaE
import Derived.Test.YtledddiahepapaaI
import Derived.Shelf.Spec.BitsCarry
namespace Go.Proofs.Ytledddiahepapaa
open Go.RowKit
set_option linter.unusedVariables false

theorem Word2.lt {n hi lo : Nat} (h : Word2 n hi lo) : n < 340282366920938463463374607431768211456 := by
  obtain ⟨a, b, c⟩ := h; omega
theorem Word2.unique {n a b c d : Nat} (h : Word2 n a b) (k : Word2 n c d) : a = c ∧ b = d := by
  obtain ⟨h1, h2, h3⟩ := h; obtain ⟨k1, k2, k3⟩ := k; omega
theorem Word2.inj {n m a b : Nat} (h : Word2 n a b) (k : Word2 m a b) : n = m := by
  obtain ⟨h1, h2, h3⟩ := h; obtain ⟨k1, k2, k3⟩ := k; omega
theorem word2_of (n : Nat) (h : n < 340282366920938463463374607431768211456) : ∃ hi lo, Word2 n hi lo := ⟨n / 18446744073709551616, n % 18446744073709551616, by omega, by omega, by omega⟩
theorem word2_mk (hi lo : Nat) (h : hi < 18446744073709551616) (k : lo < 18446744073709551616) : Word2 (hi * 18446744073709551616 + lo) hi lo := ⟨rfl, k, h⟩

/-- what both comparisons answer -/
def cmp3 (x y : Nat) : Int := if x < y then -1 else if x = y then 0 else 1

theorem cmp3_lt {x y : Nat} (h : x < y) : cmp3 x y = -1 := by unfold cmp3; rw [if_pos h]
theorem cmp3_eq (x : Nat) : cmp3 x x = 0 := by unfold cmp3; rw [if_neg (by omega), if_pos rfl]
theorem cmp3_gt {x y : Nat} (h : y < x) : cmp3 x y = 1 := by unfold cmp3; rw [if_neg (by omega), if_neg (by omega)]

theorem below_alloc {w a : World} (h : Below w.heap.size w a) (o : Obj) : Below w.heap.size w (a.alloc o) := h.alloc h.size o
theorem below_drew {w a : World} (h : Below w.heap.size w a) : Below w.heap.size w a.drew := h.drew
theorem below_drewn {w a : World} (h : Below w.heap.size w a) (n : Nat) : Below w.heap.size w (a.drewN n) := h.trans ⟨rfl, rfl, rfl, Nat.le_refl _, fun _ _ => rfl⟩
theorem below_set {w a : World} (h : Below w.heap.size w a) {p : Addr} (hp : w.heap.size ≤ p.block) (u : Value) : Below w.heap.size w (a.setCell p u) := h.setCell hp u

end Go.Proofs.Ytledddiahepapaa
