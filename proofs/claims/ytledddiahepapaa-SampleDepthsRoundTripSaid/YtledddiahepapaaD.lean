/-
  Contracts of the specification's Add, HalfWide and MulDiv: the sum below 2^128 or false, the nearest integer to n / d, the nearest integer to a b / d where it fits into a word.
-/
import Derived.Test.YtledddiahepapaaC
import Derived.Laws.Externs
import Derived.Deep.RegionWith
import Derived.Deep.DeepCutAuto
namespace Go.Proofs.Ytledddiahepapaa
open Go.RowKit
set_option linter.unusedVariables false

theorem bcell {W w1 : World} (hb : Below W.heap.size W w1) : (∀ b o, b < W.heap.size → w1.cell? ⟨b, o, none⟩ = W.cell? ⟨b, o, none⟩) ∧ (∀ b o, b < W.heap.size → w1.frozen? ⟨b, o, none⟩ = W.frozen? ⟨b, o, none⟩) :=
  ⟨fun b o h => hb.cell (p := ⟨b, o, none⟩) h, fun b o h => hb.frozen (p := ⟨b, o, none⟩) h⟩

theorem half_up {n d r : Nat} (h0 : 0 < d) (hr : r = n % d) (h : d - r ≤ r) : half n d = n / d + 1 := by
  unfold half
  rw [if_neg (by omega), if_pos (by rw [← hr]; exact h)]
theorem half_down {n d r : Nat} (h0 : 0 < d) (hr : r = n % d) (h : ¬ d - r ≤ r) : half n d = n / d := by
  unfold half
  rw [if_neg (by omega), if_neg (by rw [← hr]; exact h)]
theorem half_up_lt {n d r : Nat} (hlt : r < d) (h : d - r ≤ r) (hn : n < 340282366920938463463374607431768211456) : n / d + 1 < 340282366920938463463374607431768211456 := by
  have : n / d ≤ n / 2 := Nat.div_le_div_left (by omega) (by omega)
  generalize n / d = x at *
  omega

/-- the nearest integer of a product's quotient, where it fits into a word; else 0 -/
def mdv (a b d : Nat) : Nat := if d ≠ 0 ∧ half (a * b) d < 18446744073709551616 then half (a * b) d else 0
def mdo (a b d : Nat) : Bool := decide (d ≠ 0 ∧ half (a * b) d < 18446744073709551616)

theorem mdv_no {a b d : Nat} (h : ¬ (d ≠ 0 ∧ half (a * b) d < 18446744073709551616)) : mdv a b d = 0 ∧ mdo a b d = false := by
  unfold mdv mdo; rw [if_neg h]; simp only [h, decide_false, and_self]
theorem mdv_yes {a b d : Nat} (h : d ≠ 0 ∧ half (a * b) d < 18446744073709551616) : mdv a b d = half (a * b) d ∧ mdo a b d = true := by
  unfold mdv mdo; rw [if_pos h]; simp only [h, and_self, ne_eq, not_false_eq_true, decide_true]

end Go.Proofs.Ytledddiahepapaa
