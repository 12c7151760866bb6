/-
  The laws RoundFastDivisions, RoundMulDivCancels, RoundSqrt and RoundMulDivAgrees, walked: each returns true for all arguments in their ranges.
-/
import Derived.Test.YtafaadnjkkkafaaDoorH
import Derived.Deep.DeepCutAuto
namespace Go.Proofs.YtafaadnjkkkafaaDoor
open Go.RowKit
set_option linter.unusedVariables false

theorem and255 (a : Nat) (ha : a < 65536) : bits .and .u16 (a : Int) 255 = ((a % 256 : Nat) : Int) := by
  have h := u16_and_nat a 255 ha (by omega)
  have e : a &&& 255 = a % 256 := Nat.and_two_pow_sub_one_eq_mod a 8
  rw [e] at h
  exact h

theorem half_cancel (a d : Nat) (h : 0 < d) : half (a * d) d = a := by
  rw [half_down h rfl (by rw [Nat.mul_mod_left]; omega), Nat.mul_div_cancel _ h]

theorem below_then {w a b : World} (h : Below w.heap.size w a) (k : Below a.heap.size a b) : Below w.heap.size w b := h.trans (k.mono h.size)
theorem below_of_drew {w w' : World} {m : Nat} (h : w' = w.drewN m) : Below w.heap.size w w' := by subst h; exact below_drewN _ _

end Go.Proofs.YtafaadnjkkkafaaDoor
