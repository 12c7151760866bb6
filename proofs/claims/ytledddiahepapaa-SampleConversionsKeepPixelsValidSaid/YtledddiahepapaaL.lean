/-
  Contracts of wide.MulSmall and the specification's Sub and MulSmall on two words.
-/
import Derived.Test.YtledddiahepapaaK
namespace Go.Proofs.Ytledddiahepapaa
open Go.RowKit
set_option linter.unusedVariables false

theorem mul_split {n ah al k : Nat} (h : Word2 n ah al) (m l o p : Nat) (e1 : al * k = m * 18446744073709551616 + l) (e2 : ah * k = o * 18446744073709551616 + p) :
    n * k = (o * 18446744073709551616 + p + m) * 18446744073709551616 + l := by
  rw [← h.1, Nat.add_mul, Nat.mul_right_comm, e1, e2]; omega

end Go.Proofs.Ytledddiahepapaa
