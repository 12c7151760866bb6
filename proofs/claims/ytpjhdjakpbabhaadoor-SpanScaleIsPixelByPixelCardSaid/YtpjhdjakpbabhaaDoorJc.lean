import Derived.Test.YtpjhdjakpbabhaaDoorRs
import Derived.Test.YtpjhdjakpbabhaaDoorBi
namespace Go.Proofs.YtpjhdjakpbabhaaDoor
open Go.RowKit PR QR
set_option linter.unusedVariables false
set_option linter.unusedSimpArgs false
theorem mulI16 {x y : Int} (hx : in16 x = true) (hy : in16 y = true) : 0 ≤ x * y ∧ x * y ≤ 4294836225 ∧ imul .u64 x y = x * y := by
  rw [in16_iff] at hx hy
  have a := Int.mul_nonneg hx.1 hy.1
  have b := Int.mul_le_mul (show x ≤ 65535 by omega) (show y ≤ 65535 by omega) hy.1 (by decide)
  exact ⟨a, by omega, mulIn a (by omega)⟩
end Go.Proofs.YtpjhdjakpbabhaaDoor
