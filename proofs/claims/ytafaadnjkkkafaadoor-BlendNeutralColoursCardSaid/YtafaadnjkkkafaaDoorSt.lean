/-
  The laws of layer 3 (surd): their conditions.
-/
import Derived.Test.YtafaadnjkkkafaaDoorSr
import Derived.Test.YtafaadnjkkkafaaDoorSb
namespace Go.Proofs.YtafaadnjkkkafaaDoor
open Go.RowKit PR
set_option linter.unusedVariables false

-- SPEC gxPh gxPl gxQ gxR gxD
def gxPh (n0 n3 : Int) : Int := if n0 % 4 = 2 then n3 % 100 else 0
def gxPl (n0 : Int) : Int := if n0 % 4 = 1 then n0 % 50 else n0 % 1099511627776
def gxQ (n0 n1 : Int) : Int := if n0 % 4 = 1 then n1 % 4 else n1 % 1048576
def gxR (n0 n2 : Int) : Int := if n0 % 4 = 0 then (n2 % 1000) * (n2 % 1000) else if n0 % 4 = 1 then n2 % 10 else n2 % 1048576
def gxD (n0 n1 n3 : Int) : Int := if n0 % 4 = 1 then 1 + n3 % 4 else if n0 % 4 = 2 then 9223372036854775808 + n1 % 1048576 else 1 + n3 % 65536
def s_gx : List Value → Option (Value × List Bool)
  | [.agg ⟨[.int .i64 n0, .int .i64 n1, .int .i64 n2, .int .i64 n3]⟩] => some (.agg #[.int .u64 (gxPh n0 n3), .int .u64 (gxPl n0), .int .u64 (gxQ n0 n1), .int .u64 (gxR n0 n2), .int .u64 (gxD n0 n1 n3)], [])
  | _ => none

theorem gx_range (n0 n1 n2 n3 : Int) : (0 ≤ gxPh n0 n3 ∧ gxPh n0 n3 < 100) ∧ (0 ≤ gxPl n0 ∧ gxPl n0 < 1099511627776) ∧ (0 ≤ gxQ n0 n1 ∧ gxQ n0 n1 < 1048576) ∧ (0 ≤ gxR n0 n2 ∧ gxR n0 n2 < 1048576) ∧
    (1 ≤ gxD n0 n1 n3 ∧ gxD n0 n1 n3 < 9223372036855824384) ∧ (gxD n0 n1 n3 ≤ 65536 ∧ gxPh n0 n3 = 0 ∨ 9223372036854775808 ≤ gxD n0 n1 n3) := by
  have h1 : 0 ≤ (n2 % 1000) * (n2 % 1000) ∧ (n2 % 1000) * (n2 % 1000) ≤ 999 * 999 := by
    have a := Int.emod_nonneg n2 (show (1000 : Int) ≠ 0 by decide)
    have b := Int.emod_lt_of_pos n2 (show (0 : Int) < 1000 by decide)
    exact ⟨Int.mul_nonneg a a, Int.mul_le_mul (by omega) (by omega) a (by decide)⟩
  unfold gxPh gxPl gxQ gxR gxD
  generalize (n2 % 1000) * (n2 % 1000) = z at *
  refine ⟨?_, ?_, ?_, ?_, ?_, ?_⟩ <;> (repeat' split) <;> omega

end Go.Proofs.YtafaadnjkkkafaaDoor
