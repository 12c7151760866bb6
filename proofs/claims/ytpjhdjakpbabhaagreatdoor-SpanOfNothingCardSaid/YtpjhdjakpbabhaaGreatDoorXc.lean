import Derived.Test.YtpjhdjakpbabhaaGreatDoorZaa
import Derived.Test.YtpjhdjakpbabhaaGreatDoorZ0
import Derived.Test.YtpjhdjakpbabhaaGreatDoorXb
import Derived.Test.YtpjhdjakpbabhaaGreatDoorLc
namespace Go.Proofs.YtpjhdjakpbabhaaGreatDoor
open Go.RowKit PR QR
set_option linter.unusedVariables false
set_option linter.unusedSimpArgs false
set_option maxRecDepth 20000
theorem sc_go' {n i : Int} (hb : n ≤ 9223372036854775807) (h : scGood n i) (lt : i < n) : iadd .i64 i 1 = i + 1 ∧ scGood n (i + 1) ∧ (scMu n (i + 1)).succ.le (scMu n i) := by
  have h0 := h.1
  refine ⟨IntWalk.i64_in _ (by omega), ⟨by omega, by omega⟩, ?_⟩
  show (n - (i + 1)).toNat + 1 ≤ (n - i).toNat
  omega
end Go.Proofs.YtpjhdjakpbabhaaGreatDoor
