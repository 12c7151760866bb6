import Derived.Test.YtpjhdjakpbabhaaGreatDoorZaa
import Derived.Test.YtpjhdjakpbabhaaGreatDoorZb
import Derived.Test.YtpjhdjakpbabhaaGreatDoorRs
import Derived.Test.YtpjhdjakpbabhaaGreatDoorMa
namespace Go.Proofs.YtpjhdjakpbabhaaGreatDoor
open Go.RowKit PR QR
set_option linter.unusedVariables false
set_option linter.unusedSimpArgs false
set_option maxRecDepth 20000
theorem ieq_t2 {a b : Int} (h : ieq a b = true) : a = b := of_decide_eq_true h
theorem ieq_ff {a b : Int} (h : ieq a b = false) : a ≠ b := of_decide_eq_false h
end Go.Proofs.YtpjhdjakpbabhaaGreatDoor
