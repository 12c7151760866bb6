import Derived.Test.YtpjhdjakpbabhaaGreatDoorZaa
import Derived.Test.YtpjhdjakpbabhaaGreatDoorZa
import Derived.Test.YtpjhdjakpbabhaaGreatDoorRs
import Derived.Test.YtpjhdjakpbabhaaGreatDoorMa
namespace Go.Proofs.YtpjhdjakpbabhaaGreatDoor
open Go.RowKit PR QR
set_option linter.unusedVariables false
def s_gpxs : List AV → Option QR.Ans
  | [.x (.agg [.v (.int .i64 mood), c]), .x (.c (.v (.int .i64 k))), .x (.c (.v (.int .u16 t)))] => match slcOf 5 c with
    | some (n, r) => some ⟨[.c (.fresh 5 (iimax k 0) (.fn fun i j => .v (.int .u16 (gpxV mood n (fun i j => intC (den r i j)) t i j))))], [], [intRow .i64 5 n r, ile 0 n = true, in16 t = true, ile k 1099511627776 = true]⟩
    | none => none
  | _ => none
end Go.Proofs.YtpjhdjakpbabhaaGreatDoor
