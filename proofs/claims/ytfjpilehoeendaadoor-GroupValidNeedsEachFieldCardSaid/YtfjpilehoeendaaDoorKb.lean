/-
  Layer 11 (scale): the conditions of the calls.
-/
import Derived.Test.YtfjpilehoeendaaDoorKa
namespace Go.Proofs.YtfjpilehoeendaaDoor
open Go.RowKit PR QR
set_option linter.unusedVariables false

def s_scale : List AV → Option QR.Ans
  | [.x (.agg [.v (.int .u16 c0), .v (.int .u16 c1), .v (.int .u16 c2), .v (.int .u16 a), .v (.int .u16 f)]), .x (.c (.v (.int .u16 k))), .x (.c (.v (.int .u16 m)))] => some ⟨[.agg [.v (.int .u16 (scV c0 c1 c2 a f c0 k m)), .v (.int .u16 (scV c0 c1 c2 a f c1 k m)), .v (.int .u16 (scV c0 c1 c2 a f c2 k m)), .v (.int .u16 (scV c0 c1 c2 a f a k m)), .v (.int .u16 (scV c0 c1 c2 a f f k m))], .c (.v (.bool (scOk c0 c1 c2 a f k m)))], [], [in16 c0 = true, in16 c1 = true, in16 c2 = true, in16 a = true, in16 f = true, in16 k = true, in16 m = true]⟩
  | _ => none
def s_sboth : List AV → Option QR.Ans
  | [.x (.agg [.v (.int .u16 c0), .v (.int .u16 c1), .v (.int .u16 c2), .v (.int .u16 a), .v (.int .u16 f)]), .x (.c (.v (.int .u16 k))), .x (.c (.v (.int .u16 o))), .x (.c (.v (.int .u16 m)))] => some ⟨[.agg [.v (.int .u16 (sbV c0 c1 c2 a f c0 k o m)), .v (.int .u16 (sbV c0 c1 c2 a f c1 k o m)), .v (.int .u16 (sbV c0 c1 c2 a f c2 k o m)), .v (.int .u16 (sbV c0 c1 c2 a f a k o m)), .v (.int .u16 (sbV c0 c1 c2 a f f k o m))], .c (.v (.bool (sbOk c0 c1 c2 a f k o m)))], [], [in16 c0 = true, in16 c1 = true, in16 c2 = true, in16 a = true, in16 f = true, in16 k = true, in16 o = true, in16 m = true]⟩
  | _ => none

def o_scale : QR.Oracle := QR.orc [(32, QR.lift1 s_pvalid), (62, QR.lift1 s_half)]
def o_rscale : QR.Oracle := QR.orc [(33, s_full8), (26, QR.lift1 s_pvalid), (45, QR.lift1 s_half)]
end Go.Proofs.YtfjpilehoeendaaDoor
