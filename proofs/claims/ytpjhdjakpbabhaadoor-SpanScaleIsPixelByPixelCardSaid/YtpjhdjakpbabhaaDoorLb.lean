import Derived.Test.YtpjhdjakpbabhaaDoorZ0
import Derived.Test.YtpjhdjakpbabhaaDoorLa
import Derived.Test.YtpjhdjakpbabhaaDoorKc
namespace Go.Proofs.YtpjhdjakpbabhaaDoor
open Go.RowKit PR QR
set_option linter.unusedVariables false
def s_va : List AV → Option QR.Ans
  | [.x (.agg [.v (.int .u16 c0), .v (.int .u16 c1), .v (.int .u16 c2), .v (.int .u16 a), .v (.int .u16 own), .v (.int .u16 f)]), .x (.agg [.v (.int .u16 k0), .v (.int .u16 k1), .v (.int .u16 k2), .v (.int .u16 ka), .v (.int .u16 kf)]), .x (.c (.v (.int .u16 m)))] => some ⟨[.c (.v (.bool (vaB c0 c1 c2 a own f k0 k1 k2 ka kf m)))], [], []⟩
  | _ => none
def s_gben : List AV → Option QR.Ans
  | [.x (.agg [.v (.int .u16 c0), .v (.int .u16 c1), .v (.int .u16 c2), .v (.int .u16 a), .v (.int .u16 own), .v (.int .u16 f)])] => some ⟨[.agg [.v (.int .u16 (c0)), .v (.int .u16 (c1)), .v (.int .u16 (c2)), .v (.int .u16 (a)), .v (.int .u16 (a))]], [], []⟩
  | _ => none
def o_gva : QR.Oracle := QR.orc [(42, s_pvalid2), (49, s_gben)]
set_option maxRecDepth 100000 in
theorem gben_vc (c0 c1 c2 a own f : Int) (V : List QR.XV → List (List QR.CV) → Prop) : QR.evalBody Tryd.prog (QR.orc []) (QR.noLoops) (Tryd.f49.body.getD .skip) Tryd.f49.results.toList Tryd.f49.ntmps [.x (.agg [.v (.int .u16 c0), .v (.int .u16 c1), .v (.int .u16 c2), .v (.int .u16 a), .v (.int .u16 own), .v (.int .u16 f)])] V = (True ∧ True ∧ True ∧ V [XV.agg [CV.v (Value.int .u16 c0), CV.v (Value.int .u16 c1), CV.v (Value.int .u16 c2), CV.v (Value.int .u16 a), CV.v (Value.int .u16 a)]] []) := by
  kernel_rfl
set_option maxRecDepth 100000 in
theorem gva_vc (c0 c1 c2 a own f k0 k1 k2 ka kf m : Int) (V : List QR.XV → List (List QR.CV) → Prop) : QR.evalBody Tryd.prog (o_gva) (QR.noLoops) (Tryd.f41.body.getD .skip) Tryd.f41.results.toList Tryd.f41.ntmps [.x (.agg [.v (.int .u16 c0), .v (.int .u16 c1), .v (.int .u16 c2), .v (.int .u16 a), .v (.int .u16 own), .v (.int .u16 f)]), .x (.agg [.v (.int .u16 k0), .v (.int .u16 k1), .v (.int .u16 k2), .v (.int .u16 ka), .v (.int .u16 kf)]), .x (.c (.v (.int .u16 m)))] V = (True ∧ bcond (ine m 255) (True ∧ bcond (ine m 65535) (True ∧ True ∧ V [XV.c (CV.v (Value.bool false))] []) (bcond (ine kf ka) (True ∧ True ∧ True ∧ V [XV.c (CV.v (Value.bool false))] []) (True ∧ bcond (bnot (pvB k0 k1 k2 ka kf m)) (True ∧ True ∧ V [XV.c (CV.v (Value.bool false))] []) (∀ (i : Int), i = c0 → ∀ (i_1 : Int), i_1 = c1 → ∀ (i_2 : Int), i_2 = c2 → ∀ (i_3 : Int), i_3 = a → ∀ (i_4 : Int), i_4 = a → bcond (pvB i i_1 i_2 i_3 i_4 m) (bcond (ile own a) (bcond (ile own f) (True ∧ True ∧ V [XV.c (CV.v (Value.bool (ile f m)))] []) (True ∧ True ∧ V [XV.c (CV.v (Value.bool false))] [])) (True ∧ True ∧ V [XV.c (CV.v (Value.bool false))] [])) (True ∧ True ∧ V [XV.c (CV.v (Value.bool false))] []))))) (True ∧ bcond (ine kf ka) (True ∧ True ∧ True ∧ V [XV.c (CV.v (Value.bool false))] []) (True ∧ bcond (bnot (pvB k0 k1 k2 ka kf m)) (True ∧ True ∧ V [XV.c (CV.v (Value.bool false))] []) (∀ (i : Int), i = c0 → ∀ (i_1 : Int), i_1 = c1 → ∀ (i_2 : Int), i_2 = c2 → ∀ (i_3 : Int), i_3 = a → ∀ (i_4 : Int), i_4 = a → bcond (pvB i i_1 i_2 i_3 i_4 m) (bcond (ile own a) (bcond (ile own f) (True ∧ True ∧ V [XV.c (CV.v (Value.bool (ile f m)))] []) (True ∧ True ∧ V [XV.c (CV.v (Value.bool false))] [])) (True ∧ True ∧ V [XV.c (CV.v (Value.bool false))] [])) (True ∧ True ∧ V [XV.c (CV.v (Value.bool false))] []))))) := by
  try delta o_gva
  try delta s_pvalid2
  try delta s_gben
  generalize @pvB = pvB
  kernel_rfl
end Go.Proofs.YtpjhdjakpbabhaaDoor
