import Derived.Test.YtcckcifmhhaepaaNb
namespace Go.Proofs.Ytcckcifmhhaepaa
open Go.RowKit PR QR
set_option linter.unusedVariables false
def prB (w h s : Int) : Bool := decide (fitB w h = true ∧ w ≤ s ∧ s ≤ 16777216)
def ndN (w h s : Int) : Int := (h - 1) * s + w
def s_prm : List AV → Option QR.Ans
  | [.x (.c (.v (.int .i64 w))), .x (.c (.v (.int .i64 h))), .x (.c (.v (.int .i64 s)))] => some ⟨[.c (.v (.bool (prB w h s)))], [], [in64 w = true, in64 h = true, in64 s = true]⟩
  | _ => none
def s_ndd : List AV → Option QR.Ans
  | [.x (.c (.v (.int .i64 w))), .x (.c (.v (.int .i64 h))), .x (.c (.v (.int .i64 s)))] => some ⟨[.c (.v (.int .i64 (ndN w h s)))], [], [prB w h s = true]⟩
  | _ => none
def o_pnv : QR.Oracle := QR.orc [(86, s_prm), (87, s_ndd)]
set_option maxRecDepth 100000 in
theorem lprm_vc (w h s : Int) (V : List QR.XV → List (List QR.CV) → Prop) : QR.evalBody Try.prog (QR.orc []) (QR.noLoops) (Try.f86.body.getD .skip) Try.f86.results.toList Try.f86.ntmps [.x (.c (.v (.int .i64 w))), .x (.c (.v (.int .i64 h))), .x (.c (.v (.int .i64 s)))] V = (True ∧ bcond (ile 1 w) (bcond (ile w s) (bcond (ile s 16777216) (bcond (ile 1 h) (bcond (ile h 16777216) (True ∧ True ∧ V [XV.c (CV.v (Value.bool (ile (imul IntKind.i64 w h) 16777216)))] []) (True ∧ True ∧ V [XV.c (CV.v (Value.bool false))] [])) (True ∧ True ∧ V [XV.c (CV.v (Value.bool false))] [])) (True ∧ True ∧ V [XV.c (CV.v (Value.bool false))] [])) (True ∧ True ∧ V [XV.c (CV.v (Value.bool false))] [])) (True ∧ True ∧ V [XV.c (CV.v (Value.bool false))] [])) := by
  kernel_rfl
set_option maxRecDepth 100000 in
theorem lndd_vc (w h s : Int) (V : List QR.XV → List (List QR.CV) → Prop) : QR.evalBody Try.prog (QR.orc []) (QR.noLoops) (Try.f87.body.getD .skip) Try.f87.results.toList Try.f87.ntmps [.x (.c (.v (.int .i64 w))), .x (.c (.v (.int .i64 h))), .x (.c (.v (.int .i64 s)))] V = (True ∧ True ∧ True ∧ V [XV.c (CV.v (Value.int .i64 (iadd IntKind.i64 (imul IntKind.i64 (isub IntKind.i64 h 1) s) w)))] []) := by
  kernel_rfl
set_option maxRecDepth 100000 in
theorem lplv_vc (w h s n : Int) (l : Int → Nat → Int) (V : List QR.XV → List (List QR.CV) → Prop) : QR.evalBody Try.prog (o_pnv) (QR.noLoops) (Try.f85.body.getD .skip) Try.f85.results.toList Try.f85.ntmps [.x (.agg [.v (.int .i64 w), .v (.int .i64 h), .v (.int .i64 s), .slc 1 n (.fn fun i j => .v (.int .u16 (l i j)))])] V = (True ∧ bcond (prB w h s) (∀ (i : Int), i = n → ∀ (i_1 : Int), i_1 = ndN w h s → (prB w h s = true ∧ in64 w = true ∧ in64 h = true ∧ in64 s = true ∧ True) ∧ True ∧ V [XV.c (CV.v (Value.bool (ige i i_1)))] []) ((in64 w = true ∧ in64 h = true ∧ in64 s = true ∧ True) ∧ True ∧ V [XV.c (CV.v (Value.bool false))] [])) := by
  try delta o_pnv
  try delta s_prm
  try delta s_ndd
  generalize @in64 = in64
  generalize @ndN = ndN
  generalize @prB = prB
  kernel_rfl
set_option maxRecDepth 100000 in
theorem lpln_vc (w h s : Int) (V : List QR.XV → List (List QR.CV) → Prop) : QR.evalBody Try.prog (o_pnv) (QR.noLoops) (Try.f76.body.getD .skip) Try.f76.results.toList Try.f76.ntmps [.x (.c (.v (.int .i64 w))), .x (.c (.v (.int .i64 h))), .x (.c (.v (.int .i64 s)))] V = (True ∧ (in64 w = true ∧ in64 h = true ∧ in64 s = true ∧ True) ∧ bcond (bnot (prB w h s)) (True ∧ True ∧ V [XV.agg [CV.v (Value.int .i64 0), CV.v (Value.int .i64 0), CV.v (Value.int .i64 0), CV.v (Value.slice Option.none 0 0)], XV.c (CV.v (Value.bool false))] []) (∀ (i : Int), i = ndN w h s → (prB w h s = true ∧ True) ∧ True ∧ bcond (igt i 16777216) (True ∧ True ∧ V [XV.agg [CV.v (Value.int .i64 0), CV.v (Value.int .i64 0), CV.v (Value.int .i64 0), CV.v (Value.slice Option.none 0 0)], XV.c (CV.v (Value.bool false))] []) ((ile 0 i = true ∧ ile i i = true ∧ ile (imulZ i 2) 140737488355328 = true ∧ ile i 140737488355328 = true ∧ True) ∧ True ∧ V [XV.agg [CV.v (Value.int .i64 w), CV.v (Value.int .i64 h), CV.v (Value.int .i64 s), CV.fresh 1 i (QR.Row.zer [Value.int .u16 0])], XV.c (CV.v (Value.bool true))] []))) := by
  try delta o_pnv
  try delta s_prm
  try delta s_ndd
  generalize @in64 = in64
  generalize @ndN = ndN
  generalize @prB = prB
  kernel_rfl
end Go.Proofs.Ytcckcifmhhaepaa
