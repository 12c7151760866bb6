import Derived.Test.YtcckcifmhhaepaaNa
namespace Go.Proofs.Ytcckcifmhhaepaa
open Go.RowKit PR QR
set_option linter.unusedVariables false
def s_fit : List AV → Option QR.Ans
  | [.x (.c (.v (.int .i64 w))), .x (.c (.v (.int .i64 h)))] => some ⟨[.c (.v (.bool (fitB w h)))], [], [in64 w = true, in64 h = true]⟩
  | _ => none
def s_plvalid : List AV → Option QR.Ans
  | [.x (.agg [.v (.int .i64 w), .v (.int .i64 h), .v (.int .i64 s), c])] => match slcOf 1 c with
    | some (n, r) => some ⟨[.c (.v (.bool (plB w h s n)))], [], [intRow .u16 1 n r, ile 0 n = true, in64 w = true, in64 h = true, in64 s = true]⟩
    | none => none
  | _ => none
set_option maxRecDepth 100000 in
theorem ffits_vc (w h : Int) (V : List QR.XV → List (List QR.CV) → Prop) : QR.evalBody Try.prog (QR.orc []) (QR.noLoops) (Try.f46.body.getD .skip) Try.f46.results.toList Try.f46.ntmps [.x (.c (.v (.int .i64 w))), .x (.c (.v (.int .i64 h)))] V = (True ∧ bcond (ige w 1) (bcond (ige h 1) (bcond (ile w 16777216) ((ine w 0 = true ∧ True) ∧ True ∧ V [XV.c (CV.v (Value.bool (ile h (iquo IntKind.i64 16777216 w))))] []) (True ∧ True ∧ V [XV.c (CV.v (Value.bool false))] [])) (True ∧ True ∧ V [XV.c (CV.v (Value.bool false))] [])) (True ∧ True ∧ V [XV.c (CV.v (Value.bool false))] [])) := by
  kernel_rfl
def o_fpl : QR.Oracle := QR.orc [(46, s_fit)]
set_option maxRecDepth 100000 in
theorem fplv_vc (w h s n : Int) (l : Int → Nat → Int) (V : List QR.XV → List (List QR.CV) → Prop) : QR.evalBody Try.prog (o_fpl) (QR.noLoops) (Try.f74.body.getD .skip) Try.f74.results.toList Try.f74.ntmps [.x (.agg [.v (.int .i64 w), .v (.int .i64 h), .v (.int .i64 s), .slc 1 n (.fn fun i j => .v (.int .u16 (l i j)))])] V = (True ∧ bcond (fitB w h) (bcond (ige s w) (bcond (ile s 16777216) (∀ (i : Int), i = n → (in64 w = true ∧ in64 h = true ∧ True) ∧ True ∧ V [XV.c (CV.v (Value.bool (ige i (iadd IntKind.i64 (imul IntKind.i64 (isub IntKind.i64 h 1) s) w))))] []) ((in64 w = true ∧ in64 h = true ∧ True) ∧ True ∧ V [XV.c (CV.v (Value.bool false))] [])) ((in64 w = true ∧ in64 h = true ∧ True) ∧ True ∧ V [XV.c (CV.v (Value.bool false))] [])) ((in64 w = true ∧ in64 h = true ∧ True) ∧ True ∧ V [XV.c (CV.v (Value.bool false))] [])) := by
  try delta o_fpl
  try delta s_fit
  generalize @fitB = fitB
  generalize @in64 = in64
  kernel_rfl
def o_fin : QR.Oracle := QR.orc [(74, s_plvalid)]
end Go.Proofs.Ytcckcifmhhaepaa
