import Derived.Test.YtdpmigbenkndbaaMc
import Derived.Test.YtdpmigbenkndbaaYa
namespace Go.Proofs.Ytdpmigbenkndbaa
open Go.RowKit PR QR
set_option linter.unusedVariables false
def s_tcount : List AV → Option QR.Ans
  | [.x (.agg [.v (.int .i64 a), .v (.int .i64 b), .v (.int .i64 c), .v (.int .i64 d)]), .x (.c (.v (.int .i64 w))), .x (.c (.v (.int .i64 h)))] => some ⟨[.c (.v (.int .i64 (tiX a b c d w h))), .c (.v (.int .i64 (tiY a b c d w h))), .c (.v (.bool (tiB a b c d w h)))], [], []⟩
  | _ => none
def s_ttile : List AV → Option QR.Ans
  | [.x (.agg [.v (.int .i64 a), .v (.int .i64 b), .v (.int .i64 c), .v (.int .i64 d)]), .x (.c (.v (.int .i64 w))), .x (.c (.v (.int .i64 h))), .x (.c (.v (.int .i64 i)))] => some ⟨[.agg [.v (.int .i64 (tlV 0 a b c d w h i)), .v (.int .i64 (tlV 1 a b c d w h i)), .v (.int .i64 (tlV 2 a b c d w h i)), .v (.int .i64 (tlV 3 a b c d w h i))], .c (.v (.bool (tlB a b c d w h i)))], [], []⟩
  | _ => none
def s_tindex : List AV → Option QR.Ans
  | [.x (.agg [.v (.int .i64 a), .v (.int .i64 b), .v (.int .i64 c), .v (.int .i64 d)]), .x (.c (.v (.int .i64 w))), .x (.c (.v (.int .i64 h))), .x (.c (.v (.int .i64 x))), .x (.c (.v (.int .i64 y)))] => some ⟨[.c (.v (.int .i64 (txV a b c d w h x y))), .c (.v (.bool (txB a b c d w h x y)))], [], []⟩
  | _ => none
def s_yes17 : List AV → Option QR.Ans
  | [] => some ⟨[.c (.v (.bool true))], [], []⟩
  | _ => none
def s_tparts : List AV → Option QR.Ans
  | [.x (.c (.v (.int .i64 a))), .x (.c (.v (.int .i64 b)))] => some ⟨[.c (.v (.int .i64 (iquo .i64 (isub .i64 (iadd .i64 a b) 1) b)))], [], [ine b 0 = true]⟩
  | _ => none
def o_tcount : QR.Oracle := QR.orc [(26, s_rempty), (27, s_tparts)]
def o_ftiles : QR.Oracle := QR.orc [(28, s_rempty)]
def o_ttile : QR.Oracle := QR.orc [(10, s_tcount)]
def o_ftile : QR.Oracle := QR.orc [(11, s_tcount)]
def o_tindex : QR.Oracle := QR.orc [(10, s_tcount), (29, s_rcont)]
def o_ftindex : QR.Oracle := QR.orc [(11, s_tcount), (20, s_rcont)]
def o_aw17 : QR.Oracle := QR.orc [(10, s_tcount), (12, s_ttile)]
def o_law17 : QR.Oracle := QR.orc [(8, s_grect), (9, QR.lift1 s_mod), (14, s_yes17), (10, s_tcount), (11, s_tcount), (12, s_ttile), (13, s_ttile), (15, s_tindex), (16, s_tindex)]
set_option maxRecDepth 100000 in
theorem tparts_vc (a b : Int) (V : List QR.XV → List (List QR.CV) → Prop) : QR.evalBody Try.prog (QR.orc []) (QR.noLoops) (Try.f27.body.getD .skip) Try.f27.results.toList Try.f27.ntmps [.x (.c (.v (.int .i64 a))), .x (.c (.v (.int .i64 b)))] V = (True ∧ (ine b 0 = true ∧ True) ∧ True ∧ V [XV.c (CV.v (Value.int .i64 (iquo IntKind.i64 (isub IntKind.i64 (iadd IntKind.i64 a b) 1) b)))] []) := by
  kernel_rfl
set_option maxRecDepth 100000 in
theorem tcount_vc (a b c d w h : Int) (V : List QR.XV → List (List QR.CV) → Prop) : QR.evalBody Try.prog (o_tcount) (QR.noLoops) (Try.f10.body.getD .skip) Try.f10.results.toList Try.f10.ntmps [.x (.agg [.v (.int .i64 a), .v (.int .i64 b), .v (.int .i64 c), .v (.int .i64 d)]), .x (.c (.v (.int .i64 w))), .x (.c (.v (.int .i64 h)))] V = (True ∧ True ∧ bcond (reB a b c d) (True ∧ True ∧ V [XV.c (CV.v (Value.int .i64 0)), XV.c (CV.v (Value.int .i64 0)), XV.c (CV.v (Value.bool false))] []) (True ∧ bcond (ilt w 1) (True ∧ True ∧ True ∧ V [XV.c (CV.v (Value.int .i64 0)), XV.c (CV.v (Value.int .i64 0)), XV.c (CV.v (Value.bool false))] []) (bcond (igt w (isub IntKind.i64 c a)) (True ∧ True ∧ True ∧ V [XV.c (CV.v (Value.int .i64 0)), XV.c (CV.v (Value.int .i64 0)), XV.c (CV.v (Value.bool false))] []) (bcond (ilt h 1) (True ∧ True ∧ True ∧ V [XV.c (CV.v (Value.int .i64 0)), XV.c (CV.v (Value.int .i64 0)), XV.c (CV.v (Value.bool false))] []) (True ∧ bcond (igt h (isub IntKind.i64 d b)) (True ∧ True ∧ V [XV.c (CV.v (Value.int .i64 0)), XV.c (CV.v (Value.int .i64 0)), XV.c (CV.v (Value.bool false))] []) (∀ (i : Int), i = iquo IntKind.i64 (isub IntKind.i64 (iadd IntKind.i64 (isub IntKind.i64 c a) w) 1) w → ∀ (i_1 : Int), i_1 = iquo IntKind.i64 (isub IntKind.i64 (iadd IntKind.i64 (isub IntKind.i64 d b) h) 1) h → (ine h 0 = true ∧ ine w 0 = true ∧ True) ∧ True ∧ V [XV.c (CV.v (Value.int .i64 i)), XV.c (CV.v (Value.int .i64 i_1)), XV.c (CV.v (Value.bool true))] [])))))) := by
  try delta o_tcount
  try delta s_rempty
  try delta s_tparts
  generalize @reB = reB
  kernel_rfl
set_option maxRecDepth 100000 in
theorem ftiles_vc (a b c d w h : Int) (V : List QR.XV → List (List QR.CV) → Prop) : QR.evalBody Try.prog (o_ftiles) (QR.noLoops) (Try.f11.body.getD .skip) Try.f11.results.toList Try.f11.ntmps [.x (.agg [.v (.int .i64 a), .v (.int .i64 b), .v (.int .i64 c), .v (.int .i64 d)]), .x (.c (.v (.int .i64 w))), .x (.c (.v (.int .i64 h)))] V = (True ∧ bcond (reB a b c d) (True ∧ True ∧ True ∧ V [XV.c (CV.v (Value.int .i64 0)), XV.c (CV.v (Value.int .i64 0)), XV.c (CV.v (Value.bool false))] []) (bcond (ilt w 1) (True ∧ True ∧ True ∧ V [XV.c (CV.v (Value.int .i64 0)), XV.c (CV.v (Value.int .i64 0)), XV.c (CV.v (Value.bool false))] []) (bcond (ilt h 1) (True ∧ True ∧ True ∧ V [XV.c (CV.v (Value.int .i64 0)), XV.c (CV.v (Value.int .i64 0)), XV.c (CV.v (Value.bool false))] []) (bcond (igt w (isub IntKind.i64 c a)) (True ∧ True ∧ True ∧ V [XV.c (CV.v (Value.int .i64 0)), XV.c (CV.v (Value.int .i64 0)), XV.c (CV.v (Value.bool false))] []) (True ∧ bcond (igt h (isub IntKind.i64 d b)) (True ∧ True ∧ V [XV.c (CV.v (Value.int .i64 0)), XV.c (CV.v (Value.int .i64 0)), XV.c (CV.v (Value.bool false))] []) ((ine h 0 = true ∧ ine w 0 = true ∧ True) ∧ True ∧ V [XV.c (CV.v (Value.int .i64 (iadd IntKind.i64 (iquo IntKind.i64 (isub IntKind.i64 (isub IntKind.i64 c a) 1) w) 1))), XV.c (CV.v (Value.int .i64 (iadd IntKind.i64 (iquo IntKind.i64 (isub IntKind.i64 (isub IntKind.i64 d b) 1) h) 1))), XV.c (CV.v (Value.bool true))] [])))))) := by
  try delta o_ftiles
  try delta s_rempty
  generalize @reB = reB
  kernel_rfl
set_option maxRecDepth 100000 in
theorem ttile_vc (a b c d w h i : Int) (V : List QR.XV → List (List QR.CV) → Prop) : QR.evalBody Try.prog (o_ttile) (QR.noLoops) (Try.f12.body.getD .skip) Try.f12.results.toList Try.f12.ntmps [.x (.agg [.v (.int .i64 a), .v (.int .i64 b), .v (.int .i64 c), .v (.int .i64 d)]), .x (.c (.v (.int .i64 w))), .x (.c (.v (.int .i64 h))), .x (.c (.v (.int .i64 i)))] V = (True ∧ ∀ (i_1 : Int), i_1 = tiX a b c d w h → ∀ (i_2 : Int), i_2 = tiY a b c d w h → True ∧ bcond (bnot (tiB a b c d w h)) (True ∧ True ∧ True ∧ V [XV.agg [CV.v (Value.int .i64 0), CV.v (Value.int .i64 0), CV.v (Value.int .i64 0), CV.v (Value.int .i64 0)], XV.c (CV.v (Value.bool false))] []) (bcond (ilt i 0) (True ∧ True ∧ True ∧ V [XV.agg [CV.v (Value.int .i64 0), CV.v (Value.int .i64 0), CV.v (Value.int .i64 0), CV.v (Value.int .i64 0)], XV.c (CV.v (Value.bool false))] []) (True ∧ bcond (ige i (imul IntKind.i64 i_1 i_2)) (True ∧ True ∧ V [XV.agg [CV.v (Value.int .i64 0), CV.v (Value.int .i64 0), CV.v (Value.int .i64 0), CV.v (Value.int .i64 0)], XV.c (CV.v (Value.bool false))] []) ((ine i_1 0 = true ∧ ine i_1 0 = true ∧ True) ∧ ∀ (i_3 : Int), i_3 = iimin (iadd IntKind.i64 (iadd IntKind.i64 a (imul IntKind.i64 (irem i i_1) w)) w) c → ∀ (i_4 : Int), i_4 = iimin (iadd IntKind.i64 (iadd IntKind.i64 b (imul IntKind.i64 (iquo IntKind.i64 i i_1) h)) h) d → True ∧ True ∧ V [XV.agg [CV.v (Value.int .i64 (iadd IntKind.i64 a (imul IntKind.i64 (irem i i_1) w))), CV.v (Value.int .i64 (iadd IntKind.i64 b (imul IntKind.i64 (iquo IntKind.i64 i i_1) h))), CV.v (Value.int .i64 i_3), CV.v (Value.int .i64 i_4)], XV.c (CV.v (Value.bool true))] [])))) := by
  try delta o_ttile
  try delta s_tcount
  generalize @tiB = tiB
  generalize @tiX = tiX
  generalize @tiY = tiY
  kernel_rfl
set_option maxRecDepth 100000 in
theorem ftile_vc (a b c d w h i : Int) (V : List QR.XV → List (List QR.CV) → Prop) : QR.evalBody Try.prog (o_ftile) (QR.noLoops) (Try.f13.body.getD .skip) Try.f13.results.toList Try.f13.ntmps [.x (.agg [.v (.int .i64 a), .v (.int .i64 b), .v (.int .i64 c), .v (.int .i64 d)]), .x (.c (.v (.int .i64 w))), .x (.c (.v (.int .i64 h))), .x (.c (.v (.int .i64 i)))] V = (True ∧ ∀ (i_1 : Int), i_1 = tiX a b c d w h → ∀ (i_2 : Int), i_2 = tiY a b c d w h → True ∧ bcond (bnot (tiB a b c d w h)) (True ∧ True ∧ True ∧ V [XV.agg [CV.v (Value.int .i64 0), CV.v (Value.int .i64 0), CV.v (Value.int .i64 0), CV.v (Value.int .i64 0)], XV.c (CV.v (Value.bool false))] []) (bcond (ilt i 0) (True ∧ True ∧ True ∧ V [XV.agg [CV.v (Value.int .i64 0), CV.v (Value.int .i64 0), CV.v (Value.int .i64 0), CV.v (Value.int .i64 0)], XV.c (CV.v (Value.bool false))] []) (True ∧ bcond (ige i (imul IntKind.i64 i_1 i_2)) (True ∧ True ∧ V [XV.agg [CV.v (Value.int .i64 0), CV.v (Value.int .i64 0), CV.v (Value.int .i64 0), CV.v (Value.int .i64 0)], XV.c (CV.v (Value.bool false))] []) ((ine i_1 0 = true ∧ ine i_1 0 = true ∧ True) ∧ ∀ (i_3 : Int), i_3 = iimin (iadd IntKind.i64 (iadd IntKind.i64 a (imul IntKind.i64 (irem i i_1) w)) w) c → ∀ (i_4 : Int), i_4 = iimin (iadd IntKind.i64 (iadd IntKind.i64 b (imul IntKind.i64 (iquo IntKind.i64 i i_1) h)) h) d → True ∧ True ∧ V [XV.agg [CV.v (Value.int .i64 (iadd IntKind.i64 a (imul IntKind.i64 (irem i i_1) w))), CV.v (Value.int .i64 (iadd IntKind.i64 b (imul IntKind.i64 (iquo IntKind.i64 i i_1) h))), CV.v (Value.int .i64 i_3), CV.v (Value.int .i64 i_4)], XV.c (CV.v (Value.bool true))] [])))) := by
  try delta o_ftile
  try delta s_tcount
  generalize @tiB = tiB
  generalize @tiX = tiX
  generalize @tiY = tiY
  kernel_rfl
set_option maxRecDepth 100000 in
theorem tindex_vc (a b c d w h x y : Int) (V : List QR.XV → List (List QR.CV) → Prop) : QR.evalBody Try.prog (o_tindex) (QR.noLoops) (Try.f15.body.getD .skip) Try.f15.results.toList Try.f15.ntmps [.x (.agg [.v (.int .i64 a), .v (.int .i64 b), .v (.int .i64 c), .v (.int .i64 d)]), .x (.c (.v (.int .i64 w))), .x (.c (.v (.int .i64 h))), .x (.c (.v (.int .i64 x))), .x (.c (.v (.int .i64 y)))] V = (True ∧ ∀ (i : Int), i = tiX a b c d w h → ∀ (i_1 : Int), i_1 = tiY a b c d w h → True ∧ bcond (bnot (tiB a b c d w h)) (True ∧ True ∧ True ∧ V [XV.c (CV.v (Value.int .i64 0)), XV.c (CV.v (Value.bool false))] []) (True ∧ bcond (bnot (rcB a b c d x y)) (True ∧ True ∧ V [XV.c (CV.v (Value.int .i64 0)), XV.c (CV.v (Value.bool false))] []) ((ine w 0 = true ∧ ine h 0 = true ∧ True) ∧ True ∧ V [XV.c (CV.v (Value.int .i64 (iadd IntKind.i64 (imul IntKind.i64 (iquo IntKind.i64 (isub IntKind.i64 y b) h) i) (iquo IntKind.i64 (isub IntKind.i64 x a) w)))), XV.c (CV.v (Value.bool true))] []))) := by
  try delta o_tindex
  try delta s_tcount
  try delta s_rcont
  generalize @rcB = rcB
  generalize @tiB = tiB
  generalize @tiX = tiX
  generalize @tiY = tiY
  kernel_rfl
set_option maxRecDepth 100000 in
theorem ftindex_vc (a b c d w h x y : Int) (V : List QR.XV → List (List QR.CV) → Prop) : QR.evalBody Try.prog (o_ftindex) (QR.noLoops) (Try.f16.body.getD .skip) Try.f16.results.toList Try.f16.ntmps [.x (.agg [.v (.int .i64 a), .v (.int .i64 b), .v (.int .i64 c), .v (.int .i64 d)]), .x (.c (.v (.int .i64 w))), .x (.c (.v (.int .i64 h))), .x (.c (.v (.int .i64 x))), .x (.c (.v (.int .i64 y)))] V = (True ∧ ∀ (i : Int), i = tiX a b c d w h → ∀ (i_1 : Int), i_1 = tiY a b c d w h → True ∧ bcond (bnot (tiB a b c d w h)) (True ∧ True ∧ True ∧ V [XV.c (CV.v (Value.int .i64 0)), XV.c (CV.v (Value.bool false))] []) (True ∧ bcond (bnot (rcB a b c d x y)) (True ∧ True ∧ V [XV.c (CV.v (Value.int .i64 0)), XV.c (CV.v (Value.bool false))] []) ((ine w 0 = true ∧ ine h 0 = true ∧ True) ∧ True ∧ V [XV.c (CV.v (Value.int .i64 (iadd IntKind.i64 (imul IntKind.i64 (iquo IntKind.i64 (isub IntKind.i64 y b) h) i) (iquo IntKind.i64 (isub IntKind.i64 x a) w)))), XV.c (CV.v (Value.bool true))] []))) := by
  try delta o_ftindex
  try delta s_tcount
  try delta s_rcont
  generalize @rcB = rcB
  generalize @tiB = tiB
  generalize @tiX = tiX
  generalize @tiY = tiY
  kernel_rfl
set_option maxRecDepth 100000 in
theorem awake17_vc  (V : List QR.XV → List (List QR.CV) → Prop) : QR.evalBody Try.prog (o_aw17) (QR.noLoops) (Try.f14.body.getD .skip) Try.f14.results.toList Try.f14.ntmps [] V = (True ∧ ∀ (i : Int), i = tiX 0 0 5 4 2 3 → ∀ (i_1 : Int), i_1 = tiY 0 0 5 4 2 3 → True ∧ ∀ (i_2 : Int), i_2 = tlV 0 0 0 5 4 2 3 5 → ∀ (i_3 : Int), i_3 = tlV 1 0 0 5 4 2 3 5 → ∀ (i_4 : Int), i_4 = tlV 2 0 0 5 4 2 3 5 → ∀ (i_5 : Int), i_5 = tlV 3 0 0 5 4 2 3 5 → True ∧ bcond (tiB 0 0 5 4 2 3) (bcond (ieq i 3) (bcond (ieq i_1 2) (bcond (tlB 0 0 5 4 2 3 5) (True ∧ True ∧ V [XV.c (CV.v (Value.bool (band (ieq i_2 4) (band (ieq i_3 3) (band (ieq i_4 5) (band (ieq i_5 4) true))))))] []) (True ∧ True ∧ V [XV.c (CV.v (Value.bool false))] [])) (True ∧ True ∧ V [XV.c (CV.v (Value.bool false))] [])) (True ∧ True ∧ V [XV.c (CV.v (Value.bool false))] [])) (True ∧ True ∧ V [XV.c (CV.v (Value.bool false))] [])) := by
  try delta o_aw17
  try delta s_tcount
  try delta s_ttile
  generalize @tiB = tiB
  generalize @tiX = tiX
  generalize @tiY = tiY
  generalize @tlB = tlB
  generalize @tlV = tlV
  kernel_rfl
set_option maxRecDepth 100000 in
theorem TileCountAgrees_vc (a b c d tw th i n0 n1 n2 n3 u v k : Int) (V : List QR.XV → List (List QR.CV) → Prop) : QR.evalBody Try.prog (o_law17) (QR.noLoops) (Try.f3.body.getD .skip) Try.f3.results.toList Try.f3.ntmps [.x (.agg [.v (.int .i64 a), .v (.int .i64 b), .v (.int .i64 c), .v (.int .i64 d)]), .x (.c (.v (.int .i64 tw))), .x (.c (.v (.int .i64 th))), .x (.c (.v (.int .i64 i))), .x (.agg [.v (.int .i64 n0), .v (.int .i64 n1), .v (.int .i64 n2), .v (.int .i64 n3)]), .x (.c (.v (.int .i64 u))), .x (.c (.v (.int .i64 v))), .x (.c (.v (.int .i64 k)))] V = (True ∧ ∀ (i_1 : Int), i_1 = grA n0 → ∀ (i_2 : Int), i_2 = grB n1 → ∀ (i_3 : Int), i_3 = grtC n0 n2 → ∀ (i_4 : Int), i_4 = grD n1 n3 → True ∧ ∀ (i_5 : Int), i_5 = gmod u 9 → ∀ (i_6 : Int), i_6 = gmod v 9 → ∀ (i_7 : Int), i_7 = gmod k 40 → (modOk 40 = true ∧ modOk 9 = true ∧ modOk 9 = true ∧ True) ∧ ∀ (i_8 : Int), i_8 = tiX i_1 i_2 i_3 i_4 (isub IntKind.i64 i_5 1) (isub IntKind.i64 i_6 1) → ∀ (i_9 : Int), i_9 = tiY i_1 i_2 i_3 i_4 (isub IntKind.i64 i_5 1) (isub IntKind.i64 i_6 1) → True ∧ ∀ (i_10 : Int), i_10 = tiX i_1 i_2 i_3 i_4 (isub IntKind.i64 i_5 1) (isub IntKind.i64 i_6 1) → ∀ (i_11 : Int), i_11 = tiY i_1 i_2 i_3 i_4 (isub IntKind.i64 i_5 1) (isub IntKind.i64 i_6 1) → True ∧ ∀ (i_12 : Int), i_12 = tlV 0 i_1 i_2 i_3 i_4 (isub IntKind.i64 i_5 1) (isub IntKind.i64 i_6 1) (isub IntKind.i64 i_7 2) → ∀ (i_13 : Int), i_13 = tlV 1 i_1 i_2 i_3 i_4 (isub IntKind.i64 i_5 1) (isub IntKind.i64 i_6 1) (isub IntKind.i64 i_7 2) → ∀ (i_14 : Int), i_14 = tlV 2 i_1 i_2 i_3 i_4 (isub IntKind.i64 i_5 1) (isub IntKind.i64 i_6 1) (isub IntKind.i64 i_7 2) → ∀ (i_15 : Int), i_15 = tlV 3 i_1 i_2 i_3 i_4 (isub IntKind.i64 i_5 1) (isub IntKind.i64 i_6 1) (isub IntKind.i64 i_7 2) → True ∧ ∀ (i_16 : Int), i_16 = tlV 0 i_1 i_2 i_3 i_4 (isub IntKind.i64 i_5 1) (isub IntKind.i64 i_6 1) (isub IntKind.i64 i_7 2) → ∀ (i_17 : Int), i_17 = tlV 1 i_1 i_2 i_3 i_4 (isub IntKind.i64 i_5 1) (isub IntKind.i64 i_6 1) (isub IntKind.i64 i_7 2) → ∀ (i_18 : Int), i_18 = tlV 2 i_1 i_2 i_3 i_4 (isub IntKind.i64 i_5 1) (isub IntKind.i64 i_6 1) (isub IntKind.i64 i_7 2) → ∀ (i_19 : Int), i_19 = tlV 3 i_1 i_2 i_3 i_4 (isub IntKind.i64 i_5 1) (isub IntKind.i64 i_6 1) (isub IntKind.i64 i_7 2) → True ∧ ∀ (i_20 : Int), i_20 = tiX a b c d tw th → ∀ (i_21 : Int), i_21 = tiY a b c d tw th → True ∧ ∀ (i_22 : Int), i_22 = tiX a b c d tw th → ∀ (i_23 : Int), i_23 = tiY a b c d tw th → True ∧ ∀ (i_24 : Int), i_24 = tlV 0 a b c d tw th i → ∀ (i_25 : Int), i_25 = tlV 1 a b c d tw th i → ∀ (i_26 : Int), i_26 = tlV 2 a b c d tw th i → ∀ (i_27 : Int), i_27 = tlV 3 a b c d tw th i → True ∧ ∀ (i_28 : Int), i_28 = tlV 0 a b c d tw th i → ∀ (i_29 : Int), i_29 = tlV 1 a b c d tw th i → ∀ (i_30 : Int), i_30 = tlV 2 a b c d tw th i → ∀ (i_31 : Int), i_31 = tlV 3 a b c d tw th i → True ∧ bcond (ieq i_8 i_10) (bcond (ieq i_9 i_11) (bcond (beq' (tiB i_1 i_2 i_3 i_4 (isub IntKind.i64 i_5 1) (isub IntKind.i64 i_6 1)) (tiB i_1 i_2 i_3 i_4 (isub IntKind.i64 i_5 1) (isub IntKind.i64 i_6 1))) (bcond (band (ieq i_12 i_16) (band (ieq i_13 i_17) (band (ieq i_14 i_18) (band (ieq i_15 i_19) true)))) (bcond (beq' (tlB i_1 i_2 i_3 i_4 (isub IntKind.i64 i_5 1) (isub IntKind.i64 i_6 1) (isub IntKind.i64 i_7 2)) (tlB i_1 i_2 i_3 i_4 (isub IntKind.i64 i_5 1) (isub IntKind.i64 i_6 1) (isub IntKind.i64 i_7 2))) (bcond (ieq i_20 i_22) (bcond (ieq i_21 i_23) (bcond (beq' (tiB a b c d tw th) (tiB a b c d tw th)) (bcond (band (ieq i_24 i_28) (band (ieq i_25 i_29) (band (ieq i_26 i_30) (band (ieq i_27 i_31) true)))) (True ∧ True ∧ V [XV.c (CV.v (Value.bool (beq' (tlB a b c d tw th i) (tlB a b c d tw th i))))] []) (True ∧ True ∧ V [XV.c (CV.v (Value.bool false))] [])) (True ∧ True ∧ V [XV.c (CV.v (Value.bool false))] [])) (True ∧ True ∧ V [XV.c (CV.v (Value.bool false))] [])) (True ∧ True ∧ V [XV.c (CV.v (Value.bool false))] [])) (True ∧ True ∧ V [XV.c (CV.v (Value.bool false))] [])) (True ∧ True ∧ V [XV.c (CV.v (Value.bool false))] [])) (True ∧ True ∧ V [XV.c (CV.v (Value.bool false))] [])) (True ∧ True ∧ V [XV.c (CV.v (Value.bool false))] [])) (True ∧ True ∧ V [XV.c (CV.v (Value.bool false))] [])) := by
  try delta o_law17
  try delta s_grect
  try delta s_mod
  try delta s_yes17
  try delta s_tcount
  try delta s_ttile
  try delta s_tindex
  generalize @gmod = gmod
  generalize @grA = grA
  generalize @grB = grB
  generalize @grD = grD
  generalize @grtC = grtC
  generalize @modOk = modOk
  generalize @tiB = tiB
  generalize @tiX = tiX
  generalize @tiY = tiY
  generalize @tlB = tlB
  generalize @tlV = tlV
  generalize @txB = txB
  generalize @txV = txV
  kernel_rfl
set_option maxRecDepth 100000 in
theorem TileIndexAgrees_vc (n0 n1 n2 n3 tw th x y a b c d : Int) (V : List QR.XV → List (List QR.CV) → Prop) : QR.evalBody Try.prog (o_law17) (QR.noLoops) (Try.f4.body.getD .skip) Try.f4.results.toList Try.f4.ntmps [.x (.agg [.v (.int .i64 n0), .v (.int .i64 n1), .v (.int .i64 n2), .v (.int .i64 n3)]), .x (.c (.v (.int .i64 tw))), .x (.c (.v (.int .i64 th))), .x (.c (.v (.int .i64 x))), .x (.c (.v (.int .i64 y))), .x (.agg [.v (.int .i64 a), .v (.int .i64 b), .v (.int .i64 c), .v (.int .i64 d)])] V = (True ∧ ∀ (i : Int), i = grA n0 → ∀ (i_1 : Int), i_1 = grB n1 → ∀ (i_2 : Int), i_2 = grtC n0 n2 → ∀ (i_3 : Int), i_3 = grD n1 n3 → True ∧ ∀ (i_4 : Int), i_4 = gmod tw 8 → ∀ (i_5 : Int), i_5 = gmod th 8 → (modOk 8 = true ∧ modOk 8 = true ∧ True) ∧ ∀ (i_6 : Int), i_6 = gmod x 20 → ∀ (i_7 : Int), i_7 = gmod y 20 → (modOk 20 = true ∧ modOk 20 = true ∧ True) ∧ ∀ (i_8 : Int), i_8 = txV i i_1 i_2 i_3 (iadd IntKind.i64 1 i_4) (iadd IntKind.i64 1 i_5) (isub IntKind.i64 i_6 10) (isub IntKind.i64 i_7 10) → True ∧ ∀ (i_9 : Int), i_9 = txV i i_1 i_2 i_3 (iadd IntKind.i64 1 i_4) (iadd IntKind.i64 1 i_5) (isub IntKind.i64 i_6 10) (isub IntKind.i64 i_7 10) → True ∧ ∀ (i_10 : Int), i_10 = txV a b c d tw th x y → True ∧ ∀ (i_11 : Int), i_11 = txV a b c d tw th x y → True ∧ bcond (ieq i_8 i_9) (bcond (beq' (txB i i_1 i_2 i_3 (iadd IntKind.i64 1 i_4) (iadd IntKind.i64 1 i_5) (isub IntKind.i64 i_6 10) (isub IntKind.i64 i_7 10)) (txB i i_1 i_2 i_3 (iadd IntKind.i64 1 i_4) (iadd IntKind.i64 1 i_5) (isub IntKind.i64 i_6 10) (isub IntKind.i64 i_7 10))) (bcond (ieq i_10 i_11) (True ∧ True ∧ V [XV.c (CV.v (Value.bool (beq' (txB a b c d tw th x y) (txB a b c d tw th x y))))] []) (True ∧ True ∧ V [XV.c (CV.v (Value.bool false))] [])) (True ∧ True ∧ V [XV.c (CV.v (Value.bool false))] [])) (True ∧ True ∧ V [XV.c (CV.v (Value.bool false))] [])) := by
  try delta o_law17
  try delta s_grect
  try delta s_mod
  try delta s_yes17
  try delta s_tcount
  try delta s_ttile
  try delta s_tindex
  generalize @gmod = gmod
  generalize @grA = grA
  generalize @grB = grB
  generalize @grD = grD
  generalize @grtC = grtC
  generalize @modOk = modOk
  generalize @tiB = tiB
  generalize @tiX = tiX
  generalize @tiY = tiY
  generalize @tlB = tlB
  generalize @tlV = tlV
  generalize @txB = txB
  generalize @txV = txV
  kernel_rfl
end Go.Proofs.Ytdpmigbenkndbaa
