import Derived.Test.YtdpmigbenkndbaaMa
namespace Go.Proofs.Ytdpmigbenkndbaa
open Go.RowKit PR QR
set_option linter.unusedVariables false
def rtiV (j : Nat) (a b c d : Int) : Int := r4G j (r4T ⟨a, b, c, d⟩)
def nearB (a : Int) : Bool := decide (-1073741824 ≤ a ∧ a ≤ 1073741824)
def s_rnear : List AV → Option QR.Ans
  | [.x (.c (.v (.int .i64 a)))] => some ⟨[.c (.v (.bool (nearB a)))], [], []⟩
  | _ => none
def s_rvalid : List AV → Option QR.Ans
  | [.x (.agg [.v (.int .i64 a), .v (.int .i64 b), .v (.int .i64 c), .v (.int .i64 d)])] => some ⟨[.c (.v (.bool (rvB a b c d)))], [], []⟩
  | _ => none
def s_rempty : List AV → Option QR.Ans
  | [.x (.agg [.v (.int .i64 a), .v (.int .i64 b), .v (.int .i64 c), .v (.int .i64 d)])] => some ⟨[.c (.v (.bool (reB a b c d)))], [], []⟩
  | _ => none
def s_rarea : List AV → Option QR.Ans
  | [.x (.agg [.v (.int .i64 a), .v (.int .i64 b), .v (.int .i64 c), .v (.int .i64 d)])] => some ⟨[.c (.v (.int .i64 (raV a b c d)))], [], []⟩
  | _ => none
def s_rcont : List AV → Option QR.Ans
  | [.x (.agg [.v (.int .i64 a), .v (.int .i64 b), .v (.int .i64 c), .v (.int .i64 d)]), .x (.c (.v (.int .i64 x))), .x (.c (.v (.int .i64 y)))] => some ⟨[.c (.v (.bool (rcB a b c d x y)))], [], []⟩
  | _ => none
def s_rcov : List AV → Option QR.Ans
  | [.x (.agg [.v (.int .i64 a), .v (.int .i64 b), .v (.int .i64 c), .v (.int .i64 d)]), .x (.agg [.v (.int .i64 e), .v (.int .i64 f), .v (.int .i64 g), .v (.int .i64 h)])] => some ⟨[.c (.v (.bool (rcovB a b c d e f g h)))], [], []⟩
  | _ => none
def s_rtidy : List AV → Option QR.Ans
  | [.x (.agg [.v (.int .i64 a), .v (.int .i64 b), .v (.int .i64 c), .v (.int .i64 d)])] => some ⟨[.agg [.v (.int .i64 (rtiV 0 a b c d)), .v (.int .i64 (rtiV 1 a b c d)), .v (.int .i64 (rtiV 2 a b c d)), .v (.int .i64 (rtiV 3 a b c d))]], [], []⟩
  | _ => none
def s_rint : List AV → Option QR.Ans
  | [.x (.agg [.v (.int .i64 a), .v (.int .i64 b), .v (.int .i64 c), .v (.int .i64 d)]), .x (.agg [.v (.int .i64 e), .v (.int .i64 f), .v (.int .i64 g), .v (.int .i64 h)])] => some ⟨[.agg [.v (.int .i64 (riV 0 a b c d e f g h)), .v (.int .i64 (riV 1 a b c d e f g h)), .v (.int .i64 (riV 2 a b c d e f g h)), .v (.int .i64 (riV 3 a b c d e f g h))]], [], []⟩
  | _ => none
def grA (n : Int) : Int := gmod n 12 - 6
def grB (n : Int) : Int := gmod n 12 - 6
def grtC (n0 n2 : Int) : Int := if gmod (iquo .i64 n0 12) 30 = 29 then 1073741824 + gmod n2 3 - 1 else gmod n0 12 - 6 + gmod n2 8 - 1
def grD (n1 n3 : Int) : Int := gmod n1 12 - 6 + gmod n3 8 - 1
def s_grect : List AV → Option QR.Ans
  | [.x (.agg [.v (.int .i64 n0), .v (.int .i64 n1), .v (.int .i64 n2), .v (.int .i64 n3)])] => some ⟨[.agg [.v (.int .i64 (grA n0)), .v (.int .i64 (grB n1)), .v (.int .i64 (grtC n0 n2)), .v (.int .i64 (grD n1 n3))]], [], []⟩
  | _ => none
def o_rvld : QR.Oracle := QR.orc [(36, s_rnear)]
def o_remp : QR.Oracle := QR.orc [(34, s_rvalid)]
def o_re : QR.Oracle := QR.orc [(26, s_rempty)]
set_option maxRecDepth 100000 in
theorem rnear_vc (a : Int) (V : List QR.XV → List (List QR.CV) → Prop) : QR.evalBody Try.prog (QR.orc []) (QR.noLoops) (Try.f36.body.getD .skip) Try.f36.results.toList Try.f36.ntmps [.x (.c (.v (.int .i64 a)))] V = (True ∧ bcond (ile (-1073741824) a) (True ∧ True ∧ V [XV.c (CV.v (Value.bool (ile a 1073741824)))] []) (True ∧ True ∧ V [XV.c (CV.v (Value.bool false))] [])) := by
  kernel_rfl
set_option maxRecDepth 100000 in
theorem rectval_vc (a b c d : Int) (V : List QR.XV → List (List QR.CV) → Prop) : QR.evalBody Try.prog (o_rvld) (QR.noLoops) (Try.f34.body.getD .skip) Try.f34.results.toList Try.f34.ntmps [.x (.agg [.v (.int .i64 a), .v (.int .i64 b), .v (.int .i64 c), .v (.int .i64 d)])] V = (True ∧ bcond (nearB a) (bcond (nearB b) (bcond (nearB c) (True ∧ True ∧ V [XV.c (CV.v (Value.bool (nearB d)))] []) (True ∧ True ∧ V [XV.c (CV.v (Value.bool false))] [])) (True ∧ True ∧ V [XV.c (CV.v (Value.bool false))] [])) (True ∧ True ∧ V [XV.c (CV.v (Value.bool false))] [])) := by
  try delta o_rvld
  try delta s_rnear
  generalize @nearB = nearB
  kernel_rfl
set_option maxRecDepth 100000 in
theorem rempty_vc (a b c d : Int) (V : List QR.XV → List (List QR.CV) → Prop) : QR.evalBody Try.prog (o_remp) (QR.noLoops) (Try.f26.body.getD .skip) Try.f26.results.toList Try.f26.ntmps [.x (.agg [.v (.int .i64 a), .v (.int .i64 b), .v (.int .i64 c), .v (.int .i64 d)])] V = (True ∧ bcond (bnot (rvB a b c d)) (True ∧ True ∧ V [XV.c (CV.v (Value.bool true))] []) (bcond (ige a c) (True ∧ True ∧ V [XV.c (CV.v (Value.bool true))] []) (True ∧ True ∧ V [XV.c (CV.v (Value.bool (ige b d)))] []))) := by
  try delta o_remp
  try delta s_rvalid
  generalize @rvB = rvB
  kernel_rfl
set_option maxRecDepth 100000 in
theorem rcont_vc (a b c d x y : Int) (V : List QR.XV → List (List QR.CV) → Prop) : QR.evalBody Try.prog (o_re) (QR.noLoops) (Try.f29.body.getD .skip) Try.f29.results.toList Try.f29.ntmps [.x (.agg [.v (.int .i64 a), .v (.int .i64 b), .v (.int .i64 c), .v (.int .i64 d)]), .x (.c (.v (.int .i64 x))), .x (.c (.v (.int .i64 y)))] V = (True ∧ bcond (bnot (reB a b c d)) (bcond (ile a x) (bcond (ilt x c) (bcond (ile b y) (True ∧ True ∧ V [XV.c (CV.v (Value.bool (ilt y d)))] []) (True ∧ True ∧ V [XV.c (CV.v (Value.bool false))] [])) (True ∧ True ∧ V [XV.c (CV.v (Value.bool false))] [])) (True ∧ True ∧ V [XV.c (CV.v (Value.bool false))] [])) (True ∧ True ∧ V [XV.c (CV.v (Value.bool false))] [])) := by
  try delta o_re
  try delta s_rempty
  generalize @reB = reB
  kernel_rfl
def o_fre : QR.Oracle := QR.orc [(35, s_rvalid)]
def o_fe : QR.Oracle := QR.orc [(28, s_rempty)]
def o_farea : QR.Oracle := QR.orc [(31, s_rtidy)]
def o_fint : QR.Oracle := QR.orc [(28, s_rempty), (31, s_rtidy)]
def o_fcov : QR.Oracle := QR.orc [(28, s_rempty), (30, s_rint)]
set_option maxRecDepth 100000 in
theorem fvalid_vc (a b c d : Int) (V : List QR.XV → List (List QR.CV) → Prop) : QR.evalBody Try.prog (QR.orc []) (QR.noLoops) (Try.f35.body.getD .skip) Try.f35.results.toList Try.f35.ntmps [.x (.agg [.v (.int .i64 a), .v (.int .i64 b), .v (.int .i64 c), .v (.int .i64 d)])] V = (True ∧ bcond (ige a (-1073741824)) (bcond (ile a 1073741824) (bcond (ige b (-1073741824)) (bcond (ile b 1073741824) (bcond (ige c (-1073741824)) (bcond (ile c 1073741824) (bcond (ige d (-1073741824)) (True ∧ True ∧ V [XV.c (CV.v (Value.bool (ile d 1073741824)))] []) (True ∧ True ∧ V [XV.c (CV.v (Value.bool false))] [])) (True ∧ True ∧ V [XV.c (CV.v (Value.bool false))] [])) (True ∧ True ∧ V [XV.c (CV.v (Value.bool false))] [])) (True ∧ True ∧ V [XV.c (CV.v (Value.bool false))] [])) (True ∧ True ∧ V [XV.c (CV.v (Value.bool false))] [])) (True ∧ True ∧ V [XV.c (CV.v (Value.bool false))] [])) (True ∧ True ∧ V [XV.c (CV.v (Value.bool false))] [])) := by
  kernel_rfl
set_option maxRecDepth 100000 in
theorem fempty_vc (a b c d : Int) (V : List QR.XV → List (List QR.CV) → Prop) : QR.evalBody Try.prog (o_fre) (QR.noLoops) (Try.f28.body.getD .skip) Try.f28.results.toList Try.f28.ntmps [.x (.agg [.v (.int .i64 a), .v (.int .i64 b), .v (.int .i64 c), .v (.int .i64 d)])] V = (True ∧ bcond (bnot (rvB a b c d)) (True ∧ True ∧ V [XV.c (CV.v (Value.bool true))] []) (bcond (ige a c) (True ∧ True ∧ V [XV.c (CV.v (Value.bool true))] []) (True ∧ True ∧ V [XV.c (CV.v (Value.bool (ige b d)))] []))) := by
  try delta o_fre
  try delta s_rvalid
  generalize @rvB = rvB
  kernel_rfl
set_option maxRecDepth 100000 in
theorem ftidy_vc (a b c d : Int) (V : List QR.XV → List (List QR.CV) → Prop) : QR.evalBody Try.prog (o_fe) (QR.noLoops) (Try.f31.body.getD .skip) Try.f31.results.toList Try.f31.ntmps [.x (.agg [.v (.int .i64 a), .v (.int .i64 b), .v (.int .i64 c), .v (.int .i64 d)])] V = (True ∧ True ∧ bcond (reB a b c d) (True ∧ True ∧ V [XV.agg [CV.v (Value.int .i64 0), CV.v (Value.int .i64 0), CV.v (Value.int .i64 0), CV.v (Value.int .i64 0)]] []) (True ∧ True ∧ V [XV.agg [CV.v (Value.int .i64 a), CV.v (Value.int .i64 b), CV.v (Value.int .i64 c), CV.v (Value.int .i64 d)]] [])) := by
  try delta o_fe
  try delta s_rempty
  generalize @reB = reB
  kernel_rfl
set_option maxRecDepth 100000 in
theorem farea_vc (a b c d : Int) (V : List QR.XV → List (List QR.CV) → Prop) : QR.evalBody Try.prog (o_farea) (QR.noLoops) (Try.f21.body.getD .skip) Try.f21.results.toList Try.f21.ntmps [.x (.agg [.v (.int .i64 a), .v (.int .i64 b), .v (.int .i64 c), .v (.int .i64 d)])] V = (True ∧ ∀ (i : Int), i = rtiV 0 a b c d → ∀ (i_1 : Int), i_1 = rtiV 1 a b c d → ∀ (i_2 : Int), i_2 = rtiV 2 a b c d → ∀ (i_3 : Int), i_3 = rtiV 3 a b c d → True ∧ True ∧ True ∧ V [XV.c (CV.v (Value.int .i64 (imul IntKind.i64 (isub IntKind.i64 i_2 i) (isub IntKind.i64 i_3 i_1))))] []) := by
  try delta o_farea
  try delta s_rtidy
  generalize @rtiV = rtiV
  kernel_rfl
set_option maxRecDepth 100000 in
theorem fcont_vc (a b c d x y : Int) (V : List QR.XV → List (List QR.CV) → Prop) : QR.evalBody Try.prog (o_fe) (QR.noLoops) (Try.f20.body.getD .skip) Try.f20.results.toList Try.f20.ntmps [.x (.agg [.v (.int .i64 a), .v (.int .i64 b), .v (.int .i64 c), .v (.int .i64 d)]), .x (.c (.v (.int .i64 x))), .x (.c (.v (.int .i64 y)))] V = (True ∧ bcond (bnot (reB a b c d)) (bcond (ige x a) (bcond (ilt x c) (bcond (ige y b) (True ∧ True ∧ V [XV.c (CV.v (Value.bool (ilt y d)))] []) (True ∧ True ∧ V [XV.c (CV.v (Value.bool false))] [])) (True ∧ True ∧ V [XV.c (CV.v (Value.bool false))] [])) (True ∧ True ∧ V [XV.c (CV.v (Value.bool false))] [])) (True ∧ True ∧ V [XV.c (CV.v (Value.bool false))] [])) := by
  try delta o_fe
  try delta s_rempty
  generalize @reB = reB
  kernel_rfl
set_option maxRecDepth 100000 in
theorem fcov_vc (a b c d e f g h : Int) (V : List QR.XV → List (List QR.CV) → Prop) : QR.evalBody Try.prog (o_fcov) (QR.noLoops) (Try.f19.body.getD .skip) Try.f19.results.toList Try.f19.ntmps [.x (.agg [.v (.int .i64 a), .v (.int .i64 b), .v (.int .i64 c), .v (.int .i64 d)]), .x (.agg [.v (.int .i64 e), .v (.int .i64 f), .v (.int .i64 g), .v (.int .i64 h)])] V = (True ∧ bcond (reB e f g h) (True ∧ True ∧ V [XV.c (CV.v (Value.bool true))] []) (∀ (i : Int), i = riV 0 a b c d e f g h → ∀ (i_1 : Int), i_1 = riV 1 a b c d e f g h → ∀ (i_2 : Int), i_2 = riV 2 a b c d e f g h → ∀ (i_3 : Int), i_3 = riV 3 a b c d e f g h → True ∧ True ∧ V [XV.c (CV.v (Value.bool (band (ieq i e) (band (ieq i_1 f) (band (ieq i_2 g) (band (ieq i_3 h) true))))))] [])) := by
  try delta o_fcov
  try delta s_rempty
  try delta s_rint
  generalize @reB = reB
  generalize @riV = riV
  kernel_rfl
set_option maxRecDepth 100000 in
theorem fint_vc (a b c d e f g h : Int) (V : List QR.XV → List (List QR.CV) → Prop) : QR.evalBody Try.prog (o_fint) (QR.noLoops) (Try.f30.body.getD .skip) Try.f30.results.toList Try.f30.ntmps [.x (.agg [.v (.int .i64 a), .v (.int .i64 b), .v (.int .i64 c), .v (.int .i64 d)]), .x (.agg [.v (.int .i64 e), .v (.int .i64 f), .v (.int .i64 g), .v (.int .i64 h)])] V = (True ∧ bcond (reB a b c d) (True ∧ True ∧ True ∧ V [XV.agg [CV.v (Value.int .i64 0), CV.v (Value.int .i64 0), CV.v (Value.int .i64 0), CV.v (Value.int .i64 0)]] []) (True ∧ bcond (reB e f g h) (True ∧ True ∧ V [XV.agg [CV.v (Value.int .i64 0), CV.v (Value.int .i64 0), CV.v (Value.int .i64 0), CV.v (Value.int .i64 0)]] []) (∀ (i : Int), i = iimax a e → ∀ (i_1 : Int), i_1 = iimax b f → ∀ (i_2 : Int), i_2 = iimin c g → ∀ (i_3 : Int), i_3 = iimin d h → ∀ (i_4 : Int), i_4 = rtiV 0 i i_1 i_2 i_3 → ∀ (i_5 : Int), i_5 = rtiV 1 i i_1 i_2 i_3 → ∀ (i_6 : Int), i_6 = rtiV 2 i i_1 i_2 i_3 → ∀ (i_7 : Int), i_7 = rtiV 3 i i_1 i_2 i_3 → True ∧ True ∧ V [XV.agg [CV.v (Value.int .i64 i_4), CV.v (Value.int .i64 i_5), CV.v (Value.int .i64 i_6), CV.v (Value.int .i64 i_7)]] []))) := by
  try delta o_fint
  try delta s_rempty
  try delta s_rtidy
  generalize @reB = reB
  generalize @rtiV = rtiV
  kernel_rfl
def o_grect : QR.Oracle := QR.orc [(9, QR.lift1 s_mod)]
set_option maxRecDepth 100000 in
theorem grect_vc (n0 n1 n2 n3 : Int) (V : List QR.XV → List (List QR.CV) → Prop) : QR.evalBody Try.prog (o_grect) (QR.noLoops) (Try.f8.body.getD .skip) Try.f8.results.toList Try.f8.ntmps [.x (.agg [.v (.int .i64 n0), .v (.int .i64 n1), .v (.int .i64 n2), .v (.int .i64 n3)])] V = (True ∧ ∀ (i : Int), i = gmod n0 12 → ∀ (i_1 : Int), i_1 = gmod n1 12 → (modOk 12 = true ∧ true = true ∧ true = true ∧ modOk 12 = true ∧ true = true ∧ true = true ∧ True) ∧ ∀ (i_2 : Int), i_2 = gmod n2 8 → ∀ (i_3 : Int), i_3 = gmod n3 8 → (modOk 8 = true ∧ true = true ∧ true = true ∧ modOk 8 = true ∧ true = true ∧ true = true ∧ True) ∧ ∀ (i_4 : Int), i_4 = gmod (iquo IntKind.i64 n0 12) 30 → (modOk 30 = true ∧ true = true ∧ true = true ∧ true = true ∧ True) ∧ bcond (ieq i_4 29) (∀ (i_5 : Int), i_5 = gmod n2 3 → (modOk 3 = true ∧ true = true ∧ true = true ∧ True) ∧ True ∧ True ∧ V [XV.agg [CV.v (Value.int .i64 (isub IntKind.i64 i 6)), CV.v (Value.int .i64 (isub IntKind.i64 i_1 6)), CV.v (Value.int .i64 (isub IntKind.i64 (iadd IntKind.i64 1073741824 i_5) 1)), CV.v (Value.int .i64 (isub IntKind.i64 (iadd IntKind.i64 (isub IntKind.i64 i_1 6) i_3) 1))]] []) (True ∧ True ∧ V [XV.agg [CV.v (Value.int .i64 (isub IntKind.i64 i 6)), CV.v (Value.int .i64 (isub IntKind.i64 i_1 6)), CV.v (Value.int .i64 (isub IntKind.i64 (iadd IntKind.i64 (isub IntKind.i64 i 6) i_2) 1)), CV.v (Value.int .i64 (isub IntKind.i64 (iadd IntKind.i64 (isub IntKind.i64 i_1 6) i_3) 1))]] [])) := by
  try delta o_grect
  try delta s_mod
  generalize @gmod = gmod
  generalize @modOk = modOk
  kernel_rfl
end Go.Proofs.Ytdpmigbenkndbaa
