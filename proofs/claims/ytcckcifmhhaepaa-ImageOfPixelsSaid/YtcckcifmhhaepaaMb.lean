import Derived.Test.YtcckcifmhhaepaaMa
namespace Go.Proofs.Ytcckcifmhhaepaa
open Go.RowKit PR QR
set_option linter.unusedVariables false
def rtiV (j : Nat) (a b c d : Int) : Int := r4G j (r4T ⟨a, b, c, d⟩)
def nearB (a : Int) : Bool := decide (-1073741824 ≤ a ∧ a ≤ 1073741824)
def s_rnear : List AV → Option QR.Ans
  | [.x (.c (.v (.int .i64 a)))] => some ⟨[.c (.v (.bool (nearB a)))], [], []⟩
  | _ => none
def s_rvalid : List AV → Option QR.Ans
  | [.x (.agg [.v (.int .i64 a), .v (.int .i64 b), .v (.int .i64 c), .v (.int .i64 d)])] => some ⟨[.c (.v (.bool (rvB a b c d)))], [], []⟩
  | _ => none
def s_rempty : List AV → Option QR.Ans
  | [.x (.agg [.v (.int .i64 a), .v (.int .i64 b), .v (.int .i64 c), .v (.int .i64 d)])] => some ⟨[.c (.v (.bool (reB a b c d)))], [], []⟩
  | _ => none
def s_rarea : List AV → Option QR.Ans
  | [.x (.agg [.v (.int .i64 a), .v (.int .i64 b), .v (.int .i64 c), .v (.int .i64 d)])] => some ⟨[.c (.v (.int .i64 (raV a b c d)))], [], []⟩
  | _ => none
def s_rcont : List AV → Option QR.Ans
  | [.x (.agg [.v (.int .i64 a), .v (.int .i64 b), .v (.int .i64 c), .v (.int .i64 d)]), .x (.c (.v (.int .i64 x))), .x (.c (.v (.int .i64 y)))] => some ⟨[.c (.v (.bool (rcB a b c d x y)))], [], []⟩
  | _ => none
def s_rcov : List AV → Option QR.Ans
  | [.x (.agg [.v (.int .i64 a), .v (.int .i64 b), .v (.int .i64 c), .v (.int .i64 d)]), .x (.agg [.v (.int .i64 e), .v (.int .i64 f), .v (.int .i64 g), .v (.int .i64 h)])] => some ⟨[.c (.v (.bool (rcovB a b c d e f g h)))], [], []⟩
  | _ => none
def s_rtidy : List AV → Option QR.Ans
  | [.x (.agg [.v (.int .i64 a), .v (.int .i64 b), .v (.int .i64 c), .v (.int .i64 d)])] => some ⟨[.agg [.v (.int .i64 (rtiV 0 a b c d)), .v (.int .i64 (rtiV 1 a b c d)), .v (.int .i64 (rtiV 2 a b c d)), .v (.int .i64 (rtiV 3 a b c d))]], [], []⟩
  | _ => none
def s_rint : List AV → Option QR.Ans
  | [.x (.agg [.v (.int .i64 a), .v (.int .i64 b), .v (.int .i64 c), .v (.int .i64 d)]), .x (.agg [.v (.int .i64 e), .v (.int .i64 f), .v (.int .i64 g), .v (.int .i64 h)])] => some ⟨[.agg [.v (.int .i64 (riV 0 a b c d e f g h)), .v (.int .i64 (riV 1 a b c d e f g h)), .v (.int .i64 (riV 2 a b c d e f g h)), .v (.int .i64 (riV 3 a b c d e f g h))]], [], []⟩
  | _ => none
def s_rhull : List AV → Option QR.Ans
  | [.x (.c (.slc z n r))] => bif Nat.beq z 4 then some ⟨[.agg [.v (.int .i64 (huR 0 n r)), .v (.int .i64 (huR 1 n r)), .v (.int .i64 (huR 2 n r)), .v (.int .i64 (huR 3 n r))]], [], [intRow .i64 4 n r, ile 0 n = true, ile n 1099511627776 = true]⟩ else none
  | [.x (.c (.v (.slice _ _ _)))] => some ⟨[.agg [.v (.int .i64 (0)), .v (.int .i64 (0)), .v (.int .i64 (0)), .v (.int .i64 (0))]], [], []⟩
  | _ => none
def grA (n : Int) : Int := gmod n 12 - 6
def grB (n : Int) : Int := gmod n 12 - 6
def grtC (n0 n2 : Int) : Int := if gmod (iquo .i64 n0 12) 30 = 29 then 1073741824 + gmod n2 3 - 1 else gmod n0 12 - 6 + gmod n2 8 - 1
def grD (n1 n3 : Int) : Int := gmod n1 12 - 6 + gmod n3 8 - 1
def s_grect : List AV → Option QR.Ans
  | [.x (.agg [.v (.int .i64 n0), .v (.int .i64 n1), .v (.int .i64 n2), .v (.int .i64 n3)])] => some ⟨[.agg [.v (.int .i64 (grA n0)), .v (.int .i64 (grB n1)), .v (.int .i64 (grtC n0 n2)), .v (.int .i64 (grD n1 n3))]], [], []⟩
  | _ => none
def o_rvld : QR.Oracle := QR.orc [(93, s_rnear)]
def o_remp : QR.Oracle := QR.orc [(82, s_rvalid)]
def o_re : QR.Oracle := QR.orc [(65, s_rempty)]
set_option maxRecDepth 100000 in
theorem rnear_vc (a : Int) (V : List QR.XV → List (List QR.CV) → Prop) : QR.evalBody Try.prog (QR.orc []) (QR.noLoops) (Try.f93.body.getD .skip) Try.f93.results.toList Try.f93.ntmps [.x (.c (.v (.int .i64 a)))] V = (True ∧ bcond (ile (-1073741824) a) (True ∧ True ∧ V [XV.c (CV.v (Value.bool (ile a 1073741824)))] []) (True ∧ True ∧ V [XV.c (CV.v (Value.bool false))] [])) := by
  kernel_rfl
set_option maxRecDepth 100000 in
theorem rectval_vc (a b c d : Int) (V : List QR.XV → List (List QR.CV) → Prop) : QR.evalBody Try.prog (o_rvld) (QR.noLoops) (Try.f82.body.getD .skip) Try.f82.results.toList Try.f82.ntmps [.x (.agg [.v (.int .i64 a), .v (.int .i64 b), .v (.int .i64 c), .v (.int .i64 d)])] V = (True ∧ bcond (nearB a) (bcond (nearB b) (bcond (nearB c) (True ∧ True ∧ V [XV.c (CV.v (Value.bool (nearB d)))] []) (True ∧ True ∧ V [XV.c (CV.v (Value.bool false))] [])) (True ∧ True ∧ V [XV.c (CV.v (Value.bool false))] [])) (True ∧ True ∧ V [XV.c (CV.v (Value.bool false))] [])) := by
  try delta o_rvld
  try delta s_rnear
  generalize @nearB = nearB
  kernel_rfl
set_option maxRecDepth 100000 in
theorem rempty_vc (a b c d : Int) (V : List QR.XV → List (List QR.CV) → Prop) : QR.evalBody Try.prog (o_remp) (QR.noLoops) (Try.f65.body.getD .skip) Try.f65.results.toList Try.f65.ntmps [.x (.agg [.v (.int .i64 a), .v (.int .i64 b), .v (.int .i64 c), .v (.int .i64 d)])] V = (True ∧ bcond (bnot (rvB a b c d)) (True ∧ True ∧ V [XV.c (CV.v (Value.bool true))] []) (bcond (ige a c) (True ∧ True ∧ V [XV.c (CV.v (Value.bool true))] []) (True ∧ True ∧ V [XV.c (CV.v (Value.bool (ige b d)))] []))) := by
  try delta o_remp
  try delta s_rvalid
  generalize @rvB = rvB
  kernel_rfl
set_option maxRecDepth 100000 in
theorem rarea_vc (a b c d : Int) (V : List QR.XV → List (List QR.CV) → Prop) : QR.evalBody Try.prog (o_re) (QR.noLoops) (Try.f67.body.getD .skip) Try.f67.results.toList Try.f67.ntmps [.x (.agg [.v (.int .i64 a), .v (.int .i64 b), .v (.int .i64 c), .v (.int .i64 d)])] V = (True ∧ True ∧ bcond (reB a b c d) (True ∧ True ∧ V [XV.c (CV.v (Value.int .i64 0))] []) (True ∧ True ∧ V [XV.c (CV.v (Value.int .i64 (imul IntKind.i64 (isub IntKind.i64 c a) (isub IntKind.i64 d b))))] [])) := by
  try delta o_re
  try delta s_rempty
  generalize @reB = reB
  kernel_rfl
set_option maxRecDepth 100000 in
theorem rcont_vc (a b c d x y : Int) (V : List QR.XV → List (List QR.CV) → Prop) : QR.evalBody Try.prog (o_re) (QR.noLoops) (Try.f55.body.getD .skip) Try.f55.results.toList Try.f55.ntmps [.x (.agg [.v (.int .i64 a), .v (.int .i64 b), .v (.int .i64 c), .v (.int .i64 d)]), .x (.c (.v (.int .i64 x))), .x (.c (.v (.int .i64 y)))] V = (True ∧ bcond (bnot (reB a b c d)) (bcond (ile a x) (bcond (ilt x c) (bcond (ile b y) (True ∧ True ∧ V [XV.c (CV.v (Value.bool (ilt y d)))] []) (True ∧ True ∧ V [XV.c (CV.v (Value.bool false))] [])) (True ∧ True ∧ V [XV.c (CV.v (Value.bool false))] [])) (True ∧ True ∧ V [XV.c (CV.v (Value.bool false))] [])) (True ∧ True ∧ V [XV.c (CV.v (Value.bool false))] [])) := by
  try delta o_re
  try delta s_rempty
  generalize @reB = reB
  kernel_rfl
set_option maxRecDepth 100000 in
theorem rcov_vc (a b c d e f g h : Int) (V : List QR.XV → List (List QR.CV) → Prop) : QR.evalBody Try.prog (o_re) (QR.noLoops) (Try.f66.body.getD .skip) Try.f66.results.toList Try.f66.ntmps [.x (.agg [.v (.int .i64 a), .v (.int .i64 b), .v (.int .i64 c), .v (.int .i64 d)]), .x (.agg [.v (.int .i64 e), .v (.int .i64 f), .v (.int .i64 g), .v (.int .i64 h)])] V = (True ∧ True ∧ bcond (reB e f g h) (True ∧ True ∧ V [XV.c (CV.v (Value.bool true))] []) (bcond (bnot (reB a b c d)) (bcond (ile a e) (bcond (ile g c) (bcond (ile b f) (True ∧ True ∧ V [XV.c (CV.v (Value.bool (ile h d)))] []) (True ∧ True ∧ V [XV.c (CV.v (Value.bool false))] [])) (True ∧ True ∧ V [XV.c (CV.v (Value.bool false))] [])) (True ∧ True ∧ V [XV.c (CV.v (Value.bool false))] [])) (True ∧ True ∧ V [XV.c (CV.v (Value.bool false))] []))) := by
  try delta o_re
  try delta s_rempty
  generalize @reB = reB
  kernel_rfl
def huGood (n : Int) (l : Int → Nat → Int) (i a b c d : Int) : Prop := (0 ≤ i ∧ i ≤ n) ∧ (⟨a, b, c, d⟩ : R4) = huN (.fn fun i j => .v (.int .i64 (l i j))) i.toNat
def huMu (n i : Int) : Nat := (n - i).toNat
def o_inv_hull (n : Int) (l : Int → Nat → Int) : QR.Inv where
  ι := Int × Int × Int × Int × Int
  good i := huGood n l i.1 i.2.1 i.2.2.1 i.2.2.2.1 i.2.2.2.2
  slots i := QR.slotsOf 42 [(2, .x (.c (.ptr 1000000000000000 0))), (3, .x (.c (.ptr 1000000000000001 0))), (6, .x (.c (.slc 4 n (.fn fun a b => .v (.int .i64 (l a b)))))), (7, .x (.c (.v (.int .i64 n)))), (8, .x (.c (.v (.int .i64 i.1))))]
  blocks i := [(1000000000000000, .cells [.v (.int .i64 0), .v (.int .i64 0), .v (.int .i64 0), .v (.int .i64 0)]), (1000000000000001, .cells [.v (.int .i64 i.2.1), .v (.int .i64 i.2.2.1), .v (.int .i64 i.2.2.2.1), .v (.int .i64 i.2.2.2.2)])]
  μ i := huMu n i.1
set_option maxRecDepth 100000 in
theorem rhull_vc (n : Int) (l : Int → Nat → Int) (V : List QR.XV → List (List QR.CV) → Prop) : QR.evalBody Try.prog (o_re) (fun k => bif Nat.beq k 3 then some (.inv (o_inv_hull n l)) else none) (Try.f58.body.getD .skip) Try.f58.results.toList Try.f58.ntmps [.x (.c (.slc 4 n (.fn fun i j => .v (.int .i64 (l i j)))))] V = (True ∧ True ∧ ∀ (i : Int), i = n → True ∧ (∃ (i_1 : Int × Int × Int × Int × Int), huGood n l i_1.1 i_1.2.1 i_1.2.2.1 i_1.2.2.2.1 i_1.2.2.2.2 ∧ True ∧ true = true ∧ ((true = true ∧ 0 = 0 ∧ 0 = 0) ∧ (true = true ∧ 1024 = 1024 ∧ 0 = 0) ∧ (true = true ∧ 4 = 4 ∧ n = n ∧ (((True ∧ ∀ (i : Nat), ilt (Int.ofNat i) n = true → IntKind.i64 = IntKind.i64 ∧ l (Int.ofNat i) 0 = l (Int.ofNat i) 0) ∧ ∀ (i : Nat), ilt (Int.ofNat i) n = true → IntKind.i64 = IntKind.i64 ∧ l (Int.ofNat i) 1 = l (Int.ofNat i) 1) ∧ ∀ (i : Nat), ilt (Int.ofNat i) n = true → IntKind.i64 = IntKind.i64 ∧ l (Int.ofNat i) 2 = l (Int.ofNat i) 2) ∧ ∀ (i : Nat), ilt (Int.ofNat i) n = true → IntKind.i64 = IntKind.i64 ∧ l (Int.ofNat i) 3 = l (Int.ofNat i) 3) ∧ (true = true ∧ IntKind.i64 = IntKind.i64 ∧ i = n) ∧ (true = true ∧ IntKind.i64 = IntKind.i64 ∧ (0 : Int) = i_1.1) ∧ True) ∧ ((IntKind.i64 = IntKind.i64 ∧ (0 : Int) = 0) ∧ (IntKind.i64 = IntKind.i64 ∧ (0 : Int) = 0) ∧ (IntKind.i64 = IntKind.i64 ∧ (0 : Int) = 0) ∧ (IntKind.i64 = IntKind.i64 ∧ (0 : Int) = 0) ∧ True) ∧ ((IntKind.i64 = IntKind.i64 ∧ (0 : Int) = i_1.2.1) ∧ (IntKind.i64 = IntKind.i64 ∧ (0 : Int) = i_1.2.2.1) ∧ (IntKind.i64 = IntKind.i64 ∧ (0 : Int) = i_1.2.2.2.1) ∧ (IntKind.i64 = IntKind.i64 ∧ (0 : Int) = i_1.2.2.2.2) ∧ True) ∧ True) ∧ ∀ (i : Int × Int × Int × Int × Int), huGood n l i.1 i.2.1 i.2.2.1 i.2.2.2.1 i.2.2.2.2 → True ∧ bcond (ilt i.1 n) ((ile 0 i.1 = true ∧ ilt i.1 n = true ∧ True) ∧ True ∧ bcond (reB (l i.1 0) (l i.1 1) (l i.1 2) (l i.1 3)) (True ∧ ∃ (j : Int × Int × Int × Int × Int), huGood n l j.1 j.2.1 j.2.2.1 j.2.2.2.1 j.2.2.2.2 ∧ (True ∧ true = true ∧ ((true = true ∧ 1000000000000000 = 1000000000000000 ∧ 0 = 0) ∧ (true = true ∧ 1000000000000001 = 1000000000000001 ∧ 0 = 0) ∧ (true = true ∧ 4 = 4 ∧ n = n ∧ (((True ∧ ∀ (i : Nat), ilt (Int.ofNat i) n = true → IntKind.i64 = IntKind.i64 ∧ l (Int.ofNat i) 0 = l (Int.ofNat i) 0) ∧ ∀ (i : Nat), ilt (Int.ofNat i) n = true → IntKind.i64 = IntKind.i64 ∧ l (Int.ofNat i) 1 = l (Int.ofNat i) 1) ∧ ∀ (i : Nat), ilt (Int.ofNat i) n = true → IntKind.i64 = IntKind.i64 ∧ l (Int.ofNat i) 2 = l (Int.ofNat i) 2) ∧ ∀ (i : Nat), ilt (Int.ofNat i) n = true → IntKind.i64 = IntKind.i64 ∧ l (Int.ofNat i) 3 = l (Int.ofNat i) 3) ∧ (true = true ∧ IntKind.i64 = IntKind.i64 ∧ n = n) ∧ (true = true ∧ IntKind.i64 = IntKind.i64 ∧ iadd IntKind.i64 i.1 1 = j.1) ∧ True) ∧ ((IntKind.i64 = IntKind.i64 ∧ (0 : Int) = 0) ∧ (IntKind.i64 = IntKind.i64 ∧ (0 : Int) = 0) ∧ (IntKind.i64 = IntKind.i64 ∧ (0 : Int) = 0) ∧ (IntKind.i64 = IntKind.i64 ∧ (0 : Int) = 0) ∧ True) ∧ ((IntKind.i64 = IntKind.i64 ∧ i.2.1 = j.2.1) ∧ (IntKind.i64 = IntKind.i64 ∧ i.2.2.1 = j.2.2.1) ∧ (IntKind.i64 = IntKind.i64 ∧ i.2.2.2.1 = j.2.2.2.1) ∧ (IntKind.i64 = IntKind.i64 ∧ i.2.2.2.2 = j.2.2.2.2) ∧ True) ∧ True) ∧ Nat.le (Nat.succ (huMu n j.1)) (huMu n i.1)) (True ∧ bcond (reB i.2.1 i.2.2.1 i.2.2.2.1 i.2.2.2.2) (True ∧ True ∧ ∃ (j : Int × Int × Int × Int × Int), huGood n l j.1 j.2.1 j.2.2.1 j.2.2.2.1 j.2.2.2.2 ∧ (True ∧ true = true ∧ ((true = true ∧ 1000000000000000 = 1000000000000000 ∧ 0 = 0) ∧ (true = true ∧ 1000000000000001 = 1000000000000001 ∧ 0 = 0) ∧ (true = true ∧ 4 = 4 ∧ n = n ∧ (((True ∧ ∀ (i : Nat), ilt (Int.ofNat i) n = true → IntKind.i64 = IntKind.i64 ∧ l (Int.ofNat i) 0 = l (Int.ofNat i) 0) ∧ ∀ (i : Nat), ilt (Int.ofNat i) n = true → IntKind.i64 = IntKind.i64 ∧ l (Int.ofNat i) 1 = l (Int.ofNat i) 1) ∧ ∀ (i : Nat), ilt (Int.ofNat i) n = true → IntKind.i64 = IntKind.i64 ∧ l (Int.ofNat i) 2 = l (Int.ofNat i) 2) ∧ ∀ (i : Nat), ilt (Int.ofNat i) n = true → IntKind.i64 = IntKind.i64 ∧ l (Int.ofNat i) 3 = l (Int.ofNat i) 3) ∧ (true = true ∧ IntKind.i64 = IntKind.i64 ∧ n = n) ∧ (true = true ∧ IntKind.i64 = IntKind.i64 ∧ iadd IntKind.i64 i.1 1 = j.1) ∧ True) ∧ ((IntKind.i64 = IntKind.i64 ∧ (0 : Int) = 0) ∧ (IntKind.i64 = IntKind.i64 ∧ (0 : Int) = 0) ∧ (IntKind.i64 = IntKind.i64 ∧ (0 : Int) = 0) ∧ (IntKind.i64 = IntKind.i64 ∧ (0 : Int) = 0) ∧ True) ∧ ((IntKind.i64 = IntKind.i64 ∧ l i.1 0 = j.2.1) ∧ (IntKind.i64 = IntKind.i64 ∧ l i.1 1 = j.2.2.1) ∧ (IntKind.i64 = IntKind.i64 ∧ l i.1 2 = j.2.2.2.1) ∧ (IntKind.i64 = IntKind.i64 ∧ l i.1 3 = j.2.2.2.2) ∧ True) ∧ True) ∧ Nat.le (Nat.succ (huMu n j.1)) (huMu n i.1)) (∀ (i_1 : Int), i_1 = iimin i.2.1 (l i.1 0) → ∀ (i_2 : Int), i_2 = iimin i.2.2.1 (l i.1 1) → ∀ (i_3 : Int), i_3 = iimax i.2.2.2.1 (l i.1 2) → ∀ (i_4 : Int), i_4 = iimax i.2.2.2.2 (l i.1 3) → True ∧ True ∧ ∃ (j : Int × Int × Int × Int × Int), huGood n l j.1 j.2.1 j.2.2.1 j.2.2.2.1 j.2.2.2.2 ∧ (True ∧ true = true ∧ ((true = true ∧ 1000000000000000 = 1000000000000000 ∧ 0 = 0) ∧ (true = true ∧ 1000000000000001 = 1000000000000001 ∧ 0 = 0) ∧ (true = true ∧ 4 = 4 ∧ n = n ∧ (((True ∧ ∀ (i : Nat), ilt (Int.ofNat i) n = true → IntKind.i64 = IntKind.i64 ∧ l (Int.ofNat i) 0 = l (Int.ofNat i) 0) ∧ ∀ (i : Nat), ilt (Int.ofNat i) n = true → IntKind.i64 = IntKind.i64 ∧ l (Int.ofNat i) 1 = l (Int.ofNat i) 1) ∧ ∀ (i : Nat), ilt (Int.ofNat i) n = true → IntKind.i64 = IntKind.i64 ∧ l (Int.ofNat i) 2 = l (Int.ofNat i) 2) ∧ ∀ (i : Nat), ilt (Int.ofNat i) n = true → IntKind.i64 = IntKind.i64 ∧ l (Int.ofNat i) 3 = l (Int.ofNat i) 3) ∧ (true = true ∧ IntKind.i64 = IntKind.i64 ∧ n = n) ∧ (true = true ∧ IntKind.i64 = IntKind.i64 ∧ iadd IntKind.i64 i.1 1 = j.1) ∧ True) ∧ ((IntKind.i64 = IntKind.i64 ∧ (0 : Int) = 0) ∧ (IntKind.i64 = IntKind.i64 ∧ (0 : Int) = 0) ∧ (IntKind.i64 = IntKind.i64 ∧ (0 : Int) = 0) ∧ (IntKind.i64 = IntKind.i64 ∧ (0 : Int) = 0) ∧ True) ∧ ((IntKind.i64 = IntKind.i64 ∧ i_1 = j.2.1) ∧ (IntKind.i64 = IntKind.i64 ∧ i_2 = j.2.2.1) ∧ (IntKind.i64 = IntKind.i64 ∧ i_3 = j.2.2.2.1) ∧ (IntKind.i64 = IntKind.i64 ∧ i_4 = j.2.2.2.2) ∧ True) ∧ True) ∧ Nat.le (Nat.succ (huMu n j.1)) (huMu n i.1)))) (True ∧ True ∧ V [XV.agg [CV.v (Value.int .i64 i.2.1), CV.v (Value.int .i64 i.2.2.1), CV.v (Value.int .i64 i.2.2.2.1), CV.v (Value.int .i64 i.2.2.2.2)]] [])) := by
  try delta o_re
  try delta o_inv_hull
  try delta s_rempty
  generalize @huGood = huGood
  generalize @huMu = huMu
  generalize @reB = reB
  kernel_rfl
def o_fre : QR.Oracle := QR.orc [(83, s_rvalid)]
def o_fe : QR.Oracle := QR.orc [(70, s_rempty)]
def o_farea : QR.Oracle := QR.orc [(64, s_rtidy)]
def o_fint : QR.Oracle := QR.orc [(70, s_rempty), (64, s_rtidy)]
def o_fcov : QR.Oracle := QR.orc [(70, s_rempty), (84, s_rint)]
set_option maxRecDepth 100000 in
theorem fvalid_vc (a b c d : Int) (V : List QR.XV → List (List QR.CV) → Prop) : QR.evalBody Try.prog (QR.orc []) (QR.noLoops) (Try.f83.body.getD .skip) Try.f83.results.toList Try.f83.ntmps [.x (.agg [.v (.int .i64 a), .v (.int .i64 b), .v (.int .i64 c), .v (.int .i64 d)])] V = (True ∧ bcond (ige a (-1073741824)) (bcond (ile a 1073741824) (bcond (ige b (-1073741824)) (bcond (ile b 1073741824) (bcond (ige c (-1073741824)) (bcond (ile c 1073741824) (bcond (ige d (-1073741824)) (True ∧ True ∧ V [XV.c (CV.v (Value.bool (ile d 1073741824)))] []) (True ∧ True ∧ V [XV.c (CV.v (Value.bool false))] [])) (True ∧ True ∧ V [XV.c (CV.v (Value.bool false))] [])) (True ∧ True ∧ V [XV.c (CV.v (Value.bool false))] [])) (True ∧ True ∧ V [XV.c (CV.v (Value.bool false))] [])) (True ∧ True ∧ V [XV.c (CV.v (Value.bool false))] [])) (True ∧ True ∧ V [XV.c (CV.v (Value.bool false))] [])) (True ∧ True ∧ V [XV.c (CV.v (Value.bool false))] [])) := by
  kernel_rfl
set_option maxRecDepth 100000 in
theorem fempty_vc (a b c d : Int) (V : List QR.XV → List (List QR.CV) → Prop) : QR.evalBody Try.prog (o_fre) (QR.noLoops) (Try.f70.body.getD .skip) Try.f70.results.toList Try.f70.ntmps [.x (.agg [.v (.int .i64 a), .v (.int .i64 b), .v (.int .i64 c), .v (.int .i64 d)])] V = (True ∧ bcond (bnot (rvB a b c d)) (True ∧ True ∧ V [XV.c (CV.v (Value.bool true))] []) (bcond (ige a c) (True ∧ True ∧ V [XV.c (CV.v (Value.bool true))] []) (True ∧ True ∧ V [XV.c (CV.v (Value.bool (ige b d)))] []))) := by
  try delta o_fre
  try delta s_rvalid
  generalize @rvB = rvB
  kernel_rfl
set_option maxRecDepth 100000 in
theorem ftidy_vc (a b c d : Int) (V : List QR.XV → List (List QR.CV) → Prop) : QR.evalBody Try.prog (o_fe) (QR.noLoops) (Try.f64.body.getD .skip) Try.f64.results.toList Try.f64.ntmps [.x (.agg [.v (.int .i64 a), .v (.int .i64 b), .v (.int .i64 c), .v (.int .i64 d)])] V = (True ∧ True ∧ bcond (reB a b c d) (True ∧ True ∧ V [XV.agg [CV.v (Value.int .i64 0), CV.v (Value.int .i64 0), CV.v (Value.int .i64 0), CV.v (Value.int .i64 0)]] []) (True ∧ True ∧ V [XV.agg [CV.v (Value.int .i64 a), CV.v (Value.int .i64 b), CV.v (Value.int .i64 c), CV.v (Value.int .i64 d)]] [])) := by
  try delta o_fe
  try delta s_rempty
  generalize @reB = reB
  kernel_rfl
set_option maxRecDepth 100000 in
theorem farea_vc (a b c d : Int) (V : List QR.XV → List (List QR.CV) → Prop) : QR.evalBody Try.prog (o_farea) (QR.noLoops) (Try.f35.body.getD .skip) Try.f35.results.toList Try.f35.ntmps [.x (.agg [.v (.int .i64 a), .v (.int .i64 b), .v (.int .i64 c), .v (.int .i64 d)])] V = (True ∧ ∀ (i : Int), i = rtiV 0 a b c d → ∀ (i_1 : Int), i_1 = rtiV 1 a b c d → ∀ (i_2 : Int), i_2 = rtiV 2 a b c d → ∀ (i_3 : Int), i_3 = rtiV 3 a b c d → True ∧ True ∧ True ∧ V [XV.c (CV.v (Value.int .i64 (imul IntKind.i64 (isub IntKind.i64 i_2 i) (isub IntKind.i64 i_3 i_1))))] []) := by
  try delta o_farea
  try delta s_rtidy
  generalize @rtiV = rtiV
  kernel_rfl
set_option maxRecDepth 100000 in
theorem fcont_vc (a b c d x y : Int) (V : List QR.XV → List (List QR.CV) → Prop) : QR.evalBody Try.prog (o_fe) (QR.noLoops) (Try.f39.body.getD .skip) Try.f39.results.toList Try.f39.ntmps [.x (.agg [.v (.int .i64 a), .v (.int .i64 b), .v (.int .i64 c), .v (.int .i64 d)]), .x (.c (.v (.int .i64 x))), .x (.c (.v (.int .i64 y)))] V = (True ∧ bcond (bnot (reB a b c d)) (bcond (ige x a) (bcond (ilt x c) (bcond (ige y b) (True ∧ True ∧ V [XV.c (CV.v (Value.bool (ilt y d)))] []) (True ∧ True ∧ V [XV.c (CV.v (Value.bool false))] [])) (True ∧ True ∧ V [XV.c (CV.v (Value.bool false))] [])) (True ∧ True ∧ V [XV.c (CV.v (Value.bool false))] [])) (True ∧ True ∧ V [XV.c (CV.v (Value.bool false))] [])) := by
  try delta o_fe
  try delta s_rempty
  generalize @reB = reB
  kernel_rfl
set_option maxRecDepth 100000 in
theorem fcov_vc (a b c d e f g h : Int) (V : List QR.XV → List (List QR.CV) → Prop) : QR.evalBody Try.prog (o_fcov) (QR.noLoops) (Try.f71.body.getD .skip) Try.f71.results.toList Try.f71.ntmps [.x (.agg [.v (.int .i64 a), .v (.int .i64 b), .v (.int .i64 c), .v (.int .i64 d)]), .x (.agg [.v (.int .i64 e), .v (.int .i64 f), .v (.int .i64 g), .v (.int .i64 h)])] V = (True ∧ bcond (reB e f g h) (True ∧ True ∧ V [XV.c (CV.v (Value.bool true))] []) (∀ (i : Int), i = riV 0 a b c d e f g h → ∀ (i_1 : Int), i_1 = riV 1 a b c d e f g h → ∀ (i_2 : Int), i_2 = riV 2 a b c d e f g h → ∀ (i_3 : Int), i_3 = riV 3 a b c d e f g h → True ∧ True ∧ V [XV.c (CV.v (Value.bool (band (ieq i e) (band (ieq i_1 f) (band (ieq i_2 g) (band (ieq i_3 h) true))))))] [])) := by
  try delta o_fcov
  try delta s_rempty
  try delta s_rint
  generalize @reB = reB
  generalize @riV = riV
  kernel_rfl
set_option maxRecDepth 100000 in
theorem fint_vc (a b c d e f g h : Int) (V : List QR.XV → List (List QR.CV) → Prop) : QR.evalBody Try.prog (o_fint) (QR.noLoops) (Try.f84.body.getD .skip) Try.f84.results.toList Try.f84.ntmps [.x (.agg [.v (.int .i64 a), .v (.int .i64 b), .v (.int .i64 c), .v (.int .i64 d)]), .x (.agg [.v (.int .i64 e), .v (.int .i64 f), .v (.int .i64 g), .v (.int .i64 h)])] V = (True ∧ bcond (reB a b c d) (True ∧ True ∧ True ∧ V [XV.agg [CV.v (Value.int .i64 0), CV.v (Value.int .i64 0), CV.v (Value.int .i64 0), CV.v (Value.int .i64 0)]] []) (True ∧ bcond (reB e f g h) (True ∧ True ∧ V [XV.agg [CV.v (Value.int .i64 0), CV.v (Value.int .i64 0), CV.v (Value.int .i64 0), CV.v (Value.int .i64 0)]] []) (∀ (i : Int), i = iimax a e → ∀ (i_1 : Int), i_1 = iimax b f → ∀ (i_2 : Int), i_2 = iimin c g → ∀ (i_3 : Int), i_3 = iimin d h → ∀ (i_4 : Int), i_4 = rtiV 0 i i_1 i_2 i_3 → ∀ (i_5 : Int), i_5 = rtiV 1 i i_1 i_2 i_3 → ∀ (i_6 : Int), i_6 = rtiV 2 i i_1 i_2 i_3 → ∀ (i_7 : Int), i_7 = rtiV 3 i i_1 i_2 i_3 → True ∧ True ∧ V [XV.agg [CV.v (Value.int .i64 i_4), CV.v (Value.int .i64 i_5), CV.v (Value.int .i64 i_6), CV.v (Value.int .i64 i_7)]] []))) := by
  try delta o_fint
  try delta s_rempty
  try delta s_rtidy
  generalize @reB = reB
  generalize @rtiV = rtiV
  kernel_rfl
def o_grect : QR.Oracle := QR.orc [(17, QR.lift1 s_mod)]
set_option maxRecDepth 100000 in
theorem grect_vc (n0 n1 n2 n3 : Int) (V : List QR.XV → List (List QR.CV) → Prop) : QR.evalBody Try.prog (o_grect) (QR.noLoops) (Try.f38.body.getD .skip) Try.f38.results.toList Try.f38.ntmps [.x (.agg [.v (.int .i64 n0), .v (.int .i64 n1), .v (.int .i64 n2), .v (.int .i64 n3)])] V = (True ∧ ∀ (i : Int), i = gmod n0 12 → ∀ (i_1 : Int), i_1 = gmod n1 12 → (modOk 12 = true ∧ true = true ∧ true = true ∧ modOk 12 = true ∧ true = true ∧ true = true ∧ True) ∧ ∀ (i_2 : Int), i_2 = gmod n2 8 → ∀ (i_3 : Int), i_3 = gmod n3 8 → (modOk 8 = true ∧ true = true ∧ true = true ∧ modOk 8 = true ∧ true = true ∧ true = true ∧ True) ∧ ∀ (i_4 : Int), i_4 = gmod (iquo IntKind.i64 n0 12) 30 → (modOk 30 = true ∧ true = true ∧ true = true ∧ true = true ∧ True) ∧ bcond (ieq i_4 29) (∀ (i_5 : Int), i_5 = gmod n2 3 → (modOk 3 = true ∧ true = true ∧ true = true ∧ True) ∧ True ∧ True ∧ V [XV.agg [CV.v (Value.int .i64 (isub IntKind.i64 i 6)), CV.v (Value.int .i64 (isub IntKind.i64 i_1 6)), CV.v (Value.int .i64 (isub IntKind.i64 (iadd IntKind.i64 1073741824 i_5) 1)), CV.v (Value.int .i64 (isub IntKind.i64 (iadd IntKind.i64 (isub IntKind.i64 i_1 6) i_3) 1))]] []) (True ∧ True ∧ V [XV.agg [CV.v (Value.int .i64 (isub IntKind.i64 i 6)), CV.v (Value.int .i64 (isub IntKind.i64 i_1 6)), CV.v (Value.int .i64 (isub IntKind.i64 (iadd IntKind.i64 (isub IntKind.i64 i 6) i_2) 1)), CV.v (Value.int .i64 (isub IntKind.i64 (iadd IntKind.i64 (isub IntKind.i64 i_1 6) i_3) 1))]] [])) := by
  try delta o_grect
  try delta s_mod
  generalize @gmod = gmod
  generalize @modOk = modOk
  kernel_rfl
end Go.Proofs.Ytcckcifmhhaepaa
