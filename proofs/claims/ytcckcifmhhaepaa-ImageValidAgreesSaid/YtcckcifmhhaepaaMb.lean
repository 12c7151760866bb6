import Derived.Test.YtcckcifmhhaepaaMa
namespace Go.Proofs.Ytcckcifmhhaepaa
open Go.RowKit PR QR
set_option linter.unusedVariables false
def nearB (a : Int) : Bool := decide (-1073741824 ≤ a ∧ a ≤ 1073741824)
def s_rnear : List AV → Option QR.Ans
  | [.x (.c (.v (.int .i64 a)))] => some ⟨[.c (.v (.bool (nearB a)))], [], []⟩
  | _ => none
def s_rvalid : List AV → Option QR.Ans
  | [.x (.agg [.v (.int .i64 a), .v (.int .i64 b), .v (.int .i64 c), .v (.int .i64 d)])] => some ⟨[.c (.v (.bool (rvB a b c d)))], [], []⟩
  | _ => none
def s_rempty : List AV → Option QR.Ans
  | [.x (.agg [.v (.int .i64 a), .v (.int .i64 b), .v (.int .i64 c), .v (.int .i64 d)])] => some ⟨[.c (.v (.bool (reB a b c d)))], [], []⟩
  | _ => none
def s_rarea : List AV → Option QR.Ans
  | [.x (.agg [.v (.int .i64 a), .v (.int .i64 b), .v (.int .i64 c), .v (.int .i64 d)])] => some ⟨[.c (.v (.int .i64 (raV a b c d)))], [], []⟩
  | _ => none
def s_rcont : List AV → Option QR.Ans
  | [.x (.agg [.v (.int .i64 a), .v (.int .i64 b), .v (.int .i64 c), .v (.int .i64 d)]), .x (.c (.v (.int .i64 x))), .x (.c (.v (.int .i64 y)))] => some ⟨[.c (.v (.bool (rcB a b c d x y)))], [], []⟩
  | _ => none
def s_rcov : List AV → Option QR.Ans
  | [.x (.agg [.v (.int .i64 a), .v (.int .i64 b), .v (.int .i64 c), .v (.int .i64 d)]), .x (.agg [.v (.int .i64 e), .v (.int .i64 f), .v (.int .i64 g), .v (.int .i64 h)])] => some ⟨[.c (.v (.bool (rcovB a b c d e f g h)))], [], []⟩
  | _ => none
def s_rhull : List AV → Option QR.Ans
  | [.x (.c (.slc z n r))] => bif Nat.beq z 4 then some ⟨[.agg [.v (.int .i64 (huR 0 n r)), .v (.int .i64 (huR 1 n r)), .v (.int .i64 (huR 2 n r)), .v (.int .i64 (huR 3 n r))]], [], [intRow .i64 4 n r, ile 0 n = true, ile n 1099511627776 = true]⟩ else none
  | [.x (.c (.v (.slice _ _ _)))] => some ⟨[.agg [.v (.int .i64 (0)), .v (.int .i64 (0)), .v (.int .i64 (0)), .v (.int .i64 (0))]], [], []⟩
  | _ => none
def o_rvld : QR.Oracle := QR.orc [(93, s_rnear)]
def o_remp : QR.Oracle := QR.orc [(82, s_rvalid)]
def o_re : QR.Oracle := QR.orc [(65, s_rempty)]
set_option maxRecDepth 100000 in
theorem rnear_vc (a : Int) (V : List QR.XV → List (List QR.CV) → Prop) : QR.evalBody Try.prog (QR.orc []) (QR.noLoops) (Try.f93.body.getD .skip) Try.f93.results.toList Try.f93.ntmps [.x (.c (.v (.int .i64 a)))] V = (True ∧ bcond (ile (-1073741824) a) (True ∧ True ∧ V [XV.c (CV.v (Value.bool (ile a 1073741824)))] []) (True ∧ True ∧ V [XV.c (CV.v (Value.bool false))] [])) := by
  kernel_rfl
set_option maxRecDepth 100000 in
theorem rectval_vc (a b c d : Int) (V : List QR.XV → List (List QR.CV) → Prop) : QR.evalBody Try.prog (o_rvld) (QR.noLoops) (Try.f82.body.getD .skip) Try.f82.results.toList Try.f82.ntmps [.x (.agg [.v (.int .i64 a), .v (.int .i64 b), .v (.int .i64 c), .v (.int .i64 d)])] V = (True ∧ bcond (nearB a) (bcond (nearB b) (bcond (nearB c) (True ∧ True ∧ V [XV.c (CV.v (Value.bool (nearB d)))] []) (True ∧ True ∧ V [XV.c (CV.v (Value.bool false))] [])) (True ∧ True ∧ V [XV.c (CV.v (Value.bool false))] [])) (True ∧ True ∧ V [XV.c (CV.v (Value.bool false))] [])) := by
  try delta o_rvld
  try delta s_rnear
  generalize @nearB = nearB
  kernel_rfl
set_option maxRecDepth 100000 in
theorem rempty_vc (a b c d : Int) (V : List QR.XV → List (List QR.CV) → Prop) : QR.evalBody Try.prog (o_remp) (QR.noLoops) (Try.f65.body.getD .skip) Try.f65.results.toList Try.f65.ntmps [.x (.agg [.v (.int .i64 a), .v (.int .i64 b), .v (.int .i64 c), .v (.int .i64 d)])] V = (True ∧ bcond (bnot (rvB a b c d)) (True ∧ True ∧ V [XV.c (CV.v (Value.bool true))] []) (bcond (ige a c) (True ∧ True ∧ V [XV.c (CV.v (Value.bool true))] []) (True ∧ True ∧ V [XV.c (CV.v (Value.bool (ige b d)))] []))) := by
  try delta o_remp
  try delta s_rvalid
  generalize @rvB = rvB
  kernel_rfl
set_option maxRecDepth 100000 in
theorem rarea_vc (a b c d : Int) (V : List QR.XV → List (List QR.CV) → Prop) : QR.evalBody Try.prog (o_re) (QR.noLoops) (Try.f67.body.getD .skip) Try.f67.results.toList Try.f67.ntmps [.x (.agg [.v (.int .i64 a), .v (.int .i64 b), .v (.int .i64 c), .v (.int .i64 d)])] V = (True ∧ True ∧ bcond (reB a b c d) (True ∧ True ∧ V [XV.c (CV.v (Value.int .i64 0))] []) (True ∧ True ∧ V [XV.c (CV.v (Value.int .i64 (imul IntKind.i64 (isub IntKind.i64 c a) (isub IntKind.i64 d b))))] [])) := by
  try delta o_re
  try delta s_rempty
  generalize @reB = reB
  kernel_rfl
set_option maxRecDepth 100000 in
theorem rcont_vc (a b c d x y : Int) (V : List QR.XV → List (List QR.CV) → Prop) : QR.evalBody Try.prog (o_re) (QR.noLoops) (Try.f55.body.getD .skip) Try.f55.results.toList Try.f55.ntmps [.x (.agg [.v (.int .i64 a), .v (.int .i64 b), .v (.int .i64 c), .v (.int .i64 d)]), .x (.c (.v (.int .i64 x))), .x (.c (.v (.int .i64 y)))] V = (True ∧ bcond (bnot (reB a b c d)) (bcond (ile a x) (bcond (ilt x c) (bcond (ile b y) (True ∧ True ∧ V [XV.c (CV.v (Value.bool (ilt y d)))] []) (True ∧ True ∧ V [XV.c (CV.v (Value.bool false))] [])) (True ∧ True ∧ V [XV.c (CV.v (Value.bool false))] [])) (True ∧ True ∧ V [XV.c (CV.v (Value.bool false))] [])) (True ∧ True ∧ V [XV.c (CV.v (Value.bool false))] [])) := by
  try delta o_re
  try delta s_rempty
  generalize @reB = reB
  kernel_rfl
set_option maxRecDepth 100000 in
theorem rcov_vc (a b c d e f g h : Int) (V : List QR.XV → List (List QR.CV) → Prop) : QR.evalBody Try.prog (o_re) (QR.noLoops) (Try.f66.body.getD .skip) Try.f66.results.toList Try.f66.ntmps [.x (.agg [.v (.int .i64 a), .v (.int .i64 b), .v (.int .i64 c), .v (.int .i64 d)]), .x (.agg [.v (.int .i64 e), .v (.int .i64 f), .v (.int .i64 g), .v (.int .i64 h)])] V = (True ∧ True ∧ bcond (reB e f g h) (True ∧ True ∧ V [XV.c (CV.v (Value.bool true))] []) (bcond (bnot (reB a b c d)) (bcond (ile a e) (bcond (ile g c) (bcond (ile b f) (True ∧ True ∧ V [XV.c (CV.v (Value.bool (ile h d)))] []) (True ∧ True ∧ V [XV.c (CV.v (Value.bool false))] [])) (True ∧ True ∧ V [XV.c (CV.v (Value.bool false))] [])) (True ∧ True ∧ V [XV.c (CV.v (Value.bool false))] [])) (True ∧ True ∧ V [XV.c (CV.v (Value.bool false))] []))) := by
  try delta o_re
  try delta s_rempty
  generalize @reB = reB
  kernel_rfl
def huGood (n : Int) (l : Int → Nat → Int) (i a b c d : Int) : Prop := (0 ≤ i ∧ i ≤ n) ∧ (⟨a, b, c, d⟩ : R4) = huN (.fn fun i j => .v (.int .i64 (l i j))) i.toNat
def huMu (n i : Int) : Nat := (n - i).toNat
def o_inv_hull (n : Int) (l : Int → Nat → Int) : QR.Inv where
  ι := Int × Int × Int × Int × Int
  good i := huGood n l i.1 i.2.1 i.2.2.1 i.2.2.2.1 i.2.2.2.2
  slots i := QR.slotsOf 42 [(2, .x (.c (.ptr 1000000000000000 0))), (3, .x (.c (.ptr 1000000000000001 0))), (6, .x (.c (.slc 4 n (.fn fun a b => .v (.int .i64 (l a b)))))), (7, .x (.c (.v (.int .i64 n)))), (8, .x (.c (.v (.int .i64 i.1))))]
  blocks i := [(1000000000000000, .cells [.v (.int .i64 0), .v (.int .i64 0), .v (.int .i64 0), .v (.int .i64 0)]), (1000000000000001, .cells [.v (.int .i64 i.2.1), .v (.int .i64 i.2.2.1), .v (.int .i64 i.2.2.2.1), .v (.int .i64 i.2.2.2.2)])]
  μ i := huMu n i.1
set_option maxRecDepth 100000 in
theorem rhull_vc (n : Int) (l : Int → Nat → Int) (V : List QR.XV → List (List QR.CV) → Prop) : QR.evalBody Try.prog (o_re) (fun k => bif Nat.beq k 3 then some (.inv (o_inv_hull n l)) else none) (Try.f58.body.getD .skip) Try.f58.results.toList Try.f58.ntmps [.x (.c (.slc 4 n (.fn fun i j => .v (.int .i64 (l i j)))))] V = (True ∧ True ∧ ∀ (i : Int), i = n → True ∧ (∃ (i_1 : Int × Int × Int × Int × Int), huGood n l i_1.1 i_1.2.1 i_1.2.2.1 i_1.2.2.2.1 i_1.2.2.2.2 ∧ True ∧ true = true ∧ ((true = true ∧ 0 = 0 ∧ 0 = 0) ∧ (true = true ∧ 1024 = 1024 ∧ 0 = 0) ∧ (true = true ∧ 4 = 4 ∧ n = n ∧ (((True ∧ ∀ (i : Nat), ilt (Int.ofNat i) n = true → IntKind.i64 = IntKind.i64 ∧ l (Int.ofNat i) 0 = l (Int.ofNat i) 0) ∧ ∀ (i : Nat), ilt (Int.ofNat i) n = true → IntKind.i64 = IntKind.i64 ∧ l (Int.ofNat i) 1 = l (Int.ofNat i) 1) ∧ ∀ (i : Nat), ilt (Int.ofNat i) n = true → IntKind.i64 = IntKind.i64 ∧ l (Int.ofNat i) 2 = l (Int.ofNat i) 2) ∧ ∀ (i : Nat), ilt (Int.ofNat i) n = true → IntKind.i64 = IntKind.i64 ∧ l (Int.ofNat i) 3 = l (Int.ofNat i) 3) ∧ (true = true ∧ IntKind.i64 = IntKind.i64 ∧ i = n) ∧ (true = true ∧ IntKind.i64 = IntKind.i64 ∧ (0 : Int) = i_1.1) ∧ True) ∧ ((IntKind.i64 = IntKind.i64 ∧ (0 : Int) = 0) ∧ (IntKind.i64 = IntKind.i64 ∧ (0 : Int) = 0) ∧ (IntKind.i64 = IntKind.i64 ∧ (0 : Int) = 0) ∧ (IntKind.i64 = IntKind.i64 ∧ (0 : Int) = 0) ∧ True) ∧ ((IntKind.i64 = IntKind.i64 ∧ (0 : Int) = i_1.2.1) ∧ (IntKind.i64 = IntKind.i64 ∧ (0 : Int) = i_1.2.2.1) ∧ (IntKind.i64 = IntKind.i64 ∧ (0 : Int) = i_1.2.2.2.1) ∧ (IntKind.i64 = IntKind.i64 ∧ (0 : Int) = i_1.2.2.2.2) ∧ True) ∧ True) ∧ ∀ (i : Int × Int × Int × Int × Int), huGood n l i.1 i.2.1 i.2.2.1 i.2.2.2.1 i.2.2.2.2 → True ∧ bcond (ilt i.1 n) ((ile 0 i.1 = true ∧ ilt i.1 n = true ∧ True) ∧ True ∧ bcond (reB (l i.1 0) (l i.1 1) (l i.1 2) (l i.1 3)) (True ∧ ∃ (j : Int × Int × Int × Int × Int), huGood n l j.1 j.2.1 j.2.2.1 j.2.2.2.1 j.2.2.2.2 ∧ (True ∧ true = true ∧ ((true = true ∧ 1000000000000000 = 1000000000000000 ∧ 0 = 0) ∧ (true = true ∧ 1000000000000001 = 1000000000000001 ∧ 0 = 0) ∧ (true = true ∧ 4 = 4 ∧ n = n ∧ (((True ∧ ∀ (i : Nat), ilt (Int.ofNat i) n = true → IntKind.i64 = IntKind.i64 ∧ l (Int.ofNat i) 0 = l (Int.ofNat i) 0) ∧ ∀ (i : Nat), ilt (Int.ofNat i) n = true → IntKind.i64 = IntKind.i64 ∧ l (Int.ofNat i) 1 = l (Int.ofNat i) 1) ∧ ∀ (i : Nat), ilt (Int.ofNat i) n = true → IntKind.i64 = IntKind.i64 ∧ l (Int.ofNat i) 2 = l (Int.ofNat i) 2) ∧ ∀ (i : Nat), ilt (Int.ofNat i) n = true → IntKind.i64 = IntKind.i64 ∧ l (Int.ofNat i) 3 = l (Int.ofNat i) 3) ∧ (true = true ∧ IntKind.i64 = IntKind.i64 ∧ n = n) ∧ (true = true ∧ IntKind.i64 = IntKind.i64 ∧ iadd IntKind.i64 i.1 1 = j.1) ∧ True) ∧ ((IntKind.i64 = IntKind.i64 ∧ (0 : Int) = 0) ∧ (IntKind.i64 = IntKind.i64 ∧ (0 : Int) = 0) ∧ (IntKind.i64 = IntKind.i64 ∧ (0 : Int) = 0) ∧ (IntKind.i64 = IntKind.i64 ∧ (0 : Int) = 0) ∧ True) ∧ ((IntKind.i64 = IntKind.i64 ∧ i.2.1 = j.2.1) ∧ (IntKind.i64 = IntKind.i64 ∧ i.2.2.1 = j.2.2.1) ∧ (IntKind.i64 = IntKind.i64 ∧ i.2.2.2.1 = j.2.2.2.1) ∧ (IntKind.i64 = IntKind.i64 ∧ i.2.2.2.2 = j.2.2.2.2) ∧ True) ∧ True) ∧ Nat.le (Nat.succ (huMu n j.1)) (huMu n i.1)) (True ∧ bcond (reB i.2.1 i.2.2.1 i.2.2.2.1 i.2.2.2.2) (True ∧ True ∧ ∃ (j : Int × Int × Int × Int × Int), huGood n l j.1 j.2.1 j.2.2.1 j.2.2.2.1 j.2.2.2.2 ∧ (True ∧ true = true ∧ ((true = true ∧ 1000000000000000 = 1000000000000000 ∧ 0 = 0) ∧ (true = true ∧ 1000000000000001 = 1000000000000001 ∧ 0 = 0) ∧ (true = true ∧ 4 = 4 ∧ n = n ∧ (((True ∧ ∀ (i : Nat), ilt (Int.ofNat i) n = true → IntKind.i64 = IntKind.i64 ∧ l (Int.ofNat i) 0 = l (Int.ofNat i) 0) ∧ ∀ (i : Nat), ilt (Int.ofNat i) n = true → IntKind.i64 = IntKind.i64 ∧ l (Int.ofNat i) 1 = l (Int.ofNat i) 1) ∧ ∀ (i : Nat), ilt (Int.ofNat i) n = true → IntKind.i64 = IntKind.i64 ∧ l (Int.ofNat i) 2 = l (Int.ofNat i) 2) ∧ ∀ (i : Nat), ilt (Int.ofNat i) n = true → IntKind.i64 = IntKind.i64 ∧ l (Int.ofNat i) 3 = l (Int.ofNat i) 3) ∧ (true = true ∧ IntKind.i64 = IntKind.i64 ∧ n = n) ∧ (true = true ∧ IntKind.i64 = IntKind.i64 ∧ iadd IntKind.i64 i.1 1 = j.1) ∧ True) ∧ ((IntKind.i64 = IntKind.i64 ∧ (0 : Int) = 0) ∧ (IntKind.i64 = IntKind.i64 ∧ (0 : Int) = 0) ∧ (IntKind.i64 = IntKind.i64 ∧ (0 : Int) = 0) ∧ (IntKind.i64 = IntKind.i64 ∧ (0 : Int) = 0) ∧ True) ∧ ((IntKind.i64 = IntKind.i64 ∧ l i.1 0 = j.2.1) ∧ (IntKind.i64 = IntKind.i64 ∧ l i.1 1 = j.2.2.1) ∧ (IntKind.i64 = IntKind.i64 ∧ l i.1 2 = j.2.2.2.1) ∧ (IntKind.i64 = IntKind.i64 ∧ l i.1 3 = j.2.2.2.2) ∧ True) ∧ True) ∧ Nat.le (Nat.succ (huMu n j.1)) (huMu n i.1)) (∀ (i_1 : Int), i_1 = iimin i.2.1 (l i.1 0) → ∀ (i_2 : Int), i_2 = iimin i.2.2.1 (l i.1 1) → ∀ (i_3 : Int), i_3 = iimax i.2.2.2.1 (l i.1 2) → ∀ (i_4 : Int), i_4 = iimax i.2.2.2.2 (l i.1 3) → True ∧ True ∧ ∃ (j : Int × Int × Int × Int × Int), huGood n l j.1 j.2.1 j.2.2.1 j.2.2.2.1 j.2.2.2.2 ∧ (True ∧ true = true ∧ ((true = true ∧ 1000000000000000 = 1000000000000000 ∧ 0 = 0) ∧ (true = true ∧ 1000000000000001 = 1000000000000001 ∧ 0 = 0) ∧ (true = true ∧ 4 = 4 ∧ n = n ∧ (((True ∧ ∀ (i : Nat), ilt (Int.ofNat i) n = true → IntKind.i64 = IntKind.i64 ∧ l (Int.ofNat i) 0 = l (Int.ofNat i) 0) ∧ ∀ (i : Nat), ilt (Int.ofNat i) n = true → IntKind.i64 = IntKind.i64 ∧ l (Int.ofNat i) 1 = l (Int.ofNat i) 1) ∧ ∀ (i : Nat), ilt (Int.ofNat i) n = true → IntKind.i64 = IntKind.i64 ∧ l (Int.ofNat i) 2 = l (Int.ofNat i) 2) ∧ ∀ (i : Nat), ilt (Int.ofNat i) n = true → IntKind.i64 = IntKind.i64 ∧ l (Int.ofNat i) 3 = l (Int.ofNat i) 3) ∧ (true = true ∧ IntKind.i64 = IntKind.i64 ∧ n = n) ∧ (true = true ∧ IntKind.i64 = IntKind.i64 ∧ iadd IntKind.i64 i.1 1 = j.1) ∧ True) ∧ ((IntKind.i64 = IntKind.i64 ∧ (0 : Int) = 0) ∧ (IntKind.i64 = IntKind.i64 ∧ (0 : Int) = 0) ∧ (IntKind.i64 = IntKind.i64 ∧ (0 : Int) = 0) ∧ (IntKind.i64 = IntKind.i64 ∧ (0 : Int) = 0) ∧ True) ∧ ((IntKind.i64 = IntKind.i64 ∧ i_1 = j.2.1) ∧ (IntKind.i64 = IntKind.i64 ∧ i_2 = j.2.2.1) ∧ (IntKind.i64 = IntKind.i64 ∧ i_3 = j.2.2.2.1) ∧ (IntKind.i64 = IntKind.i64 ∧ i_4 = j.2.2.2.2) ∧ True) ∧ True) ∧ Nat.le (Nat.succ (huMu n j.1)) (huMu n i.1)))) (True ∧ True ∧ V [XV.agg [CV.v (Value.int .i64 i.2.1), CV.v (Value.int .i64 i.2.2.1), CV.v (Value.int .i64 i.2.2.2.1), CV.v (Value.int .i64 i.2.2.2.2)]] [])) := by
  try delta o_re
  try delta o_inv_hull
  try delta s_rempty
  generalize @huGood = huGood
  generalize @huMu = huMu
  generalize @reB = reB
  kernel_rfl
end Go.Proofs.Ytcckcifmhhaepaa
