import Derived.Test.YtpjhdjakpbabhaaGreatDoorZaa
import Derived.Test.YtpjhdjakpbabhaaGreatDoorRs
import Derived.Test.YtpjhdjakpbabhaaGreatDoorJa
namespace Go.Proofs.YtpjhdjakpbabhaaGreatDoor
open Go.RowKit PR QR
set_option linter.unusedVariables false
def s_kcol : List AV → Option QR.Ans
  | [.x (.c (.v (.int .i64 k))), .x (.c (.v (.int .u16 m))), .x (.c (.v (.int .u16 s))), .x (.c (.v (.int .u16 a))), .x (.c (.v (.int .u16 f))), .x (.c (.v (.int .u16 c))), .x (.c (.v (.int .u16 d))), .x (.c (.v (.int .u16 b)))] => some ⟨[.c (.v (.int .u16 (kcV k m s a f c d b))), .c (.v (.bool (knOk k m s a f c d b)))], [], [in16 m = true, in16 s = true, in16 a = true, in16 f = true, in16 c = true, in16 d = true, in16 b = true]⟩
  | _ => none
def s_kalpha : List AV → Option QR.Ans
  | [.x (.c (.v (.int .u16 m))), .x (.c (.v (.int .u16 a))), .x (.c (.v (.int .u16 f))), .x (.c (.v (.int .u16 acc))), .x (.c (.v (.int .u16 b)))] => some ⟨[.c (.v (.int .u16 (kaV m a f acc b))), .c (.v (.bool (kaOk m a f acc b)))], [], [in16 m = true, in16 a = true, in16 f = true, in16 acc = true, in16 b = true]⟩
  | _ => none
def s_kown : List AV → Option QR.Ans
  | [.x (.c (.v (.int .u16 m))), .x (.c (.v (.int .u16 a))), .x (.c (.v (.int .u16 f))), .x (.c (.v (.int .u16 own)))] => some ⟨[.c (.v (.int .u16 (kaV m a f own 0))), .c (.v (.bool (kaOk m a f own 0)))], [], [in16 m = true, in16 a = true, in16 f = true, in16 own = true]⟩
  | _ => none
def adS (x y c : Int) : Int := (x + y + c) % 18446744073709551616
def adC (x y c : Int) : Int := (x + y + c) / 18446744073709551616
def bitB (c : Int) : Bool := decide (0 ≤ c ∧ c ≤ 1)
def kpZ (h l n : Int) : Int := (w2 h l + n) % 340282366920938463463374607431768211456
def kpH (h l n k : Int) : Int := hi64 (kpZ h l (n * k))
def kpL (h l n k : Int) : Int := lo64 (kpZ h l (n * k))
def sp3 (x0 y0 x1 y1 x2 y2 : Int) : Int := x0 * y0 + x1 * y1 + x2 * y2
def nrH (h l d x : Int) : Int := hi64 (kpZ h l (x * d))
def nrL (h l d x : Int) : Int := lo64 (kpZ h l (x * d))
def nearV (m q r d h l : Int) : Int := bif q == 0 && h == 0 then iconv .u16 (hlf l (imul .u64 m d)) else iconv .u16 (hvV h l q r (imul .u64 m d))
def s_mul64 : List Value → Option (Value × List Bool)
  | [.int .u64 a, .int .u64 b] => some (.tuple #[.int .u64 (wmH a b), .int .u64 (wmL a b)], [inU a, inU b])
  | _ => none
def s_add64 : List Value → Option (Value × List Bool)
  | [.int .u64 x, .int .u64 y, .int .u64 c] => some (.tuple #[.int .u64 (adS x y c), .int .u64 (adC x y c)], [inU x, inU y, bitB c])
  | _ => none
def s_kplus : List AV → Option QR.Ans
  | [.x (.agg [.v (.int .u64 h), .v (.int .u64 l)]), .x (.c (.v (.int .u64 n))), .x (.c (.v (.int .u64 k)))] => some ⟨[.agg [.v (.int .u64 (kpH h l n k)), .v (.int .u64 (kpL h l n k))]], [], [inU h = true, inU l = true, inU n = true, inU k = true]⟩
  | _ => none
def s_kperm : List AV → Option QR.Ans
  | [.x (.c (.v (.int .u16 m))), .x (.c (.v (.int .u16 a))), .x (.c (.v (.int .u16 f))), .x (.c (.slc z n r))] => bif Nat.beq z 1 then some ⟨[.c (.v (.bool (kaOk m a f (intC (den r 0 0)) (intC (den r 1 0)))))], [], [ieq n 2 = true, intRow .u16 1 2 r]⟩ else none
  | _ => none
def s_near : List AV → Option QR.Ans
  | [.x (.c (.v (.int .u16 m))), .x (.agg [.v (.int .u64 h), .v (.int .u64 l), .v (.int .u64 q), .v (.int .u64 r), .v (.int .u64 d)]), .x (.c (.slc z n w))] => bif Nat.beq z 2 then some ⟨[.c (.v (.int .u16 (nearV m q r d (nrH h l d (sp3 (intC (den w 0 0)) (intC (den w 0 1)) (intC (den w 1 0)) (intC (den w 1 1)) (intC (den w 2 0)) (intC (den w 2 1)))) (nrL h l d (sp3 (intC (den w 0 0)) (intC (den w 0 1)) (intC (den w 1 0)) (intC (den w 1 1)) (intC (den w 2 0)) (intC (den w 2 1)))))))], [], [ieq n 3 = true, intRow .u16 2 3 w, in16 m = true, inU h = true, inU l = true, inU q = true, inU r = true, inU d = true, in16 (intC (den w 0 0)) = true, in16 (intC (den w 0 1)) = true, in16 (intC (den w 1 0)) = true, in16 (intC (den w 1 1)) = true, in16 (intC (den w 2 0)) = true, in16 (intC (den w 2 1)) = true]⟩ else none
  | _ => none
def o_kplus : QR.Oracle := QR.orc [(120, QR.lift1 s_mul64), (121, QR.lift1 s_add64)]
def o_near : QR.Oracle := QR.orc [(133, s_kplus), (93, QR.lift1 s_half), (78, QR.lift1 s_halfX)]
def o_kcol : QR.Oracle := QR.orc [(96, s_bl), (111, s_kperm), (112, s_near)]
def o_kal : QR.Oracle := QR.orc [(111, s_kperm), (112, s_near)]
def o_kown : QR.Oracle := QR.orc [(90, s_kalpha)]
set_option maxRecDepth 100000 in
theorem kplus_vc (h l n k : Int) (V : List QR.XV → List (List QR.CV) → Prop) : QR.evalBody Tryz.prog (o_kplus) (QR.noLoops) (Tryz.f133.body.getD .skip) Tryz.f133.results.toList Tryz.f133.ntmps [.x (.agg [.v (.int .u64 h), .v (.int .u64 l)]), .x (.c (.v (.int .u64 n))), .x (.c (.v (.int .u64 k)))] V = (True ∧ ∀ (i : Int), i = wmH n k → ∀ (i_1 : Int), i_1 = wmL n k → (inU n = true ∧ inU k = true ∧ True) ∧ ∀ (i_2 : Int), i_2 = adS l i_1 0 → ∀ (i_3 : Int), i_3 = adC l i_1 0 → (inU l = true ∧ inU i_1 = true ∧ bitB 0 = true ∧ True) ∧ ∀ (i_4 : Int), i_4 = adS h i i_3 → ∀ (i_5 : Int), i_5 = adC h i i_3 → (inU h = true ∧ inU i = true ∧ bitB i_3 = true ∧ True) ∧ True ∧ True ∧ V [XV.agg [CV.v (Value.int .u64 i_4), CV.v (Value.int .u64 i_2)]] []) := by
  try delta o_kplus
  try delta s_mul64
  try delta s_add64
  generalize @adC = adC
  generalize @adS = adS
  generalize @bitB = bitB
  generalize @inU = inU
  generalize @wmH = wmH
  generalize @wmL = wmL
  kernel_rfl
set_option maxRecDepth 100000 in
theorem kperm_vc (m a f : Int) (l : Int → Nat → Int) (V : List QR.XV → List (List QR.CV) → Prop) : QR.evalBody Tryz.prog (QR.orc []) (fun n => bif Nat.beq n 4 then some (.rounds 3) else none) (Tryz.f111.body.getD .skip) Tryz.f111.results.toList Tryz.f111.ntmps [.x (.c (.v (.int .u16 m))), .x (.c (.v (.int .u16 a))), .x (.c (.v (.int .u16 f))), .x (.c (.slc 1 2 (.fn fun i j => .v (.int .u16 (l i j)))))] V = (True ∧ bcond (ine m 255) (bcond (ine m 65535) (True ∧ True ∧ True ∧ V [XV.c (CV.v (Value.bool false))] []) (bcond (igt a f) (True ∧ True ∧ True ∧ V [XV.c (CV.v (Value.bool false))] []) (True ∧ bcond (igt f m) (True ∧ True ∧ V [XV.c (CV.v (Value.bool false))] []) (∀ (i : Int), i = 2 → True ∧ True ∧ bcond (ilt 0 i) ((true = true ∧ true = true ∧ True) ∧ True ∧ bcond (igt (l 0 0) m) (True ∧ True ∧ V [XV.c (CV.v (Value.bool false))] []) (True ∧ True ∧ bcond (ilt 1 i) ((true = true ∧ true = true ∧ True) ∧ True ∧ bcond (igt (l 1 0) m) (True ∧ True ∧ V [XV.c (CV.v (Value.bool false))] []) (True ∧ True ∧ bcond (ilt 2 i) ((true = true ∧ false = true ∧ True) ∧ True ∧ bcond (igt (l 2 0) m) (True ∧ True ∧ V [XV.c (CV.v (Value.bool false))] []) (True ∧ False)) (True ∧ True ∧ V [XV.c (CV.v (Value.bool true))] []))) (True ∧ True ∧ V [XV.c (CV.v (Value.bool true))] []))) (True ∧ True ∧ V [XV.c (CV.v (Value.bool true))] []))))) (bcond (igt a f) (True ∧ True ∧ True ∧ V [XV.c (CV.v (Value.bool false))] []) (True ∧ bcond (igt f m) (True ∧ True ∧ V [XV.c (CV.v (Value.bool false))] []) (∀ (i : Int), i = 2 → True ∧ True ∧ bcond (ilt 0 i) ((true = true ∧ true = true ∧ True) ∧ True ∧ bcond (igt (l 0 0) m) (True ∧ True ∧ V [XV.c (CV.v (Value.bool false))] []) (True ∧ True ∧ bcond (ilt 1 i) ((true = true ∧ true = true ∧ True) ∧ True ∧ bcond (igt (l 1 0) m) (True ∧ True ∧ V [XV.c (CV.v (Value.bool false))] []) (True ∧ True ∧ bcond (ilt 2 i) ((true = true ∧ false = true ∧ True) ∧ True ∧ bcond (igt (l 2 0) m) (True ∧ True ∧ V [XV.c (CV.v (Value.bool false))] []) (True ∧ False)) (True ∧ True ∧ V [XV.c (CV.v (Value.bool true))] []))) (True ∧ True ∧ V [XV.c (CV.v (Value.bool true))] []))) (True ∧ True ∧ V [XV.c (CV.v (Value.bool true))] []))))) := by
  kernel_rfl
set_option maxRecDepth 100000 in
theorem near_vc (m h l q r d : Int) (w : Int → Nat → Int) (V : List QR.XV → List (List QR.CV) → Prop) : QR.evalBody Tryz.prog (o_near) (fun n => bif Nat.beq n 3 then some (.rounds 4) else none) (Tryz.f112.body.getD .skip) Tryz.f112.results.toList Tryz.f112.ntmps [.x (.c (.v (.int .u16 m))), .x (.agg [.v (.int .u64 h), .v (.int .u64 l), .v (.int .u64 q), .v (.int .u64 r), .v (.int .u64 d)]), .x (.c (.slc 2 3 (.fn fun i j => .v (.int .u16 (w i j)))))] V = (True ∧ True ∧ ∀ (i : Int), i = 3 → True ∧ True ∧ bcond (ilt 0 i) ((true = true ∧ true = true ∧ True) ∧ ∀ (i_1 : Int), i_1 = kpH h l (imul IntKind.u64 (iconv IntKind.u64 (w 0 0)) (iconv IntKind.u64 (w 0 1))) d → ∀ (i_2 : Int), i_2 = kpL h l (imul IntKind.u64 (iconv IntKind.u64 (w 0 0)) (iconv IntKind.u64 (w 0 1))) d → (inU h = true ∧ inU l = true ∧ inU (imul IntKind.u64 (iconv IntKind.u64 (w 0 0)) (iconv IntKind.u64 (w 0 1))) = true ∧ inU d = true ∧ True) ∧ True ∧ True ∧ bcond (ilt 1 i) ((true = true ∧ true = true ∧ True) ∧ ∀ (i_3 : Int), i_3 = kpH i_1 i_2 (imul IntKind.u64 (iconv IntKind.u64 (w 1 0)) (iconv IntKind.u64 (w 1 1))) d → ∀ (i_4 : Int), i_4 = kpL i_1 i_2 (imul IntKind.u64 (iconv IntKind.u64 (w 1 0)) (iconv IntKind.u64 (w 1 1))) d → (inU i_1 = true ∧ inU i_2 = true ∧ inU (imul IntKind.u64 (iconv IntKind.u64 (w 1 0)) (iconv IntKind.u64 (w 1 1))) = true ∧ inU d = true ∧ True) ∧ True ∧ True ∧ bcond (ilt 2 i) ((true = true ∧ true = true ∧ True) ∧ ∀ (i_5 : Int), i_5 = kpH i_3 i_4 (imul IntKind.u64 (iconv IntKind.u64 (w 2 0)) (iconv IntKind.u64 (w 2 1))) d → ∀ (i_6 : Int), i_6 = kpL i_3 i_4 (imul IntKind.u64 (iconv IntKind.u64 (w 2 0)) (iconv IntKind.u64 (w 2 1))) d → (inU i_3 = true ∧ inU i_4 = true ∧ inU (imul IntKind.u64 (iconv IntKind.u64 (w 2 0)) (iconv IntKind.u64 (w 2 1))) = true ∧ inU d = true ∧ True) ∧ True ∧ True ∧ bcond (ilt 3 i) ((true = true ∧ false = true ∧ True) ∧ ∀ (i : Int), i = kpH i_5 i_6 (imul IntKind.u64 (iconv IntKind.u64 (w 3 0)) (iconv IntKind.u64 (w 3 1))) d → ∀ (i : Int), i = kpL i_5 i_6 (imul IntKind.u64 (iconv IntKind.u64 (w 3 0)) (iconv IntKind.u64 (w 3 1))) d → (inU i_5 = true ∧ inU i_6 = true ∧ inU (imul IntKind.u64 (iconv IntKind.u64 (w 3 0)) (iconv IntKind.u64 (w 3 1))) = true ∧ inU d = true ∧ True) ∧ True ∧ False) (bcond (ieq q 0) (True ∧ bcond (ieq i_5 0) (∀ (i : Int), i = hlf i_6 (imul IntKind.u64 (iconv IntKind.u64 m) d) → (inU i_6 = true ∧ inU (imul IntKind.u64 (iconv IntKind.u64 m) d) = true ∧ True) ∧ True ∧ V [XV.c (CV.v (Value.int .u16 (iconv IntKind.u16 i)))] []) (∀ (i : Int), i = hvV i_5 i_6 q r (imul IntKind.u64 (iconv IntKind.u64 m) d) → (zz272 i_5 i_6 q r m d) ∧ True ∧ True ∧ V [XV.c (CV.v (Value.int .u16 (iconv IntKind.u16 i)))] [])) (True ∧ ∀ (i : Int), i = hvV i_5 i_6 q r (imul IntKind.u64 (iconv IntKind.u64 m) d) → (zz272 i_5 i_6 q r m d) ∧ True ∧ True ∧ V [XV.c (CV.v (Value.int .u16 (iconv IntKind.u16 i)))] []))) (bcond (ieq q 0) (True ∧ bcond (ieq i_3 0) (∀ (i : Int), i = hlf i_4 (imul IntKind.u64 (iconv IntKind.u64 m) d) → (inU i_4 = true ∧ inU (imul IntKind.u64 (iconv IntKind.u64 m) d) = true ∧ True) ∧ True ∧ V [XV.c (CV.v (Value.int .u16 (iconv IntKind.u16 i)))] []) (∀ (i : Int), i = hvV i_3 i_4 q r (imul IntKind.u64 (iconv IntKind.u64 m) d) → (zz272 i_3 i_4 q r m d) ∧ True ∧ True ∧ V [XV.c (CV.v (Value.int .u16 (iconv IntKind.u16 i)))] [])) (True ∧ ∀ (i : Int), i = hvV i_3 i_4 q r (imul IntKind.u64 (iconv IntKind.u64 m) d) → (zz272 i_3 i_4 q r m d) ∧ True ∧ True ∧ V [XV.c (CV.v (Value.int .u16 (iconv IntKind.u16 i)))] []))) (bcond (ieq q 0) (True ∧ bcond (ieq i_1 0) (∀ (i : Int), i = hlf i_2 (imul IntKind.u64 (iconv IntKind.u64 m) d) → (inU i_2 = true ∧ inU (imul IntKind.u64 (iconv IntKind.u64 m) d) = true ∧ True) ∧ True ∧ V [XV.c (CV.v (Value.int .u16 (iconv IntKind.u16 i)))] []) (∀ (i : Int), i = hvV i_1 i_2 q r (imul IntKind.u64 (iconv IntKind.u64 m) d) → (zz272 i_1 i_2 q r m d) ∧ True ∧ True ∧ V [XV.c (CV.v (Value.int .u16 (iconv IntKind.u16 i)))] [])) (True ∧ ∀ (i : Int), i = hvV i_1 i_2 q r (imul IntKind.u64 (iconv IntKind.u64 m) d) → (zz272 i_1 i_2 q r m d) ∧ True ∧ True ∧ V [XV.c (CV.v (Value.int .u16 (iconv IntKind.u16 i)))] []))) (bcond (ieq q 0) (True ∧ bcond (ieq h 0) (∀ (i : Int), i = hlf l (imul IntKind.u64 (iconv IntKind.u64 m) d) → (inU l = true ∧ inU (imul IntKind.u64 (iconv IntKind.u64 m) d) = true ∧ True) ∧ True ∧ V [XV.c (CV.v (Value.int .u16 (iconv IntKind.u16 i)))] []) (∀ (i : Int), i = hvV h l q r (imul IntKind.u64 (iconv IntKind.u64 m) d) → (zz272 h l q r m d) ∧ True ∧ True ∧ V [XV.c (CV.v (Value.int .u16 (iconv IntKind.u16 i)))] [])) (True ∧ ∀ (i : Int), i = hvV h l q r (imul IntKind.u64 (iconv IntKind.u64 m) d) → (zz272 h l q r m d) ∧ True ∧ True ∧ V [XV.c (CV.v (Value.int .u16 (iconv IntKind.u16 i)))] []))) := by
  delta zz272
  try delta o_near
  try delta s_kplus
  try delta s_half
  try delta s_halfX
  generalize @hlf = hlf
  generalize @hvOk = hvOk
  generalize @hvV = hvV
  generalize @inU = inU
  generalize @kpH = kpH
  generalize @kpL = kpL
  kernel_rfl
set_option maxRecDepth 100000 in
theorem kcol_vc (k m s a f c d b : Int) (V : List QR.XV → List (List QR.CV) → Prop) : QR.evalBody Tryz.prog (o_kcol) (QR.noLoops) (Tryz.f92.body.getD .skip) Tryz.f92.results.toList Tryz.f92.ntmps [.x (.c (.v (.int .i64 k))), .x (.c (.v (.int .u16 m))), .x (.c (.v (.int .u16 s))), .x (.c (.v (.int .u16 a))), .x (.c (.v (.int .u16 f))), .x (.c (.v (.int .u16 c))), .x (.c (.v (.int .u16 d))), .x (.c (.v (.int .u16 b)))] V = (True ∧ ∀ (i : Int), i = 0 → ∀ (i_1 : Int), i_1 = blP k s a d b → ∀ (i_2 : Int), i_2 = blQ k s a d b → ∀ (i_3 : Int), i_3 = blR k s a d b → ∀ (i_4 : Int), i_4 = blD k s a d b → (in16 s = true ∧ in16 a = true ∧ in16 d = true ∧ in16 b = true ∧ True) ∧ bcond (bnot (blOk k s a d b)) (True ∧ True ∧ True ∧ V [XV.c (CV.v (Value.int .u16 0)), XV.c (CV.v (Value.bool false))] []) ((true = true ∧ intRow IntKind.u16 1 2 (QR.Row.upd (QR.Row.upd (QR.Row.zer [Value.int .u16 0]) 0 0 (CV.v (Value.int .u16 c))) 1 0 (CV.v (Value.int .u16 b))) ∧ True) ∧ bcond (bnot (kaOk m a f (isel false b (isel true c 0)) (isel true b (isel false c 0)))) (True ∧ True ∧ V [XV.c (CV.v (Value.int .u16 0)), XV.c (CV.v (Value.bool false))] []) (∀ (i_5 : Int), i_5 = nearV m i_2 i_3 i_4 (nrH i i_1 i_4 (sp3 (isel false (isub IntKind.u16 m b) (isel false (isub IntKind.u16 f a) (isel true (isub IntKind.u16 m f) 0))) (isel false s (isel false d (isel true c 0))) (isel false (isub IntKind.u16 m b) (isel true (isub IntKind.u16 f a) (isel false (isub IntKind.u16 m f) 0))) (isel false s (isel true d (isel false c 0))) (isel true (isub IntKind.u16 m b) (isel false (isub IntKind.u16 f a) (isel false (isub IntKind.u16 m f) 0))) (isel true s (isel false d (isel false c 0))))) (nrL i i_1 i_4 (sp3 (isel false (isub IntKind.u16 m b) (isel false (isub IntKind.u16 f a) (isel true (isub IntKind.u16 m f) 0))) (isel false s (isel false d (isel true c 0))) (isel false (isub IntKind.u16 m b) (isel true (isub IntKind.u16 f a) (isel false (isub IntKind.u16 m f) 0))) (isel false s (isel true d (isel false c 0))) (isel true (isub IntKind.u16 m b) (isel false (isub IntKind.u16 f a) (isel false (isub IntKind.u16 m f) 0))) (isel true s (isel false d (isel false c 0))))) → (true = true ∧ intRow IntKind.u16 2 3 (QR.Row.upd (QR.Row.upd (QR.Row.upd (QR.Row.upd (QR.Row.upd (QR.Row.upd (QR.Row.zer [Value.int .u16 0, Value.int .u16 0]) 0 0 (CV.v (Value.int .u16 (isub IntKind.u16 m f)))) 0 1 (CV.v (Value.int .u16 c))) 1 0 (CV.v (Value.int .u16 (isub IntKind.u16 f a)))) 1 1 (CV.v (Value.int .u16 d))) 2 0 (CV.v (Value.int .u16 (isub IntKind.u16 m b)))) 2 1 (CV.v (Value.int .u16 s))) ∧ in16 m = true ∧ inU i = true ∧ inU i_1 = true ∧ inU i_2 = true ∧ inU i_3 = true ∧ inU i_4 = true ∧ in16 (isel false (isub IntKind.u16 m b) (isel false (isub IntKind.u16 f a) (isel true (isub IntKind.u16 m f) 0))) = true ∧ in16 (isel false s (isel false d (isel true c 0))) = true ∧ in16 (isel false (isub IntKind.u16 m b) (isel true (isub IntKind.u16 f a) (isel false (isub IntKind.u16 m f) 0))) = true ∧ in16 (isel false s (isel true d (isel false c 0))) = true ∧ in16 (isel true (isub IntKind.u16 m b) (isel false (isub IntKind.u16 f a) (isel false (isub IntKind.u16 m f) 0))) = true ∧ in16 (isel true s (isel false d (isel false c 0))) = true ∧ True) ∧ True ∧ V [XV.c (CV.v (Value.int .u16 i_5)), XV.c (CV.v (Value.bool true))] []))) := by
  try delta o_kcol
  try delta s_bl
  try delta s_kperm
  try delta s_near
  generalize @blD = blD
  generalize @blOk = blOk
  generalize @blP = blP
  generalize @blQ = blQ
  generalize @blR = blR
  generalize @in16 = in16
  generalize @inU = inU
  generalize @intRow = intRow
  generalize @kaOk = kaOk
  generalize @nearV = nearV
  generalize @nrH = nrH
  generalize @nrL = nrL
  generalize @sp3 = sp3
  kernel_rfl
set_option maxRecDepth 100000 in
theorem kal_vc (m a f acc b : Int) (V : List QR.XV → List (List QR.CV) → Prop) : QR.evalBody Tryz.prog (o_kal) (QR.noLoops) (Tryz.f90.body.getD .skip) Tryz.f90.results.toList Tryz.f90.ntmps [.x (.c (.v (.int .u16 m))), .x (.c (.v (.int .u16 a))), .x (.c (.v (.int .u16 f))), .x (.c (.v (.int .u16 acc))), .x (.c (.v (.int .u16 b)))] V = (True ∧ (true = true ∧ intRow IntKind.u16 1 2 (QR.Row.upd (QR.Row.upd (QR.Row.zer [Value.int .u16 0]) 0 0 (CV.v (Value.int .u16 acc))) 1 0 (CV.v (Value.int .u16 b))) ∧ True) ∧ bcond (bnot (kaOk m a f (isel false b (isel true acc 0)) (isel true b (isel false acc 0)))) (True ∧ True ∧ V [XV.c (CV.v (Value.int .u16 0)), XV.c (CV.v (Value.bool false))] []) (∀ (i : Int), i = nearV m 0 0 1 (nrH 0 0 1 (sp3 (isel false m (isel false (isub IntKind.u16 f a) (isel true (isub IntKind.u16 m f) 0))) (isel false a (isel false b (isel true acc 0))) (isel false m (isel true (isub IntKind.u16 f a) (isel false (isub IntKind.u16 m f) 0))) (isel false a (isel true b (isel false acc 0))) (isel true m (isel false (isub IntKind.u16 f a) (isel false (isub IntKind.u16 m f) 0))) (isel true a (isel false b (isel false acc 0))))) (nrL 0 0 1 (sp3 (isel false m (isel false (isub IntKind.u16 f a) (isel true (isub IntKind.u16 m f) 0))) (isel false a (isel false b (isel true acc 0))) (isel false m (isel true (isub IntKind.u16 f a) (isel false (isub IntKind.u16 m f) 0))) (isel false a (isel true b (isel false acc 0))) (isel true m (isel false (isub IntKind.u16 f a) (isel false (isub IntKind.u16 m f) 0))) (isel true a (isel false b (isel false acc 0))))) → (true = true ∧ intRow IntKind.u16 2 3 (QR.Row.upd (QR.Row.upd (QR.Row.upd (QR.Row.upd (QR.Row.upd (QR.Row.upd (QR.Row.zer [Value.int .u16 0, Value.int .u16 0]) 0 0 (CV.v (Value.int .u16 (isub IntKind.u16 m f)))) 0 1 (CV.v (Value.int .u16 acc))) 1 0 (CV.v (Value.int .u16 (isub IntKind.u16 f a)))) 1 1 (CV.v (Value.int .u16 b))) 2 0 (CV.v (Value.int .u16 m))) 2 1 (CV.v (Value.int .u16 a))) ∧ in16 m = true ∧ inU 0 = true ∧ inU 0 = true ∧ inU 0 = true ∧ inU 0 = true ∧ inU 1 = true ∧ in16 (isel false m (isel false (isub IntKind.u16 f a) (isel true (isub IntKind.u16 m f) 0))) = true ∧ in16 (isel false a (isel false b (isel true acc 0))) = true ∧ in16 (isel false m (isel true (isub IntKind.u16 f a) (isel false (isub IntKind.u16 m f) 0))) = true ∧ in16 (isel false a (isel true b (isel false acc 0))) = true ∧ in16 (isel true m (isel false (isub IntKind.u16 f a) (isel false (isub IntKind.u16 m f) 0))) = true ∧ in16 (isel true a (isel false b (isel false acc 0))) = true ∧ True) ∧ True ∧ V [XV.c (CV.v (Value.int .u16 i)), XV.c (CV.v (Value.bool true))] [])) := by
  try delta o_kal
  try delta s_kperm
  try delta s_near
  generalize @in16 = in16
  generalize @inU = inU
  generalize @intRow = intRow
  generalize @kaOk = kaOk
  generalize @nearV = nearV
  generalize @nrH = nrH
  generalize @nrL = nrL
  generalize @sp3 = sp3
  kernel_rfl
set_option maxRecDepth 100000 in
theorem kown_vc (m a f own : Int) (V : List QR.XV → List (List QR.CV) → Prop) : QR.evalBody Tryz.prog (o_kown) (QR.noLoops) (Tryz.f91.body.getD .skip) Tryz.f91.results.toList Tryz.f91.ntmps [.x (.c (.v (.int .u16 m))), .x (.c (.v (.int .u16 a))), .x (.c (.v (.int .u16 f))), .x (.c (.v (.int .u16 own)))] V = (True ∧ ∀ (i : Int), i = kaV m a f own 0 → (in16 m = true ∧ in16 a = true ∧ in16 f = true ∧ in16 own = true ∧ in16 0 = true ∧ True) ∧ True ∧ V [XV.c (CV.v (Value.int .u16 i)), XV.c (CV.v (Value.bool (kaOk m a f own 0)))] []) := by
  try delta o_kown
  try delta s_kalpha
  generalize @in16 = in16
  generalize @kaOk = kaOk
  generalize @kaV = kaV
  kernel_rfl
end Go.Proofs.YtpjhdjakpbabhaaGreatDoor
