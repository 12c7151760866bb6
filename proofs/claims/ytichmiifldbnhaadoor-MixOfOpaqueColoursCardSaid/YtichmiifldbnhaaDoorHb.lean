/-
  Layer 8 (mix): the conditions of the calls.
-/
import Derived.Test.YtichmiifldbnhaaDoorHa
namespace Go.Proofs.YtichmiifldbnhaaDoor
open Go.RowKit PR QR
set_option linter.unusedVariables false

-- SPEC nmZ nmOk nmH nmL
def nmZ (fa al p d be : Int) : Int := (al * d + p) * fa + be * d
def nmOk (fa al p d be : Int) : Bool := decide ((0 ≤ fa ∧ fa ≤ 65535) ∧ (0 ≤ al ∧ al ≤ 4294836225) ∧ (0 ≤ p ∧ p < 18446744073709551616) ∧ (0 ≤ d ∧ d ≤ 4294836225) ∧ (0 ≤ be ∧ be ≤ 281462092005375))
def nmH (fa al p d be : Int) : Int := hi64 (nmZ fa al p d be)
def nmL (fa al p d be : Int) : Int := lo64 (nmZ fa al p d be)

def s_yes8 : List AV → Option QR.Ans
  | [] => some ⟨[.c (.v (.bool true))], [], []⟩
  | _ => none
def s_full8 : List AV → Option QR.Ans
  | [.x (.c (.v (.int .u16 m)))] => some ⟨[.c (.v (.bool (fullB m)))], [], []⟩
  | _ => none
def s_num8 : List AV → Option QR.Ans
  | [.x (.c (.v (.int .u64 fa))), .x (.c (.v (.int .u64 al))), .x (.agg [.v (.int .u64 h), .v (.int .u64 p), .v (.int .u64 q), .v (.int .u64 r), .v (.int .u64 d)]), .x (.c (.v (.int .u64 be)))] => some ⟨[.agg [.v (.int .u64 (nmH fa al p d be)), .v (.int .u64 (nmL fa al p d be))]], [], [h = 0, nmOk fa al p d be = true]⟩
  | _ => none
def s_mval : List AV → Option QR.Ans
  | [.x (.c (.v (.int .i64 o))), .x (.c (.v (.int .i64 k))), .x (.c (.v (.int .u16 m))), .x (.c (.v (.int .u16 s))), .x (.c (.v (.int .u16 a))), .x (.c (.v (.int .u16 d))), .x (.c (.v (.int .u16 b)))] => some ⟨[.agg [.v (.int .u64 (mxH o k m s a d b)), .v (.int .u64 (mxL o k m s a d b)), .v (.int .u64 (mxQ o k m s a d b)), .v (.int .u64 (mxR o k m s a d b)), .v (.int .u64 (mxD o k m s a d b))], .c (.v (.bool (mxOk o k m s a d b)))], [], [in16 m = true, in16 s = true, in16 a = true, in16 d = true, in16 b = true]⟩
  | _ => none
def s_mcol : List AV → Option QR.Ans
  | [.x (.c (.v (.int .i64 o))), .x (.c (.v (.int .i64 k))), .x (.c (.v (.int .u16 m))), .x (.c (.v (.int .u16 s))), .x (.c (.v (.int .u16 a))), .x (.c (.v (.int .u16 d))), .x (.c (.v (.int .u16 b)))] => some ⟨[.c (.v (.int .u16 (mcV o k m s a d b))), .c (.v (.bool (mxOk o k m s a d b)))], [], [in16 m = true, in16 s = true, in16 a = true, in16 d = true, in16 b = true]⟩
  | _ => none

def o_num8 : QR.Oracle := QR.orc [(46, QR.lift1 s_mul), (45, QR.lift1 s_add), (38, QR.lift1 s_mulsmall)]
def o_val8 : QR.Oracle := QR.orc [(24, s_factors), (25, s_bl), (26, s_full8), (27, s_num8)]
def o_col8 : QR.Oracle := QR.orc [(16, s_mval), (23, QR.lift1 s_halfX)]
def o_rval8 : QR.Oracle := QR.orc [(29, s_factors), (28, s_bl), (30, s_full8), (32, s_wide6), (33, QR.lift1 s_add), (31, QR.lift1 s_mulsmall)]
def o_rcol8 : QR.Oracle := QR.orc [(17, s_mval), (18, QR.lift1 s_halfX)]
set_option maxRecDepth 100000 in
theorem depth8_vc (m : Int) (V : List QR.XV → List (List QR.CV) → Prop) : QR.evalBody Tryd.prog (QR.orc []) (QR.noLoops) (Tryd.f26.body.getD .skip) Tryd.f26.results.toList Tryd.f26.ntmps [.x (.c (.v (.int .u16 m)))] V = (True ∧ bcond (ieq m 255) (True ∧ True ∧ V [XV.c (CV.v (Value.bool true))] []) (True ∧ True ∧ V [XV.c (CV.v (Value.bool (ieq m 65535)))] [])) := by
  kernel_rfl
set_option maxRecDepth 100000 in
theorem full8_vc (m : Int) (V : List QR.XV → List (List QR.CV) → Prop) : QR.evalBody Tryd.prog (QR.orc []) (QR.noLoops) (Tryd.f30.body.getD .skip) Tryd.f30.results.toList Tryd.f30.ntmps [.x (.c (.v (.int .u16 m)))] V = (True ∧ bcond (ieq m 255) (True ∧ True ∧ V [XV.c (CV.v (Value.bool true))] []) (True ∧ True ∧ V [XV.c (CV.v (Value.bool (ieq m 65535)))] [])) := by
  kernel_rfl
set_option maxRecDepth 100000 in
theorem num8_vc (fa al h p q r d be : Int) (V : List QR.XV → List (List QR.CV) → Prop) : QR.evalBody Tryd.prog (o_num8) (QR.noLoops) (Tryd.f27.body.getD .skip) Tryd.f27.results.toList Tryd.f27.ntmps [.x (.c (.v (.int .u64 fa))), .x (.c (.v (.int .u64 al))), .x (.agg [.v (.int .u64 h), .v (.int .u64 p), .v (.int .u64 q), .v (.int .u64 r), .v (.int .u64 d)]), .x (.c (.v (.int .u64 be)))] V = (True ∧ ∀ (i : Int), i = wmH al d → ∀ (i_1 : Int), i_1 = wmL al d → ∀ (i_2 : Int), i_2 = waH i i_1 h p → ∀ (i_3 : Int), i_3 = waL i i_1 h p → (inU i = true ∧ inU i_1 = true ∧ inU h = true ∧ inU p = true ∧ inU al = true ∧ inU d = true ∧ True) ∧ ∀ (i : Int), i = wkH i_2 i_3 fa → ∀ (i_4 : Int), i_4 = wkL i_2 i_3 fa → (inU i_2 = true ∧ inU i_3 = true ∧ inU fa = true ∧ True) ∧ ∀ (i_5 : Int), i_5 = wmH be d → ∀ (i_6 : Int), i_6 = wmL be d → ∀ (i_7 : Int), i_7 = waH i i_4 i_5 i_6 → ∀ (i_8 : Int), i_8 = waL i i_4 i_5 i_6 → (inU i = true ∧ inU i_4 = true ∧ inU i_5 = true ∧ inU i_6 = true ∧ inU be = true ∧ inU d = true ∧ True) ∧ True ∧ True ∧ V [XV.agg [CV.v (Value.int .u64 i_7), CV.v (Value.int .u64 i_8)]] []) := by
  try delta o_num8
  try delta s_mul
  try delta s_add
  try delta s_mulsmall
  generalize @inU = inU
  generalize @waH = waH
  generalize @waL = waL
  generalize @waOk = waOk
  generalize @wkH = wkH
  generalize @wkL = wkL
  generalize @wkOk = wkOk
  generalize @wmH = wmH
  generalize @wmL = wmL
  kernel_rfl
set_option maxRecDepth 100000 in
theorem mval_vc (o k m s a d b : Int) (V : List QR.XV → List (List QR.CV) → Prop) : QR.evalBody Tryd.prog (o_val8) (QR.noLoops) (Tryd.f16.body.getD .skip) Tryd.f16.results.toList Tryd.f16.ntmps [.x (.c (.v (.int .i64 o))), .x (.c (.v (.int .i64 k))), .x (.c (.v (.int .u16 m))), .x (.c (.v (.int .u16 s))), .x (.c (.v (.int .u16 a))), .x (.c (.v (.int .u16 d))), .x (.c (.v (.int .u16 b)))] V = (True ∧ ∀ (i : Int), i = faV o a b m → ∀ (i_1 : Int), i_1 = fbV o a b m → (in16 a = true ∧ in16 b = true ∧ in16 m = true ∧ True) ∧ ∀ (i_2 : Int), i_2 = 0 → ∀ (i_3 : Int), i_3 = blP k s a d b → ∀ (i_4 : Int), i_4 = blQ k s a d b → ∀ (i_5 : Int), i_5 = blR k s a d b → ∀ (i_6 : Int), i_6 = blD k s a d b → (in16 s = true ∧ in16 a = true ∧ in16 d = true ∧ in16 b = true ∧ True) ∧ bcond (bnot (opOk7 o a b m)) (True ∧ True ∧ True ∧ V [XV.agg [CV.v (Value.int .u64 0), CV.v (Value.int .u64 0), CV.v (Value.int .u64 0), CV.v (Value.int .u64 0), CV.v (Value.int .u64 0)], XV.c (CV.v (Value.bool false))] []) (bcond (bnot (blOk k s a d b)) (True ∧ True ∧ True ∧ V [XV.agg [CV.v (Value.int .u64 0), CV.v (Value.int .u64 0), CV.v (Value.int .u64 0), CV.v (Value.int .u64 0), CV.v (Value.int .u64 0)], XV.c (CV.v (Value.bool false))] []) (True ∧ bcond (bnot (fullB m)) (True ∧ True ∧ V [XV.agg [CV.v (Value.int .u64 0), CV.v (Value.int .u64 0), CV.v (Value.int .u64 0), CV.v (Value.int .u64 0), CV.v (Value.int .u64 0)], XV.c (CV.v (Value.bool false))] []) (True ∧ True ∧ ∀ (i_7 : Int), i_7 = nmH (iconv IntKind.u64 i) (imul IntKind.u64 (iconv IntKind.u64 (isub IntKind.u16 m b)) (iconv IntKind.u64 s)) i_3 i_6 (imul IntKind.u64 (imul IntKind.u64 (iconv IntKind.u64 i_1) (iconv IntKind.u64 d)) (iconv IntKind.u64 m)) → ∀ (i_8 : Int), i_8 = nmL (iconv IntKind.u64 i) (imul IntKind.u64 (iconv IntKind.u64 (isub IntKind.u16 m b)) (iconv IntKind.u64 s)) i_3 i_6 (imul IntKind.u64 (imul IntKind.u64 (iconv IntKind.u64 i_1) (iconv IntKind.u64 d)) (iconv IntKind.u64 m)) → (i_2 = 0 ∧ nmOk (iconv IntKind.u64 i) (imul IntKind.u64 (iconv IntKind.u64 (isub IntKind.u16 m b)) (iconv IntKind.u64 s)) i_3 i_6 (imul IntKind.u64 (imul IntKind.u64 (iconv IntKind.u64 i_1) (iconv IntKind.u64 d)) (iconv IntKind.u64 m)) = true ∧ True) ∧ True ∧ V [XV.agg [CV.v (Value.int .u64 i_7), CV.v (Value.int .u64 i_8), CV.v (Value.int .u64 (imul IntKind.u64 (iconv IntKind.u64 i) i_4)), CV.v (Value.int .u64 i_5), CV.v (Value.int .u64 (imul IntKind.u64 (imul IntKind.u64 (iconv IntKind.u64 m) (iconv IntKind.u64 m)) i_6))], XV.c (CV.v (Value.bool true))] [])))) := by
  try delta o_val8
  try delta s_factors
  try delta s_bl
  try delta s_full8
  try delta s_num8
  generalize @blD = blD
  generalize @blOk = blOk
  generalize @blP = blP
  generalize @blQ = blQ
  generalize @blR = blR
  generalize @faV = faV
  generalize @fbV = fbV
  generalize @fullB = fullB
  generalize @in16 = in16
  generalize @nmH = nmH
  generalize @nmL = nmL
  generalize @nmOk = nmOk
  generalize @opOk7 = opOk7
  kernel_rfl
set_option maxRecDepth 100000 in
theorem mcol_vc (o k m s a d b : Int) (V : List QR.XV → List (List QR.CV) → Prop) : QR.evalBody Tryd.prog (o_col8) (QR.noLoops) (Tryd.f13.body.getD .skip) Tryd.f13.results.toList Tryd.f13.ntmps [.x (.c (.v (.int .i64 o))), .x (.c (.v (.int .i64 k))), .x (.c (.v (.int .u16 m))), .x (.c (.v (.int .u16 s))), .x (.c (.v (.int .u16 a))), .x (.c (.v (.int .u16 d))), .x (.c (.v (.int .u16 b)))] V = (True ∧ ∀ (i : Int), i = mxH o k m s a d b → ∀ (i_1 : Int), i_1 = mxL o k m s a d b → ∀ (i_2 : Int), i_2 = mxQ o k m s a d b → ∀ (i_3 : Int), i_3 = mxR o k m s a d b → ∀ (i_4 : Int), i_4 = mxD o k m s a d b → (in16 m = true ∧ in16 s = true ∧ in16 a = true ∧ in16 d = true ∧ in16 b = true ∧ True) ∧ True ∧ bcond (bnot (mxOk o k m s a d b)) (True ∧ True ∧ V [XV.c (CV.v (Value.int .u16 0)), XV.c (CV.v (Value.bool false))] []) (∀ (i_5 : Int), i_5 = hvV i i_1 i_2 i_3 i_4 → (inU i = true ∧ inU i_1 = true ∧ inU i_2 = true ∧ inU i_3 = true ∧ inU i_4 = true ∧ True) ∧ True ∧ True ∧ V [XV.c (CV.v (Value.int .u16 (iconv IntKind.u16 i_5))), XV.c (CV.v (Value.bool true))] [])) := by
  try delta o_col8
  try delta s_mval
  try delta s_halfX
  generalize @hvOk = hvOk
  generalize @hvV = hvV
  generalize @in16 = in16
  generalize @inU = inU
  generalize @mxD = mxD
  generalize @mxH = mxH
  generalize @mxL = mxL
  generalize @mxOk = mxOk
  generalize @mxQ = mxQ
  generalize @mxR = mxR
  kernel_rfl
set_option maxRecDepth 100000 in
theorem rmval_vc (o k m s a d b : Int) (V : List QR.XV → List (List QR.CV) → Prop) : QR.evalBody Tryd.prog (o_rval8) (QR.noLoops) (Tryd.f17.body.getD .skip) Tryd.f17.results.toList Tryd.f17.ntmps [.x (.c (.v (.int .i64 o))), .x (.c (.v (.int .i64 k))), .x (.c (.v (.int .u16 m))), .x (.c (.v (.int .u16 s))), .x (.c (.v (.int .u16 a))), .x (.c (.v (.int .u16 d))), .x (.c (.v (.int .u16 b)))] V = (True ∧ ∀ (i : Int), i = 0 → ∀ (i_1 : Int), i_1 = blP k s a d b → ∀ (i_2 : Int), i_2 = blQ k s a d b → ∀ (i_3 : Int), i_3 = blR k s a d b → ∀ (i_4 : Int), i_4 = blD k s a d b → (in16 s = true ∧ in16 a = true ∧ in16 d = true ∧ in16 b = true ∧ True) ∧ ∀ (i_5 : Int), i_5 = faV o a b m → ∀ (i_6 : Int), i_6 = fbV o a b m → (in16 a = true ∧ in16 b = true ∧ in16 m = true ∧ True) ∧ bcond (bnot (blOk k s a d b)) (True ∧ True ∧ True ∧ V [XV.agg [CV.v (Value.int .u64 0), CV.v (Value.int .u64 0), CV.v (Value.int .u64 0), CV.v (Value.int .u64 0), CV.v (Value.int .u64 0)], XV.c (CV.v (Value.bool false))] []) (bcond (bnot (opOk7 o a b m)) (True ∧ True ∧ True ∧ V [XV.agg [CV.v (Value.int .u64 0), CV.v (Value.int .u64 0), CV.v (Value.int .u64 0), CV.v (Value.int .u64 0), CV.v (Value.int .u64 0)], XV.c (CV.v (Value.bool false))] []) (True ∧ bcond (bnot (fullB m)) (True ∧ True ∧ V [XV.agg [CV.v (Value.int .u64 0), CV.v (Value.int .u64 0), CV.v (Value.int .u64 0), CV.v (Value.int .u64 0), CV.v (Value.int .u64 0)], XV.c (CV.v (Value.bool false))] []) (True ∧ ∀ (i_7 : Int), i_7 = wkH i i_1 (iconv IntKind.u64 i_5) → ∀ (i_8 : Int), i_8 = wkL i i_1 (iconv IntKind.u64 i_5) → (inU i = true ∧ inU i_1 = true ∧ inU (iconv IntKind.u64 i_5) = true ∧ True) ∧ ∀ (i : Int), i = wdH (imul IntKind.u64 (isub IntKind.u64 (iconv IntKind.u64 m) (iconv IntKind.u64 b)) (iconv IntKind.u64 s)) (iconv IntKind.u64 i_5) i_4 → ∀ (i_9 : Int), i_9 = wdL (imul IntKind.u64 (isub IntKind.u64 (iconv IntKind.u64 m) (iconv IntKind.u64 b)) (iconv IntKind.u64 s)) (iconv IntKind.u64 i_5) i_4 → (inU (imul IntKind.u64 (isub IntKind.u64 (iconv IntKind.u64 m) (iconv IntKind.u64 b)) (iconv IntKind.u64 s)) = true ∧ inU (iconv IntKind.u64 i_5) = true ∧ inU i_4 = true ∧ wdOk (imul IntKind.u64 (isub IntKind.u64 (iconv IntKind.u64 m) (iconv IntKind.u64 b)) (iconv IntKind.u64 s)) (iconv IntKind.u64 i_5) i_4 = true ∧ True) ∧ ∀ (i_10 : Int), i_10 = wdH (imul IntKind.u64 (iconv IntKind.u64 i_6) (iconv IntKind.u64 d)) (iconv IntKind.u64 m) i_4 → ∀ (i_11 : Int), i_11 = wdL (imul IntKind.u64 (iconv IntKind.u64 i_6) (iconv IntKind.u64 d)) (iconv IntKind.u64 m) i_4 → (inU (imul IntKind.u64 (iconv IntKind.u64 i_6) (iconv IntKind.u64 d)) = true ∧ inU (iconv IntKind.u64 m) = true ∧ inU i_4 = true ∧ wdOk (imul IntKind.u64 (iconv IntKind.u64 i_6) (iconv IntKind.u64 d)) (iconv IntKind.u64 m) i_4 = true ∧ True) ∧ ∀ (i_12 : Int), i_12 = waH i_7 i_8 i i_9 → ∀ (i_13 : Int), i_13 = waL i_7 i_8 i i_9 → (inU i_7 = true ∧ inU i_8 = true ∧ inU i = true ∧ inU i_9 = true ∧ True) ∧ ∀ (i : Int), i = waH i_12 i_13 i_10 i_11 → ∀ (i_14 : Int), i_14 = waL i_12 i_13 i_10 i_11 → (inU i_12 = true ∧ inU i_13 = true ∧ inU i_10 = true ∧ inU i_11 = true ∧ True) ∧ True ∧ True ∧ V [XV.agg [CV.v (Value.int .u64 i), CV.v (Value.int .u64 i_14), CV.v (Value.int .u64 (imul IntKind.u64 (iconv IntKind.u64 i_5) i_2)), CV.v (Value.int .u64 i_3), CV.v (Value.int .u64 (imul IntKind.u64 (imul IntKind.u64 (iconv IntKind.u64 m) (iconv IntKind.u64 m)) i_4))], XV.c (CV.v (Value.bool true))] [])))) := by
  try delta o_rval8
  try delta s_factors
  try delta s_bl
  try delta s_full8
  try delta s_wide6
  try delta s_add
  try delta s_mulsmall
  generalize @blD = blD
  generalize @blOk = blOk
  generalize @blP = blP
  generalize @blQ = blQ
  generalize @blR = blR
  generalize @faV = faV
  generalize @fbV = fbV
  generalize @fullB = fullB
  generalize @in16 = in16
  generalize @inU = inU
  generalize @opOk7 = opOk7
  generalize @waH = waH
  generalize @waL = waL
  generalize @waOk = waOk
  generalize @wdH = wdH
  generalize @wdL = wdL
  generalize @wdOk = wdOk
  generalize @wkH = wkH
  generalize @wkL = wkL
  generalize @wkOk = wkOk
  kernel_rfl
set_option maxRecDepth 100000 in
theorem rmcol_vc (o k m s a d b : Int) (V : List QR.XV → List (List QR.CV) → Prop) : QR.evalBody Tryd.prog (o_rcol8) (QR.noLoops) (Tryd.f14.body.getD .skip) Tryd.f14.results.toList Tryd.f14.ntmps [.x (.c (.v (.int .i64 o))), .x (.c (.v (.int .i64 k))), .x (.c (.v (.int .u16 m))), .x (.c (.v (.int .u16 s))), .x (.c (.v (.int .u16 a))), .x (.c (.v (.int .u16 d))), .x (.c (.v (.int .u16 b)))] V = (True ∧ ∀ (i : Int), i = mxH o k m s a d b → ∀ (i_1 : Int), i_1 = mxL o k m s a d b → ∀ (i_2 : Int), i_2 = mxQ o k m s a d b → ∀ (i_3 : Int), i_3 = mxR o k m s a d b → ∀ (i_4 : Int), i_4 = mxD o k m s a d b → (in16 m = true ∧ in16 s = true ∧ in16 a = true ∧ in16 d = true ∧ in16 b = true ∧ True) ∧ True ∧ bcond (bnot (mxOk o k m s a d b)) (True ∧ True ∧ V [XV.c (CV.v (Value.int .u16 0)), XV.c (CV.v (Value.bool false))] []) (∀ (i_5 : Int), i_5 = hvV i i_1 i_2 i_3 i_4 → (inU i = true ∧ inU i_1 = true ∧ inU i_2 = true ∧ inU i_3 = true ∧ inU i_4 = true ∧ True) ∧ True ∧ True ∧ V [XV.c (CV.v (Value.int .u16 (iconv IntKind.u16 i_5))), XV.c (CV.v (Value.bool true))] [])) := by
  try delta o_rcol8
  try delta s_mval
  try delta s_halfX
  generalize @hvOk = hvOk
  generalize @hvV = hvV
  generalize @in16 = in16
  generalize @inU = inU
  generalize @mxD = mxD
  generalize @mxH = mxH
  generalize @mxL = mxL
  generalize @mxOk = mxOk
  generalize @mxQ = mxQ
  generalize @mxR = mxR
  kernel_rfl
end Go.Proofs.YtichmiifldbnhaaDoor
