/-
  Layer 4 (unit) and its specification: the conditions of the calls.
-/
import Derived.Test.YtljjffcjoohgfaaSp
namespace Go.Proofs.Ytljjffcjoohgfaa
open Go.RowKit PR
set_option linter.unusedVariables false

-- SPEC b64 u64f rnV ptS ptE ptD okB in16 ffC ffV ffOk inF tfOk tfV infB gxMax rfM rfP rfN rfGood rfGood2 rfMu rfS modOk hi64 lo64
def in16 (a : Int) : Bool := decide (0 ≤ a ∧ a < 65536)
def inF (x : Nat) : Bool := decide (x < 18446744073709551616)
def b64 (x : Nat) : Int := x
def u64f (n : Int) : Nat := n.toNat
/-- what a word of a number from 0 to 1 stands for, in units of 2^-1074 -/
def rnV (x : Nat) : Nat := if x < 4503599627370496 then x else (4503599627370496 + x % 4503599627370496) * 2 ^ (x / 4503599627370496 - 1)
def ptS (x : Nat) : Int := if x < 4503599627370496 then x else ((4503599627370496 + x % 4503599627370496 : Nat) : Int)
def ptE (x : Nat) : Nat := if x < 4503599627370496 then 1 else x / 4503599627370496
def ptD (x : Nat) : Int := 1022 - (ptE x : Int)
def okB (x : Nat) : Bool := decide (x < 4607182418800017408)
def ffC (x : Nat) (m : Int) : Int := (2 * (rnV x : Int) * m + 2 ^ 1074) / 2 ^ 1075
def ffOk (x : Nat) : Bool := bnot (fne .f64 x x)
def ffV (x : Nat) (m : Int) : Int := bif fne .f64 x x then 0 else bif fle .f64 x 0 then 0 else bif fge .f64 x 4607182418800017408 then m else ffC x m
def tfOk (v m : Int) : Bool := decide (0 < m ∧ v ≤ m)
def tfV (v m : Int) : Nat := bif tfOk v m then fop .quo .f64 (fofi .f64 v) (fofi .f64 m) else 0
def infB (s : Int) : Nat := bif ige s 0 then 9218868437227405312 else 18442240474082181120
def gxMax (n : Int) : Int := if n % 3 = 2 then 65535 else 255

def s_f64bits : List Value → Option (Value × List Bool)
  | [.float .f64 x] => some (.int .u64 (b64 x), [])
  | _ => none
def s_frombits : List Value → Option (Value × List Bool)
  | [.int .u64 n] => some (.float .f64 (u64f n), [])
  | _ => none
def s_isnan : List Value → Option (Value × List Bool)
  | [.float .f64 x] => some (.bool (fne .f64 x x), [])
  | _ => none
def s_parts : List Value → Option (Value × List Bool)
  | [.float .f64 x] => some (.tuple #[.int .u64 (ptS x), .int .u64 (ptD x)], [okB x])
  | _ => none
def s_from : List Value → Option (Value × List Bool)
  | [.float .f64 x, .int .u16 m] => some (.tuple #[.int .u16 (ffV x m), .bool (ffOk x)], [inF x, in16 m])
  | _ => none
def s_tofloat : List Value → Option (Value × List Bool)
  | [.int .u16 v, .int .u16 m] => some (.tuple #[.float .f64 (tfV v m), .bool (tfOk v m)], [in16 v, in16 m])
  | _ => none
def s_nan : List Value → Option (Value × List Bool)
  | [] => some (.float .f64 9221120237041090561, [])
  | _ => none
def s_inf : List Value → Option (Value × List Bool)
  | [.int .i64 n] => some (.float .f64 (infB n), [])
  | _ => none
def s_copysign : List Value → Option (Value × List Bool)
  | [.float .f64 x, .float .f64 y] => some (.float .f64 9223372036854775808, [Nat.beq x 0, Nat.beq y 13830554455654793216])
  | _ => none
def s_gmax : List Value → Option (Value × List Bool)
  | [.int .i64 n] => some (.int .u16 (gxMax n), [])
  | _ => none
def s_yes : List Value → Option (Value × List Bool)
  | [] => some (.bool true, [])
  | _ => none

def o_bits : Oracle := orc [(11, s_f64bits), (10, s_frombits)]
set_option maxRecDepth 100000 in
theorem isnan_vc (x : Nat) (V : Value → Prop) : evalBody Try.prog (orc []) (noLoops) (Try.f19.body.getD .skip) Try.f19.results.toList Try.f19.ntmps [.float .f64 x] V = (True ∧ V (Value.bool (fne FloatKind.f64 x x))) := by
  kernel_rfl
set_option maxRecDepth 100000 in
theorem nan_vc  (V : Value → Prop) : evalBody Try.prog (o_bits) (noLoops) (Try.f25.body.getD .skip) Try.f25.results.toList Try.f25.ntmps [] V = (True ∧ V (Value.float FloatKind.f64 (u64f 9221120237041090561))) := by
  try delta o_bits
  try delta s_f64bits
  try delta s_frombits
  generalize @b64 = b64
  generalize @u64f = u64f
  kernel_rfl
set_option maxRecDepth 100000 in
theorem inf_vc (n : Int) (V : Value → Prop) : evalBody Try.prog (o_bits) (noLoops) (Try.f15.body.getD .skip) Try.f15.results.toList Try.f15.ntmps [.int .i64 n] V = (bcond (ige n 0) (True ∧ V (Value.float FloatKind.f64 (u64f 9218868437227405312))) (True ∧ V (Value.float FloatKind.f64 (u64f 18442240474082181120)))) := by
  try delta o_bits
  try delta s_f64bits
  try delta s_frombits
  generalize @b64 = b64
  generalize @u64f = u64f
  kernel_rfl
set_option maxRecDepth 100000 in
theorem copysign_vc (x y : Nat) (V : Value → Prop) : evalBody Try.prog (o_bits) (noLoops) (Try.f16.body.getD .skip) Try.f16.results.toList Try.f16.ntmps [.float .f64 x, .float .f64 y] V = (True ∧ V (Value.float FloatKind.f64 (u64f (ior IntKind.u64 (iandn IntKind.u64 (b64 x) 9223372036854775808) (iand IntKind.u64 (b64 y) 9223372036854775808))))) := by
  try delta o_bits
  try delta s_f64bits
  try delta s_frombits
  generalize @b64 = b64
  generalize @u64f = u64f
  kernel_rfl
set_option maxRecDepth 100000 in
theorem parts_vc (x : Nat) (V : Value → Prop) : evalBody Try.prog (o_bits) (noLoops) (Try.f20.body.getD .skip) Try.f20.results.toList Try.f20.ntmps [.float .f64 x] V = (bcond (ieq (ishr IntKind.u64 (b64 x) 52) 0) ((true = true ∧ True) ∧ V (Value.tuple #[Value.int .u64 (iand IntKind.u64 (b64 x) 4503599627370495), Value.int .u64 1021])) ((true = true ∧ True) ∧ V (Value.tuple #[Value.int .u64 (ior IntKind.u64 (iand IntKind.u64 (b64 x) 4503599627370495) 4503599627370496), Value.int .u64 (isub IntKind.u64 1022 (ishr IntKind.u64 (b64 x) 52))]))) := by
  try delta o_bits
  try delta s_f64bits
  try delta s_frombits
  generalize @b64 = b64
  generalize @u64f = u64f
  kernel_rfl
def o_from : Oracle := orc [(19, s_isnan), (20, s_parts), (22, s_mul), (21, s_divmod)]
set_option maxRecDepth 100000 in
theorem from_vc (x : Nat) (m : Int) (V : Value → Prop) : evalBody Try.prog (o_from) (noLoops) (Try.f12.body.getD .skip) Try.f12.results.toList Try.f12.ntmps [.float .f64 x, .int .u16 m] V = (bcond (fne FloatKind.f64 x x) (True ∧ V (Value.tuple #[Value.int .u16 0, Value.bool false])) (bcond (fle FloatKind.f64 x 0) (True ∧ V (Value.tuple #[Value.int .u16 0, Value.bool true])) (bcond (fge FloatKind.f64 x 4607182418800017408) (True ∧ V (Value.tuple #[Value.int .u16 m, Value.bool true])) ((true = true ∧ ige (ptD x) 0 = true ∧ inU (wmH (ptS x) (iconv IntKind.u64 m)) = true ∧ inU (wmL (ptS x) (iconv IntKind.u64 m)) = true ∧ inU 4503599627370496 = true ∧ true = true ∧ inU (ptS x) = true ∧ inU (iconv IntKind.u64 m) = true ∧ okB x = true ∧ True) ∧ V (Value.tuple #[Value.int .u16 (iconv IntKind.u16 (iquo IntKind.u64 (iadd IntKind.u64 (ishr IntKind.u64 (wqL (wmH (ptS x) (iconv IntKind.u64 m)) (wmL (ptS x) (iconv IntKind.u64 m)) 4503599627370496) (ptD x)) 1) 2)), Value.bool true]))))) := by
  try delta o_from
  try delta s_isnan
  try delta s_parts
  try delta s_mul
  try delta s_divmod
  generalize @inU = inU
  generalize @okB = okB
  generalize @ptD = ptD
  generalize @ptS = ptS
  generalize @wmH = wmH
  generalize @wmL = wmL
  generalize @wqH = wqH
  generalize @wqL = wqL
  generalize @wqR = wqR
  kernel_rfl
set_option maxRecDepth 100000 in
theorem tofloat_vc (v m : Int) (V : Value → Prop) : evalBody Try.prog (orc []) (noLoops) (Try.f17.body.getD .skip) Try.f17.results.toList Try.f17.ntmps [.int .u16 v, .int .u16 m] V = (bcond (ieq m 0) (True ∧ V (Value.tuple #[Value.float FloatKind.f64 0, Value.bool false])) (bcond (igt v m) (True ∧ V (Value.tuple #[Value.float FloatKind.f64 0, Value.bool false])) ((fok BinOp.quo FloatKind.f64 (fofi FloatKind.f64 v) (fofi FloatKind.f64 m) = true ∧ True) ∧ V (Value.tuple #[Value.float FloatKind.f64 (fop BinOp.quo FloatKind.f64 (fofi FloatKind.f64 v) (fofi FloatKind.f64 m)), Value.bool true])))) := by
  kernel_rfl
set_option maxRecDepth 100000 in
theorem rtofloat_vc (v m : Int) (V : Value → Prop) : evalBody Try.prog (orc []) (noLoops) (Try.f18.body.getD .skip) Try.f18.results.toList Try.f18.ntmps [.int .u16 v, .int .u16 m] V = (bcond (ieq m 0) (True ∧ V (Value.tuple #[Value.float FloatKind.f64 0, Value.bool false])) (bcond (igt v m) (True ∧ V (Value.tuple #[Value.float FloatKind.f64 0, Value.bool false])) ((fok BinOp.quo FloatKind.f64 (fofi FloatKind.f64 v) (fofi FloatKind.f64 m) = true ∧ True) ∧ V (Value.tuple #[Value.float FloatKind.f64 (fop BinOp.quo FloatKind.f64 (fofi FloatKind.f64 v) (fofi FloatKind.f64 m)), Value.bool true])))) := by
  kernel_rfl
def o_gmax : Oracle := orc [(9, s_mod)]
set_option maxRecDepth 100000 in
theorem gmax_vc (n : Int) (V : Value → Prop) : evalBody Try.prog (o_gmax) (noLoops) (Try.f8.body.getD .skip) Try.f8.results.toList Try.f8.ntmps [.int .i64 n] V = (bcond (ieq (gmod n 3) 2) ((true = true ∧ True) ∧ V (Value.int .u16 65535)) ((true = true ∧ True) ∧ V (Value.int .u16 255))) := by
  try delta o_gmax
  try delta s_mod
  generalize @gmod = gmod
  generalize @modOk = modOk
  kernel_rfl

def rfS (x : Nat) : Int := 1075 - (ptE x : Int)
def rfM (x : Nat) (m : Int) : Int := 2 * ptS x * m
def rfP (i : Int) : Int := 2 ^ i.toNat
def rfN (x : Nat) (m i : Int) : Int := (rfM x m + rfP (rfS x)) / rfP i
def rfGood (x : Nat) (i : Int) : Prop := 0 ≤ i ∧ i ≤ rfS x ∧ rfS x < 100
def rfGood2 (x : Nat) (i : Int) : Prop := 0 ≤ i ∧ i ≤ rfS x + 1 ∧ rfS x < 100
def rfMu (x : Nat) (i : Int) : Nat := (rfS x + 1 - i).toNat
def o_inv_rf1 (x : Nat) (m : Int) : Inv where
  ι := Int
  good i := rfGood x i
  slots i := slotsOf 83 [(9, .int .i64 (rfS x)), (10, .pointer (some ⟨16389, 0, none⟩)), (11, .pointer (some ⟨17409, 0, none⟩)), (12, .int .i64 i)]
  blocks i := [(16389, [.int .u64 (hi64 (rfM x m)), .int .u64 (lo64 (rfM x m))]), (17409, [.int .u64 (hi64 (rfP i)), .int .u64 (lo64 (rfP i))])]
  μ i := rfMu x i
def o_inv_rf2 (x : Nat) (m : Int) : Inv where
  ι := Int
  good i := rfGood2 x i
  slots i := slotsOf 83 [(9, .int .i64 (rfS x)), (10, .pointer (some ⟨16389, 0, none⟩)), (13, .int .i64 i)]
  blocks i := [(16389, [.int .u64 (hi64 (rfN x m i)), .int .u64 (lo64 (rfN x m i))])]
  μ i := rfMu x i
def o_rfrom : Oracle := orc [(11, s_f64bits), (23, s_mul), (24, s_add)]
set_option maxRecDepth 100000 in
theorem rfrom_vc (x : Nat) (m : Int) (V : Value → Prop) : evalBody Try.prog (o_rfrom) (fun n => bif Nat.beq n 19 then some (.inv (o_inv_rf1 x m)) else bif Nat.beq n 24 then some (.inv (o_inv_rf2 x m)) else none) (Try.f13.body.getD .skip) Try.f13.results.toList Try.f13.ntmps [.float .f64 x, .int .u16 m] V = (bcond (fne FloatKind.f64 x x) (True ∧ V (Value.tuple #[Value.int .u16 0, Value.bool false])) (bcond (fle FloatKind.f64 x 0) (True ∧ V (Value.tuple #[Value.int .u16 0, Value.bool true])) (bcond (fge FloatKind.f64 x 4607182418800017408) (True ∧ V (Value.tuple #[Value.int .u16 m, Value.bool true])) (bcond (igt (iconv IntKind.i64 (ishr IntKind.u64 (b64 x) 52)) 0) (bcond (ige (isub IntKind.i64 1075 (iconv IntKind.i64 (ishr IntKind.u64 (b64 x) 52))) 100) ((true = true ∧ True) ∧ V (Value.tuple #[Value.int .u16 0, Value.bool true])) ((∃ (i : Int), rfGood x i ∧ (inU (imul IntKind.u64 2 (ior IntKind.u64 (iand IntKind.u64 (b64 x) 4503599627370495) 4503599627370496)) = true ∧ inU (iconv IntKind.u64 m) = true ∧ true = true ∧ True) ∧ ((true = true ∧ Value.int .i64 (isub IntKind.i64 1075 (iconv IntKind.i64 (ishr IntKind.u64 (b64 x) 52))) = Value.int .i64 (rfS x)) ∧ (true = true ∧ Value.pointer (some ⟨16389, 0, none⟩) = Value.pointer (some ⟨16389, 0, none⟩)) ∧ (true = true ∧ Value.pointer (some ⟨17409, 0, none⟩) = Value.pointer (some ⟨17409, 0, none⟩)) ∧ (true = true ∧ Value.int .i64 0 = Value.int .i64 i) ∧ True) ∧ (some [Value.int .u64 (wmH (imul IntKind.u64 2 (ior IntKind.u64 (iand IntKind.u64 (b64 x) 4503599627370495) 4503599627370496)) (iconv IntKind.u64 m)), Value.int .u64 (wmL (imul IntKind.u64 2 (ior IntKind.u64 (iand IntKind.u64 (b64 x) 4503599627370495) 4503599627370496)) (iconv IntKind.u64 m))] = some [Value.int .u64 (hi64 (rfM x m)), Value.int .u64 (lo64 (rfM x m))] ∧ some [Value.int .u64 0, Value.int .u64 1] = some [Value.int .u64 (hi64 (rfP i)), Value.int .u64 (lo64 (rfP i))] ∧ True) ∧ true = true ∧ true = true ∧ True) ∧ ∀ (i : Int), rfGood x i → bcond (ilt i (rfS x)) (∃ (j : Int), rfGood x j ∧ ((inU (hi64 (rfP i)) = true ∧ inU (lo64 (rfP i)) = true ∧ inU (hi64 (rfP i)) = true ∧ inU (lo64 (rfP i)) = true ∧ True) ∧ ((true = true ∧ Value.int .i64 (rfS x) = Value.int .i64 (rfS x)) ∧ (true = true ∧ Value.pointer (some ⟨16389, 0, none⟩) = Value.pointer (some ⟨16389, 0, none⟩)) ∧ (true = true ∧ Value.pointer (some ⟨17409, 0, none⟩) = Value.pointer (some ⟨17409, 0, none⟩)) ∧ (true = true ∧ Value.int .i64 (iadd IntKind.i64 i 1) = Value.int .i64 j) ∧ True) ∧ (some [Value.int .u64 (hi64 (rfM x m)), Value.int .u64 (lo64 (rfM x m))] = some [Value.int .u64 (hi64 (rfM x m)), Value.int .u64 (lo64 (rfM x m))] ∧ some [Value.int .u64 (waH (hi64 (rfP i)) (lo64 (rfP i)) (hi64 (rfP i)) (lo64 (rfP i))), Value.int .u64 (waL (hi64 (rfP i)) (lo64 (rfP i)) (hi64 (rfP i)) (lo64 (rfP i)))] = some [Value.int .u64 (hi64 (rfP j)), Value.int .u64 (lo64 (rfP j))] ∧ True) ∧ true = true ∧ true = true ∧ True) ∧ Nat.le (Nat.succ (rfMu x j)) (rfMu x i)) ((∃ (i_1 : Int), rfGood2 x i_1 ∧ (inU (hi64 (rfM x m)) = true ∧ inU (lo64 (rfM x m)) = true ∧ inU (hi64 (rfP i)) = true ∧ inU (lo64 (rfP i)) = true ∧ True) ∧ ((true = true ∧ Value.int .i64 (rfS x) = Value.int .i64 (rfS x)) ∧ (true = true ∧ Value.pointer (some ⟨16389, 0, none⟩) = Value.pointer (some ⟨16389, 0, none⟩)) ∧ (true = true ∧ Value.int .i64 0 = Value.int .i64 i_1) ∧ True) ∧ (some [Value.int .u64 (waH (hi64 (rfM x m)) (lo64 (rfM x m)) (hi64 (rfP i)) (lo64 (rfP i))), Value.int .u64 (waL (hi64 (rfM x m)) (lo64 (rfM x m)) (hi64 (rfP i)) (lo64 (rfP i)))] = some [Value.int .u64 (hi64 (rfN x m i_1)), Value.int .u64 (lo64 (rfN x m i_1))] ∧ True) ∧ true = true ∧ True) ∧ ∀ (i : Int), rfGood2 x i → bcond (ile i (rfS x)) (∃ (j : Int), rfGood2 x j ∧ ((true = true ∧ true = true ∧ true = true ∧ True) ∧ ((true = true ∧ Value.int .i64 (rfS x) = Value.int .i64 (rfS x)) ∧ (true = true ∧ Value.pointer (some ⟨16389, 0, none⟩) = Value.pointer (some ⟨16389, 0, none⟩)) ∧ (true = true ∧ Value.int .i64 (iadd IntKind.i64 i 1) = Value.int .i64 j) ∧ True) ∧ (some [Value.int .u64 (ishr IntKind.u64 (hi64 (rfN x m i)) 1), Value.int .u64 (ior IntKind.u64 (ishr IntKind.u64 (lo64 (rfN x m i)) 1) (ishl IntKind.u64 (hi64 (rfN x m i)) 63))] = some [Value.int .u64 (hi64 (rfN x m j)), Value.int .u64 (lo64 (rfN x m j))] ∧ True) ∧ true = true ∧ True) ∧ Nat.le (Nat.succ (rfMu x j)) (rfMu x i)) (True ∧ V (Value.tuple #[Value.int .u16 (iconv IntKind.u16 (lo64 (rfN x m i))), Value.bool true]))))) (bcond true ((true = true ∧ True) ∧ V (Value.tuple #[Value.int .u16 0, Value.bool true])) ((∃ (i : Int), rfGood x i ∧ (inU (imul IntKind.u64 2 (iand IntKind.u64 (b64 x) 4503599627370495)) = true ∧ inU (iconv IntKind.u64 m) = true ∧ true = true ∧ True) ∧ ((true = true ∧ Value.int .i64 1074 = Value.int .i64 (rfS x)) ∧ (true = true ∧ Value.pointer (some ⟨16389, 0, none⟩) = Value.pointer (some ⟨16389, 0, none⟩)) ∧ (true = true ∧ Value.pointer (some ⟨17409, 0, none⟩) = Value.pointer (some ⟨17409, 0, none⟩)) ∧ (true = true ∧ Value.int .i64 0 = Value.int .i64 i) ∧ True) ∧ (some [Value.int .u64 (wmH (imul IntKind.u64 2 (iand IntKind.u64 (b64 x) 4503599627370495)) (iconv IntKind.u64 m)), Value.int .u64 (wmL (imul IntKind.u64 2 (iand IntKind.u64 (b64 x) 4503599627370495)) (iconv IntKind.u64 m))] = some [Value.int .u64 (hi64 (rfM x m)), Value.int .u64 (lo64 (rfM x m))] ∧ some [Value.int .u64 0, Value.int .u64 1] = some [Value.int .u64 (hi64 (rfP i)), Value.int .u64 (lo64 (rfP i))] ∧ True) ∧ true = true ∧ true = true ∧ True) ∧ ∀ (i : Int), rfGood x i → bcond (ilt i (rfS x)) (∃ (j : Int), rfGood x j ∧ ((inU (hi64 (rfP i)) = true ∧ inU (lo64 (rfP i)) = true ∧ inU (hi64 (rfP i)) = true ∧ inU (lo64 (rfP i)) = true ∧ True) ∧ ((true = true ∧ Value.int .i64 (rfS x) = Value.int .i64 (rfS x)) ∧ (true = true ∧ Value.pointer (some ⟨16389, 0, none⟩) = Value.pointer (some ⟨16389, 0, none⟩)) ∧ (true = true ∧ Value.pointer (some ⟨17409, 0, none⟩) = Value.pointer (some ⟨17409, 0, none⟩)) ∧ (true = true ∧ Value.int .i64 (iadd IntKind.i64 i 1) = Value.int .i64 j) ∧ True) ∧ (some [Value.int .u64 (hi64 (rfM x m)), Value.int .u64 (lo64 (rfM x m))] = some [Value.int .u64 (hi64 (rfM x m)), Value.int .u64 (lo64 (rfM x m))] ∧ some [Value.int .u64 (waH (hi64 (rfP i)) (lo64 (rfP i)) (hi64 (rfP i)) (lo64 (rfP i))), Value.int .u64 (waL (hi64 (rfP i)) (lo64 (rfP i)) (hi64 (rfP i)) (lo64 (rfP i)))] = some [Value.int .u64 (hi64 (rfP j)), Value.int .u64 (lo64 (rfP j))] ∧ True) ∧ true = true ∧ true = true ∧ True) ∧ Nat.le (Nat.succ (rfMu x j)) (rfMu x i)) ((∃ (i_1 : Int), rfGood2 x i_1 ∧ (inU (hi64 (rfM x m)) = true ∧ inU (lo64 (rfM x m)) = true ∧ inU (hi64 (rfP i)) = true ∧ inU (lo64 (rfP i)) = true ∧ True) ∧ ((true = true ∧ Value.int .i64 (rfS x) = Value.int .i64 (rfS x)) ∧ (true = true ∧ Value.pointer (some ⟨16389, 0, none⟩) = Value.pointer (some ⟨16389, 0, none⟩)) ∧ (true = true ∧ Value.int .i64 0 = Value.int .i64 i_1) ∧ True) ∧ (some [Value.int .u64 (waH (hi64 (rfM x m)) (lo64 (rfM x m)) (hi64 (rfP i)) (lo64 (rfP i))), Value.int .u64 (waL (hi64 (rfM x m)) (lo64 (rfM x m)) (hi64 (rfP i)) (lo64 (rfP i)))] = some [Value.int .u64 (hi64 (rfN x m i_1)), Value.int .u64 (lo64 (rfN x m i_1))] ∧ True) ∧ true = true ∧ True) ∧ ∀ (i : Int), rfGood2 x i → bcond (ile i (rfS x)) (∃ (j : Int), rfGood2 x j ∧ ((true = true ∧ true = true ∧ true = true ∧ True) ∧ ((true = true ∧ Value.int .i64 (rfS x) = Value.int .i64 (rfS x)) ∧ (true = true ∧ Value.pointer (some ⟨16389, 0, none⟩) = Value.pointer (some ⟨16389, 0, none⟩)) ∧ (true = true ∧ Value.int .i64 (iadd IntKind.i64 i 1) = Value.int .i64 j) ∧ True) ∧ (some [Value.int .u64 (ishr IntKind.u64 (hi64 (rfN x m i)) 1), Value.int .u64 (ior IntKind.u64 (ishr IntKind.u64 (lo64 (rfN x m i)) 1) (ishl IntKind.u64 (hi64 (rfN x m i)) 63))] = some [Value.int .u64 (hi64 (rfN x m j)), Value.int .u64 (lo64 (rfN x m j))] ∧ True) ∧ true = true ∧ True) ∧ Nat.le (Nat.succ (rfMu x j)) (rfMu x i)) (True ∧ V (Value.tuple #[Value.int .u16 (iconv IntKind.u16 (lo64 (rfN x m i))), Value.bool true]))))))))) := by
  try delta o_rfrom
  try delta o_inv_rf1
  try delta o_inv_rf2
  try delta s_f64bits
  try delta s_mul
  try delta s_add
  generalize @b64 = b64
  generalize @hi64 = hi64
  generalize @inU = inU
  generalize @lo64 = lo64
  generalize @rfGood = rfGood
  generalize @rfGood2 = rfGood2
  generalize @rfM = rfM
  generalize @rfMu = rfMu
  generalize @rfN = rfN
  generalize @rfP = rfP
  generalize @rfS = rfS
  generalize @waH = waH
  generalize @waL = waL
  generalize @waOk = waOk
  generalize @wmH = wmH
  generalize @wmL = wmL
  kernel_rfl

def o_awake4 : Oracle := orc [(12, s_from), (25, s_nan), (17, s_tofloat)]
set_option maxRecDepth 100000 in
theorem awake4_vc  (V : Value → Prop) : evalBody Try.prog (o_awake4) (noLoops) (Try.f14.body.getD .skip) Try.f14.results.toList Try.f14.ntmps [] V = (bcond (ffOk 4602678819172646912) (bcond (ieq (ffV 4602678819172646912 255) 128) (bcond (bnot (ffOk 9221120237041090561)) (bcond (ieq (ffV 9221120237041090561 255) 0) (bcond (tfOk 255 255) ((in16 255 = true ∧ in16 255 = true ∧ inF 9221120237041090561 = true ∧ in16 255 = true ∧ inF 4602678819172646912 = true ∧ in16 255 = true ∧ True) ∧ V (Value.bool (feq FloatKind.f64 (tfV 255 255) 4607182418800017408))) ((in16 255 = true ∧ in16 255 = true ∧ inF 9221120237041090561 = true ∧ in16 255 = true ∧ inF 4602678819172646912 = true ∧ in16 255 = true ∧ True) ∧ V (Value.bool false))) ((in16 255 = true ∧ in16 255 = true ∧ inF 9221120237041090561 = true ∧ in16 255 = true ∧ inF 4602678819172646912 = true ∧ in16 255 = true ∧ True) ∧ V (Value.bool false))) ((in16 255 = true ∧ in16 255 = true ∧ inF 9221120237041090561 = true ∧ in16 255 = true ∧ inF 4602678819172646912 = true ∧ in16 255 = true ∧ True) ∧ V (Value.bool false))) ((in16 255 = true ∧ in16 255 = true ∧ inF 9221120237041090561 = true ∧ in16 255 = true ∧ inF 4602678819172646912 = true ∧ in16 255 = true ∧ True) ∧ V (Value.bool false))) ((in16 255 = true ∧ in16 255 = true ∧ inF 9221120237041090561 = true ∧ in16 255 = true ∧ inF 4602678819172646912 = true ∧ in16 255 = true ∧ True) ∧ V (Value.bool false))) := by
  try delta o_awake4
  try delta s_from
  try delta s_nan
  try delta s_tofloat
  generalize @ffOk = ffOk
  generalize @ffV = ffV
  generalize @in16 = in16
  generalize @inF = inF
  generalize @tfOk = tfOk
  generalize @tfV = tfV
  kernel_rfl
def o_law4a : Oracle := orc [(8, s_gmax), (9, s_mod), (11, s_f64bits), (10, s_frombits), (12, s_from), (13, s_from), (14, s_yes)]
set_option maxRecDepth 100000 in
theorem UnitFromFloatAgrees_vc (x : Nat) (m n b : Int) (V : Value → Prop) : evalBody Try.prog (o_law4a) (noLoops) (Try.f3.body.getD .skip) Try.f3.results.toList Try.f3.ntmps [.float .f64 x, .int .u16 m, .int .i64 n, .int .u64 b] V = (bcond true (bcond (ieq (ffV x m) (ffV x m)) (bcond (beq' (ffOk x) (ffOk x)) (bcond (ieq (ffV (u64f (isub IntKind.u64 (iadd IntKind.u64 (b64 (fop BinOp.quo FloatKind.f64 (fop BinOp.add FloatKind.f64 (fofi FloatKind.f64 (gmod n (iadd IntKind.i64 (iconv IntKind.i64 (gxMax n)) 1))) 4602678819172646912) (fofi FloatKind.f64 (gxMax n)))) (irem b 3)) 1)) (gxMax n)) (ffV (u64f (isub IntKind.u64 (iadd IntKind.u64 (b64 (fop BinOp.quo FloatKind.f64 (fop BinOp.add FloatKind.f64 (fofi FloatKind.f64 (gmod n (iadd IntKind.i64 (iconv IntKind.i64 (gxMax n)) 1))) 4602678819172646912) (fofi FloatKind.f64 (gxMax n)))) (irem b 3)) 1)) (gxMax n))) (bcond (beq' (ffOk (u64f (isub IntKind.u64 (iadd IntKind.u64 (b64 (fop BinOp.quo FloatKind.f64 (fop BinOp.add FloatKind.f64 (fofi FloatKind.f64 (gmod n (iadd IntKind.i64 (iconv IntKind.i64 (gxMax n)) 1))) 4602678819172646912) (fofi FloatKind.f64 (gxMax n)))) (irem b 3)) 1))) (ffOk (u64f (isub IntKind.u64 (iadd IntKind.u64 (b64 (fop BinOp.quo FloatKind.f64 (fop BinOp.add FloatKind.f64 (fofi FloatKind.f64 (gmod n (iadd IntKind.i64 (iconv IntKind.i64 (gxMax n)) 1))) 4602678819172646912) (fofi FloatKind.f64 (gxMax n)))) (irem b 3)) 1)))) (bcond (ieq (ffV (u64f b) (gxMax n)) (ffV (u64f b) (gxMax n))) ((inF (u64f b) = true ∧ in16 (gxMax n) = true ∧ inF (u64f b) = true ∧ in16 (gxMax n) = true ∧ inF (u64f (isub IntKind.u64 (iadd IntKind.u64 (b64 (fop BinOp.quo FloatKind.f64 (fop BinOp.add FloatKind.f64 (fofi FloatKind.f64 (gmod n (iadd IntKind.i64 (iconv IntKind.i64 (gxMax n)) 1))) 4602678819172646912) (fofi FloatKind.f64 (gxMax n)))) (irem b 3)) 1)) = true ∧ in16 (gxMax n) = true ∧ inF (u64f (isub IntKind.u64 (iadd IntKind.u64 (b64 (fop BinOp.quo FloatKind.f64 (fop BinOp.add FloatKind.f64 (fofi FloatKind.f64 (gmod n (iadd IntKind.i64 (iconv IntKind.i64 (gxMax n)) 1))) 4602678819172646912) (fofi FloatKind.f64 (gxMax n)))) (irem b 3)) 1)) = true ∧ in16 (gxMax n) = true ∧ inF x = true ∧ in16 m = true ∧ inF x = true ∧ in16 m = true ∧ true = true ∧ fok BinOp.quo FloatKind.f64 (fop BinOp.add FloatKind.f64 (fofi FloatKind.f64 (gmod n (iadd IntKind.i64 (iconv IntKind.i64 (gxMax n)) 1))) 4602678819172646912) (fofi FloatKind.f64 (gxMax n)) = true ∧ fok BinOp.add FloatKind.f64 (fofi FloatKind.f64 (gmod n (iadd IntKind.i64 (iconv IntKind.i64 (gxMax n)) 1))) 4602678819172646912 = true ∧ modOk (iadd IntKind.i64 (iconv IntKind.i64 (gxMax n)) 1) = true ∧ True) ∧ V (Value.bool (beq' (ffOk (u64f b)) (ffOk (u64f b))))) ((inF (u64f b) = true ∧ in16 (gxMax n) = true ∧ inF (u64f b) = true ∧ in16 (gxMax n) = true ∧ inF (u64f (isub IntKind.u64 (iadd IntKind.u64 (b64 (fop BinOp.quo FloatKind.f64 (fop BinOp.add FloatKind.f64 (fofi FloatKind.f64 (gmod n (iadd IntKind.i64 (iconv IntKind.i64 (gxMax n)) 1))) 4602678819172646912) (fofi FloatKind.f64 (gxMax n)))) (irem b 3)) 1)) = true ∧ in16 (gxMax n) = true ∧ inF (u64f (isub IntKind.u64 (iadd IntKind.u64 (b64 (fop BinOp.quo FloatKind.f64 (fop BinOp.add FloatKind.f64 (fofi FloatKind.f64 (gmod n (iadd IntKind.i64 (iconv IntKind.i64 (gxMax n)) 1))) 4602678819172646912) (fofi FloatKind.f64 (gxMax n)))) (irem b 3)) 1)) = true ∧ in16 (gxMax n) = true ∧ inF x = true ∧ in16 m = true ∧ inF x = true ∧ in16 m = true ∧ true = true ∧ fok BinOp.quo FloatKind.f64 (fop BinOp.add FloatKind.f64 (fofi FloatKind.f64 (gmod n (iadd IntKind.i64 (iconv IntKind.i64 (gxMax n)) 1))) 4602678819172646912) (fofi FloatKind.f64 (gxMax n)) = true ∧ fok BinOp.add FloatKind.f64 (fofi FloatKind.f64 (gmod n (iadd IntKind.i64 (iconv IntKind.i64 (gxMax n)) 1))) 4602678819172646912 = true ∧ modOk (iadd IntKind.i64 (iconv IntKind.i64 (gxMax n)) 1) = true ∧ True) ∧ V (Value.bool false))) ((inF (u64f b) = true ∧ in16 (gxMax n) = true ∧ inF (u64f b) = true ∧ in16 (gxMax n) = true ∧ inF (u64f (isub IntKind.u64 (iadd IntKind.u64 (b64 (fop BinOp.quo FloatKind.f64 (fop BinOp.add FloatKind.f64 (fofi FloatKind.f64 (gmod n (iadd IntKind.i64 (iconv IntKind.i64 (gxMax n)) 1))) 4602678819172646912) (fofi FloatKind.f64 (gxMax n)))) (irem b 3)) 1)) = true ∧ in16 (gxMax n) = true ∧ inF (u64f (isub IntKind.u64 (iadd IntKind.u64 (b64 (fop BinOp.quo FloatKind.f64 (fop BinOp.add FloatKind.f64 (fofi FloatKind.f64 (gmod n (iadd IntKind.i64 (iconv IntKind.i64 (gxMax n)) 1))) 4602678819172646912) (fofi FloatKind.f64 (gxMax n)))) (irem b 3)) 1)) = true ∧ in16 (gxMax n) = true ∧ inF x = true ∧ in16 m = true ∧ inF x = true ∧ in16 m = true ∧ true = true ∧ fok BinOp.quo FloatKind.f64 (fop BinOp.add FloatKind.f64 (fofi FloatKind.f64 (gmod n (iadd IntKind.i64 (iconv IntKind.i64 (gxMax n)) 1))) 4602678819172646912) (fofi FloatKind.f64 (gxMax n)) = true ∧ fok BinOp.add FloatKind.f64 (fofi FloatKind.f64 (gmod n (iadd IntKind.i64 (iconv IntKind.i64 (gxMax n)) 1))) 4602678819172646912 = true ∧ modOk (iadd IntKind.i64 (iconv IntKind.i64 (gxMax n)) 1) = true ∧ True) ∧ V (Value.bool false))) ((inF (u64f b) = true ∧ in16 (gxMax n) = true ∧ inF (u64f b) = true ∧ in16 (gxMax n) = true ∧ inF (u64f (isub IntKind.u64 (iadd IntKind.u64 (b64 (fop BinOp.quo FloatKind.f64 (fop BinOp.add FloatKind.f64 (fofi FloatKind.f64 (gmod n (iadd IntKind.i64 (iconv IntKind.i64 (gxMax n)) 1))) 4602678819172646912) (fofi FloatKind.f64 (gxMax n)))) (irem b 3)) 1)) = true ∧ in16 (gxMax n) = true ∧ inF (u64f (isub IntKind.u64 (iadd IntKind.u64 (b64 (fop BinOp.quo FloatKind.f64 (fop BinOp.add FloatKind.f64 (fofi FloatKind.f64 (gmod n (iadd IntKind.i64 (iconv IntKind.i64 (gxMax n)) 1))) 4602678819172646912) (fofi FloatKind.f64 (gxMax n)))) (irem b 3)) 1)) = true ∧ in16 (gxMax n) = true ∧ inF x = true ∧ in16 m = true ∧ inF x = true ∧ in16 m = true ∧ true = true ∧ fok BinOp.quo FloatKind.f64 (fop BinOp.add FloatKind.f64 (fofi FloatKind.f64 (gmod n (iadd IntKind.i64 (iconv IntKind.i64 (gxMax n)) 1))) 4602678819172646912) (fofi FloatKind.f64 (gxMax n)) = true ∧ fok BinOp.add FloatKind.f64 (fofi FloatKind.f64 (gmod n (iadd IntKind.i64 (iconv IntKind.i64 (gxMax n)) 1))) 4602678819172646912 = true ∧ modOk (iadd IntKind.i64 (iconv IntKind.i64 (gxMax n)) 1) = true ∧ True) ∧ V (Value.bool false))) ((inF (u64f b) = true ∧ in16 (gxMax n) = true ∧ inF (u64f b) = true ∧ in16 (gxMax n) = true ∧ inF (u64f (isub IntKind.u64 (iadd IntKind.u64 (b64 (fop BinOp.quo FloatKind.f64 (fop BinOp.add FloatKind.f64 (fofi FloatKind.f64 (gmod n (iadd IntKind.i64 (iconv IntKind.i64 (gxMax n)) 1))) 4602678819172646912) (fofi FloatKind.f64 (gxMax n)))) (irem b 3)) 1)) = true ∧ in16 (gxMax n) = true ∧ inF (u64f (isub IntKind.u64 (iadd IntKind.u64 (b64 (fop BinOp.quo FloatKind.f64 (fop BinOp.add FloatKind.f64 (fofi FloatKind.f64 (gmod n (iadd IntKind.i64 (iconv IntKind.i64 (gxMax n)) 1))) 4602678819172646912) (fofi FloatKind.f64 (gxMax n)))) (irem b 3)) 1)) = true ∧ in16 (gxMax n) = true ∧ inF x = true ∧ in16 m = true ∧ inF x = true ∧ in16 m = true ∧ true = true ∧ fok BinOp.quo FloatKind.f64 (fop BinOp.add FloatKind.f64 (fofi FloatKind.f64 (gmod n (iadd IntKind.i64 (iconv IntKind.i64 (gxMax n)) 1))) 4602678819172646912) (fofi FloatKind.f64 (gxMax n)) = true ∧ fok BinOp.add FloatKind.f64 (fofi FloatKind.f64 (gmod n (iadd IntKind.i64 (iconv IntKind.i64 (gxMax n)) 1))) 4602678819172646912 = true ∧ modOk (iadd IntKind.i64 (iconv IntKind.i64 (gxMax n)) 1) = true ∧ True) ∧ V (Value.bool false))) ((inF (u64f b) = true ∧ in16 (gxMax n) = true ∧ inF (u64f b) = true ∧ in16 (gxMax n) = true ∧ inF (u64f (isub IntKind.u64 (iadd IntKind.u64 (b64 (fop BinOp.quo FloatKind.f64 (fop BinOp.add FloatKind.f64 (fofi FloatKind.f64 (gmod n (iadd IntKind.i64 (iconv IntKind.i64 (gxMax n)) 1))) 4602678819172646912) (fofi FloatKind.f64 (gxMax n)))) (irem b 3)) 1)) = true ∧ in16 (gxMax n) = true ∧ inF (u64f (isub IntKind.u64 (iadd IntKind.u64 (b64 (fop BinOp.quo FloatKind.f64 (fop BinOp.add FloatKind.f64 (fofi FloatKind.f64 (gmod n (iadd IntKind.i64 (iconv IntKind.i64 (gxMax n)) 1))) 4602678819172646912) (fofi FloatKind.f64 (gxMax n)))) (irem b 3)) 1)) = true ∧ in16 (gxMax n) = true ∧ inF x = true ∧ in16 m = true ∧ inF x = true ∧ in16 m = true ∧ true = true ∧ fok BinOp.quo FloatKind.f64 (fop BinOp.add FloatKind.f64 (fofi FloatKind.f64 (gmod n (iadd IntKind.i64 (iconv IntKind.i64 (gxMax n)) 1))) 4602678819172646912) (fofi FloatKind.f64 (gxMax n)) = true ∧ fok BinOp.add FloatKind.f64 (fofi FloatKind.f64 (gmod n (iadd IntKind.i64 (iconv IntKind.i64 (gxMax n)) 1))) 4602678819172646912 = true ∧ modOk (iadd IntKind.i64 (iconv IntKind.i64 (gxMax n)) 1) = true ∧ True) ∧ V (Value.bool false))) ((inF (u64f b) = true ∧ in16 (gxMax n) = true ∧ inF (u64f b) = true ∧ in16 (gxMax n) = true ∧ inF (u64f (isub IntKind.u64 (iadd IntKind.u64 (b64 (fop BinOp.quo FloatKind.f64 (fop BinOp.add FloatKind.f64 (fofi FloatKind.f64 (gmod n (iadd IntKind.i64 (iconv IntKind.i64 (gxMax n)) 1))) 4602678819172646912) (fofi FloatKind.f64 (gxMax n)))) (irem b 3)) 1)) = true ∧ in16 (gxMax n) = true ∧ inF (u64f (isub IntKind.u64 (iadd IntKind.u64 (b64 (fop BinOp.quo FloatKind.f64 (fop BinOp.add FloatKind.f64 (fofi FloatKind.f64 (gmod n (iadd IntKind.i64 (iconv IntKind.i64 (gxMax n)) 1))) 4602678819172646912) (fofi FloatKind.f64 (gxMax n)))) (irem b 3)) 1)) = true ∧ in16 (gxMax n) = true ∧ inF x = true ∧ in16 m = true ∧ inF x = true ∧ in16 m = true ∧ true = true ∧ fok BinOp.quo FloatKind.f64 (fop BinOp.add FloatKind.f64 (fofi FloatKind.f64 (gmod n (iadd IntKind.i64 (iconv IntKind.i64 (gxMax n)) 1))) 4602678819172646912) (fofi FloatKind.f64 (gxMax n)) = true ∧ fok BinOp.add FloatKind.f64 (fofi FloatKind.f64 (gmod n (iadd IntKind.i64 (iconv IntKind.i64 (gxMax n)) 1))) 4602678819172646912 = true ∧ modOk (iadd IntKind.i64 (iconv IntKind.i64 (gxMax n)) 1) = true ∧ True) ∧ V (Value.bool false))) := by
  try delta o_law4a
  try delta s_gmax
  try delta s_mod
  try delta s_f64bits
  try delta s_frombits
  try delta s_from
  try delta s_yes
  generalize @b64 = b64
  generalize @ffOk = ffOk
  generalize @ffV = ffV
  generalize @gmod = gmod
  generalize @gxMax = gxMax
  generalize @in16 = in16
  generalize @inF = inF
  generalize @modOk = modOk
  generalize @u64f = u64f
  kernel_rfl
def o_law4b : Oracle := orc [(15, s_inf), (16, s_copysign), (12, s_from), (14, s_yes)]
set_option maxRecDepth 100000 in
theorem UnitSpecialNumbers_vc (x : Nat) (m : Int) (V : Value → Prop) : evalBody Try.prog (o_law4b) (noLoops) (Try.f4.body.getD .skip) Try.f4.results.toList Try.f4.ntmps [.float .f64 x, .int .u16 m] V = (bcond false ((inF x = true ∧ in16 m = true ∧ inF 9223372036854775808 = true ∧ in16 m = true ∧ true = true ∧ true = true ∧ inF (infB (-1)) = true ∧ in16 m = true ∧ inF (infB 1) = true ∧ in16 m = true ∧ True) ∧ V (Value.bool false)) (bcond (bnot (ffOk (infB 1))) ((inF x = true ∧ in16 m = true ∧ inF 9223372036854775808 = true ∧ in16 m = true ∧ true = true ∧ true = true ∧ inF (infB (-1)) = true ∧ in16 m = true ∧ inF (infB 1) = true ∧ in16 m = true ∧ True) ∧ V (Value.bool false)) (bcond (ine (ffV (infB 1) m) m) ((inF x = true ∧ in16 m = true ∧ inF 9223372036854775808 = true ∧ in16 m = true ∧ true = true ∧ true = true ∧ inF (infB (-1)) = true ∧ in16 m = true ∧ inF (infB 1) = true ∧ in16 m = true ∧ True) ∧ V (Value.bool false)) (bcond (bnot (ffOk (infB (-1)))) ((inF x = true ∧ in16 m = true ∧ inF 9223372036854775808 = true ∧ in16 m = true ∧ true = true ∧ true = true ∧ inF (infB (-1)) = true ∧ in16 m = true ∧ inF (infB 1) = true ∧ in16 m = true ∧ True) ∧ V (Value.bool false)) (bcond (ine (ffV (infB (-1)) m) 0) ((inF x = true ∧ in16 m = true ∧ inF 9223372036854775808 = true ∧ in16 m = true ∧ true = true ∧ true = true ∧ inF (infB (-1)) = true ∧ in16 m = true ∧ inF (infB 1) = true ∧ in16 m = true ∧ True) ∧ V (Value.bool false)) (bcond (bnot (ffOk 9223372036854775808)) ((inF x = true ∧ in16 m = true ∧ inF 9223372036854775808 = true ∧ in16 m = true ∧ true = true ∧ true = true ∧ inF (infB (-1)) = true ∧ in16 m = true ∧ inF (infB 1) = true ∧ in16 m = true ∧ True) ∧ V (Value.bool false)) (bcond (ine (ffV 9223372036854775808 m) 0) ((inF x = true ∧ in16 m = true ∧ inF 9223372036854775808 = true ∧ in16 m = true ∧ true = true ∧ true = true ∧ inF (infB (-1)) = true ∧ in16 m = true ∧ inF (infB 1) = true ∧ in16 m = true ∧ True) ∧ V (Value.bool false)) (bcond (fne FloatKind.f64 x x) (bcond (bnot (ffOk x)) ((inF x = true ∧ in16 m = true ∧ inF 9223372036854775808 = true ∧ in16 m = true ∧ true = true ∧ true = true ∧ inF (infB (-1)) = true ∧ in16 m = true ∧ inF (infB 1) = true ∧ in16 m = true ∧ True) ∧ V (Value.bool (ieq (ffV x m) 0))) ((inF x = true ∧ in16 m = true ∧ inF 9223372036854775808 = true ∧ in16 m = true ∧ true = true ∧ true = true ∧ inF (infB (-1)) = true ∧ in16 m = true ∧ inF (infB 1) = true ∧ in16 m = true ∧ True) ∧ V (Value.bool false))) (bcond (flt FloatKind.f64 x 0) (bcond (ffOk x) ((inF x = true ∧ in16 m = true ∧ inF 9223372036854775808 = true ∧ in16 m = true ∧ true = true ∧ true = true ∧ inF (infB (-1)) = true ∧ in16 m = true ∧ inF (infB 1) = true ∧ in16 m = true ∧ True) ∧ V (Value.bool (ieq (ffV x m) 0))) ((inF x = true ∧ in16 m = true ∧ inF 9223372036854775808 = true ∧ in16 m = true ∧ true = true ∧ true = true ∧ inF (infB (-1)) = true ∧ in16 m = true ∧ inF (infB 1) = true ∧ in16 m = true ∧ True) ∧ V (Value.bool false))) (bcond (fge FloatKind.f64 x 4607182418800017408) (bcond (ffOk x) ((inF x = true ∧ in16 m = true ∧ inF 9223372036854775808 = true ∧ in16 m = true ∧ true = true ∧ true = true ∧ inF (infB (-1)) = true ∧ in16 m = true ∧ inF (infB 1) = true ∧ in16 m = true ∧ True) ∧ V (Value.bool (ieq (ffV x m) m))) ((inF x = true ∧ in16 m = true ∧ inF 9223372036854775808 = true ∧ in16 m = true ∧ true = true ∧ true = true ∧ inF (infB (-1)) = true ∧ in16 m = true ∧ inF (infB 1) = true ∧ in16 m = true ∧ True) ∧ V (Value.bool false))) (bcond (ffOk x) ((inF x = true ∧ in16 m = true ∧ inF 9223372036854775808 = true ∧ in16 m = true ∧ true = true ∧ true = true ∧ inF (infB (-1)) = true ∧ in16 m = true ∧ inF (infB 1) = true ∧ in16 m = true ∧ True) ∧ V (Value.bool (ile (ffV x m) m))) ((inF x = true ∧ in16 m = true ∧ inF 9223372036854775808 = true ∧ in16 m = true ∧ true = true ∧ true = true ∧ inF (infB (-1)) = true ∧ in16 m = true ∧ inF (infB 1) = true ∧ in16 m = true ∧ True) ∧ V (Value.bool false))))))))))))) := by
  try delta o_law4b
  try delta s_inf
  try delta s_copysign
  try delta s_from
  try delta s_yes
  generalize @ffOk = ffOk
  generalize @ffV = ffV
  generalize @in16 = in16
  generalize @inF = inF
  generalize @infB = infB
  kernel_rfl
def o_law4c : Oracle := orc [(17, s_tofloat), (18, s_tofloat), (11, s_f64bits), (14, s_yes)]
set_option maxRecDepth 100000 in
theorem UnitToFloatAgrees_vc (v m : Int) (V : Value → Prop) : evalBody Try.prog (o_law4c) (noLoops) (Try.f5.body.getD .skip) Try.f5.results.toList Try.f5.ntmps [.int .u16 v, .int .u16 m] V = (bcond true (bcond (beq' (tfOk v m) (tfOk v m)) (bcond (ieq (b64 (tfV v m)) (b64 (tfV v m))) (bcond (tfOk v m) ((in16 v = true ∧ in16 m = true ∧ in16 v = true ∧ in16 m = true ∧ True) ∧ V (Value.bool true)) ((in16 v = true ∧ in16 m = true ∧ in16 v = true ∧ in16 m = true ∧ True) ∧ V (Value.bool (ieq (b64 (tfV v m)) 0)))) ((in16 v = true ∧ in16 m = true ∧ in16 v = true ∧ in16 m = true ∧ True) ∧ V (Value.bool false))) ((in16 v = true ∧ in16 m = true ∧ in16 v = true ∧ in16 m = true ∧ True) ∧ V (Value.bool false))) ((in16 v = true ∧ in16 m = true ∧ in16 v = true ∧ in16 m = true ∧ True) ∧ V (Value.bool false))) := by
  try delta o_law4c
  try delta s_tofloat
  try delta s_f64bits
  try delta s_yes
  generalize @b64 = b64
  generalize @in16 = in16
  generalize @tfOk = tfOk
  generalize @tfV = tfV
  kernel_rfl
def o_law4d : Oracle := orc [(17, s_tofloat), (12, s_from), (9, s_mod), (14, s_yes)]
set_option maxRecDepth 100000 in
theorem UnitRoundTrip_vc (v m : Int) (V : Value → Prop) : evalBody Try.prog (o_law4d) (noLoops) (Try.f6.body.getD .skip) Try.f6.results.toList Try.f6.ntmps [.int .u16 v, .int .u16 m] V = (bcond (ieq m 0) (True ∧ V (Value.bool true)) (bcond true (bcond (tfOk (iconv IntKind.u16 (gmod (iconv IntKind.i64 v) (iadd IntKind.i64 (iconv IntKind.i64 m) 1))) m) (bcond (ffOk (tfV (iconv IntKind.u16 (gmod (iconv IntKind.i64 v) (iadd IntKind.i64 (iconv IntKind.i64 m) 1))) m)) (bcond (ieq (ffV (tfV (iconv IntKind.u16 (gmod (iconv IntKind.i64 v) (iadd IntKind.i64 (iconv IntKind.i64 m) 1))) m) m) (iconv IntKind.u16 (gmod (iconv IntKind.i64 v) (iadd IntKind.i64 (iconv IntKind.i64 m) 1)))) (bcond (fge FloatKind.f64 (tfV (iconv IntKind.u16 (gmod (iconv IntKind.i64 v) (iadd IntKind.i64 (iconv IntKind.i64 m) 1))) m) 0) ((inF (tfV (iconv IntKind.u16 (gmod (iconv IntKind.i64 v) (iadd IntKind.i64 (iconv IntKind.i64 m) 1))) m) = true ∧ in16 m = true ∧ in16 (iconv IntKind.u16 (gmod (iconv IntKind.i64 v) (iadd IntKind.i64 (iconv IntKind.i64 m) 1))) = true ∧ in16 m = true ∧ modOk (iadd IntKind.i64 (iconv IntKind.i64 m) 1) = true ∧ True) ∧ V (Value.bool (fle FloatKind.f64 (tfV (iconv IntKind.u16 (gmod (iconv IntKind.i64 v) (iadd IntKind.i64 (iconv IntKind.i64 m) 1))) m) 4607182418800017408))) ((inF (tfV (iconv IntKind.u16 (gmod (iconv IntKind.i64 v) (iadd IntKind.i64 (iconv IntKind.i64 m) 1))) m) = true ∧ in16 m = true ∧ in16 (iconv IntKind.u16 (gmod (iconv IntKind.i64 v) (iadd IntKind.i64 (iconv IntKind.i64 m) 1))) = true ∧ in16 m = true ∧ modOk (iadd IntKind.i64 (iconv IntKind.i64 m) 1) = true ∧ True) ∧ V (Value.bool false))) ((inF (tfV (iconv IntKind.u16 (gmod (iconv IntKind.i64 v) (iadd IntKind.i64 (iconv IntKind.i64 m) 1))) m) = true ∧ in16 m = true ∧ in16 (iconv IntKind.u16 (gmod (iconv IntKind.i64 v) (iadd IntKind.i64 (iconv IntKind.i64 m) 1))) = true ∧ in16 m = true ∧ modOk (iadd IntKind.i64 (iconv IntKind.i64 m) 1) = true ∧ True) ∧ V (Value.bool false))) ((inF (tfV (iconv IntKind.u16 (gmod (iconv IntKind.i64 v) (iadd IntKind.i64 (iconv IntKind.i64 m) 1))) m) = true ∧ in16 m = true ∧ in16 (iconv IntKind.u16 (gmod (iconv IntKind.i64 v) (iadd IntKind.i64 (iconv IntKind.i64 m) 1))) = true ∧ in16 m = true ∧ modOk (iadd IntKind.i64 (iconv IntKind.i64 m) 1) = true ∧ True) ∧ V (Value.bool false))) ((inF (tfV (iconv IntKind.u16 (gmod (iconv IntKind.i64 v) (iadd IntKind.i64 (iconv IntKind.i64 m) 1))) m) = true ∧ in16 m = true ∧ in16 (iconv IntKind.u16 (gmod (iconv IntKind.i64 v) (iadd IntKind.i64 (iconv IntKind.i64 m) 1))) = true ∧ in16 m = true ∧ modOk (iadd IntKind.i64 (iconv IntKind.i64 m) 1) = true ∧ True) ∧ V (Value.bool false))) ((inF (tfV (iconv IntKind.u16 (gmod (iconv IntKind.i64 v) (iadd IntKind.i64 (iconv IntKind.i64 m) 1))) m) = true ∧ in16 m = true ∧ in16 (iconv IntKind.u16 (gmod (iconv IntKind.i64 v) (iadd IntKind.i64 (iconv IntKind.i64 m) 1))) = true ∧ in16 m = true ∧ modOk (iadd IntKind.i64 (iconv IntKind.i64 m) 1) = true ∧ True) ∧ V (Value.bool false)))) := by
  try delta o_law4d
  try delta s_tofloat
  try delta s_from
  try delta s_mod
  try delta s_yes
  generalize @ffOk = ffOk
  generalize @ffV = ffV
  generalize @gmod = gmod
  generalize @in16 = in16
  generalize @inF = inF
  generalize @modOk = modOk
  generalize @tfOk = tfOk
  generalize @tfV = tfV
  kernel_rfl
def o_law4e : Oracle := orc [(12, s_from), (14, s_yes)]
set_option maxRecDepth 100000 in
theorem UnitIsMonotone_vc (x y : Nat) (m : Int) (V : Value → Prop) : evalBody Try.prog (o_law4e) (noLoops) (Try.f7.body.getD .skip) Try.f7.results.toList Try.f7.ntmps [.float .f64 x, .float .f64 y, .int .u16 m] V = (bcond (bnot (ffOk x)) (bcond true (bcond (beq' (ffOk x) (feq FloatKind.f64 x x)) ((inF y = true ∧ in16 m = true ∧ inF x = true ∧ in16 m = true ∧ True) ∧ V (Value.bool (beq' (ffOk y) (feq FloatKind.f64 y y)))) ((inF y = true ∧ in16 m = true ∧ inF x = true ∧ in16 m = true ∧ True) ∧ V (Value.bool false))) ((inF y = true ∧ in16 m = true ∧ inF x = true ∧ in16 m = true ∧ True) ∧ V (Value.bool false))) (bcond (bnot (ffOk y)) (bcond true (bcond (beq' (ffOk x) (feq FloatKind.f64 x x)) ((inF y = true ∧ in16 m = true ∧ inF x = true ∧ in16 m = true ∧ True) ∧ V (Value.bool (beq' (ffOk y) (feq FloatKind.f64 y y)))) ((inF y = true ∧ in16 m = true ∧ inF x = true ∧ in16 m = true ∧ True) ∧ V (Value.bool false))) ((inF y = true ∧ in16 m = true ∧ inF x = true ∧ in16 m = true ∧ True) ∧ V (Value.bool false))) (bcond true (bcond (fgt FloatKind.f64 x y) (bcond (flt FloatKind.f64 x y) ((inF y = true ∧ in16 m = true ∧ inF x = true ∧ in16 m = true ∧ True) ∧ V (Value.bool true)) ((inF y = true ∧ in16 m = true ∧ inF x = true ∧ in16 m = true ∧ True) ∧ V (Value.bool (ige (ffV x m) (ffV y m))))) (bcond (ile (ffV x m) (ffV y m)) (bcond (flt FloatKind.f64 x y) ((inF y = true ∧ in16 m = true ∧ inF x = true ∧ in16 m = true ∧ True) ∧ V (Value.bool true)) ((inF y = true ∧ in16 m = true ∧ inF x = true ∧ in16 m = true ∧ True) ∧ V (Value.bool (ige (ffV x m) (ffV y m))))) ((inF y = true ∧ in16 m = true ∧ inF x = true ∧ in16 m = true ∧ True) ∧ V (Value.bool false)))) ((inF y = true ∧ in16 m = true ∧ inF x = true ∧ in16 m = true ∧ True) ∧ V (Value.bool false))))) := by
  try delta o_law4e
  try delta s_from
  try delta s_yes
  generalize @ffOk = ffOk
  generalize @ffV = ffV
  generalize @in16 = in16
  generalize @inF = inF
  kernel_rfl
end Go.Proofs.Ytljjffcjoohgfaa
