/-
  Layer 5 (sample), its specification and the generator's pixels: the conditions of the calls.
-/
import Derived.Test.YtledddiahepapaaSb
namespace Go.Proofs.Ytledddiahepapaa
open Go.RowKit PR
set_option linter.unusedVariables false

-- SPEC smV smOk pvB t16 t8 nr5 pmV stV gsV gpF gpA gpC in16 gxMax hlf gmod modOk inU
def smV (b : Int) : Int := if b = 8 then 255 else if b = 16 then 65535 else 0
def smOk (b : Int) : Bool := decide (b = 8 ∨ b = 16)
/-- are the samples of a pixel in order? -/
def pvB (c0 c1 c2 a f m : Int) : Bool := decide (c0 ≤ a ∧ c1 ≤ a ∧ c2 ≤ a ∧ a ≤ f ∧ f ≤ m)
def t16 (v : Int) : Int := if v ≤ 255 then 257 * v else 65535
def t8 (v : Int) : Int := (510 * v + 65535) / 131070
/-- the integer nearest to x * y / d, as 16 bits -/
def nr5 (x y d : Int) : Int := iconv .u16 (hlf (imul .u64 (iconv .u64 x) (iconv .u64 y)) (iconv .u64 d))
def pmV (c a m : Int) : Int := nr5 (iimin c m) (iimin a m) m
def stV (c a m : Int) : Int := nr5 (iimin c a) m a
/-- the generator's sample -/
def gsV (n m : Int) : Int :=
  bif ieq (gmod n 8) 0 then 0 else bif ieq (gmod n 8) 1 then m else bif ieq (gmod n 8) 2 then m
  else bif ieq (gmod n 8) 3 then iconv .u16 (iquo .i64 (iadd .i64 (iconv .i64 m) (gmod (iquo .i64 n 8) 2)) 2)
  else bif ieq (gmod n 8) 4 then iconv .u16 (iimin (iconv .i64 m) (gmod (iquo .i64 n 8) 4))
  else iconv .u16 (gmod (iquo .i64 n 8) (iadd .i64 (iconv .i64 m) 1))
def gpF (n4 m : Int) : Int := gsV n4 m
def gpA (n3 n4 m : Int) : Int := bif igt (gmod n3 3) 0 then gsV (iquo .i64 n3 3) (gpF n4 m) else gpF n4 m
def gpC (n n3 n4 m : Int) : Int := gsV n (gpA n3 n4 m)

def s_smax : List Value → Option (Value × List Bool)
  | [.int .i64 b] => some (.tuple #[.int .u16 (smV b), .bool (smOk b)], [])
  | _ => none
def s_pvalid : List Value → Option (Value × List Bool)
  | [.agg ⟨[.int .u16 c0, .int .u16 c1, .int .u16 c2, .int .u16 a, .int .u16 f]⟩, .int .u16 m] => some (.bool (pvB c0 c1 c2 a f m), [])
  | _ => none
def s_to16 : List Value → Option (Value × List Bool)
  | [.int .u16 v] => some (.int .u16 (t16 v), [in16 v])
  | _ => none
def s_to8 : List Value → Option (Value × List Bool)
  | [.int .u16 v] => some (.int .u16 (t8 v), [in16 v])
  | _ => none
def s_widen : List Value → Option (Value × List Bool)
  | [.agg ⟨[.int .u16 c0, .int .u16 c1, .int .u16 c2, .int .u16 a, .int .u16 f]⟩] => some (.agg #[.int .u16 (t16 c0), .int .u16 (t16 c1), .int .u16 (t16 c2), .int .u16 (t16 a), .int .u16 (t16 f)], [in16 c0, in16 c1, in16 c2, in16 a, in16 f])
  | _ => none
def s_narrow : List Value → Option (Value × List Bool)
  | [.agg ⟨[.int .u16 c0, .int .u16 c1, .int .u16 c2, .int .u16 a, .int .u16 f]⟩] => some (.agg #[.int .u16 (t8 c0), .int .u16 (t8 c1), .int .u16 (t8 c2), .int .u16 (t8 a), .int .u16 (t8 f)], [in16 c0, in16 c1, in16 c2, in16 a, in16 f])
  | _ => none
def s_each : List Value → Option (Value × List Bool)
  | [.agg ⟨[.int .u16 c0, .int .u16 c1, .int .u16 c2, .int .u16 a, .int .u16 f]⟩, .func (.func g) ⟨[]⟩ ⟨[]⟩] =>
    bif Nat.beq g 17 then some (.agg #[.int .u16 (t16 c0), .int .u16 (t16 c1), .int .u16 (t16 c2), .int .u16 (t16 a), .int .u16 (t16 f)], [in16 c0, in16 c1, in16 c2, in16 a, in16 f])
    else bif Nat.beq g 19 then some (.agg #[.int .u16 (t8 c0), .int .u16 (t8 c1), .int .u16 (t8 c2), .int .u16 (t8 a), .int .u16 (t8 f)], [in16 c0, in16 c1, in16 c2, in16 a, in16 f])
    else none
  | _ => none
def s_nearest5 : List Value → Option (Value × List Bool)
  | [.int .u16 x, .int .u16 y, .int .u16 d] => some (.int .u16 (nr5 x y d), [])
  | _ => none
def s_premul : List Value → Option (Value × List Bool)
  | [.int .u16 c, .int .u16 a, .int .u16 m] => some (.int .u16 (pmV c a m), [])
  | _ => none
def s_straight : List Value → Option (Value × List Bool)
  | [.int .u16 c, .int .u16 a, .int .u16 m] => some (.int .u16 (stV c a m), [])
  | _ => none
def s_by65535 : List Value → Option (Value × List Bool)
  | [.int .u64 n] => some (.int .u64 (hlf n 65535), [inU n])
  | _ => none
def s_gsample : List Value → Option (Value × List Bool)
  | [.int .i64 n, .int .u16 m] => some (.int .u16 (gsV n m), [in16 m])
  | _ => none
def s_galpha : List Value → Option (Value × List Bool)
  | [.int .i64 c, .int .i64 a, .int .u16 m] => some (.tuple #[.int .u16 (gsV c (gsV a m)), .int .u16 (gsV a m)], [in16 m])
  | _ => none
def s_gpixel : List Value → Option (Value × List Bool)
  | [.agg ⟨[.int .i64 n0, .int .i64 n1, .int .i64 n2, .int .i64 n3, .int .i64 n4]⟩, .int .u16 m] => some (.agg #[.int .u16 (gpC n0 n3 n4 m), .int .u16 (gpC n1 n3 n4 m), .int .u16 (gpC n2 n3 n4 m), .int .u16 (gpA n3 n4 m), .int .u16 (gpF n4 m)], [in16 m])
  | _ => none

set_option maxRecDepth 100000 in
theorem smax_vc (b : Int) (V : Value → Prop) : evalBody Try.prog (orc []) (named) (Try.f11.body.getD .skip) Try.f11.results.toList Try.f11.ntmps [.int .i64 b] V = (True ∧ True ∧ True ∧ bcond (ieq b 8) (True ∧ True ∧ V (Value.tuple #[Value.int .u16 255, Value.bool true])) (True ∧ bcond (ieq b 16) (True ∧ True ∧ V (Value.tuple #[Value.int .u16 65535, Value.bool true])) (True ∧ True ∧ V (Value.tuple #[Value.int .u16 0, Value.bool false])))) := by
  kernel_rfl
set_option maxRecDepth 100000 in
theorem rmax_vc (b : Int) (V : Value → Prop) : evalBody Try.prog (orc []) (named) (Try.f12.body.getD .skip) Try.f12.results.toList Try.f12.ntmps [.int .i64 b] V = (True ∧ True ∧ True ∧ bcond (ieq b 8) (True ∧ True ∧ V (Value.tuple #[Value.int .u16 255, Value.bool true])) (True ∧ bcond (ieq b 16) (True ∧ True ∧ V (Value.tuple #[Value.int .u16 65535, Value.bool true])) (True ∧ True ∧ V (Value.tuple #[Value.int .u16 0, Value.bool false])))) := by
  kernel_rfl
set_option maxRecDepth 100000 in
theorem pvalid_vc (c0 c1 c2 a f m : Int) (V : Value → Prop) : evalBody Try.prog (orc []) (fun n => bif Nat.beq n 1000000 then some .named else bif Nat.beq n 2 then some (.rounds 4) else none) (Try.f15.body.getD .skip) Try.f15.results.toList Try.f15.ntmps [.agg #[.int .u16 c0, .int .u16 c1, .int .u16 c2, .int .u16 a, .int .u16 f], .int .u16 m] V = (True ∧ True ∧ True ∧ (true = true ∧ true = true ∧ True) ∧ True ∧ bcond (igt c0 a) (True ∧ True ∧ V (Value.bool false)) (True ∧ True ∧ (true = true ∧ true = true ∧ True) ∧ True ∧ bcond (igt c1 a) (True ∧ True ∧ V (Value.bool false)) (True ∧ True ∧ (true = true ∧ true = true ∧ True) ∧ True ∧ bcond (igt c2 a) (True ∧ True ∧ V (Value.bool false)) (True ∧ True ∧ bcond (ile a f) (True ∧ True ∧ V (Value.bool (ile f m))) (True ∧ True ∧ V (Value.bool false)))))) := by
  kernel_rfl
set_option maxRecDepth 100000 in
theorem rpvalid_vc (c0 c1 c2 a f m : Int) (V : Value → Prop) : evalBody Try.prog (orc []) (named) (Try.f16.body.getD .skip) Try.f16.results.toList Try.f16.ntmps [.agg #[.int .u16 c0, .int .u16 c1, .int .u16 c2, .int .u16 a, .int .u16 f], .int .u16 m] V = (True ∧ bcond (ile c0 a) (bcond (ile c1 a) (bcond (ile c2 a) (bcond (ile a f) ((true = true ∧ true = true ∧ true = true ∧ true = true ∧ true = true ∧ true = true ∧ True) ∧ True ∧ V (Value.bool (ile f m))) ((true = true ∧ true = true ∧ true = true ∧ true = true ∧ true = true ∧ true = true ∧ True) ∧ True ∧ V (Value.bool false))) ((true = true ∧ true = true ∧ true = true ∧ true = true ∧ true = true ∧ true = true ∧ True) ∧ True ∧ V (Value.bool false))) ((true = true ∧ true = true ∧ true = true ∧ true = true ∧ True) ∧ True ∧ V (Value.bool false))) ((true = true ∧ true = true ∧ True) ∧ True ∧ V (Value.bool false))) := by
  kernel_rfl
set_option maxRecDepth 100000 in
theorem to16_vc (v : Int) (V : Value → Prop) : evalBody Try.prog (orc []) (named) (Try.f17.body.getD .skip) Try.f17.results.toList Try.f17.ntmps [.int .u16 v] V = (True ∧ ∀ (i : Int), i = iimin v 255 → True ∧ True ∧ V (Value.int .u16 (imul IntKind.u16 i 257))) := by
  kernel_rfl
set_option maxRecDepth 100000 in
theorem rto16_vc (v : Int) (V : Value → Prop) : evalBody Try.prog (orc []) (named) (Try.f18.body.getD .skip) Try.f18.results.toList Try.f18.ntmps [.int .u16 v] V = (True ∧ True ∧ bcond (igt v 255) (True ∧ True ∧ V (Value.int .u16 65535)) (True ∧ True ∧ V (Value.int .u16 (imul IntKind.u16 257 v)))) := by
  kernel_rfl
def o_to8 : Oracle := orc [(31, s_by65535)]
set_option maxRecDepth 100000 in
theorem to8_vc (v : Int) (V : Value → Prop) : evalBody Try.prog (o_to8) (named) (Try.f19.body.getD .skip) Try.f19.results.toList Try.f19.ntmps [.int .u16 v] V = (True ∧ ∀ (i : Int), i = hlf (imul IntKind.u64 (iconv IntKind.u64 v) 255) 65535 → (inU (imul IntKind.u64 (iconv IntKind.u64 v) 255) = true ∧ True) ∧ True ∧ V (Value.int .u16 (iconv IntKind.u16 i))) := by
  try delta o_to8
  try delta s_by65535
  generalize @hlf = hlf
  generalize @inU = inU
  kernel_rfl
def o_rto8 : Oracle := orc [(32, s_half)]
set_option maxRecDepth 100000 in
theorem rto8_vc (v : Int) (V : Value → Prop) : evalBody Try.prog (o_rto8) (named) (Try.f20.body.getD .skip) Try.f20.results.toList Try.f20.ntmps [.int .u16 v] V = (True ∧ ∀ (i : Int), i = hlf (imul IntKind.u64 (iconv IntKind.u64 v) 255) 65535 → (inU (imul IntKind.u64 (iconv IntKind.u64 v) 255) = true ∧ inU 65535 = true ∧ True) ∧ True ∧ V (Value.int .u16 (iconv IntKind.u16 i))) := by
  try delta o_rto8
  try delta s_half
  generalize @hlf = hlf
  generalize @inU = inU
  kernel_rfl
def o_each : Oracle := orc [(17, s_to16), (19, s_to8)]
set_option maxRecDepth 100000 in
theorem each16_vc (c0 c1 c2 a f : Int) (V : Value → Prop) : evalBody Try.prog (o_each) (fun n => bif Nat.beq n 1000000 then some .named else bif Nat.beq n 2 then some (.rounds 4) else none) (Try.f33.body.getD .skip) Try.f33.results.toList Try.f33.ntmps [.agg #[.int .u16 c0, .int .u16 c1, .int .u16 c2, .int .u16 a, .int .u16 f], .func (.func 17) ⟨[]⟩ ⟨[]⟩] V = (True ∧ True ∧ True ∧ (true = true ∧ true = true ∧ True) ∧ ∀ (i : Int), i = t16 c0 → (true = true ∧ true = true ∧ in16 c0 = true ∧ True) ∧ True ∧ True ∧ (true = true ∧ true = true ∧ True) ∧ ∀ (i_1 : Int), i_1 = t16 c1 → (true = true ∧ true = true ∧ in16 c1 = true ∧ True) ∧ True ∧ True ∧ (true = true ∧ true = true ∧ True) ∧ ∀ (i_2 : Int), i_2 = t16 c2 → (true = true ∧ true = true ∧ in16 c2 = true ∧ True) ∧ True ∧ True ∧ ∀ (i_3 : Int), i_3 = t16 a → ∀ (i_4 : Int), i_4 = t16 f → (in16 f = true ∧ in16 a = true ∧ True) ∧ True ∧ True ∧ V (Value.agg #[Value.int .u16 i, Value.int .u16 i_1, Value.int .u16 i_2, Value.int .u16 i_3, Value.int .u16 i_4])) := by
  try delta o_each
  try delta s_to16
  try delta s_to8
  generalize @in16 = in16
  generalize @t16 = t16
  generalize @t8 = t8
  kernel_rfl
set_option maxRecDepth 100000 in
theorem each8_vc (c0 c1 c2 a f : Int) (V : Value → Prop) : evalBody Try.prog (o_each) (fun n => bif Nat.beq n 1000000 then some .named else bif Nat.beq n 2 then some (.rounds 4) else none) (Try.f33.body.getD .skip) Try.f33.results.toList Try.f33.ntmps [.agg #[.int .u16 c0, .int .u16 c1, .int .u16 c2, .int .u16 a, .int .u16 f], .func (.func 19) ⟨[]⟩ ⟨[]⟩] V = (True ∧ True ∧ True ∧ (true = true ∧ true = true ∧ True) ∧ ∀ (i : Int), i = t8 c0 → (true = true ∧ true = true ∧ in16 c0 = true ∧ True) ∧ True ∧ True ∧ (true = true ∧ true = true ∧ True) ∧ ∀ (i_1 : Int), i_1 = t8 c1 → (true = true ∧ true = true ∧ in16 c1 = true ∧ True) ∧ True ∧ True ∧ (true = true ∧ true = true ∧ True) ∧ ∀ (i_2 : Int), i_2 = t8 c2 → (true = true ∧ true = true ∧ in16 c2 = true ∧ True) ∧ True ∧ True ∧ ∀ (i_3 : Int), i_3 = t8 a → ∀ (i_4 : Int), i_4 = t8 f → (in16 f = true ∧ in16 a = true ∧ True) ∧ True ∧ True ∧ V (Value.agg #[Value.int .u16 i, Value.int .u16 i_1, Value.int .u16 i_2, Value.int .u16 i_3, Value.int .u16 i_4])) := by
  try delta o_each
  try delta s_to16
  try delta s_to8
  generalize @in16 = in16
  generalize @t16 = t16
  generalize @t8 = t8
  kernel_rfl
def o_wn : Oracle := orc [(33, s_each)]
set_option maxRecDepth 100000 in
theorem widen_vc (c0 c1 c2 a f : Int) (V : Value → Prop) : evalBody Try.prog (o_wn) (named) (Try.f21.body.getD .skip) Try.f21.results.toList Try.f21.ntmps [.agg #[.int .u16 c0, .int .u16 c1, .int .u16 c2, .int .u16 a, .int .u16 f]] V = (True ∧ ∀ (i : Int), i = t16 c0 → ∀ (i_1 : Int), i_1 = t16 c1 → ∀ (i_2 : Int), i_2 = t16 c2 → ∀ (i_3 : Int), i_3 = t16 a → ∀ (i_4 : Int), i_4 = t16 f → (in16 c0 = true ∧ in16 c1 = true ∧ in16 c2 = true ∧ in16 a = true ∧ in16 f = true ∧ True) ∧ True ∧ V (Value.agg #[Value.int .u16 i, Value.int .u16 i_1, Value.int .u16 i_2, Value.int .u16 i_3, Value.int .u16 i_4])) := by
  try delta o_wn
  try delta s_each
  generalize @in16 = in16
  generalize @t16 = t16
  generalize @t8 = t8
  kernel_rfl
set_option maxRecDepth 100000 in
theorem narrow_vc (c0 c1 c2 a f : Int) (V : Value → Prop) : evalBody Try.prog (o_wn) (named) (Try.f23.body.getD .skip) Try.f23.results.toList Try.f23.ntmps [.agg #[.int .u16 c0, .int .u16 c1, .int .u16 c2, .int .u16 a, .int .u16 f]] V = (True ∧ ∀ (i : Int), i = t8 c0 → ∀ (i_1 : Int), i_1 = t8 c1 → ∀ (i_2 : Int), i_2 = t8 c2 → ∀ (i_3 : Int), i_3 = t8 a → ∀ (i_4 : Int), i_4 = t8 f → (in16 c0 = true ∧ in16 c1 = true ∧ in16 c2 = true ∧ in16 a = true ∧ in16 f = true ∧ True) ∧ True ∧ V (Value.agg #[Value.int .u16 i, Value.int .u16 i_1, Value.int .u16 i_2, Value.int .u16 i_3, Value.int .u16 i_4])) := by
  try delta o_wn
  try delta s_each
  generalize @in16 = in16
  generalize @t16 = t16
  generalize @t8 = t8
  kernel_rfl
def o_rwn : Oracle := orc [(18, s_to16), (20, s_to8)]
set_option maxRecDepth 100000 in
theorem rwiden_vc (c0 c1 c2 a f : Int) (V : Value → Prop) : evalBody Try.prog (o_rwn) (named) (Try.f22.body.getD .skip) Try.f22.results.toList Try.f22.ntmps [.agg #[.int .u16 c0, .int .u16 c1, .int .u16 c2, .int .u16 a, .int .u16 f]] V = (True ∧ ∀ (i : Int), i = t16 c0 → ∀ (i_1 : Int), i_1 = t16 c1 → ∀ (i_2 : Int), i_2 = t16 c2 → ∀ (i_3 : Int), i_3 = t16 a → ∀ (i_4 : Int), i_4 = t16 f → (in16 f = true ∧ in16 a = true ∧ in16 c2 = true ∧ true = true ∧ true = true ∧ in16 c1 = true ∧ true = true ∧ true = true ∧ in16 c0 = true ∧ true = true ∧ true = true ∧ True) ∧ True ∧ V (Value.agg #[Value.int .u16 i, Value.int .u16 i_1, Value.int .u16 i_2, Value.int .u16 i_3, Value.int .u16 i_4])) := by
  try delta o_rwn
  try delta s_to16
  try delta s_to8
  generalize @in16 = in16
  generalize @t16 = t16
  generalize @t8 = t8
  kernel_rfl
set_option maxRecDepth 100000 in
theorem rnarrow_vc (c0 c1 c2 a f : Int) (V : Value → Prop) : evalBody Try.prog (o_rwn) (named) (Try.f24.body.getD .skip) Try.f24.results.toList Try.f24.ntmps [.agg #[.int .u16 c0, .int .u16 c1, .int .u16 c2, .int .u16 a, .int .u16 f]] V = (True ∧ ∀ (i : Int), i = t8 c0 → ∀ (i_1 : Int), i_1 = t8 c1 → ∀ (i_2 : Int), i_2 = t8 c2 → ∀ (i_3 : Int), i_3 = t8 a → ∀ (i_4 : Int), i_4 = t8 f → (in16 f = true ∧ in16 a = true ∧ in16 c2 = true ∧ true = true ∧ true = true ∧ in16 c1 = true ∧ true = true ∧ true = true ∧ in16 c0 = true ∧ true = true ∧ true = true ∧ True) ∧ True ∧ V (Value.agg #[Value.int .u16 i, Value.int .u16 i_1, Value.int .u16 i_2, Value.int .u16 i_3, Value.int .u16 i_4])) := by
  try delta o_rwn
  try delta s_to16
  try delta s_to8
  generalize @in16 = in16
  generalize @t16 = t16
  generalize @t8 = t8
  kernel_rfl
def o_near5 : Oracle := orc [(35, s_half)]
set_option maxRecDepth 100000 in
theorem near5_vc (x y d : Int) (V : Value → Prop) : evalBody Try.prog (o_near5) (named) (Try.f34.body.getD .skip) Try.f34.results.toList Try.f34.ntmps [.int .u16 x, .int .u16 y, .int .u16 d] V = (True ∧ ∀ (i : Int), i = hlf (imul IntKind.u64 (iconv IntKind.u64 x) (iconv IntKind.u64 y)) (iconv IntKind.u64 d) → (inU (imul IntKind.u64 (iconv IntKind.u64 x) (iconv IntKind.u64 y)) = true ∧ inU (iconv IntKind.u64 d) = true ∧ True) ∧ True ∧ V (Value.int .u16 (iconv IntKind.u16 i))) := by
  try delta o_near5
  try delta s_half
  generalize @hlf = hlf
  generalize @inU = inU
  kernel_rfl
def o_ps5 : Oracle := orc [(34, s_nearest5)]
set_option maxRecDepth 100000 in
theorem premul_vc (c a m : Int) (V : Value → Prop) : evalBody Try.prog (o_ps5) (named) (Try.f25.body.getD .skip) Try.f25.results.toList Try.f25.ntmps [.int .u16 c, .int .u16 a, .int .u16 m] V = (True ∧ ∀ (i : Int), i = iimin c m → ∀ (i_1 : Int), i_1 = iimin a m → ∀ (i_2 : Int), i_2 = nr5 i i_1 m → True ∧ True ∧ V (Value.int .u16 i_2)) := by
  try delta o_ps5
  try delta s_nearest5
  generalize @nr5 = nr5
  kernel_rfl
set_option maxRecDepth 100000 in
theorem straight_vc (c a m : Int) (V : Value → Prop) : evalBody Try.prog (o_ps5) (named) (Try.f27.body.getD .skip) Try.f27.results.toList Try.f27.ntmps [.int .u16 c, .int .u16 a, .int .u16 m] V = (True ∧ ∀ (i : Int), i = iimin c a → ∀ (i_1 : Int), i_1 = nr5 i m a → True ∧ True ∧ V (Value.int .u16 i_1)) := by
  try delta o_ps5
  try delta s_nearest5
  generalize @nr5 = nr5
  kernel_rfl
set_option maxRecDepth 100000 in
theorem rpremul_vc (c a m : Int) (V : Value → Prop) : evalBody Try.prog (o_rto8) (named) (Try.f26.body.getD .skip) Try.f26.results.toList Try.f26.ntmps [.int .u16 c, .int .u16 a, .int .u16 m] V = (True ∧ ∀ (i : Int), i = iimin c m → ∀ (i_1 : Int), i_1 = iimin a m → True ∧ ∀ (i_2 : Int), i_2 = hlf (imul IntKind.u64 (iconv IntKind.u64 i) (iconv IntKind.u64 i_1)) (iconv IntKind.u64 m) → (inU (imul IntKind.u64 (iconv IntKind.u64 i) (iconv IntKind.u64 i_1)) = true ∧ inU (iconv IntKind.u64 m) = true ∧ True) ∧ True ∧ V (Value.int .u16 (iconv IntKind.u16 i_2))) := by
  try delta o_rto8
  try delta s_half
  generalize @hlf = hlf
  generalize @inU = inU
  kernel_rfl
set_option maxRecDepth 100000 in
theorem rstraight_vc (c a m : Int) (V : Value → Prop) : evalBody Try.prog (o_rto8) (named) (Try.f28.body.getD .skip) Try.f28.results.toList Try.f28.ntmps [.int .u16 c, .int .u16 a, .int .u16 m] V = (True ∧ ∀ (i : Int), i = iimin c a → ∀ (i_1 : Int), i_1 = hlf (imul IntKind.u64 (iconv IntKind.u64 i) (iconv IntKind.u64 m)) (iconv IntKind.u64 a) → (inU (imul IntKind.u64 (iconv IntKind.u64 i) (iconv IntKind.u64 m)) = true ∧ inU (iconv IntKind.u64 a) = true ∧ True) ∧ True ∧ V (Value.int .u16 (iconv IntKind.u16 i_1))) := by
  try delta o_rto8
  try delta s_half
  generalize @hlf = hlf
  generalize @inU = inU
  kernel_rfl
set_option maxRecDepth 100000 in
theorem gsample_vc (n m : Int) (V : Value → Prop) : evalBody Try.prog (o_gmax) (named) (Try.f30.body.getD .skip) Try.f30.results.toList Try.f30.ntmps [.int .i64 n, .int .u16 m] V = (True ∧ True ∧ ∀ (i : Int), i = gmod n 8 → (modOk 8 = true ∧ True) ∧ True ∧ bcond (ieq i 0) (True ∧ True ∧ V (Value.int .u16 0)) (True ∧ bcond (ieq i 1) (bcond (ieq i 1) (True ∧ True ∧ V (Value.int .u16 m)) (True ∧ bcond (ieq i 3) (∀ (i : Int), i = gmod (iquo IntKind.i64 n 8) 2 → (true = true ∧ modOk 2 = true ∧ true = true ∧ True) ∧ True ∧ V (Value.int .u16 (iconv IntKind.u16 (iquo IntKind.i64 (iadd IntKind.i64 (iconv IntKind.i64 m) i) 2)))) (True ∧ bcond (ieq i 4) (∀ (i : Int), i = gmod (iquo IntKind.i64 n 8) 4 → ∀ (i_1 : Int), i_1 = iimin (iconv IntKind.i64 m) i → (modOk 4 = true ∧ true = true ∧ True) ∧ True ∧ V (Value.int .u16 (iconv IntKind.u16 i_1))) (∀ (i : Int), i = gmod (iquo IntKind.i64 n 8) (iadd IntKind.i64 (iconv IntKind.i64 m) 1) → (modOk (iadd IntKind.i64 (iconv IntKind.i64 m) 1) = true ∧ true = true ∧ True) ∧ True ∧ V (Value.int .u16 (iconv IntKind.u16 i)))))) (True ∧ bcond (ieq i 2) (True ∧ True ∧ V (Value.int .u16 m)) (True ∧ bcond (ieq i 3) (∀ (i : Int), i = gmod (iquo IntKind.i64 n 8) 2 → (true = true ∧ modOk 2 = true ∧ true = true ∧ True) ∧ True ∧ V (Value.int .u16 (iconv IntKind.u16 (iquo IntKind.i64 (iadd IntKind.i64 (iconv IntKind.i64 m) i) 2)))) (True ∧ bcond (ieq i 4) (∀ (i : Int), i = gmod (iquo IntKind.i64 n 8) 4 → ∀ (i_1 : Int), i_1 = iimin (iconv IntKind.i64 m) i → (modOk 4 = true ∧ true = true ∧ True) ∧ True ∧ V (Value.int .u16 (iconv IntKind.u16 i_1))) (∀ (i : Int), i = gmod (iquo IntKind.i64 n 8) (iadd IntKind.i64 (iconv IntKind.i64 m) 1) → (modOk (iadd IntKind.i64 (iconv IntKind.i64 m) 1) = true ∧ true = true ∧ True) ∧ True ∧ V (Value.int .u16 (iconv IntKind.u16 i)))))))) := by
  try delta o_gmax
  try delta s_mod
  generalize @gmod = gmod
  generalize @modOk = modOk
  kernel_rfl
def o_galpha : Oracle := orc [(30, s_gsample)]
set_option maxRecDepth 100000 in
theorem galpha_vc (c a m : Int) (V : Value → Prop) : evalBody Try.prog (o_galpha) (named) (Try.f29.body.getD .skip) Try.f29.results.toList Try.f29.ntmps [.int .i64 c, .int .i64 a, .int .u16 m] V = (True ∧ ∀ (i : Int), i = gsV a m → (in16 m = true ∧ True) ∧ ∀ (i_1 : Int), i_1 = gsV c i → (in16 i = true ∧ True) ∧ True ∧ V (Value.tuple #[Value.int .u16 i_1, Value.int .u16 i])) := by
  try delta o_galpha
  try delta s_gsample
  generalize @gsV = gsV
  generalize @in16 = in16
  kernel_rfl
def o_gpixel : Oracle := orc [(30, s_gsample), (13, s_mod)]
set_option maxRecDepth 100000 in
theorem gpixel_vc (n0 n1 n2 n3 n4 m : Int) (V : Value → Prop) : evalBody Try.prog (o_gpixel) (named) (Try.f10.body.getD .skip) Try.f10.results.toList Try.f10.ntmps [.agg #[.int .i64 n0, .int .i64 n1, .int .i64 n2, .int .i64 n3, .int .i64 n4], .int .u16 m] V = (True ∧ ∀ (i : Int), i = gsV n4 m → (in16 m = true ∧ true = true ∧ true = true ∧ True) ∧ True ∧ ∀ (i_1 : Int), i_1 = gmod n3 3 → (modOk 3 = true ∧ true = true ∧ true = true ∧ True) ∧ bcond (igt i_1 0) (∀ (i_2 : Int), i_2 = gsV (iquo IntKind.i64 n3 3) i → (in16 i = true ∧ true = true ∧ true = true ∧ true = true ∧ True) ∧ ∀ (i_3 : Int), i_3 = gsV n0 i_2 → ∀ (i_4 : Int), i_4 = gsV n1 i_2 → ∀ (i_5 : Int), i_5 = gsV n2 i_2 → (in16 i_2 = true ∧ true = true ∧ true = true ∧ in16 i_2 = true ∧ true = true ∧ true = true ∧ in16 i_2 = true ∧ true = true ∧ true = true ∧ True) ∧ True ∧ V (Value.agg #[Value.int .u16 i_3, Value.int .u16 i_4, Value.int .u16 i_5, Value.int .u16 i_2, Value.int .u16 i])) (∀ (i_2 : Int), i_2 = gsV n0 i → ∀ (i_3 : Int), i_3 = gsV n1 i → ∀ (i_4 : Int), i_4 = gsV n2 i → (in16 i = true ∧ true = true ∧ true = true ∧ in16 i = true ∧ true = true ∧ true = true ∧ in16 i = true ∧ true = true ∧ true = true ∧ True) ∧ True ∧ V (Value.agg #[Value.int .u16 i_2, Value.int .u16 i_3, Value.int .u16 i_4, Value.int .u16 i, Value.int .u16 i]))) := by
  try delta o_gpixel
  try delta s_gsample
  try delta s_mod
  generalize @gmod = gmod
  generalize @gsV = gsV
  generalize @in16 = in16
  generalize @modOk = modOk
  kernel_rfl

def o_awake5 : Oracle := orc [(11, s_smax), (17, s_to16), (19, s_to8), (25, s_premul), (27, s_straight)]
set_option maxRecDepth 100000 in
theorem awake5_vc  (V : Value → Prop) : evalBody Try.prog (o_awake5) (named) (Try.f14.body.getD .skip) Try.f14.results.toList Try.f14.ntmps [] V = (True ∧ ∀ (i : Int), i = smV 16 → True ∧ bcond (smOk 16) (bcond (ieq i 65535) (∀ (i : Int), i = t16 128 → bcond (ieq i 32896) (∀ (i : Int), i = t8 32767 → bcond (ieq i 127) (∀ (i : Int), i = pmV 200 128 255 → bcond (ieq i 100) (∀ (i : Int), i = stV 100 128 255 → (in16 32767 = true ∧ in16 128 = true ∧ True) ∧ True ∧ V (Value.bool (ieq i 199))) ((in16 32767 = true ∧ in16 128 = true ∧ True) ∧ True ∧ V (Value.bool false))) ((in16 32767 = true ∧ in16 128 = true ∧ True) ∧ True ∧ V (Value.bool false))) ((in16 128 = true ∧ True) ∧ True ∧ V (Value.bool false))) (True ∧ True ∧ V (Value.bool false))) (True ∧ True ∧ V (Value.bool false))) := by
  try delta o_awake5
  try delta s_smax
  try delta s_to16
  try delta s_to8
  try delta s_premul
  try delta s_straight
  generalize @in16 = in16
  generalize @pmV = pmV
  generalize @smOk = smOk
  generalize @smV = smV
  generalize @stV = stV
  generalize @t16 = t16
  generalize @t8 = t8
  kernel_rfl
def o_law5a : Oracle := orc [(9, s_gmax), (10, s_gpixel), (11, s_smax), (12, s_smax), (13, s_mod), (14, s_yes), (15, s_pvalid), (16, s_pvalid)]
set_option maxRecDepth 100000 in
theorem SampleValidAgrees_vc (b c0 c1 c2 a f n0 n1 n2 n3 n4 at' v m : Int) (V : Value → Prop) : evalBody Try.prog (o_law5a) (named) (Try.f3.body.getD .skip) Try.f3.results.toList Try.f3.ntmps [.int .i64 b, .agg #[.int .u16 c0, .int .u16 c1, .int .u16 c2, .int .u16 a, .int .u16 f], .agg #[.int .i64 n0, .int .i64 n1, .int .i64 n2, .int .i64 n3, .int .i64 n4], .int .i64 at', .int .u16 v, .int .u16 m] V = (True ∧ ∀ (i : Int), i = gxMax b → True ∧ ∀ (i_1 : Int), i_1 = gpC n0 n3 n4 i → ∀ (i_2 : Int), i_2 = gpC n1 n3 n4 i → ∀ (i_3 : Int), i_3 = gpC n2 n3 n4 i → ∀ (i_4 : Int), i_4 = gpA n3 n4 i → ∀ (i_5 : Int), i_5 = gpF n4 i → (in16 i = true ∧ True) ∧ ∀ (i_6 : Int), i_6 = smV b → True ∧ ∀ (i_7 : Int), i_7 = smV b → True ∧ ∀ (i_8 : Int), i_8 = gmod b 4 → ∀ (i_9 : Int), i_9 = smV (imul IntKind.i64 8 i_8) → (modOk 4 = true ∧ True) ∧ ∀ (i_10 : Int), i_10 = gmod b 4 → ∀ (i_11 : Int), i_11 = smV (imul IntKind.i64 8 i_10) → (modOk 4 = true ∧ True) ∧ bcond (bnot (pvB i_1 i_2 i_3 i_4 i_5 i)) (True ∧ True ∧ True ∧ V (Value.bool false)) (True ∧ bcond (bnot (beq' (pvB c0 c1 c2 a f m) (pvB c0 c1 c2 a f m))) (True ∧ True ∧ V (Value.bool false)) (∀ (i_12 : Int), i_12 = gmod at' 5 → (modOk 5 = true ∧ True) ∧ True ∧ bcond (ieq i_12 3) (True ∧ bcond (ieq i_6 i_7) (bcond (beq' (smOk b) (smOk b)) (bcond (ieq i_9 i_11) (bcond (beq' (smOk (imul IntKind.i64 8 i_8)) (smOk (imul IntKind.i64 8 i_10))) (True ∧ True ∧ V (Value.bool (beq' (pvB i_1 i_2 i_3 v i_5 i) (pvB i_1 i_2 i_3 v i_5 i)))) (True ∧ True ∧ V (Value.bool false))) (True ∧ True ∧ V (Value.bool false))) (True ∧ True ∧ V (Value.bool false))) (True ∧ True ∧ V (Value.bool false))) (True ∧ bcond (ieq i_12 4) (True ∧ bcond (ieq i_6 i_7) (bcond (beq' (smOk b) (smOk b)) (bcond (ieq i_9 i_11) (bcond (beq' (smOk (imul IntKind.i64 8 i_8)) (smOk (imul IntKind.i64 8 i_10))) (True ∧ True ∧ V (Value.bool (beq' (pvB i_1 i_2 i_3 i_4 v i) (pvB i_1 i_2 i_3 i_4 v i)))) (True ∧ True ∧ V (Value.bool false))) (True ∧ True ∧ V (Value.bool false))) (True ∧ True ∧ V (Value.bool false))) (True ∧ True ∧ V (Value.bool false))) (∀ (i_13 : Int), i_13 = gmod at' 5 → bcond (ieq i_13 0) ((true = true ∧ true = true ∧ modOk 5 = true ∧ True) ∧ bcond (ieq i_6 i_7) (bcond (beq' (smOk b) (smOk b)) (bcond (ieq i_9 i_11) (bcond (beq' (smOk (imul IntKind.i64 8 i_8)) (smOk (imul IntKind.i64 8 i_10))) (True ∧ True ∧ V (Value.bool (beq' (pvB v i_2 i_3 i_4 i_5 i) (pvB v i_2 i_3 i_4 i_5 i)))) (True ∧ True ∧ V (Value.bool false))) (True ∧ True ∧ V (Value.bool false))) (True ∧ True ∧ V (Value.bool false))) (True ∧ True ∧ V (Value.bool false))) (bcond (ieq i_13 1) ((true = true ∧ true = true ∧ modOk 5 = true ∧ True) ∧ bcond (ieq i_6 i_7) (bcond (beq' (smOk b) (smOk b)) (bcond (ieq i_9 i_11) (bcond (beq' (smOk (imul IntKind.i64 8 i_8)) (smOk (imul IntKind.i64 8 i_10))) (True ∧ True ∧ V (Value.bool (beq' (pvB i_1 v i_3 i_4 i_5 i) (pvB i_1 v i_3 i_4 i_5 i)))) (True ∧ True ∧ V (Value.bool false))) (True ∧ True ∧ V (Value.bool false))) (True ∧ True ∧ V (Value.bool false))) (True ∧ True ∧ V (Value.bool false))) (bcond (ieq i_13 2) ((true = true ∧ true = true ∧ modOk 5 = true ∧ True) ∧ bcond (ieq i_6 i_7) (bcond (beq' (smOk b) (smOk b)) (bcond (ieq i_9 i_11) (bcond (beq' (smOk (imul IntKind.i64 8 i_8)) (smOk (imul IntKind.i64 8 i_10))) (True ∧ True ∧ V (Value.bool (beq' (pvB i_1 i_2 v i_4 i_5 i) (pvB i_1 i_2 v i_4 i_5 i)))) (True ∧ True ∧ V (Value.bool false))) (True ∧ True ∧ V (Value.bool false))) (True ∧ True ∧ V (Value.bool false))) (True ∧ True ∧ V (Value.bool false))) False))))))) := by
  try delta o_law5a
  try delta s_gmax
  try delta s_gpixel
  try delta s_smax
  try delta s_mod
  try delta s_yes
  try delta s_pvalid
  generalize @gmod = gmod
  generalize @gpA = gpA
  generalize @gpC = gpC
  generalize @gpF = gpF
  generalize @gxMax = gxMax
  generalize @in16 = in16
  generalize @modOk = modOk
  generalize @pvB = pvB
  generalize @smOk = smOk
  generalize @smV = smV
  kernel_rfl
def o_law5b : Oracle := orc [(14, s_yes), (17, s_to16), (18, s_to16), (19, s_to8), (20, s_to8), (21, s_widen), (22, s_widen), (23, s_narrow), (24, s_narrow)]
set_option maxRecDepth 100000 in
theorem SampleDepthsAgree_vc (v c0 c1 c2 a f : Int) (V : Value → Prop) : evalBody Try.prog (o_law5b) (named) (Try.f4.body.getD .skip) Try.f4.results.toList Try.f4.ntmps [.int .u16 v, .agg #[.int .u16 c0, .int .u16 c1, .int .u16 c2, .int .u16 a, .int .u16 f]] V = (True ∧ ∀ (i : Int), i = t16 v → ∀ (i_1 : Int), i_1 = t16 v → bcond (ieq i i_1) (∀ (i : Int), i = t8 v → ∀ (i_2 : Int), i_2 = t8 v → bcond (ieq i i_2) (∀ (i : Int), i = t16 c0 → ∀ (i_3 : Int), i_3 = t16 c1 → ∀ (i_4 : Int), i_4 = t16 c2 → ∀ (i_5 : Int), i_5 = t16 a → ∀ (i_6 : Int), i_6 = t16 f → ∀ (i_7 : Int), i_7 = t16 c0 → ∀ (i_8 : Int), i_8 = t16 c1 → ∀ (i_9 : Int), i_9 = t16 c2 → ∀ (i_10 : Int), i_10 = t16 a → ∀ (i_11 : Int), i_11 = t16 f → bcond (band (band (ieq i i_7) (band (ieq i_3 i_8) (band (ieq i_4 i_9) true))) (band (ieq i_5 i_10) (band (ieq i_6 i_11) true))) (∀ (i : Int), i = t8 c0 → ∀ (i_12 : Int), i_12 = t8 c1 → ∀ (i_13 : Int), i_13 = t8 c2 → ∀ (i_14 : Int), i_14 = t8 a → ∀ (i_15 : Int), i_15 = t8 f → ∀ (i_16 : Int), i_16 = t8 c0 → ∀ (i_17 : Int), i_17 = t8 c1 → ∀ (i_18 : Int), i_18 = t8 c2 → ∀ (i_19 : Int), i_19 = t8 a → ∀ (i_20 : Int), i_20 = t8 f → (in16 c0 = true ∧ in16 c1 = true ∧ in16 c2 = true ∧ in16 a = true ∧ in16 f = true ∧ in16 c0 = true ∧ in16 c1 = true ∧ in16 c2 = true ∧ in16 a = true ∧ in16 f = true ∧ in16 c0 = true ∧ in16 c1 = true ∧ in16 c2 = true ∧ in16 a = true ∧ in16 f = true ∧ in16 c0 = true ∧ in16 c1 = true ∧ in16 c2 = true ∧ in16 a = true ∧ in16 f = true ∧ in16 v = true ∧ in16 v = true ∧ in16 v = true ∧ in16 v = true ∧ True) ∧ True ∧ V (Value.bool (band (band (ieq i i_16) (band (ieq i_12 i_17) (band (ieq i_13 i_18) true))) (band (ieq i_14 i_19) (band (ieq i_15 i_20) true))))) ((in16 c0 = true ∧ in16 c1 = true ∧ in16 c2 = true ∧ in16 a = true ∧ in16 f = true ∧ in16 c0 = true ∧ in16 c1 = true ∧ in16 c2 = true ∧ in16 a = true ∧ in16 f = true ∧ in16 v = true ∧ in16 v = true ∧ in16 v = true ∧ in16 v = true ∧ True) ∧ True ∧ V (Value.bool false))) ((in16 v = true ∧ in16 v = true ∧ in16 v = true ∧ in16 v = true ∧ True) ∧ True ∧ V (Value.bool false))) ((in16 v = true ∧ in16 v = true ∧ True) ∧ True ∧ V (Value.bool false))) := by
  try delta o_law5b
  try delta s_yes
  try delta s_to16
  try delta s_to8
  try delta s_widen
  try delta s_narrow
  generalize @in16 = in16
  generalize @t16 = t16
  generalize @t8 = t8
  kernel_rfl
def o_law5c : Oracle := orc [(14, s_yes), (17, s_to16), (19, s_to8)]
set_option maxRecDepth 100000 in
theorem SampleDepthsRoundTrip_vc (v : Int) (V : Value → Prop) : evalBody Try.prog (o_law5c) (named) (Try.f5.body.getD .skip) Try.f5.results.toList Try.f5.ntmps [.int .u16 v] V = (True ∧ True ∧ ∀ (i : Int), i = t8 v → ∀ (i_1 : Int), i_1 = t16 i → (in16 i = true ∧ in16 v = true ∧ True) ∧ ∀ (i : Int), i = t16 (iand IntKind.u16 v 255) → ∀ (i_2 : Int), i_2 = t8 i → bcond (ieq i_2 (iand IntKind.u16 v 255)) (bcond (ile (isub IntKind.i64 (iconv IntKind.i64 i_1) (iconv IntKind.i64 v)) 128) (bcond (ile (isub IntKind.i64 (iconv IntKind.i64 v) (iconv IntKind.i64 i_1)) 128) (∀ (i_3 : Int), i_3 = t8 v → (in16 v = true ∧ in16 i = true ∧ in16 (iand IntKind.u16 v 255) = true ∧ True) ∧ True ∧ V (Value.bool (ile i_3 255))) ((in16 i = true ∧ in16 (iand IntKind.u16 v 255) = true ∧ True) ∧ True ∧ V (Value.bool false))) ((in16 i = true ∧ in16 (iand IntKind.u16 v 255) = true ∧ True) ∧ True ∧ V (Value.bool false))) ((in16 i = true ∧ in16 (iand IntKind.u16 v 255) = true ∧ True) ∧ True ∧ V (Value.bool false))) := by
  try delta o_law5c
  try delta s_yes
  try delta s_to16
  try delta s_to8
  generalize @in16 = in16
  generalize @t16 = t16
  generalize @t8 = t8
  kernel_rfl
def o_law5d : Oracle := orc [(14, s_yes), (10, s_gpixel), (21, s_widen), (15, s_pvalid), (23, s_narrow), (19, s_to8), (17, s_to16)]
set_option maxRecDepth 100000 in
theorem SampleConversionsKeepPixelsValid_vc (n0 n1 n2 n3 n4 x y : Int) (V : Value → Prop) : evalBody Try.prog (o_law5d) (named) (Try.f6.body.getD .skip) Try.f6.results.toList Try.f6.ntmps [.agg #[.int .i64 n0, .int .i64 n1, .int .i64 n2, .int .i64 n3, .int .i64 n4], .int .u16 x, .int .u16 y] V = (True ∧ ∀ (i : Int), i = gpC n0 n3 n4 255 → ∀ (i_1 : Int), i_1 = gpC n1 n3 n4 255 → ∀ (i_2 : Int), i_2 = gpC n2 n3 n4 255 → ∀ (i_3 : Int), i_3 = gpA n3 n4 255 → ∀ (i_4 : Int), i_4 = gpF n4 255 → ∀ (i_5 : Int), i_5 = gpC n0 n3 n4 65535 → ∀ (i_6 : Int), i_6 = gpC n1 n3 n4 65535 → ∀ (i_7 : Int), i_7 = gpC n2 n3 n4 65535 → ∀ (i_8 : Int), i_8 = gpA n3 n4 65535 → ∀ (i_9 : Int), i_9 = gpF n4 65535 → (in16 65535 = true ∧ in16 255 = true ∧ True) ∧ ∀ (i_10 : Int), i_10 = t16 i → ∀ (i_11 : Int), i_11 = t16 i_1 → ∀ (i_12 : Int), i_12 = t16 i_2 → ∀ (i_13 : Int), i_13 = t16 i_3 → ∀ (i_14 : Int), i_14 = t16 i_4 → bcond (pvB i_10 i_11 i_12 i_13 i_14 65535) (∀ (i_15 : Int), i_15 = t8 i_5 → ∀ (i_16 : Int), i_16 = t8 i_6 → ∀ (i_17 : Int), i_17 = t8 i_7 → ∀ (i_18 : Int), i_18 = t8 i_8 → ∀ (i_19 : Int), i_19 = t8 i_9 → bcond (pvB i_15 i_16 i_17 i_18 i_19 255) (∀ (i_20 : Int), i_20 = t16 i → ∀ (i_21 : Int), i_21 = t16 i_1 → ∀ (i_22 : Int), i_22 = t16 i_2 → ∀ (i_23 : Int), i_23 = t16 i_3 → ∀ (i_24 : Int), i_24 = t16 i_4 → ∀ (i_25 : Int), i_25 = t8 i_20 → ∀ (i_26 : Int), i_26 = t8 i_21 → ∀ (i_27 : Int), i_27 = t8 i_22 → ∀ (i_28 : Int), i_28 = t8 i_23 → ∀ (i_29 : Int), i_29 = t8 i_24 → bcond (band (band (ieq i_25 i) (band (ieq i_26 i_1) (band (ieq i_27 i_2) true))) (band (ieq i_28 i_3) (band (ieq i_29 i_4) true))) (bcond (igt x y) ((in16 i_20 = true ∧ in16 i_21 = true ∧ in16 i_22 = true ∧ in16 i_23 = true ∧ in16 i_24 = true ∧ in16 i = true ∧ in16 i_1 = true ∧ in16 i_2 = true ∧ in16 i_3 = true ∧ in16 i_4 = true ∧ in16 i_5 = true ∧ in16 i_6 = true ∧ in16 i_7 = true ∧ in16 i_8 = true ∧ in16 i_9 = true ∧ in16 i = true ∧ in16 i_1 = true ∧ in16 i_2 = true ∧ in16 i_3 = true ∧ in16 i_4 = true ∧ True) ∧ True ∧ V (Value.bool true)) (∀ (i_30 : Int), i_30 = t8 x → ∀ (i_31 : Int), i_31 = t8 y → bcond (ile i_30 i_31) (∀ (i_32 : Int), i_32 = t16 x → ∀ (i_33 : Int), i_33 = t16 y → (in16 y = true ∧ in16 x = true ∧ in16 y = true ∧ in16 x = true ∧ in16 i_20 = true ∧ in16 i_21 = true ∧ in16 i_22 = true ∧ in16 i_23 = true ∧ in16 i_24 = true ∧ in16 i = true ∧ in16 i_1 = true ∧ in16 i_2 = true ∧ in16 i_3 = true ∧ in16 i_4 = true ∧ in16 i_5 = true ∧ in16 i_6 = true ∧ in16 i_7 = true ∧ in16 i_8 = true ∧ in16 i_9 = true ∧ in16 i = true ∧ in16 i_1 = true ∧ in16 i_2 = true ∧ in16 i_3 = true ∧ in16 i_4 = true ∧ True) ∧ True ∧ V (Value.bool (ile i_32 i_33))) ((in16 y = true ∧ in16 x = true ∧ in16 i_20 = true ∧ in16 i_21 = true ∧ in16 i_22 = true ∧ in16 i_23 = true ∧ in16 i_24 = true ∧ in16 i = true ∧ in16 i_1 = true ∧ in16 i_2 = true ∧ in16 i_3 = true ∧ in16 i_4 = true ∧ in16 i_5 = true ∧ in16 i_6 = true ∧ in16 i_7 = true ∧ in16 i_8 = true ∧ in16 i_9 = true ∧ in16 i = true ∧ in16 i_1 = true ∧ in16 i_2 = true ∧ in16 i_3 = true ∧ in16 i_4 = true ∧ True) ∧ True ∧ V (Value.bool false)))) ((in16 i_20 = true ∧ in16 i_21 = true ∧ in16 i_22 = true ∧ in16 i_23 = true ∧ in16 i_24 = true ∧ in16 i = true ∧ in16 i_1 = true ∧ in16 i_2 = true ∧ in16 i_3 = true ∧ in16 i_4 = true ∧ in16 i_5 = true ∧ in16 i_6 = true ∧ in16 i_7 = true ∧ in16 i_8 = true ∧ in16 i_9 = true ∧ in16 i = true ∧ in16 i_1 = true ∧ in16 i_2 = true ∧ in16 i_3 = true ∧ in16 i_4 = true ∧ True) ∧ True ∧ V (Value.bool false))) ((in16 i_5 = true ∧ in16 i_6 = true ∧ in16 i_7 = true ∧ in16 i_8 = true ∧ in16 i_9 = true ∧ in16 i = true ∧ in16 i_1 = true ∧ in16 i_2 = true ∧ in16 i_3 = true ∧ in16 i_4 = true ∧ True) ∧ True ∧ V (Value.bool false))) ((in16 i = true ∧ in16 i_1 = true ∧ in16 i_2 = true ∧ in16 i_3 = true ∧ in16 i_4 = true ∧ True) ∧ True ∧ V (Value.bool false))) := by
  try delta o_law5d
  try delta s_yes
  try delta s_gpixel
  try delta s_widen
  try delta s_pvalid
  try delta s_narrow
  try delta s_to8
  try delta s_to16
  generalize @gpA = gpA
  generalize @gpC = gpC
  generalize @gpF = gpF
  generalize @in16 = in16
  generalize @pvB = pvB
  generalize @t16 = t16
  generalize @t8 = t8
  kernel_rfl
def o_law5e : Oracle := orc [(14, s_yes), (9, s_gmax), (25, s_premul), (26, s_premul), (27, s_straight), (28, s_straight)]
set_option maxRecDepth 100000 in
theorem SamplePremultiplyAgrees_vc (c a m n : Int) (V : Value → Prop) : evalBody Try.prog (o_law5e) (named) (Try.f7.body.getD .skip) Try.f7.results.toList Try.f7.ntmps [.int .u16 c, .int .u16 a, .int .u16 m, .int .i64 n] V = (True ∧ ∀ (i : Int), i = gxMax n → True ∧ ∀ (i_1 : Int), i_1 = pmV c a m → ∀ (i_2 : Int), i_2 = pmV c a m → bcond (ieq i_1 i_2) (∀ (i_3 : Int), i_3 = stV c a m → ∀ (i_4 : Int), i_4 = stV c a m → bcond (ieq i_3 i_4) (∀ (i_5 : Int), i_5 = pmV c a i → ∀ (i_6 : Int), i_6 = pmV c a i → bcond (ieq i_5 i_6) (∀ (i_7 : Int), i_7 = stV c a i → ∀ (i_8 : Int), i_8 = stV c a i → True ∧ True ∧ V (Value.bool (ieq i_7 i_8))) (True ∧ True ∧ V (Value.bool false))) (True ∧ True ∧ V (Value.bool false))) (True ∧ True ∧ V (Value.bool false))) := by
  try delta o_law5e
  try delta s_yes
  try delta s_gmax
  try delta s_premul
  try delta s_straight
  generalize @gxMax = gxMax
  generalize @pmV = pmV
  generalize @stV = stV
  kernel_rfl
def o_law5f : Oracle := orc [(14, s_yes), (9, s_gmax), (29, s_galpha), (25, s_premul), (27, s_straight)]
set_option maxRecDepth 100000 in
theorem SampleStraightRoundTrip_vc (c a n : Int) (V : Value → Prop) : evalBody Try.prog (o_law5f) (named) (Try.f8.body.getD .skip) Try.f8.results.toList Try.f8.ntmps [.int .i64 c, .int .i64 a, .int .i64 n] V = (True ∧ ∀ (i : Int), i = gxMax n → True ∧ ∀ (i_1 : Int), i_1 = gsV c (gsV a i) → ∀ (i_2 : Int), i_2 = gsV a i → (in16 i = true ∧ True) ∧ ∀ (i_3 : Int), i_3 = stV i_1 i_2 i → True ∧ ∀ (i_4 : Int), i_4 = pmV i_3 i_2 i → bcond (ieq i_4 i_1) (∀ (i_5 : Int), i_5 = pmV i_3 i i → bcond (ieq i_5 i_3) (True ∧ True ∧ V (Value.bool (ile i_3 i))) (True ∧ True ∧ V (Value.bool false))) (True ∧ True ∧ V (Value.bool false))) := by
  try delta o_law5f
  try delta s_yes
  try delta s_gmax
  try delta s_galpha
  try delta s_premul
  try delta s_straight
  generalize @gsV = gsV
  generalize @gxMax = gxMax
  generalize @in16 = in16
  generalize @pmV = pmV
  generalize @stV = stV
  kernel_rfl
end Go.Proofs.Ytledddiahepapaa
