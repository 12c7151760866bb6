/-
  Layer 5 (sample), its specification and the generator's pixels: the conditions of the calls.
-/
import Derived.Test.YtafaadnjkkkafaaDoorSb
namespace Go.Proofs.YtafaadnjkkkafaaDoor
open Go.RowKit PR
set_option linter.unusedVariables false

-- SPEC smV smOk pvB t16 t8 nr5 pmV stV gsV gpF gpA gpC in16 gxMax hlf gmod modOk inU
def smV (b : Int) : Int := if b = 8 then 255 else if b = 16 then 65535 else 0
def smOk (b : Int) : Bool := decide (b = 8 ∨ b = 16)
/-- are the samples of a pixel in order? -/
def pvB (c0 c1 c2 a f m : Int) : Bool := decide (c0 ≤ a ∧ c1 ≤ a ∧ c2 ≤ a ∧ a ≤ f ∧ f ≤ m)
def t16 (v : Int) : Int := if v ≤ 255 then 257 * v else 65535
def t8 (v : Int) : Int := (510 * v + 65535) / 131070
/-- the integer nearest to x * y / d, as 16 bits -/
def nr5 (x y d : Int) : Int := iconv .u16 (hlf (imul .u64 (iconv .u64 x) (iconv .u64 y)) (iconv .u64 d))
def pmV (c a m : Int) : Int := nr5 (iimin c m) (iimin a m) m
def stV (c a m : Int) : Int := nr5 (iimin c a) m a
/-- the generator's sample -/
def gsV (n m : Int) : Int :=
  bif ieq (gmod n 8) 0 then 0 else bif ieq (gmod n 8) 1 then m else bif ieq (gmod n 8) 2 then m
  else bif ieq (gmod n 8) 3 then iconv .u16 (iquo .i64 (iadd .i64 (iconv .i64 m) (gmod (iquo .i64 n 8) 2)) 2)
  else bif ieq (gmod n 8) 4 then iconv .u16 (iimin (iconv .i64 m) (gmod (iquo .i64 n 8) 4))
  else iconv .u16 (gmod (iquo .i64 n 8) (iadd .i64 (iconv .i64 m) 1))
def gpF (n4 m : Int) : Int := gsV n4 m
def gpA (n3 n4 m : Int) : Int := bif igt (gmod n3 3) 0 then gsV (iquo .i64 n3 3) (gpF n4 m) else gpF n4 m
def gpC (n n3 n4 m : Int) : Int := gsV n (gpA n3 n4 m)

def s_smax : List Value → Option (Value × List Bool)
  | [.int .i64 b] => some (.tuple #[.int .u16 (smV b), .bool (smOk b)], [])
  | _ => none
def s_pvalid : List Value → Option (Value × List Bool)
  | [.agg ⟨[.int .u16 c0, .int .u16 c1, .int .u16 c2, .int .u16 a, .int .u16 f]⟩, .int .u16 m] => some (.bool (pvB c0 c1 c2 a f m), [])
  | _ => none
def s_to16 : List Value → Option (Value × List Bool)
  | [.int .u16 v] => some (.int .u16 (t16 v), [in16 v])
  | _ => none
def s_to8 : List Value → Option (Value × List Bool)
  | [.int .u16 v] => some (.int .u16 (t8 v), [in16 v])
  | _ => none
def s_widen : List Value → Option (Value × List Bool)
  | [.agg ⟨[.int .u16 c0, .int .u16 c1, .int .u16 c2, .int .u16 a, .int .u16 f]⟩] => some (.agg #[.int .u16 (t16 c0), .int .u16 (t16 c1), .int .u16 (t16 c2), .int .u16 (t16 a), .int .u16 (t16 f)], [in16 c0, in16 c1, in16 c2, in16 a, in16 f])
  | _ => none
def s_narrow : List Value → Option (Value × List Bool)
  | [.agg ⟨[.int .u16 c0, .int .u16 c1, .int .u16 c2, .int .u16 a, .int .u16 f]⟩] => some (.agg #[.int .u16 (t8 c0), .int .u16 (t8 c1), .int .u16 (t8 c2), .int .u16 (t8 a), .int .u16 (t8 f)], [in16 c0, in16 c1, in16 c2, in16 a, in16 f])
  | _ => none
def s_nearest5 : List Value → Option (Value × List Bool)
  | [.int .u16 x, .int .u16 y, .int .u16 d] => some (.int .u16 (nr5 x y d), [])
  | _ => none
def s_premul : List Value → Option (Value × List Bool)
  | [.int .u16 c, .int .u16 a, .int .u16 m] => some (.int .u16 (pmV c a m), [])
  | _ => none
def s_straight : List Value → Option (Value × List Bool)
  | [.int .u16 c, .int .u16 a, .int .u16 m] => some (.int .u16 (stV c a m), [])
  | _ => none
def s_by65535 : List Value → Option (Value × List Bool)
  | [.int .u64 n] => some (.int .u64 (hlf n 65535), [inU n])
  | _ => none
def s_gsample : List Value → Option (Value × List Bool)
  | [.int .i64 n, .int .u16 m] => some (.int .u16 (gsV n m), [in16 m])
  | _ => none
def s_galpha : List Value → Option (Value × List Bool)
  | [.int .i64 c, .int .i64 a, .int .u16 m] => some (.tuple #[.int .u16 (gsV c (gsV a m)), .int .u16 (gsV a m)], [in16 m])
  | _ => none
def s_gpixel : List Value → Option (Value × List Bool)
  | [.agg ⟨[.int .i64 n0, .int .i64 n1, .int .i64 n2, .int .i64 n3, .int .i64 n4]⟩, .int .u16 m] => some (.agg #[.int .u16 (gpC n0 n3 n4 m), .int .u16 (gpC n1 n3 n4 m), .int .u16 (gpC n2 n3 n4 m), .int .u16 (gpA n3 n4 m), .int .u16 (gpF n4 m)], [in16 m])
  | _ => none

set_option maxRecDepth 100000 in
theorem gsample_vc (n m : Int) (V : Value → Prop) : evalBody Tryd.prog (o_gmax) (named) (Tryd.f29.body.getD .skip) Tryd.f29.results.toList Tryd.f29.ntmps [.int .i64 n, .int .u16 m] V = (True ∧ True ∧ ∀ (i : Int), i = gmod n 8 → (modOk 8 = true ∧ True) ∧ True ∧ bcond (ieq i 0) (True ∧ True ∧ V (Value.int .u16 0)) (True ∧ bcond (ieq i 1) (bcond (ieq i 1) (True ∧ True ∧ V (Value.int .u16 m)) (True ∧ bcond (ieq i 3) (∀ (i : Int), i = gmod (iquo IntKind.i64 n 8) 2 → (true = true ∧ modOk 2 = true ∧ true = true ∧ True) ∧ True ∧ V (Value.int .u16 (iconv IntKind.u16 (iquo IntKind.i64 (iadd IntKind.i64 (iconv IntKind.i64 m) i) 2)))) (True ∧ bcond (ieq i 4) (∀ (i : Int), i = gmod (iquo IntKind.i64 n 8) 4 → ∀ (i_1 : Int), i_1 = iimin (iconv IntKind.i64 m) i → (modOk 4 = true ∧ true = true ∧ True) ∧ True ∧ V (Value.int .u16 (iconv IntKind.u16 i_1))) (∀ (i : Int), i = gmod (iquo IntKind.i64 n 8) (iadd IntKind.i64 (iconv IntKind.i64 m) 1) → (modOk (iadd IntKind.i64 (iconv IntKind.i64 m) 1) = true ∧ true = true ∧ True) ∧ True ∧ V (Value.int .u16 (iconv IntKind.u16 i)))))) (True ∧ bcond (ieq i 2) (True ∧ True ∧ V (Value.int .u16 m)) (True ∧ bcond (ieq i 3) (∀ (i : Int), i = gmod (iquo IntKind.i64 n 8) 2 → (true = true ∧ modOk 2 = true ∧ true = true ∧ True) ∧ True ∧ V (Value.int .u16 (iconv IntKind.u16 (iquo IntKind.i64 (iadd IntKind.i64 (iconv IntKind.i64 m) i) 2)))) (True ∧ bcond (ieq i 4) (∀ (i : Int), i = gmod (iquo IntKind.i64 n 8) 4 → ∀ (i_1 : Int), i_1 = iimin (iconv IntKind.i64 m) i → (modOk 4 = true ∧ true = true ∧ True) ∧ True ∧ V (Value.int .u16 (iconv IntKind.u16 i_1))) (∀ (i : Int), i = gmod (iquo IntKind.i64 n 8) (iadd IntKind.i64 (iconv IntKind.i64 m) 1) → (modOk (iadd IntKind.i64 (iconv IntKind.i64 m) 1) = true ∧ true = true ∧ True) ∧ True ∧ V (Value.int .u16 (iconv IntKind.u16 i)))))))) := by
  try delta o_gmax
  try delta s_mod
  generalize @gmod = gmod
  generalize @modOk = modOk
  kernel_rfl
def o_galpha : Oracle := orc [(29, s_gsample)]
set_option maxRecDepth 100000 in
theorem galpha_vc (c a m : Int) (V : Value → Prop) : evalBody Tryd.prog (o_galpha) (named) (Tryd.f19.body.getD .skip) Tryd.f19.results.toList Tryd.f19.ntmps [.int .i64 c, .int .i64 a, .int .u16 m] V = (True ∧ ∀ (i : Int), i = gsV a m → (in16 m = true ∧ True) ∧ ∀ (i_1 : Int), i_1 = gsV c i → (in16 i = true ∧ True) ∧ True ∧ V (Value.tuple #[Value.int .u16 i_1, Value.int .u16 i])) := by
  try delta o_galpha
  try delta s_gsample
  generalize @gsV = gsV
  generalize @in16 = in16
  kernel_rfl
def o_gpixel : Oracle := orc [(29, s_gsample), (12, s_mod)]

end Go.Proofs.YtafaadnjkkkafaaDoor
