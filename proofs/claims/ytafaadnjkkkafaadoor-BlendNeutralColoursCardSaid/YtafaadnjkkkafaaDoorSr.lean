/-
  Layer 3 (surd) and its specification: Compare, Floor and Half, with their loops, and the generator's numbers.
-/
import Derived.Test.YtafaadnjkkkafaaDoorSq
namespace Go.Proofs.YtafaadnjkkkafaaDoor
open Go.RowKit PR
set_option linter.unusedVariables false

-- SPEC cmpX flI flOk flV hvOk hvV flGood flMu feGood feMu
/-- the greatest integer whose square is at most n -/
def rootOf : Nat → Nat
  | 0 => 0
  | n + 1 => if (rootOf n + 1) * (rootOf n + 1) ≤ n + 1 then rootOf n + 1 else rootOf n
def isq (n : Int) : Int := ((rootOf n.toNat : Nat) : Int)
def flZ (p q r d : Int) : Int := (p + isq (q * q * r)) / d
def cmpX (ph pl q r d n : Int) : Int := bif vldB ph q r d then ordI ph pl q r d n else 0
def flI (ph pl q r d : Int) : Int := flZ (w2 ph pl) q r d
def flOk (ph pl q r d : Int) : Bool := vldB ph q r d && decide (flI ph pl q r d < 9223372036854775808)
def flV (ph pl q r d : Int) : Int := bif flOk ph pl q r d then flI ph pl q r d else 0
def hvZ (p q r d : Int) : Int := if 0 ≤ ordZ (2 * p) (2 * q) r ((2 * flZ p q r d + 1) * d) then flZ p q r d + 1 else flZ p q r d
def hvOk (ph pl q r d : Int) : Bool := flOk ph pl q r d && decide (hvZ (w2 ph pl) q r d < 9223372036854775808)
def hvV (ph pl q r d : Int) : Int := bif hvOk ph pl q r d then hvZ (w2 ph pl) q r d else 0
def fiveU (a b c d e : Int) : Prop := inU a = true ∧ inU b = true ∧ inU c = true ∧ inU d = true ∧ inU e = true

def s_compare : List Value → Option (Value × List Bool)
  | [.agg ⟨[.int .u64 ph, .int .u64 pl, .int .u64 q, .int .u64 r, .int .u64 d]⟩, .int .u64 n] => some (.tuple #[.int .i64 (cmpX ph pl q r d n), .bool (vldB ph q r d)], [inU ph, inU pl, inU q, inU r, inU d, inU n])
  | _ => none
def s_floor : List Value → Option (Value × List Bool)
  | [.agg ⟨[.int .u64 ph, .int .u64 pl, .int .u64 q, .int .u64 r, .int .u64 d]⟩] => some (.tuple #[.int .u64 (flV ph pl q r d), .bool (flOk ph pl q r d)], [inU ph, inU pl, inU q, inU r, inU d])
  | _ => none
def s_halfX : List Value → Option (Value × List Bool)
  | [.agg ⟨[.int .u64 ph, .int .u64 pl, .int .u64 q, .int .u64 r, .int .u64 d]⟩] => some (.tuple #[.int .u64 (hvV ph pl q r d), .bool (hvOk ph pl q r d)], [inU ph, inU pl, inU q, inU r, inU d])
  | _ => none
def s_enclose : List Value → Option (Value × List Bool)
  | [.agg ⟨[.int .u64 ph, .int .u64 pl, .int .u64 q, .int .u64 r, .int .u64 d]⟩] => some (.tuple #[.int .u64 (enL ph pl d), .int .u64 (enH ph pl q r d)], [vldB ph q r d, inU ph, inU pl, inU q, inU r, inU d])
  | _ => none
def s_below : List Value → Option (Value × List Bool)
  | [.int .u64 n] => some (.tuple #[.int .u64 (isel (ige n 9223372036854775808) 0 n), .bool (bnot (ige n 9223372036854775808))], [])
  | _ => none

def o_compare : Oracle := orc [(59, s_valid), (52, s_order)]
def o_rcompare : Oracle := orc [(24, s_valid), (38, s_times)]
set_option maxRecDepth 100000 in
theorem rcompare_vc (ph pl q r d n : Int) (V : Value → Prop) : evalBody Tryd.prog (o_rcompare) (noLoops) (Tryd.f25.body.getD .skip) Tryd.f25.results.toList Tryd.f25.ntmps [.agg #[.int .u64 ph, .int .u64 pl, .int .u64 q, .int .u64 r, .int .u64 d], .int .u64 n] V = (bcond (bnot (vldB ph q r d)) (True ∧ V (Value.tuple #[Value.int .i64 0, Value.bool false])) ((inU ph = true ∧ inU pl = true ∧ vldB ph q r d = true ∧ inU q = true ∧ inU r = true ∧ inU d = true ∧ inU n = true ∧ True) ∧ V (Value.tuple #[Value.int .i64 (tmI false ph pl q r d n), Value.bool true]))) := by
  try delta o_rcompare
  try delta s_valid
  try delta s_times
  generalize @inU = inU
  generalize @tmI = tmI
  generalize @vldB = vldB
  kernel_rfl

def flGood (ph pl q r d l h : Int) : Prop := 0 ≤ l ∧ l ≤ h ∧ h ≤ 9223372036854775808 ∧ l ≤ flI ph pl q r d ∧ (flI ph pl q r d ≤ h ∨ h = 9223372036854775808)
def flMu (l h : Int) : Nat := (h - l).toNat
def o_inv_floor (ph pl q r d : Int) : Inv where
  ι := Int × Int
  good i := flGood ph pl q r d i.1 i.2
  slots i := slotsOf 36 [(1, .pointer (some ⟨0, 0, none⟩)), (2, .int .u64 0), (3, .bool false), (4, .int .u64 i.1), (5, .int .u64 i.2)]
  blocks _ := [(0, [.int .u64 ph, .int .u64 pl, .int .u64 q, .int .u64 r, .int .u64 d])]
  μ i := flMu i.1 i.2
def o_floor : Oracle := orc [(59, s_valid), (60, s_enclose), (52, s_order), (53, s_below)]
set_option maxRecDepth 100000 in
theorem floor_vc (ph pl q r d : Int) (V : Value → Prop) : evalBody Tryd.prog (o_floor) (fun n => bif Nat.beq n 4 then some (.inv (o_inv_floor ph pl q r d)) else none) (Tryd.f50.body.getD .skip) Tryd.f50.results.toList Tryd.f50.ntmps [.agg #[.int .u64 ph, .int .u64 pl, .int .u64 q, .int .u64 r, .int .u64 d]] V = (bcond (bnot (vldB ph q r d)) (True ∧ V (Value.tuple #[Value.int .u64 0, Value.bool false])) ((∃ (i : Int × Int), flGood ph pl q r d i.1 i.2 ∧ (vldB ph q r d = true ∧ inU ph = true ∧ inU pl = true ∧ inU q = true ∧ inU r = true ∧ inU d = true ∧ True) ∧ ((true = true ∧ Value.pointer (some ⟨0, 0, none⟩) = Value.pointer (some ⟨0, 0, none⟩)) ∧ (true = true ∧ Value.int .u64 0 = Value.int .u64 0) ∧ (true = true ∧ Value.bool false = Value.bool false) ∧ (true = true ∧ Value.int .u64 (enL ph pl d) = Value.int .u64 i.1) ∧ (true = true ∧ Value.int .u64 (enH ph pl q r d) = Value.int .u64 i.2) ∧ True) ∧ (some [Value.int .u64 ph, Value.int .u64 pl, Value.int .u64 q, Value.int .u64 r, Value.int .u64 d] = some [Value.int .u64 ph, Value.int .u64 pl, Value.int .u64 q, Value.int .u64 r, Value.int .u64 d] ∧ True) ∧ true = true ∧ True) ∧ ∀ (i : Int × Int), flGood ph pl q r d i.1 i.2 → bcond (ilt i.1 i.2) (bcond (ige (ordI ph pl q r d (iadd IntKind.u64 i.1 (iquo IntKind.u64 (iadd IntKind.u64 (isub IntKind.u64 i.2 i.1) 1) 2))) 0) (∃ (j : Int × Int), flGood ph pl q r d j.1 j.2 ∧ ((inU ph = true ∧ inU pl = true ∧ ordOk q r = true ∧ inU d = true ∧ inU (iadd IntKind.u64 i.1 (iquo IntKind.u64 (iadd IntKind.u64 (isub IntKind.u64 i.2 i.1) 1) 2)) = true ∧ true = true ∧ True) ∧ ((true = true ∧ Value.pointer (some ⟨0, 0, none⟩) = Value.pointer (some ⟨0, 0, none⟩)) ∧ (true = true ∧ Value.int .u64 0 = Value.int .u64 0) ∧ (true = true ∧ Value.bool false = Value.bool false) ∧ (true = true ∧ Value.int .u64 (iadd IntKind.u64 i.1 (iquo IntKind.u64 (iadd IntKind.u64 (isub IntKind.u64 i.2 i.1) 1) 2)) = Value.int .u64 j.1) ∧ (true = true ∧ Value.int .u64 i.2 = Value.int .u64 j.2) ∧ True) ∧ (some [Value.int .u64 ph, Value.int .u64 pl, Value.int .u64 q, Value.int .u64 r, Value.int .u64 d] = some [Value.int .u64 ph, Value.int .u64 pl, Value.int .u64 q, Value.int .u64 r, Value.int .u64 d] ∧ True) ∧ true = true ∧ True) ∧ Nat.le (Nat.succ (flMu j.1 j.2)) (flMu i.1 i.2)) (∃ (j : Int × Int), flGood ph pl q r d j.1 j.2 ∧ ((inU ph = true ∧ inU pl = true ∧ ordOk q r = true ∧ inU d = true ∧ inU (iadd IntKind.u64 i.1 (iquo IntKind.u64 (iadd IntKind.u64 (isub IntKind.u64 i.2 i.1) 1) 2)) = true ∧ true = true ∧ True) ∧ ((true = true ∧ Value.pointer (some ⟨0, 0, none⟩) = Value.pointer (some ⟨0, 0, none⟩)) ∧ (true = true ∧ Value.int .u64 0 = Value.int .u64 0) ∧ (true = true ∧ Value.bool false = Value.bool false) ∧ (true = true ∧ Value.int .u64 i.1 = Value.int .u64 j.1) ∧ (true = true ∧ Value.int .u64 (isub IntKind.u64 (iadd IntKind.u64 i.1 (iquo IntKind.u64 (iadd IntKind.u64 (isub IntKind.u64 i.2 i.1) 1) 2)) 1) = Value.int .u64 j.2) ∧ True) ∧ (some [Value.int .u64 ph, Value.int .u64 pl, Value.int .u64 q, Value.int .u64 r, Value.int .u64 d] = some [Value.int .u64 ph, Value.int .u64 pl, Value.int .u64 q, Value.int .u64 r, Value.int .u64 d] ∧ True) ∧ true = true ∧ True) ∧ Nat.le (Nat.succ (flMu j.1 j.2)) (flMu i.1 i.2))) (True ∧ V (Value.tuple #[Value.int .u64 (isel (ige i.1 9223372036854775808) 0 i.1), Value.bool (bnot (ige i.1 9223372036854775808))])))) := by
  try delta o_floor
  try delta o_inv_floor
  try delta s_valid
  try delta s_enclose
  try delta s_order
  try delta s_below
  generalize @enH = enH
  generalize @enL = enL
  generalize @flGood = flGood
  generalize @flMu = flMu
  generalize @inU = inU
  generalize @ordI = ordI
  generalize @ordOk = ordOk
  generalize @vldB = vldB
  kernel_rfl

def feGood (ph pl q r d n i : Int) : Prop := -1 ≤ i ∧ i ≤ 62 ∧ 0 ≤ n ∧ n ≤ flI ph pl q r d ∧ flI ph pl q r d < n + 2 ^ (i + 1).toNat ∧ n % 2 ^ (i + 1).toNat = 0 ∧ n + 2 ^ (i + 1).toNat ≤ 9223372036854775808
def feMu (i : Int) : Nat := (i + 1).toNat
def o_inv_rfloor (ph pl q r d : Int) : Inv where
  ι := Int × Int
  good i := feGood ph pl q r d i.1 i.2
  slots i := slotsOf 32 [(1, .pointer (some ⟨0, 0, none⟩)), (2, .int .u64 0), (3, .bool false), (4, .int .u64 i.1), (5, .int .i64 i.2)]
  blocks _ := [(0, [.int .u64 ph, .int .u64 pl, .int .u64 q, .int .u64 r, .int .u64 d])]
  μ i := feMu i.2
def o_rfloor : Oracle := orc [(24, s_valid), (38, s_times)]
set_option maxRecDepth 100000 in
theorem rfloor_vc (ph pl q r d : Int) (V : Value → Prop) : evalBody Tryd.prog (o_rfloor) (fun n => bif Nat.beq n 5 then some (.inv (o_inv_rfloor ph pl q r d)) else none) (Tryd.f55.body.getD .skip) Tryd.f55.results.toList Tryd.f55.ntmps [.agg #[.int .u64 ph, .int .u64 pl, .int .u64 q, .int .u64 r, .int .u64 d]] V = (bcond (bnot (vldB ph q r d)) (True ∧ V (Value.tuple #[Value.int .u64 0, Value.bool false])) (bcond (ige (tmI false ph pl q r d 9223372036854775808) 0) ((inU ph = true ∧ inU pl = true ∧ vldB ph q r d = true ∧ inU q = true ∧ inU r = true ∧ inU d = true ∧ inU 9223372036854775808 = true ∧ True) ∧ V (Value.tuple #[Value.int .u64 0, Value.bool false])) ((∃ (i : Int × Int), feGood ph pl q r d i.1 i.2 ∧ (inU ph = true ∧ inU pl = true ∧ vldB ph q r d = true ∧ inU q = true ∧ inU r = true ∧ inU d = true ∧ inU 9223372036854775808 = true ∧ True) ∧ ((true = true ∧ Value.pointer (some ⟨0, 0, none⟩) = Value.pointer (some ⟨0, 0, none⟩)) ∧ (true = true ∧ Value.int .u64 0 = Value.int .u64 0) ∧ (true = true ∧ Value.bool false = Value.bool false) ∧ (true = true ∧ Value.int .u64 0 = Value.int .u64 i.1) ∧ (true = true ∧ Value.int .i64 62 = Value.int .i64 i.2) ∧ True) ∧ (some [Value.int .u64 ph, Value.int .u64 pl, Value.int .u64 q, Value.int .u64 r, Value.int .u64 d] = some [Value.int .u64 ph, Value.int .u64 pl, Value.int .u64 q, Value.int .u64 r, Value.int .u64 d] ∧ True) ∧ true = true ∧ True) ∧ ∀ (i : Int × Int), feGood ph pl q r d i.1 i.2 → bcond (ige i.2 0) (bcond (ige (tmI false ph pl q r d (ior IntKind.u64 i.1 (ishl IntKind.u64 1 (iconv IntKind.u64 i.2)))) 0) (∃ (j : Int × Int), feGood ph pl q r d j.1 j.2 ∧ ((ige (iconv IntKind.u64 i.2) 0 = true ∧ inU ph = true ∧ inU pl = true ∧ vldB ph q r d = true ∧ inU q = true ∧ inU r = true ∧ inU d = true ∧ inU (ior IntKind.u64 i.1 (ishl IntKind.u64 1 (iconv IntKind.u64 i.2))) = true ∧ ige (iconv IntKind.u64 i.2) 0 = true ∧ True) ∧ ((true = true ∧ Value.pointer (some ⟨0, 0, none⟩) = Value.pointer (some ⟨0, 0, none⟩)) ∧ (true = true ∧ Value.int .u64 0 = Value.int .u64 0) ∧ (true = true ∧ Value.bool false = Value.bool false) ∧ (true = true ∧ Value.int .u64 (ior IntKind.u64 i.1 (ishl IntKind.u64 1 (iconv IntKind.u64 i.2))) = Value.int .u64 j.1) ∧ (true = true ∧ Value.int .i64 (isub IntKind.i64 i.2 1) = Value.int .i64 j.2) ∧ True) ∧ (some [Value.int .u64 ph, Value.int .u64 pl, Value.int .u64 q, Value.int .u64 r, Value.int .u64 d] = some [Value.int .u64 ph, Value.int .u64 pl, Value.int .u64 q, Value.int .u64 r, Value.int .u64 d] ∧ True) ∧ true = true ∧ True) ∧ Nat.le (Nat.succ (feMu j.2)) (feMu i.2)) (∃ (j : Int × Int), feGood ph pl q r d j.1 j.2 ∧ ((inU ph = true ∧ inU pl = true ∧ vldB ph q r d = true ∧ inU q = true ∧ inU r = true ∧ inU d = true ∧ inU (ior IntKind.u64 i.1 (ishl IntKind.u64 1 (iconv IntKind.u64 i.2))) = true ∧ ige (iconv IntKind.u64 i.2) 0 = true ∧ True) ∧ ((true = true ∧ Value.pointer (some ⟨0, 0, none⟩) = Value.pointer (some ⟨0, 0, none⟩)) ∧ (true = true ∧ Value.int .u64 0 = Value.int .u64 0) ∧ (true = true ∧ Value.bool false = Value.bool false) ∧ (true = true ∧ Value.int .u64 i.1 = Value.int .u64 j.1) ∧ (true = true ∧ Value.int .i64 (isub IntKind.i64 i.2 1) = Value.int .i64 j.2) ∧ True) ∧ (some [Value.int .u64 ph, Value.int .u64 pl, Value.int .u64 q, Value.int .u64 r, Value.int .u64 d] = some [Value.int .u64 ph, Value.int .u64 pl, Value.int .u64 q, Value.int .u64 r, Value.int .u64 d] ∧ True) ∧ true = true ∧ True) ∧ Nat.le (Nat.succ (feMu j.2)) (feMu i.2))) (True ∧ V (Value.tuple #[Value.int .u64 i.1, Value.bool true]))))) := by
  try delta o_rfloor
  try delta o_inv_rfloor
  try delta s_valid
  try delta s_times
  generalize @feGood = feGood
  generalize @feMu = feMu
  generalize @inU = inU
  generalize @tmI = tmI
  generalize @vldB = vldB
  kernel_rfl

def o_half : Oracle := orc [(50, s_floor), (51, s_mulsmall), (52, s_order), (53, s_below)]
set_option maxRecDepth 100000 in
theorem half_vc (ph pl q r d : Int) (V : Value → Prop) : evalBody Tryd.prog (o_half) (noLoops) (Tryd.f37.body.getD .skip) Tryd.f37.results.toList Tryd.f37.ntmps [.agg #[.int .u64 ph, .int .u64 pl, .int .u64 q, .int .u64 r, .int .u64 d]] V = (bcond (bnot (flOk ph pl q r d)) ((inU ph = true ∧ inU pl = true ∧ inU q = true ∧ inU r = true ∧ inU d = true ∧ True) ∧ V (Value.tuple #[Value.int .u64 0, Value.bool false])) (bcond (ige (ordI (wkH ph pl 2) (wkL ph pl 2) (imul IntKind.u64 2 q) r d (iadd IntKind.u64 (imul IntKind.u64 2 (flV ph pl q r d)) 1)) 0) ((inU (wkH ph pl 2) = true ∧ inU (wkL ph pl 2) = true ∧ ordOk (imul IntKind.u64 2 q) r = true ∧ inU d = true ∧ inU (iadd IntKind.u64 (imul IntKind.u64 2 (flV ph pl q r d)) 1) = true ∧ inU ph = true ∧ inU pl = true ∧ inU 2 = true ∧ inU ph = true ∧ inU pl = true ∧ inU q = true ∧ inU r = true ∧ inU d = true ∧ True) ∧ V (Value.tuple #[Value.int .u64 (isel (ige (iadd IntKind.u64 (flV ph pl q r d) 1) 9223372036854775808) 0 (iadd IntKind.u64 (flV ph pl q r d) 1)), Value.bool (bnot (ige (iadd IntKind.u64 (flV ph pl q r d) 1) 9223372036854775808))])) ((inU (wkH ph pl 2) = true ∧ inU (wkL ph pl 2) = true ∧ ordOk (imul IntKind.u64 2 q) r = true ∧ inU d = true ∧ inU (iadd IntKind.u64 (imul IntKind.u64 2 (flV ph pl q r d)) 1) = true ∧ inU ph = true ∧ inU pl = true ∧ inU 2 = true ∧ inU ph = true ∧ inU pl = true ∧ inU q = true ∧ inU r = true ∧ inU d = true ∧ True) ∧ V (Value.tuple #[Value.int .u64 (isel (ige (flV ph pl q r d) 9223372036854775808) 0 (flV ph pl q r d)), Value.bool (bnot (ige (flV ph pl q r d) 9223372036854775808))])))) := by
  try delta o_half
  try delta s_floor
  try delta s_mulsmall
  try delta s_order
  try delta s_below
  generalize @flOk = flOk
  generalize @flV = flV
  generalize @inU = inU
  generalize @ordI = ordI
  generalize @ordOk = ordOk
  generalize @wkH = wkH
  generalize @wkL = wkL
  generalize @wkOk = wkOk
  kernel_rfl
def o_rhalf : Oracle := orc [(55, s_floor), (38, s_times)]
set_option maxRecDepth 100000 in
theorem rhalf_vc (ph pl q r d : Int) (V : Value → Prop) : evalBody Tryd.prog (o_rhalf) (noLoops) (Tryd.f39.body.getD .skip) Tryd.f39.results.toList Tryd.f39.ntmps [.agg #[.int .u64 ph, .int .u64 pl, .int .u64 q, .int .u64 r, .int .u64 d]] V = (bcond (bnot (flOk ph pl q r d)) ((inU ph = true ∧ inU pl = true ∧ inU q = true ∧ inU r = true ∧ inU d = true ∧ True) ∧ V (Value.tuple #[Value.int .u64 0, Value.bool false])) (bcond (ige (tmI true ph pl q r d (iadd IntKind.u64 (imul IntKind.u64 2 (flV ph pl q r d)) 1)) 0) (bcond (ige (iadd IntKind.u64 (flV ph pl q r d) 1) 9223372036854775808) ((inU ph = true ∧ inU pl = true ∧ vldB ph q r d = true ∧ inU q = true ∧ inU r = true ∧ inU d = true ∧ inU (iadd IntKind.u64 (imul IntKind.u64 2 (flV ph pl q r d)) 1) = true ∧ inU ph = true ∧ inU pl = true ∧ inU q = true ∧ inU r = true ∧ inU d = true ∧ True) ∧ V (Value.tuple #[Value.int .u64 0, Value.bool false])) ((inU ph = true ∧ inU pl = true ∧ vldB ph q r d = true ∧ inU q = true ∧ inU r = true ∧ inU d = true ∧ inU (iadd IntKind.u64 (imul IntKind.u64 2 (flV ph pl q r d)) 1) = true ∧ inU ph = true ∧ inU pl = true ∧ inU q = true ∧ inU r = true ∧ inU d = true ∧ True) ∧ V (Value.tuple #[Value.int .u64 (iadd IntKind.u64 (flV ph pl q r d) 1), Value.bool true]))) (bcond (ige (flV ph pl q r d) 9223372036854775808) ((inU ph = true ∧ inU pl = true ∧ vldB ph q r d = true ∧ inU q = true ∧ inU r = true ∧ inU d = true ∧ inU (iadd IntKind.u64 (imul IntKind.u64 2 (flV ph pl q r d)) 1) = true ∧ inU ph = true ∧ inU pl = true ∧ inU q = true ∧ inU r = true ∧ inU d = true ∧ True) ∧ V (Value.tuple #[Value.int .u64 0, Value.bool false])) ((inU ph = true ∧ inU pl = true ∧ vldB ph q r d = true ∧ inU q = true ∧ inU r = true ∧ inU d = true ∧ inU (iadd IntKind.u64 (imul IntKind.u64 2 (flV ph pl q r d)) 1) = true ∧ inU ph = true ∧ inU pl = true ∧ inU q = true ∧ inU r = true ∧ inU d = true ∧ True) ∧ V (Value.tuple #[Value.int .u64 (flV ph pl q r d), Value.bool true]))))) := by
  try delta o_rhalf
  try delta s_floor
  try delta s_times
  generalize @flOk = flOk
  generalize @flV = flV
  generalize @inU = inU
  generalize @tmI = tmI
  generalize @vldB = vldB
  kernel_rfl
def o_gx : Oracle := orc [(12, s_mod)]

theorem rootOf_spec : ∀ n : Nat, rootOf n * rootOf n ≤ n ∧ n < (rootOf n + 1) * (rootOf n + 1)
  | 0 => by decide
  | n + 1 => by
    obtain ⟨h1, h2⟩ := rootOf_spec n
    unfold rootOf
    split
    · rename_i h
      refine ⟨h, ?_⟩
      have : (rootOf n + 1 + 1) * (rootOf n + 1 + 1) = (rootOf n + 1) * (rootOf n + 1) + 2 * (rootOf n + 1) + 1 := by
        simp only [Nat.add_mul, Nat.mul_add]; omega
      omega
    · exact ⟨by omega, by omega⟩
theorem isq_spec {x : Int} (h : 0 ≤ x) : 0 ≤ isq x ∧ isq x * isq x ≤ x ∧ x < (isq x + 1) * (isq x + 1) := by
  obtain ⟨h1, h2⟩ := rootOf_spec x.toNat
  have e : ((x.toNat : Nat) : Int) = x := Int.toNat_of_nonneg h
  unfold isq
  refine ⟨by omega, ?_, ?_⟩
  · rw [← Int.natCast_mul]; omega
  · have : (((rootOf x.toNat + 1) * (rootOf x.toNat + 1) : Nat) : Int) = ((rootOf x.toNat : Nat) + 1 : Int) * ((rootOf x.toNat : Nat) + 1) := by
      rw [Int.natCast_mul]; rfl
    rw [← this]; omega
theorem le_isq {x k : Int} (h : 0 ≤ x) (hk : 0 ≤ k) : k ≤ isq x ↔ k * k ≤ x := by
  obtain ⟨h1, h2, h3⟩ := isq_spec h
  constructor
  · intro hle
    exact Int.le_trans (Int.mul_le_mul hle hle hk h1) h2
  · intro hle
    by_cases hc : k ≤ isq x
    · exact hc
    · have := Int.mul_le_mul (by omega : isq x + 1 ≤ k) (by omega : isq x + 1 ≤ k) (by omega) hk
      omega
theorem ordZ_ge {p q r m : Int} (hS : 0 ≤ q * q * r) : 0 ≤ ordZ p q r m ↔ m ≤ p + isq (q * q * r) := by
  have h1 := (isq_spec hS).1
  unfold ordZ
  split
  · constructor <;> intro _ <;> omega
  · rename_i hm
    have k := le_isq hS (k := m - p) (by omega)
    unfold cmpZ
    constructor
    · intro h
      have : (m - p) * (m - p) ≤ q * q * r := by split at h <;> (try split at h) <;> omega
      have := k.2 this
      omega
    · intro h
      have := k.1 (by omega)
      split
      · omega
      · split <;> omega
theorem ord_fl {p q r d n : Int} (hS : 0 ≤ q * q * r) (hd : 0 < d) : 0 ≤ ordZ p q r (n * d) ↔ n ≤ flZ p q r d := by
  rw [ordZ_ge hS]
  unfold flZ
  rw [Int.le_ediv_iff_mul_le hd]
theorem fl_nonneg {p q r d : Int} (hp : 0 ≤ p) (hS : 0 ≤ q * q * r) (hd : 0 < d) : 0 ≤ flZ p q r d :=
  Int.ediv_nonneg (by have := (isq_spec hS).1; omega) (by omega)

/-- what a valid number gives -/
theorem vld_spec {ph pl q r d : Int} (h : vldB ph q r d = true) (h5 : fiveU ph pl q r d) :
    inU ph = true ∧ inU pl = true ∧ inU q = true ∧ inU r = true ∧ inU d = true ∧ 0 ≤ w2 ph pl ∧ w2 ph pl < 79228162514264337593543950336 ∧ ordOk q r = true ∧ ordOk (2 * q) r = true ∧ q < 70368744177664 ∧ 0 < d ∧ 0 ≤ q * q * r ∧ q * q * r < 170141183460469231731687303715884105728 := by
  obtain ⟨a1, a2, a3, a4, a5⟩ := h5
  simp only [vldB, Bool.and_eq_true, decide_eq_true_eq] at h
  obtain ⟨⟨⟨b1, b2⟩, b3⟩, b4⟩ := h
  have A1 := inU_iff.1 a1
  have A2 := inU_iff.1 a2
  have A3 := inU_iff.1 a3
  have A4 := inU_iff.1 a4
  have o : ordOk q r = true := ordOk_iff.2 (by omega)
  have s := sq_range o
  refine ⟨a1, a2, a3, a4, a5, ?_, ?_, o, ordOk_iff.2 (by omega), by omega, by omega, s.2.2.1, s.2.2.2⟩
  · unfold w2; omega
  · unfold w2; omega
theorem tup2 {a b c d : Value} (h : a = c) (k : b = d) : Value.tuple #[a, b] = .tuple #[c, d] := by rw [h, k]
theorem int_eq {k : IntKind} {a b : Int} (h : a = b) : Value.int k a = .int k b := by rw [h]
theorem bool_eq {a b : Bool} (h : a = b) : Value.bool a = .bool b := by rw [h]

theorem a_rcompare : Answers 25 s_compare := by
  intro args v bs h hok
  unfold s_compare at h
  split at h <;> try (simp at h; done)
  rename_i ph pl q r d n
  simp only [Option.some.injEq, Prod.mk.injEq] at h
  obtain ⟨rfl, rfl⟩ := h
  refine does_of_eval (O := o_rcompare) (orc_cons a_rvalid (orc_cons a_times orc_nil)) mixed (noLoops) Tryd.func25 (by kernel_rfl) (by kernel_rfl) rfl ?_
  rw [rcompare_vc]
  obtain ⟨i1, i2, i3, i4, i5, n1, _⟩ := hok
  have h5 : fiveU ph pl q r d := ⟨i1, i2, i3, i4, i5⟩
  rw [bcond_iff]
  unfold cmpX
  cases hv : vldB ph q r d
  · exact ⟨fun _ => ⟨trivial, rfl⟩, fun h => by simp [bnot] at h⟩
  · obtain ⟨i1, i2, i3, i4, i5, _, _, o1, _⟩ := vld_spec hv h5
    refine ⟨fun h => by simp [bnot] at h, fun _ => ⟨?_, rfl⟩⟩
    exact ⟨i1, i2, rfl, i3, i4, i5, n1, trivial⟩

theorem a_below : Answers 53 s_below := by
  intro args v bs h hok
  unfold s_below at h
  split at h <;> try (simp at h; done)
  rename_i n
  simp only [Option.some.injEq, Prod.mk.injEq] at h
  obtain ⟨rfl, rfl⟩ := h
  refine does_of_eval (O := (orc [])) orc_nil mixed (noLoops) Tryd.func53 (by kernel_rfl) (by kernel_rfl) rfl ?_
  rw [below_vc]
  rw [bcond_iff]
  refine ⟨fun h => ⟨trivial, ?_⟩, fun h => ⟨trivial, ?_⟩⟩ <;> simp [h, isel, bnot]

theorem len33 {r : Int} (h0 : 0 ≤ r) (h : r < 8589934592) : Lib.bitLenAux 64 r.toNat ≤ 33 ∧ r < 2 ^ Lib.bitLenAux 64 r.toNat := by
  have e64 : (2 : Nat) ^ 64 = 18446744073709551616 := by decide
  obtain ⟨b1, b2, b3, _⟩ := Num.bitLenAux_spec 64 r.toNat (by omega)
  refine ⟨?_, ?_⟩
  rotate_left
  · have e : (2 : Int) ^ Lib.bitLenAux 64 r.toNat = ((2 ^ Lib.bitLenAux 64 r.toNat : Nat) : Int) := by simp
    rw [e]
    generalize 2 ^ Lib.bitLenAux 64 r.toNat = z at *
    omega
  by_cases hz : r.toNat = 0
  · rw [hz]; decide
  · have := b2 hz
    by_cases hc : Lib.bitLenAux 64 r.toNat ≤ 33
    · exact hc
    · have : 2 ^ 33 ≤ 2 ^ (Lib.bitLenAux 64 r.toNat - 1) := Nat.pow_le_pow_right (by decide) (by omega)
      have e : (2 : Nat) ^ 33 = 8589934592 := by decide
      omega
theorem isqUp_spec {r : Int} (h0 : 0 ≤ r) (h : r < 8589934592) : 1 ≤ isqUp r ∧ isqUp r ≤ 131072 ∧ r ≤ isqUp r * isqUp r ∧ ishl .u64 1 (iquo .i64 (iadd .i64 (ilen r) 1) 2) = isqUp r ∧ 0 ≤ iquo .i64 (iadd .i64 (ilen r) 1) 2 := by
  obtain ⟨l1, l2⟩ := len33 h0 h
  unfold isqUp
  unfold ilen
  generalize Lib.bitLenAux 64 r.toNat = b at *
  have e1 : iadd .i64 (b : Int) 1 = ((b + 1 : Nat) : Int) := by unfold iadd; rw [IntWalk.i64_in _ (by omega)]; rfl
  have e2 : iquo .i64 ((b + 1 : Nat) : Int) 2 = (((b + 1) / 2 : Nat) : Int) := by
    unfold iquo
    rw [show ((b + 1 : Nat) : Int).tdiv 2 = (((b + 1) / 2 : Nat) : Int) by rw [Int.tdiv_eq_ediv_of_nonneg (by omega)]; omega]
    rw [IntWalk.i64_in _ (by omega)]
  rw [e1, e2]
  have hk : (b + 1) / 2 ≤ 17 := by omega
  have p1 : (2 : Int) ^ ((b + 1) / 2) = ((2 ^ ((b + 1) / 2) : Nat) : Int) := by simp
  have p2 : (2 : Nat) ^ ((b + 1) / 2) ≤ 2 ^ 17 := Nat.pow_le_pow_right (by decide) hk
  have p3 : 0 < (2 : Nat) ^ ((b + 1) / 2) := Nat.two_pow_pos _
  have p4 : (2 : Nat) ^ b ≤ 2 ^ ((b + 1) / 2) * 2 ^ ((b + 1) / 2) := by rw [← Nat.pow_add]; exact Nat.pow_le_pow_right (by decide) (by omega)
  have e17 : (2 : Nat) ^ 17 = 131072 := by decide
  refine ⟨by omega, by omega, ?_, ?_, by omega⟩
  · have : (2 : Int) ^ b = ((2 ^ b : Nat) : Int) := by simp
    rw [this] at l2
    rw [p1, ← Int.natCast_mul]
    omega
  · unfold ishl
    have : min ((((b + 1) / 2 : Nat) : Int)).toNat IntKind.u64.bits = (b + 1) / 2 := by simp [IntKind.bits]; omega
    rw [this, IntKind.wrap_u64, Int.one_mul, p1]
    omega

theorem a_enclose : Answers 60 s_enclose := by
  intro args v bs h hok
  unfold s_enclose at h
  split at h <;> try (simp at h; done)
  rename_i ph pl q r d
  simp only [Option.some.injEq, Prod.mk.injEq] at h
  obtain ⟨rfl, rfl⟩ := h
  refine does_of_eval (O := o_enclose) (orc_cons a_len64 (orc_cons a_of (orc_cons a_add (orc_cons a_quotient orc_nil)))) mixed (noLoops) Tryd.func60 (by kernel_rfl) (by kernel_rfl) rfl ?_
  rw [enclose_vc]
  obtain ⟨hv, j1, j2, j3, j4, j5, _⟩ := hok
  have h5 : fiveU ph pl q r d := ⟨j1, j2, j3, j4, j5⟩
  obtain ⟨i1, i2, i3, i4, i5, p1, p2, o1, _, q2, d1, _, _⟩ := vld_spec hv h5
  have R := ordOk_iff.1 o1
  obtain ⟨u1, u2, u3, u4, u5⟩ := isqUp_spec R.2.2.1 R.2.2.2
  have b0 := Int.mul_nonneg R.1 (by omega : 0 ≤ isqUp r)
  have b1 := Int.mul_le_mul (by omega : q ≤ 70368744177663) u2 (by omega) (by decide)
  have e1 : imul .u64 q (isqUp r) = q * isqUp r := by unfold imul; rw [IntKind.wrap_u64]; omega
  rw [u4, e1]
  have i6 : inU (q * isqUp r) = true := inU_iff.2 (by omega)
  have z : inU 0 = true := rfl
  have aok : waOk ph pl 0 (q * isqUp r) = true := by unfold waOk; refine decide_eq_true ?_; unfold w2 at *; omega
  obtain ⟨a1, a2, a3⟩ := wa_spec i1 i2 z i6
  have a3 := a3 aok
  have g : ige (iquo .i64 (iadd .i64 (ilen r) 1) 2) 0 = true := decide_eq_true u5
  have n0 : ine d 0 = true := by unfold ine; rw [bne_iff_ne]; omega
  refine ⟨by simp only [i1, i2, i4, i5, i6, a1, a2, z, g, n0, and_self], tup2 (int_eq rfl) (int_eq ?_)⟩
  unfold enH qtI
  rw [a3, show w2 0 (q * isqUp r) = q * isqUp r by unfold w2; omega]

theorem fl_bounds {ph pl q r d : Int} (hv : vldB ph q r d = true) (h5 : fiveU ph pl q r d) : flGood ph pl q r d (enL ph pl d) (enH ph pl q r d) := by
  obtain ⟨i1, i2, i3, i4, i5, p1, p2, o1, _, q2, d1, s1, s2⟩ := vld_spec hv h5
  have R := ordOk_iff.1 o1
  obtain ⟨u1, u2, u3, _, _⟩ := isqUp_spec R.2.2.1 R.2.2.2
  obtain ⟨k1, k2, k3⟩ := isq_spec s1
  have up : isq (q * q * r) ≤ q * isqUp r := by
    by_cases hc : isq (q * q * r) ≤ q * isqUp r
    · exact hc
    · have n0 := Int.mul_nonneg R.1 (by omega : 0 ≤ isqUp r)
      have h1 := Int.mul_le_mul (by omega : q * isqUp r + 1 ≤ isq (q * q * r)) (by omega : q * isqUp r + 1 ≤ isq (q * q * r)) (by omega) k1
      have h2 : q * q * r ≤ q * isqUp r * (q * isqUp r) := by
        have := Int.mul_le_mul_of_nonneg_left u3 (Int.mul_nonneg R.1 R.1)
        rw [show q * isqUp r * (q * isqUp r) = q * q * (isqUp r * isqUp r) by
          rw [Int.mul_assoc, Int.mul_left_comm (isqUp r), ← Int.mul_assoc q q]]
        exact this
      have h3 : (q * isqUp r + 1) * (q * isqUp r + 1) = q * isqUp r * (q * isqUp r) + 2 * (q * isqUp r) + 1 := by
        rw [Int.add_mul, Int.mul_add]; omega
      omega
  have f1 : w2 ph pl / d ≤ flI ph pl q r d := Int.ediv_le_ediv d1 (by omega)
  have f2 : flI ph pl q r d ≤ (w2 ph pl + q * isqUp r) / d := Int.ediv_le_ediv d1 (by omega)
  have f0 : 0 ≤ w2 ph pl / d := Int.ediv_nonneg p1 (by omega)
  unfold flGood enL enH qtI
  split <;> split <;> omega

theorem a_floor : Answers 50 s_floor := by
  intro args v bs h hok
  unfold s_floor at h
  split at h <;> try (simp at h; done)
  rename_i ph pl q r d
  simp only [Option.some.injEq, Prod.mk.injEq] at h
  obtain ⟨rfl, rfl⟩ := h
  refine does_of_eval (O := o_floor) (orc_cons a_valid (orc_cons a_enclose (orc_cons a_order (orc_cons a_below orc_nil)))) mixed ((fun n => bif Nat.beq n 4 then some (.inv (o_inv_floor ph pl q r d)) else none)) Tryd.func50 (by kernel_rfl) (by kernel_rfl) rfl ?_
  rw [floor_vc]
  obtain ⟨j1, j2, j3, j4, j5, _⟩ := hok
  have hok : fiveU ph pl q r d := ⟨j1, j2, j3, j4, j5⟩
  rw [bcond_iff]
  cases hv : vldB ph q r d
  · refine ⟨fun _ => ⟨trivial, ?_⟩, fun h => by simp [bnot] at h⟩
    simp [flV, flOk, hv]
  · refine ⟨fun h => by simp [bnot] at h, fun _ => ?_⟩
    obtain ⟨i1, i2, i3, i4, i5, p1, p2, o1, _, q2, d1, s1, s2⟩ := vld_spec hv hok
    have fl0 := fl_nonneg p1 s1 d1
    refine ⟨⟨(enL ph pl d, enH ph pl q r d), fl_bounds hv hok, ?_⟩, fun i hi => ?_⟩
    · simp only [i1, i2, i3, i4, i5, and_self]
    · obtain ⟨l, h⟩ := i
      obtain ⟨g1, g2, g3, g4, g5⟩ := hi
      simp only at g1 g2 g3 g4 g5 ⊢
      have eM : iadd .u64 l (iquo .u64 (iadd .u64 (isub .u64 h l) 1) 2) = l + (h - l + 1) / 2 := by
        unfold iadd isub iquo
        rw [show IntKind.u64.wrap (h - l) = h - l by rw [IntKind.wrap_u64]; omega, show IntKind.u64.wrap (h - l + 1) = h - l + 1 by rw [IntKind.wrap_u64]; omega,
          show (h - l + 1).tdiv 2 = (h - l + 1) / 2 by rw [Int.tdiv_eq_ediv_of_nonneg (by omega)], show IntKind.u64.wrap ((h - l + 1) / 2) = (h - l + 1) / 2 by rw [IntKind.wrap_u64]; omega]
        rw [IntKind.wrap_u64]; omega
      rw [eM]
      generalize hm : l + (h - l + 1) / 2 = m
      have iM : inU m = true := inU_iff.2 (by omega)
      have eS : isub .u64 m 1 = m - 1 ∨ m < 1 := by
        unfold isub; rw [IntKind.wrap_u64]; omega
      have key : ige (ordI ph pl q r d m) 0 = true ↔ m ≤ flI ph pl q r d := by
        unfold ige ordI flI
        rw [decide_eq_true_eq]
        exact ord_fl s1 d1
      simp only [bcond_iff, i1, i2, i5, o1, iM, true_and, and_true, and_self]
      refine ⟨fun hlt => ⟨fun hge => ⟨(m, h), ?_, ?_, ?_⟩, fun hge => ⟨(l, m - 1), ?_, ?_, ?_⟩⟩, fun hlt => ?_⟩
      · have := key.1 hge
        have := of_decide_eq_true hlt
        exact ⟨by simp only; omega, by simp only; omega, by simp only; omega, by simp only; omega, by simp only; omega⟩
      · simp only [and_self]
      · have := of_decide_eq_true hlt
        show flMu m h + 1 ≤ flMu l h
        unfold flMu; omega
      · have hk : ¬ m ≤ flI ph pl q r d := fun hc => by rw [key.2 hc] at hge; simp at hge
        have := of_decide_eq_true hlt
        exact ⟨by simp only; omega, by simp only; omega, by simp only; omega, by simp only; omega, by simp only; omega⟩
      · have := of_decide_eq_true hlt
        have e := eS.resolve_right (by omega)
        simp only [e, and_self]
      · have := of_decide_eq_true hlt
        show flMu l (m - 1) + 1 ≤ flMu l h
        unfold flMu; omega
      · have hlt := of_decide_eq_false hlt
        refine tup2 (int_eq ?_) (bool_eq ?_)
        · unfold isel flV flOk ige
          rw [hv, Bool.true_and]
          by_cases hc : l ≥ 9223372036854775808
          · rw [decide_eq_true hc, decide_eq_false (by omega)]; rfl
          · rw [decide_eq_false hc, decide_eq_true (by omega)]
            simp only [cond_false, cond_true]; omega
        · unfold bnot flOk ige
          rw [hv, Bool.true_and]
          by_cases hc : l ≥ 9223372036854775808
          · rw [decide_eq_true hc, decide_eq_false (by omega)]; rfl
          · rw [decide_eq_false hc, decide_eq_true (by omega)]; rfl

theorem ior_pow {n j : Nat} (hj : j ≤ 62) (hm : n % 2 ^ (j + 1) = 0) (h : n + 2 ^ j < 18446744073709551616) : ior .u64 (n : Int) (ishl .u64 1 (iconv .u64 (j : Int))) = ((n + 2 ^ j : Nat) : Int) := by
  have p3 : (2 : Nat) ^ j ≤ 2 ^ 62 := Nat.pow_le_pow_right (by decide) hj
  have e62 : (2 : Nat) ^ 62 = 4611686018427387904 := by decide
  have e1 : iconv .u64 (j : Int) = j := by unfold iconv; rw [IntKind.wrap_u64]; omega
  have e2 : ishl .u64 1 (j : Int) = ((2 ^ j : Nat) : Int) := by
    unfold ishl
    have : min (j : Int).toNat IntKind.u64.bits = j := by simp [IntKind.bits]; omega
    have p1 : (2 : Int) ^ j = ((2 ^ j : Nat) : Int) := by simp
    rw [this, IntKind.wrap_u64, Int.one_mul, p1]
    omega
  rw [e1, e2]
  unfold ior
  exact or_add n (2 ^ j) (j + 1) (by omega) (Nat.pow_lt_pow_right (by decide) (by omega)) hm h

theorem a_rfloor : Answers 55 s_floor := by
  intro args v bs h hok
  unfold s_floor at h
  split at h <;> try (simp at h; done)
  rename_i ph pl q r d
  simp only [Option.some.injEq, Prod.mk.injEq] at h
  obtain ⟨rfl, rfl⟩ := h
  refine does_of_eval (O := o_rfloor) (orc_cons a_rvalid (orc_cons a_times orc_nil)) mixed ((fun n => bif Nat.beq n 5 then some (.inv (o_inv_rfloor ph pl q r d)) else none)) Tryd.func55 (by kernel_rfl) (by kernel_rfl) rfl ?_
  rw [rfloor_vc]
  obtain ⟨j1, j2, j3, j4, j5, _⟩ := hok
  have hok : fiveU ph pl q r d := ⟨j1, j2, j3, j4, j5⟩
  have z : inU 9223372036854775808 = true := rfl
  rw [bcond_iff]
  cases hv : vldB ph q r d
  · refine ⟨fun _ => ⟨trivial, ?_⟩, fun h => by simp [bnot] at h⟩
    simp [flV, flOk, hv]
  · refine ⟨fun h => by simp [bnot] at h, fun _ => ?_⟩
    obtain ⟨i1, i2, i3, i4, i5, p1, p2, o1, _, q2, d1, s1, s2⟩ := vld_spec hv hok
    have fl0 := fl_nonneg p1 s1 d1
    have key : ∀ m, ige (tmI false ph pl q r d m) 0 = true ↔ m ≤ flI ph pl q r d := by
      intro m
      unfold ige tmI ordI flI
      rw [decide_eq_true_eq, cond_false]
      exact ord_fl s1 d1
    rw [bcond_iff]
    simp only [i1, i2, i3, i4, i5, z, true_and, and_true, and_self]
    refine ⟨fun hge => ?_, fun hlt => ⟨⟨(0, 62), ?_, rfl, rfl⟩, fun i hi => ?_⟩⟩
    · have := (key _).1 hge
      have e : flOk ph pl q r d = false := by unfold flOk; rw [hv, Bool.true_and]; exact decide_eq_false (by omega)
      unfold flV; rw [e]; rfl
    · have : ¬ 9223372036854775808 ≤ flI ph pl q r d := fun hc => by rw [(key _).2 hc] at hlt; simp at hlt
      have e : (2 : Int) ^ ((62 : Int) + 1).toNat = 9223372036854775808 := by decide
      have f0 : 0 ≤ flI ph pl q r d := fl0
      unfold feGood
      simp only [e]
      omega
    · obtain ⟨n, j⟩ := i
      obtain ⟨g1, g2, g3, g4, g5, g6, g7⟩ := hi
      simp only at g1 g2 g3 g4 g5 g6 g7 ⊢
      simp only [bcond_iff]
      refine ⟨fun hge => ?_, fun hlt => ?_⟩
      · have hj := of_decide_eq_true hge
        obtain ⟨k, rfl⟩ : ∃ k : Nat, j = k := ⟨j.toNat, by omega⟩
        obtain ⟨c, rfl⟩ : ∃ c : Nat, n = c := ⟨n.toNat, by omega⟩
        have ek : ((k : Int) + 1).toNat = k + 1 := by omega
        rw [ek] at g5 g6 g7
        have pk : (2 : Int) ^ (k + 1) = ((2 ^ (k + 1) : Nat) : Int) := by simp
        have pk2 : (2 : Nat) ^ (k + 1) = 2 * 2 ^ k := by rw [Nat.pow_succ]; omega
        have p0 := Nat.two_pow_pos k
        rw [pk] at g5 g6 g7
        have g6' : c % 2 ^ (k + 1) = 0 := by
          rw [← Int.natCast_emod] at g6; exact_mod_cast g6
        have or_ := ior_pow (n := c) (j := k) (by omega) g6' (by omega)
        rw [or_]
        have ic : ige (iconv .u64 (k : Int)) 0 = true := by unfold ige iconv; rw [IntKind.wrap_u64]; exact decide_eq_true (by omega)
        have iM : inU ((c + 2 ^ k : Nat) : Int) = true := inU_iff.2 (by omega)
        have e1 : isub .i64 (k : Int) 1 = (k : Int) - 1 := by unfold isub; exact IntWalk.i64_in _ (by omega)
        have ek2 : ((k : Int) - 1 + 1).toNat = k := by omega
        have pk3 : (2 : Int) ^ k = ((2 ^ k : Nat) : Int) := by simp
        have dv : (2 : Nat) ^ k ∣ 2 ^ (k + 1) := ⟨2, by rw [Nat.pow_succ]⟩
        have m0 : c % 2 ^ k = 0 := Nat.mod_eq_zero_of_dvd (Nat.dvd_trans dv (Nat.dvd_of_mod_eq_zero g6'))
        simp only [ic, iM, e1, true_and]
        refine ⟨fun hg => ⟨(((c + 2 ^ k : Nat) : Int), (k : Int) - 1), ?_, ⟨rfl, rfl⟩, ?_⟩, fun hg => ⟨((c : Int), (k : Int) - 1), ?_, ⟨rfl, rfl⟩, ?_⟩⟩
        · have := (key _).1 hg
          unfold feGood
          simp only [ek2, pk3]
          have m1 : (((c + 2 ^ k : Nat) : Int)) % ((2 ^ k : Nat) : Int) = 0 := by
            rw [← Int.natCast_emod, Nat.add_mod_right, m0]; rfl
          refine ⟨by omega, by omega, by omega, by omega, by omega, m1, by omega⟩
        · show feMu _ + 1 ≤ feMu _
          unfold feMu; simp only; omega
        · have : ¬ ((c + 2 ^ k : Nat) : Int) ≤ flI ph pl q r d := fun hc => by rw [(key _).2 hc] at hg; simp at hg
          unfold feGood
          simp only [ek2, pk3]
          have m1 : ((c : Int)) % ((2 ^ k : Nat) : Int) = 0 := by
            rw [← Int.natCast_emod, m0]; rfl
          refine ⟨by omega, by omega, by omega, by omega, by omega, m1, by omega⟩
        · show feMu _ + 1 ≤ feMu _
          unfold feMu; simp only; omega
      · have hj := of_decide_eq_false hlt
        have e0 : j = -1 := by omega
        subst e0
        have e : (2 : Int) ^ ((-1 : Int) + 1).toNat = 1 := by decide
        rw [e] at g5 g7
        have ok : flOk ph pl q r d = true := by unfold flOk; rw [hv, Bool.true_and]; exact decide_eq_true (by omega)
        refine tup2 (int_eq ?_) (bool_eq ok.symm)
        unfold flV; rw [ok, cond_true]; omega

/-- the two ways to reckon with twice the number -/
theorem dbl {ph pl q r d : Int} (hv : vldB ph q r d = true) (h5 : fiveU ph pl q r d) (n : Int) :
    wkOk ph pl 2 = true ∧ imul .u64 2 q = 2 * q ∧ ordI (wkH ph pl 2) (wkL ph pl 2) (2 * q) r d n = ordZ (2 * w2 ph pl) (2 * q) r (n * d) ∧ inU (wkH ph pl 2) = true ∧ inU (wkL ph pl 2) = true := by
  obtain ⟨i1, i2, i3, i4, i5, p1, p2, o1, _, q2, d1, s1, s2⟩ := vld_spec hv h5
  have R := ordOk_iff.1 o1
  have ok : wkOk ph pl 2 = true := decide_eq_true (by omega)
  obtain ⟨k1, k2, k3⟩ := wk_spec i1 i2 (show inU 2 = true from rfl)
  refine ⟨ok, by unfold imul; rw [IntKind.wrap_u64]; omega, ?_, k1, k2⟩
  unfold ordI
  rw [k3 ok, Int.mul_comm]

theorem a_half3 : Answers 37 s_halfX := by
  intro args v bs h hok
  unfold s_halfX at h
  split at h <;> try (simp at h; done)
  rename_i ph pl q r d
  simp only [Option.some.injEq, Prod.mk.injEq] at h
  obtain ⟨rfl, rfl⟩ := h
  refine does_of_eval (O := o_half) (orc_cons a_floor (orc_cons a_mulsmall (orc_cons a_order (orc_cons a_below orc_nil)))) mixed (noLoops) Tryd.func37 (by kernel_rfl) (by kernel_rfl) rfl ?_
  rw [half_vc]
  obtain ⟨i1, i2, i3, i4, i5, _⟩ := hok
  have hok : fiveU ph pl q r d := ⟨i1, i2, i3, i4, i5⟩
  have z : inU 2 = true := rfl
  rw [bcond_iff]
  cases hf : flOk ph pl q r d
  · refine ⟨fun _ => ⟨by simp only [i1, i2, i3, i4, i5, and_self], ?_⟩, fun h => by simp [bnot] at h⟩
    simp [hvV, hvOk, hf]
  · refine ⟨fun h => by simp [bnot] at h, fun _ => ?_⟩
    have hf' := hf
    simp only [flOk, Bool.and_eq_true, decide_eq_true_eq] at hf'
    obtain ⟨hv, flt⟩ := hf'
    obtain ⟨_, _, _, _, _, p1, p2, o1, o2, q2, d1, s1, s2⟩ := vld_spec hv hok
    have fl0 : 0 ≤ flI ph pl q r d := fl_nonneg p1 s1 d1
    have eV : flV ph pl q r d = flI ph pl q r d := by unfold flV; rw [hf]; rfl
    rw [eV]
    have e1 : iadd .u64 (imul .u64 2 (flI ph pl q r d)) 1 = 2 * flI ph pl q r d + 1 := by
      unfold iadd imul; rw [IntKind.wrap_u64, IntKind.wrap_u64]; omega
    have e2 : iadd .u64 (flI ph pl q r d) 1 = flI ph pl q r d + 1 := by unfold iadd; rw [IntKind.wrap_u64]; omega
    obtain ⟨d0, d2, d3, d4, d5⟩ := dbl hv hok (2 * flI ph pl q r d + 1)
    have iM : inU (2 * flI ph pl q r d + 1) = true := inU_iff.2 (by omega)
    rw [e1, e2, d2, d3]
    simp only [bcond_iff, i1, i2, i3, i4, i5, z, d4, d5, o2, iM, true_and]
    have fin : ∀ n : Int, hvZ (w2 ph pl) q r d = n → Value.tuple #[.int .u64 (isel (ige n 9223372036854775808) 0 n), .bool (bnot (ige n 9223372036854775808))] = Value.tuple #[.int .u64 (hvV ph pl q r d), .bool (hvOk ph pl q r d)] := by
      intro n hn
      unfold hvV hvOk
      rw [hn, hf, Bool.true_and]
      unfold isel bnot ige
      by_cases hc : n ≥ 9223372036854775808
      · rw [decide_eq_true hc, decide_eq_false (by omega)]; rfl
      · rw [decide_eq_false hc, decide_eq_true (by omega)]; rfl
    refine ⟨fun hg => fin _ ?_, fun hg => fin _ ?_⟩
    · have := of_decide_eq_true hg
      unfold hvZ; rw [if_pos (by exact this)]; rfl
    · have := of_decide_eq_false hg
      unfold hvZ; rw [if_neg (by exact this)]; rfl

theorem a_rhalf3 : Answers 39 s_halfX := by
  intro args v bs h hok
  unfold s_halfX at h
  split at h <;> try (simp at h; done)
  rename_i ph pl q r d
  simp only [Option.some.injEq, Prod.mk.injEq] at h
  obtain ⟨rfl, rfl⟩ := h
  refine does_of_eval (O := o_rhalf) (orc_cons a_rfloor (orc_cons a_times orc_nil)) mixed (noLoops) Tryd.func39 (by kernel_rfl) (by kernel_rfl) rfl ?_
  rw [rhalf_vc]
  obtain ⟨i1, i2, i3, i4, i5, _⟩ := hok
  have hok : fiveU ph pl q r d := ⟨i1, i2, i3, i4, i5⟩
  rw [bcond_iff]
  cases hf : flOk ph pl q r d
  · refine ⟨fun _ => ⟨by simp only [i1, i2, i3, i4, i5, and_self], ?_⟩, fun h => by simp [bnot] at h⟩
    simp [hvV, hvOk, hf]
  · refine ⟨fun h => by simp [bnot] at h, fun _ => ?_⟩
    have hf' := hf
    simp only [flOk, Bool.and_eq_true, decide_eq_true_eq] at hf'
    obtain ⟨hv, flt⟩ := hf'
    obtain ⟨_, _, _, _, _, p1, p2, o1, o2, q2, d1, s1, s2⟩ := vld_spec hv hok
    have fl0 : 0 ≤ flI ph pl q r d := fl_nonneg p1 s1 d1
    have eV : flV ph pl q r d = flI ph pl q r d := by unfold flV; rw [hf]; rfl
    rw [eV]
    have e1 : iadd .u64 (imul .u64 2 (flI ph pl q r d)) 1 = 2 * flI ph pl q r d + 1 := by
      unfold iadd imul; rw [IntKind.wrap_u64, IntKind.wrap_u64]; omega
    have e2 : iadd .u64 (flI ph pl q r d) 1 = flI ph pl q r d + 1 := by unfold iadd; rw [IntKind.wrap_u64]; omega
    have iM : inU (2 * flI ph pl q r d + 1) = true := inU_iff.2 (by omega)
    rw [e1, e2]
    have e3 : tmI true ph pl q r d (2 * flI ph pl q r d + 1) = ordZ (2 * w2 ph pl) (2 * q) r ((2 * flI ph pl q r d + 1) * d) := rfl
    rw [e3]
    simp only [bcond_iff, hv, i1, i2, i3, i4, i5, iM, true_and]
    have fin1 : ∀ n : Int, hvZ (w2 ph pl) q r d = n → ige n 9223372036854775808 = true → Value.tuple #[.int .u64 0, .bool false] = Value.tuple #[.int .u64 (hvV ph pl q r d), .bool (hvOk ph pl q r d)] := by
      intro n hn hc
      unfold hvV hvOk
      rw [hn, hf, Bool.true_and]
      have := of_decide_eq_true hc
      rw [decide_eq_false (by omega)]; rfl
    have fin2 : ∀ n : Int, hvZ (w2 ph pl) q r d = n → ige n 9223372036854775808 = false → Value.tuple #[.int .u64 n, .bool true] = Value.tuple #[.int .u64 (hvV ph pl q r d), .bool (hvOk ph pl q r d)] := by
      intro n hn hc
      unfold hvV hvOk
      rw [hn, hf, Bool.true_and]
      have := of_decide_eq_false hc
      rw [decide_eq_true (by omega)]; rfl
    refine ⟨fun hg => ?_, fun hg => ?_⟩
    · have := of_decide_eq_true hg
      have e : hvZ (w2 ph pl) q r d = flI ph pl q r d + 1 := by unfold hvZ; rw [if_pos (by exact this)]; rfl
      exact ⟨fin1 _ e, fin2 _ e⟩
    · have := of_decide_eq_false hg
      have e : hvZ (w2 ph pl) q r d = flI ph pl q r d := by unfold hvZ; rw [if_neg (by exact this)]; rfl
      exact ⟨fin1 _ e, fin2 _ e⟩
end Go.Proofs.YtafaadnjkkkafaaDoor
