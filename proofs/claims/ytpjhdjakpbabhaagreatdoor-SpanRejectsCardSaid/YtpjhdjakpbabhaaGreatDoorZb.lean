import Derived.Test.YtpjhdjakpbabhaaGreatDoorZaa
import Derived.Test.YtpjhdjakpbabhaaGreatDoorZa
import Derived.Test.YtpjhdjakpbabhaaGreatDoorRs
import Derived.Test.YtpjhdjakpbabhaaGreatDoorMa
namespace Go.Proofs.YtpjhdjakpbabhaaGreatDoor
open Go.RowKit PR QR
set_option linter.unusedVariables false
def s_pxsame : List AV → Option QR.Ans
  | [.x (.c c), .x (.c d)] => match slcOf 5 c, slcOf 5 d with
    | some (n, r), some (n2, r2) => some ⟨[.c (.v (.bool (pxSame n n2 (fun i j => intC (den r i j)) fun i j => intC (den r2 i j))))], [], [intRow .u16 5 n r, intRow .u16 5 n2 r2, ile 0 n = true, ile 0 n2 = true, ile n 1099511627776 = true]⟩
    | _, _ => none
  | _ => none
def s_gpxs : List AV → Option QR.Ans
  | [.x (.agg [.v (.int .i64 mood), c]), .x (.c (.v (.int .i64 k))), .x (.c (.v (.int .u16 t)))] => match slcOf 5 c with
    | some (n, r) => some ⟨[.c (.fresh 5 (iimax k 0) (.fn fun i j => .v (.int .u16 (gpxV mood n (fun i j => intC (den r i j)) t i j))))], [], [intRow .i64 5 n r, ile 0 n = true, in16 t = true, ile k 1099511627776 = true]⟩
    | none => none
  | _ => none
def rspGood (n : Int) (q r : Int → Nat → Int) (i : Int) : Prop := (0 ≤ i ∧ i ≤ n) ∧ ∀ (p : Nat) (k : Nat), (p : Int) < i → k < 5 → q p k = r p k
def rspMu (n i : Int) : Nat := (n - i).toNat
noncomputable def o_inv_rsp (n n2 : Int) (q r : Int → Nat → Int) : QR.Inv where
  ι := Int
  good i := rspGood n q r i
  slots i := QR.slotsOf Tryz.f24.ntmps [(0, .x (.c (.slc 5 n (.fn fun i j => .v (.int .u16 (q i j)))))), (1, .x (.c (.slc 5 n2 (.fn fun i j => .v (.int .u16 (r i j)))))), (4, .x (.c (.v (.bool false)))), (5, .x (.c (.v (.int .i64 i))))]
  blocks i := []
  μ i := rspMu n i
set_option maxRecDepth 100000 in
theorem rsp_vc (n n2 : Int) (q r : Int → Nat → Int) (V : List QR.XV → List (List QR.CV) → Prop) : QR.evalBody Tryz.prog (QR.orc []) (fun n_ => bif Nat.beq n_ 4 then some (.inv (o_inv_rsp n n2 q r)) else none) (Tryz.f24.body.getD .skip) Tryz.f24.results.toList Tryz.f24.ntmps [.x (.c (.slc 5 n (.fn fun i j => .v (.int .u16 (q i j))))), .x (.c (.slc 5 n2 (.fn fun i j => .v (.int .u16 (r i j)))))] V = (True ∧ ∀ (i : Int), i = n → ∀ (i_1 : Int), i_1 = n2 → True ∧ bcond (ine i i_1) (True ∧ True ∧ V [XV.c (CV.v (Value.bool false))] []) (True ∧ (∃ (i : Int), rspGood n q r i ∧ True ∧ true = true ∧ ((zz80 n q) ∧ (zz80 n2 r) ∧ (true = true ∧ false = false) ∧ (true = true ∧ IntKind.i64 = IntKind.i64 ∧ (0 : Int) = i) ∧ True) ∧ True) ∧ ∀ (i : Int), rspGood n q r i → ∀ (i_2 : Int), i_2 = n → True ∧ bcond (ilt i i_2) ((ile 0 i = true ∧ ilt i n2 = true ∧ ile 0 i = true ∧ ilt i n = true ∧ True) ∧ bcond (bnot (band (band (ieq (q i 0) (r i 0)) (band (ieq (q i 1) (r i 1)) (band (ieq (q i 2) (r i 2)) true))) (band (ieq (q i 3) (r i 3)) (band (ieq (q i 4) (r i 4)) true)))) (True ∧ True ∧ V [XV.c (CV.v (Value.bool false))] []) (True ∧ ∃ (j : Int), rspGood n q r j ∧ (True ∧ true = true ∧ ((zz80 n q) ∧ (zz80 n2 r) ∧ (true = true ∧ false = false) ∧ (true = true ∧ IntKind.i64 = IntKind.i64 ∧ iadd IntKind.i64 i 1 = j) ∧ True) ∧ True) ∧ Nat.le (Nat.succ (rspMu n j)) (rspMu n i))) (True ∧ True ∧ V [XV.c (CV.v (Value.bool true))] []))) := by
  delta zz16 zz80
  generalize @rspGood = rspGood
  generalize @rspMu = rspMu
  kernel_rfl
end Go.Proofs.YtpjhdjakpbabhaaGreatDoor
