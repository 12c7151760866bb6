import Derived.Test.YtpjhdjakpbabhaaDoorZaa
import Derived.Test.YtpjhdjakpbabhaaDoorZ0
import Derived.Test.YtpjhdjakpbabhaaDoorXa
namespace Go.Proofs.YtpjhdjakpbabhaaDoor
open Go.RowKit PR QR
set_option linter.unusedVariables false
def row16 (z : Nat) (n : Int) (q : Int → Nat → Int) : Prop := ∀ (i : Int) (k : Nat), 0 ≤ i → i < n → k < z → in16 (q i k) = true
def qOf (r : QR.Row) (i : Int) (j : Nat) : Int := intC (den r i j)
def qO1 (r : QR.Row) (i : Int) : Int := intC (den r i 0)
theorem qOf_eq (r : QR.Row) : qOf r = fun i j => intC (den r i j) := rfl
theorem qO1_eq (r : QR.Row) : qO1 r = fun i => intC (den r i 0) := rfl
theorem qOf_fn (k : IntKind) (f : Int → Nat → Int) : qOf (.fn fun i j => .v (.int k (f i j))) = f := rfl
theorem qO1_fn (k : IntKind) (f : Int → Int) : qO1 (.fn fun i j => .v (.int k (f i))) = f := rfl
def s_scls : List AV → Option QR.Ans
  | [.x (.c c), .x (.c (.v (.int .u16 t)))] => match slcOf 5 c with
    | some (n, r) => some ⟨[.c (.v (.int .i64 (clsV n (qOf r) t)))], [], [intRow .u16 5 n r, ile 0 n = true, ile n 9223372036854775807 = true]⟩
    | none => none
  | _ => none
def s_srow : List AV → Option QR.Ans
  | [.x (.c (.v (.int .i64 o))), .x (.c (.v (.int .i64 k))), .x (.c (.v (.int .u16 m))), .x (.c c), .x (.c d)] => match slcOf 5 c, slcOf 5 d with
    | some (n, r), some (n2, r2) => some ⟨[.c (.fresh 5 (rcN o k m n n2 (qOf r) (qOf r2)) (.fn fun i j => .v (.int .u16 (rcV o k m (qOf r) (qOf r2) i j)))), .c (.v (.bool (rcOk o k m n n2 (qOf r) (qOf r2))))], [],
        [intRow .u16 5 n r, intRow .u16 5 n2 r2, row16 5 n (qOf r), row16 5 n2 (qOf r2), in16 m = true, ile 0 n = true, ile n 1099511627776 = true, ile 0 n2 = true]⟩
    | _, _ => none
  | _ => none
def scGood (n i : Int) : Prop := 0 ≤ i ∧ i ≤ n
def scMu (n i : Int) : Nat := (n - i).toNat
noncomputable def o_inv_rcls (n t : Int) (q : Int → Nat → Int) : QR.Inv where
  ι := Int
  good i := scGood n i
  slots i := QR.slotsOf Tryd.f10.ntmps [(0, .x (.c (.slc 5 n (.fn fun a b => .v (.int .u16 (q a b)))))), (1, .x (.c (.v (.int .u16 t)))), (5, .x (.c (.v (.bool (allR i (pxT q)))))), (6, .x (.c (.v (.bool (allR i (pxE q)))))), (7, .x (.c (.v (.bool (allR i (pxO t q)))))), (8, .x (.c (.v (.int .i64 i))))]
  blocks i := []
  μ i := scMu n i
def o_rcls : QR.Oracle := QR.orc [(22, s_full8), (23, s_pvalid2)]
def zz265 (fz0 : Int → Nat → Int) (fz1 : Int) (fz2 : Int) : Prop := (true = true ∧ band (band (ieq (fz0 fz1 0) (fz0 0 0)) (band (ieq (fz0 fz1 1) (fz0 0 1)) (band (ieq (fz0 fz1 2) (fz0 0 2)) true))) (band (ieq (fz0 fz1 3) (fz0 0 3)) (band (ieq (fz0 fz1 4) (fz0 0 4)) true)) = allR fz2 (pxE fz0))
def zz269 (fz0 : Int → Nat → Int) (fz1 : Int) (fz2 : Int) : Prop := (true = true ∧ band (band (ieq (fz0 fz1 0) 0) (band (ieq (fz0 fz1 1) 0) (band (ieq (fz0 fz1 2) 0) true))) (band (ieq (fz0 fz1 3) 0) (band (ieq (fz0 fz1 4) 0) true)) = allR fz2 (pxT fz0))
def zz280 (fz0 : Int) (fz1 : Int → Nat → Int) (fz2 : Int) (fz3 : Int) (fz4 : Int) : Prop := (True ∧ true = true ∧ ((zz80 fz0 fz1) ∧ (true = true ∧ IntKind.u16 = IntKind.u16 ∧ fz2 = fz2) ∧ (true = true ∧ false = allR fz3 (pxT fz1)) ∧ (true = true ∧ false = allR fz3 (pxE fz1)) ∧ (true = true ∧ false = allR fz3 (pxO fz2 fz1)) ∧ (true = true ∧ IntKind.i64 = IntKind.i64 ∧ iadd IntKind.i64 fz4 1 = fz3) ∧ True) ∧ True)
def zz283 (fz0 : Int) (fz1 : Int → Nat → Int) (fz2 : Int) (fz3 : Int) (fz4 : Int) : Prop := (True ∧ true = true ∧ ((zz80 fz0 fz1) ∧ (true = true ∧ IntKind.u16 = IntKind.u16 ∧ fz2 = fz2) ∧ (zz269 fz1 fz3 fz4) ∧ (true = true ∧ false = allR fz4 (pxE fz1)) ∧ (true = true ∧ false = allR fz4 (pxO fz2 fz1)) ∧ (true = true ∧ IntKind.i64 = IntKind.i64 ∧ iadd IntKind.i64 fz3 1 = fz4) ∧ True) ∧ True)
def zz284 (fz0 : Int) (fz1 : Int → Nat → Int) (fz2 : Int) (fz3 : Int) (fz4 : Int) : Prop := (True ∧ true = true ∧ ((zz80 fz0 fz1) ∧ (true = true ∧ IntKind.u16 = IntKind.u16 ∧ fz2 = fz2) ∧ (true = true ∧ false = allR fz3 (pxT fz1)) ∧ (zz265 fz1 fz4 fz3) ∧ (true = true ∧ false = allR fz3 (pxO fz2 fz1)) ∧ (true = true ∧ IntKind.i64 = IntKind.i64 ∧ iadd IntKind.i64 fz4 1 = fz3) ∧ True) ∧ True)
def zz285 (fz0 : Int) (fz1 : Int → Nat → Int) (fz2 : Int) (fz3 : Int) (fz4 : Int) : Prop := (True ∧ true = true ∧ ((zz80 fz0 fz1) ∧ (true = true ∧ IntKind.u16 = IntKind.u16 ∧ fz2 = fz2) ∧ (zz269 fz1 fz3 fz4) ∧ (zz265 fz1 fz3 fz4) ∧ (true = true ∧ false = allR fz4 (pxO fz2 fz1)) ∧ (true = true ∧ IntKind.i64 = IntKind.i64 ∧ iadd IntKind.i64 fz3 1 = fz4) ∧ True) ∧ True)
set_option maxRecDepth 100000 in
theorem rcls_vc (n t : Int) (q : Int → Nat → Int) (V : List QR.XV → List (List QR.CV) → Prop) : QR.evalBody Tryd.prog (o_rcls) (fun n_ => bif Nat.beq n_ 3 then some (.inv (o_inv_rcls n t q)) else none) (Tryd.f10.body.getD .skip) Tryd.f10.results.toList Tryd.f10.ntmps [.x (.c (.slc 5 n (.fn fun i j => .v (.int .u16 (q i j))))), .x (.c (.v (.int .u16 t)))] V = (True ∧ True ∧ True ∧ (∃ (i : Int), scGood n i ∧ True ∧ true = true ∧ ((zz80 n q) ∧ (true = true ∧ IntKind.u16 = IntKind.u16 ∧ t = t) ∧ (true = true ∧ true = allR i (pxT q)) ∧ (true = true ∧ true = allR i (pxE q)) ∧ (true = true ∧ true = allR i (pxO t q)) ∧ (true = true ∧ IntKind.i64 = IntKind.i64 ∧ (0 : Int) = i) ∧ True) ∧ True) ∧ ∀ (i : Int), scGood n i → ∀ (i_1 : Int), i_1 = n → True ∧ bcond (ilt i i_1) (bcond (allR i (pxT q)) ((ile 0 i = true ∧ ilt i n = true ∧ True) ∧ bcond (allR i (pxE q)) ((true = true ∧ ilt 0 n = true ∧ ile 0 i = true ∧ ilt i n = true ∧ True) ∧ bcond (allR i (pxO t q)) (bcond (fullB t) (bcond (pvB (q i 0) (q i 1) (q i 2) (q i 3) (q i 4) t) ((ile 0 i = true ∧ ilt i n = true ∧ ile 0 i = true ∧ ilt i n = true ∧ True) ∧ True ∧ ∃ (j : Int), scGood n j ∧ (True ∧ true = true ∧ ((zz80 n q) ∧ (true = true ∧ IntKind.u16 = IntKind.u16 ∧ t = t) ∧ (zz269 q i j) ∧ (zz265 q i j) ∧ (true = true ∧ ieq (q i 3) t = allR j (pxO t q)) ∧ (true = true ∧ IntKind.i64 = IntKind.i64 ∧ iadd IntKind.i64 i 1 = j) ∧ True) ∧ True) ∧ Nat.le (Nat.succ (scMu n j)) (scMu n i)) ((ile 0 i = true ∧ ilt i n = true ∧ True) ∧ True ∧ ∃ (j : Int), scGood n j ∧ (zz285 n q t i j) ∧ Nat.le (Nat.succ (scMu n j)) (scMu n i))) (True ∧ True ∧ ∃ (j : Int), scGood n j ∧ (zz285 n q t i j) ∧ Nat.le (Nat.succ (scMu n j)) (scMu n i))) (True ∧ True ∧ ∃ (j : Int), scGood n j ∧ (zz285 n q t i j) ∧ Nat.le (Nat.succ (scMu n j)) (scMu n i))) (True ∧ bcond (allR i (pxO t q)) (bcond (fullB t) (bcond (pvB (q i 0) (q i 1) (q i 2) (q i 3) (q i 4) t) ((ile 0 i = true ∧ ilt i n = true ∧ ile 0 i = true ∧ ilt i n = true ∧ True) ∧ True ∧ ∃ (j : Int), scGood n j ∧ (True ∧ true = true ∧ ((zz80 n q) ∧ (true = true ∧ IntKind.u16 = IntKind.u16 ∧ t = t) ∧ (zz269 q i j) ∧ (true = true ∧ false = allR j (pxE q)) ∧ (true = true ∧ ieq (q i 3) t = allR j (pxO t q)) ∧ (true = true ∧ IntKind.i64 = IntKind.i64 ∧ iadd IntKind.i64 i 1 = j) ∧ True) ∧ True) ∧ Nat.le (Nat.succ (scMu n j)) (scMu n i)) ((ile 0 i = true ∧ ilt i n = true ∧ True) ∧ True ∧ ∃ (j : Int), scGood n j ∧ (zz283 n q t i j) ∧ Nat.le (Nat.succ (scMu n j)) (scMu n i))) (True ∧ True ∧ ∃ (j : Int), scGood n j ∧ (zz283 n q t i j) ∧ Nat.le (Nat.succ (scMu n j)) (scMu n i))) (True ∧ True ∧ ∃ (j : Int), scGood n j ∧ (zz283 n q t i j) ∧ Nat.le (Nat.succ (scMu n j)) (scMu n i)))) (True ∧ bcond (allR i (pxE q)) ((true = true ∧ ilt 0 n = true ∧ ile 0 i = true ∧ ilt i n = true ∧ True) ∧ bcond (allR i (pxO t q)) (bcond (fullB t) (bcond (pvB (q i 0) (q i 1) (q i 2) (q i 3) (q i 4) t) ((ile 0 i = true ∧ ilt i n = true ∧ ile 0 i = true ∧ ilt i n = true ∧ True) ∧ True ∧ ∃ (j : Int), scGood n j ∧ (True ∧ true = true ∧ ((zz80 n q) ∧ (true = true ∧ IntKind.u16 = IntKind.u16 ∧ t = t) ∧ (true = true ∧ false = allR j (pxT q)) ∧ (zz265 q i j) ∧ (true = true ∧ ieq (q i 3) t = allR j (pxO t q)) ∧ (true = true ∧ IntKind.i64 = IntKind.i64 ∧ iadd IntKind.i64 i 1 = j) ∧ True) ∧ True) ∧ Nat.le (Nat.succ (scMu n j)) (scMu n i)) ((ile 0 i = true ∧ ilt i n = true ∧ True) ∧ True ∧ ∃ (j : Int), scGood n j ∧ (zz284 n q t j i) ∧ Nat.le (Nat.succ (scMu n j)) (scMu n i))) (True ∧ True ∧ ∃ (j : Int), scGood n j ∧ (zz284 n q t j i) ∧ Nat.le (Nat.succ (scMu n j)) (scMu n i))) (True ∧ True ∧ ∃ (j : Int), scGood n j ∧ (zz284 n q t j i) ∧ Nat.le (Nat.succ (scMu n j)) (scMu n i))) (True ∧ bcond (allR i (pxO t q)) (bcond (fullB t) (bcond (pvB (q i 0) (q i 1) (q i 2) (q i 3) (q i 4) t) ((ile 0 i = true ∧ ilt i n = true ∧ ile 0 i = true ∧ ilt i n = true ∧ True) ∧ True ∧ ∃ (j : Int), scGood n j ∧ (True ∧ true = true ∧ ((zz80 n q) ∧ (true = true ∧ IntKind.u16 = IntKind.u16 ∧ t = t) ∧ (true = true ∧ false = allR j (pxT q)) ∧ (true = true ∧ false = allR j (pxE q)) ∧ (true = true ∧ ieq (q i 3) t = allR j (pxO t q)) ∧ (true = true ∧ IntKind.i64 = IntKind.i64 ∧ iadd IntKind.i64 i 1 = j) ∧ True) ∧ True) ∧ Nat.le (Nat.succ (scMu n j)) (scMu n i)) ((ile 0 i = true ∧ ilt i n = true ∧ True) ∧ True ∧ ∃ (j : Int), scGood n j ∧ (zz280 n q t j i) ∧ Nat.le (Nat.succ (scMu n j)) (scMu n i))) (True ∧ True ∧ ∃ (j : Int), scGood n j ∧ (zz280 n q t j i) ∧ Nat.le (Nat.succ (scMu n j)) (scMu n i))) (True ∧ True ∧ ∃ (j : Int), scGood n j ∧ (zz280 n q t j i) ∧ Nat.le (Nat.succ (scMu n j)) (scMu n i))))) (True ∧ bcond (allR i (pxT q)) (True ∧ True ∧ V [XV.c (CV.v (Value.int .i64 1))] []) (True ∧ bcond (allR i (pxE q)) (True ∧ True ∧ V [XV.c (CV.v (Value.int .i64 2))] []) (True ∧ bcond (allR i (pxO t q)) (True ∧ True ∧ V [XV.c (CV.v (Value.int .i64 3))] []) (True ∧ True ∧ V [XV.c (CV.v (Value.int .i64 4))] []))))) := by
  delta zz16 zz80 zz265 zz269 zz280 zz283 zz284 zz285
  try delta o_rcls
  try delta s_full8
  try delta s_pvalid2
  generalize @allR = allR
  generalize @fullB = fullB
  generalize @pvB = pvB
  generalize @pxE = pxE
  generalize @pxO = pxO
  generalize @pxT = pxT
  generalize @scGood = scGood
  generalize @scMu = scMu
  kernel_rfl
end Go.Proofs.YtpjhdjakpbabhaaDoor
