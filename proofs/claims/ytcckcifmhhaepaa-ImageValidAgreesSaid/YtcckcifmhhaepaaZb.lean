import Derived.Test.YtcckcifmhhaepaaZaa
import Derived.Test.YtcckcifmhhaepaaZa
import Derived.Test.YtcckcifmhhaepaaNb
import Derived.Test.YtcckcifmhhaepaaMb
namespace Go.Proofs.Ytcckcifmhhaepaa
open Go.RowKit PR QR
set_option linter.unusedVariables false
def s_imf : List AV → Option QR.Ans
  | [.x (.agg l)] => match s_imOf l with
    | some (m, A) => some ⟨[.c (.v (.bool (imF m)))], [], imG m :: A⟩
    | none => none
  | _ => none
def s_impx : List AV → Option QR.Ans
  | [.x (.agg l), .x (.c (.v (.int .i64 x))), .x (.c (.v (.int .i64 y)))] => match s_imOf l with
    | some (m, A) => some ⟨[.agg [.v (.int .u16 (pxV m 0 x y)), .v (.int .u16 (pxV m 1 x y)), .v (.int .u16 (pxV m 2 x y)), .v (.int .u16 (pxV m 3 x y)), .v (.int .u16 (pxV m 4 x y))]], [], (imIn m x y = true) :: imG m :: A⟩
    | none => none
  | _ => none
def s_ime : List AV → Option QR.Ans
  | [.x (.agg l), .x (.c (.v (.int .u16 t)))] => match s_imOf l with
    | some (m, A) => some ⟨[.c (.v (.int .i64 (imE m t)))], [], imG m :: A⟩
    | none => none
  | _ => none
def s_isol : List AV → Option QR.Ans
  | [.x (.c (.v (.int .i64 w))), .x (.c (.v (.int .i64 h))), .x (.agg [.v (.int .u16 c0), .v (.int .u16 c1), .v (.int .u16 c2), .v (.int .u16 a), .v (.int .u16 f)])] => some ⟨[.agg (imC (imSol w h c0 c1 c2 a f))], [], []⟩
  | _ => none
def s_imof : List AV → Option QR.Ans
  | [.x (.c (.v (.int .i64 w))), .x (.c (.v (.int .i64 h))), .x (.c c)] => match slcOf 5 c with
    | some (n, r) => some ⟨[.agg (imC (imofV w h n fun i j => intC (den r i j))), .c (.v (.bool (imofOk w h n)))], [], [intRow .u16 5 n r, in64 w = true, in64 h = true, ile 0 n = true]⟩
    | none => none
  | _ => none
def s_imat : List AV → Option QR.Ans
  | [.x (.agg l), .x (.c (.v (.int .i64 x))), .x (.c (.v (.int .i64 y)))] => match s_imOf l with
    | some (m, A) => some ⟨[.agg [.v (.int .u16 (pxA m 0 x y)), .v (.int .u16 (pxA m 1 x y)), .v (.int .u16 (pxA m 2 x y)), .v (.int .u16 (pxA m 3 x y)), .v (.int .u16 (pxA m 4 x y))]], [], imG m :: A⟩
    | none => none
  | _ => none
def s_impxs : List AV → Option QR.Ans
  | [.x (.agg l)] => match s_imOf l with
    | some (m, A) => some ⟨[.c (.fresh 5 (imN m) (.fn fun i j => .v (.int .u16 (pxI m i j))))], [], imG m :: A⟩
    | none => none
  | _ => none
def s_imeq : List AV → Option QR.Ans
  | [.x (.agg l), .x (.agg k)] => match s_imOf l, s_imOf k with
    | some (m, A), some (n, B) => some ⟨[.c (.v (.bool (imEq m n)))], [], imG m :: imG n :: (A ++ B)⟩
    | _, _ => none
  | _ => none
def s_imcv : List AV → Option QR.Ans
  | [.x (.agg l), .x (.c (.v (.int .i64 s))), .x (.c (.v (.int .i64 t)))] => match s_imOf l with
    | some (m, A) => some ⟨[.agg (imC (imCv m s t)), .c (.v (.int .i64 (imCvE m s t)))], [], imG m :: A⟩
    | none => none
  | _ => none
def s_imrp : List AV → Option QR.Ans
  | [.x (.agg l), .x (.agg [.v (.int .i64 a), .v (.int .i64 b), .v (.int .i64 c), .v (.int .i64 d)]), .x (.c e)] => match s_imOf l, slcOf 5 e with
    | some (m, A), some (n, r) => some ⟨[.agg (imC (imRp m a b c d n fun i j => intC (den r i j))), .c (.v (.int .i64 (imRpE m a b c d n)))], [], imG m :: intRow .u16 5 n r :: (ile 0 n = true) :: A⟩
    | _, _ => none
  | _ => none
def s_gpxs : List AV → Option QR.Ans
  | [.x (.agg [.v (.int .i64 mood), c]), .x (.c (.v (.int .i64 k))), .x (.c (.v (.int .u16 t)))] => match slcOf 5 c with
    | some (n, r) => some ⟨[.c (.fresh 5 (iimax k 0) (.fn fun i j => .v (.int .u16 (gpxV mood n (fun i j => intC (den r i j)) t i j))))], [], [intRow .i64 5 n r, ile 0 n = true, in16 t = true, ile k 1099511627776 = true]⟩
    | none => none
  | _ => none
def s_gimg : List AV → Option QR.Ans
  | [.x (.agg [.v (.int .i64 W), .v (.int .i64 H), .v (.int .i64 S), .v (.int .i64 mood), c]), .x (.agg [.v (.int .i64 x0), .v (.int .i64 y0), .v (.int .i64 x1), .v (.int .i64 y1)]), .x (.c (.v (.int .u16 t)))] => match slcOf 5 c with
    | some (n, r) => some ⟨[.agg (imC (gimV W H S mood n (fun i j => intC (den r i j)) x0 y0 x1 y1 t))], [], [intRow .i64 5 n r, ile 0 n = true, in16 t = true, gcv x0 y0 x1 y1 = true]⟩
    | none => none
  | _ => none
def s_gstr : List AV → Option QR.Ans
  | [.x (.agg l), .x (.c (.v (.int .i64 k)))] => match s_imOf l with
    | some (m, A) => some ⟨[.agg (imC (gstV m k))], [], imG m :: (imOk m = true) :: A⟩
    | none => none
  | _ => none
def rfoGood (m : Im) (sol : Bool) (i : Int) : Prop := (0 ≤ i ∧ i ≤ 5) ∧ ∀ k : Nat, (k : Int) < i → bif sol then plZ (imPl m k) = true else plW m (imPl m k) = true
def rfoMu (i : Int) : Nat := (5 - i).toNat
noncomputable def o_inv_rfT (m : Im) : QR.Inv where
  ι := Int
  good i := rfoGood m true i
  slots i := QR.slotsOf Try.f47.ntmps [(1, .x (.c (.ptr 1000000000000000 0))), (2, .x (.c (.v (.bool false)))), (3, .x (.c (.v (.int .i64 i))))]
  blocks i := [(1000000000000000, .cells (imC ⟨m.w, m.h, true, m.c0, m.c1, m.c2, m.a, m.f, m.p0, m.p1, m.p2, m.p3, m.p4⟩))]
  μ i := rfoMu i
def zz101 (fz0 : Im) (fz1 : Int) : Prop := (True ∧ True ∧ ∃ (bz0 : Int), rfoGood fz0 true bz0 ∧ (True ∧ true = true ∧ (zz34 fz1 bz0) ∧ (zz5 fz0) ∧ True) ∧ Nat.le (Nat.succ (rfoMu bz0)) (rfoMu fz1))
def zz111 (fz0 : Im) (fz1 : Int) : Prop := (True ∧ ∃ (bz0 : Int), rfoGood fz0 true bz0 ∧ (True ∧ true = true ∧ (zz34 fz1 bz0) ∧ (zz5 fz0) ∧ True) ∧ Nat.le (Nat.succ (rfoMu bz0)) (rfoMu fz1))
set_option maxRecDepth 100000 in
theorem rfT_vc (m : Im) (V : List QR.XV → List (List QR.CV) → Prop) : QR.evalBody Try.prog (o_fin) (fun n => bif Nat.beq n 2 then some (.inv (o_inv_rfT m)) else none) (Try.f47.body.getD .skip) Try.f47.results.toList Try.f47.ntmps [.x (.agg (imC ⟨m.w, m.h, true, m.c0, m.c1, m.c2, m.a, m.f, m.p0, m.p1, m.p2, m.p3, m.p4⟩))] V = (True ∧ True ∧ (∃ (i : Int), rfoGood m true i ∧ True ∧ true = true ∧ ((true = true ∧ 0 = 0 ∧ 0 = 0) ∧ (true = true ∧ false = false) ∧ (true = true ∧ IntKind.i64 = IntKind.i64 ∧ (0 : Int) = i) ∧ True) ∧ (zz5 m) ∧ True) ∧ ∀ (i : Int), rfoGood m true i → True ∧ bcond (ilt i 5) (bcond (ieq i 0) ((true = true ∧ true = true ∧ True) ∧ bcond (ine m.9.1 0) (True ∧ True ∧ True ∧ V [XV.c (CV.v (Value.bool false))] []) (bcond (ine m.9.2 0) (True ∧ True ∧ True ∧ V [XV.c (CV.v (Value.bool false))] []) (bcond (ine m.9.3 0) (True ∧ True ∧ True ∧ V [XV.c (CV.v (Value.bool false))] []) (∀ (i_1 : Int), i_1 = m.9.4 → True ∧ bcond (igt i_1 0) (True ∧ True ∧ V [XV.c (CV.v (Value.bool false))] []) (bcond (bnot true) (bcond (bnot (plB m.9.1 m.9.2 m.9.3 m.9.4)) ((zz70 m) ∧ True ∧ True ∧ V [XV.c (CV.v (Value.bool false))] []) (bcond (ine m.9.1 m.1) ((zz70 m) ∧ True ∧ True ∧ V [XV.c (CV.v (Value.bool false))] []) ((zz70 m) ∧ bcond (ine m.9.2 m.2) (True ∧ True ∧ V [XV.c (CV.v (Value.bool false))] []) (zz111 m i)))) (zz101 m i)))))) (bcond (ieq i 1) ((true = true ∧ true = true ∧ True) ∧ bcond (ine m.10.1 0) (True ∧ True ∧ True ∧ V [XV.c (CV.v (Value.bool false))] []) (bcond (ine m.10.2 0) (True ∧ True ∧ True ∧ V [XV.c (CV.v (Value.bool false))] []) (bcond (ine m.10.3 0) (True ∧ True ∧ True ∧ V [XV.c (CV.v (Value.bool false))] []) (∀ (i_1 : Int), i_1 = m.10.4 → True ∧ bcond (igt i_1 0) (True ∧ True ∧ V [XV.c (CV.v (Value.bool false))] []) (bcond (bnot true) (bcond (bnot (plB m.10.1 m.10.2 m.10.3 m.10.4)) ((zz61 m) ∧ True ∧ True ∧ V [XV.c (CV.v (Value.bool false))] []) (bcond (ine m.10.1 m.1) ((zz61 m) ∧ True ∧ True ∧ V [XV.c (CV.v (Value.bool false))] []) ((zz61 m) ∧ bcond (ine m.10.2 m.2) (True ∧ True ∧ V [XV.c (CV.v (Value.bool false))] []) (zz111 m i)))) (zz101 m i)))))) (bcond (ieq i 2) ((true = true ∧ true = true ∧ True) ∧ bcond (ine m.11.1 0) (True ∧ True ∧ True ∧ V [XV.c (CV.v (Value.bool false))] []) (bcond (ine m.11.2 0) (True ∧ True ∧ True ∧ V [XV.c (CV.v (Value.bool false))] []) (bcond (ine m.11.3 0) (True ∧ True ∧ True ∧ V [XV.c (CV.v (Value.bool false))] []) (∀ (i_1 : Int), i_1 = m.11.4 → True ∧ bcond (igt i_1 0) (True ∧ True ∧ V [XV.c (CV.v (Value.bool false))] []) (bcond (bnot true) (bcond (bnot (plB m.11.1 m.11.2 m.11.3 m.11.4)) ((zz62 m) ∧ True ∧ True ∧ V [XV.c (CV.v (Value.bool false))] []) (bcond (ine m.11.1 m.1) ((zz62 m) ∧ True ∧ True ∧ V [XV.c (CV.v (Value.bool false))] []) ((zz62 m) ∧ bcond (ine m.11.2 m.2) (True ∧ True ∧ V [XV.c (CV.v (Value.bool false))] []) (zz111 m i)))) (zz101 m i)))))) (bcond (ieq i 3) ((true = true ∧ true = true ∧ True) ∧ bcond (ine m.12.1 0) (True ∧ True ∧ True ∧ V [XV.c (CV.v (Value.bool false))] []) (bcond (ine m.12.2 0) (True ∧ True ∧ True ∧ V [XV.c (CV.v (Value.bool false))] []) (bcond (ine m.12.3 0) (True ∧ True ∧ True ∧ V [XV.c (CV.v (Value.bool false))] []) (∀ (i_1 : Int), i_1 = m.12.4 → True ∧ bcond (igt i_1 0) (True ∧ True ∧ V [XV.c (CV.v (Value.bool false))] []) (bcond (bnot true) (bcond (bnot (plB m.12.1 m.12.2 m.12.3 m.12.4)) ((zz63 m) ∧ True ∧ True ∧ V [XV.c (CV.v (Value.bool false))] []) (bcond (ine m.12.1 m.1) ((zz63 m) ∧ True ∧ True ∧ V [XV.c (CV.v (Value.bool false))] []) ((zz63 m) ∧ bcond (ine m.12.2 m.2) (True ∧ True ∧ V [XV.c (CV.v (Value.bool false))] []) (zz111 m i)))) (zz101 m i)))))) (bcond (ieq i 4) ((true = true ∧ true = true ∧ True) ∧ bcond (ine m.13.1 0) (True ∧ True ∧ True ∧ V [XV.c (CV.v (Value.bool false))] []) (bcond (ine m.13.2 0) (True ∧ True ∧ True ∧ V [XV.c (CV.v (Value.bool false))] []) (bcond (ine m.13.3 0) (True ∧ True ∧ True ∧ V [XV.c (CV.v (Value.bool false))] []) (∀ (i_1 : Int), i_1 = m.13.4 → True ∧ bcond (igt i_1 0) (True ∧ True ∧ V [XV.c (CV.v (Value.bool false))] []) (bcond (bnot true) (bcond (bnot (plB m.13.1 m.13.2 m.13.3 m.13.4)) ((zz64 m) ∧ True ∧ True ∧ V [XV.c (CV.v (Value.bool false))] []) (bcond (ine m.13.1 m.1) ((zz64 m) ∧ True ∧ True ∧ V [XV.c (CV.v (Value.bool false))] []) ((zz64 m) ∧ bcond (ine m.13.2 m.2) (True ∧ True ∧ V [XV.c (CV.v (Value.bool false))] []) (zz111 m i)))) (zz101 m i)))))) False))))) (True ∧ True ∧ V [XV.c (CV.v (Value.bool true))] [])) := by
  delta zz5 zz34 zz61 zz62 zz63 zz64 zz70 zz101 zz111
  try delta o_fin
  try delta s_plvalid
  generalize @in64 = in64
  generalize @intRow = intRow
  generalize @plB = plB
  generalize @rfoGood = rfoGood
  generalize @rfoMu = rfoMu
  kernel_rfl
noncomputable def o_inv_rfF (m : Im) : QR.Inv where
  ι := Int
  good i := rfoGood m false i
  slots i := QR.slotsOf Try.f47.ntmps [(1, .x (.c (.ptr 1000000000000000 0))), (2, .x (.c (.v (.bool false)))), (3, .x (.c (.v (.int .i64 i))))]
  blocks i := [(1000000000000000, .cells (imC ⟨m.w, m.h, false, m.c0, m.c1, m.c2, m.a, m.f, m.p0, m.p1, m.p2, m.p3, m.p4⟩))]
  μ i := rfoMu i
def zz100 (fz0 : Im) (fz1 : Int) : Prop := (True ∧ True ∧ ∃ (bz0 : Int), rfoGood fz0 false bz0 ∧ (True ∧ true = true ∧ (zz34 fz1 bz0) ∧ (zz4 fz0) ∧ True) ∧ Nat.le (Nat.succ (rfoMu bz0)) (rfoMu fz1))
def zz110 (fz0 : Im) (fz1 : Int) : Prop := (True ∧ ∃ (bz0 : Int), rfoGood fz0 false bz0 ∧ (True ∧ true = true ∧ (zz34 fz1 bz0) ∧ (zz4 fz0) ∧ True) ∧ Nat.le (Nat.succ (rfoMu bz0)) (rfoMu fz1))
set_option maxRecDepth 100000 in
theorem rfF_vc (m : Im) (V : List QR.XV → List (List QR.CV) → Prop) : QR.evalBody Try.prog (o_fin) (fun n => bif Nat.beq n 2 then some (.inv (o_inv_rfF m)) else none) (Try.f47.body.getD .skip) Try.f47.results.toList Try.f47.ntmps [.x (.agg (imC ⟨m.w, m.h, false, m.c0, m.c1, m.c2, m.a, m.f, m.p0, m.p1, m.p2, m.p3, m.p4⟩))] V = (True ∧ True ∧ (∃ (i : Int), rfoGood m false i ∧ True ∧ true = true ∧ ((true = true ∧ 0 = 0 ∧ 0 = 0) ∧ (true = true ∧ false = false) ∧ (true = true ∧ IntKind.i64 = IntKind.i64 ∧ (0 : Int) = i) ∧ True) ∧ (zz4 m) ∧ True) ∧ ∀ (i : Int), rfoGood m false i → True ∧ bcond (ilt i 5) (bcond (ieq i 0) ((true = true ∧ true = true ∧ True) ∧ True ∧ bcond (bnot false) (bcond (bnot (plB m.9.1 m.9.2 m.9.3 m.9.4)) ((zz70 m) ∧ True ∧ True ∧ V [XV.c (CV.v (Value.bool false))] []) (bcond (ine m.9.1 m.1) ((zz70 m) ∧ True ∧ True ∧ V [XV.c (CV.v (Value.bool false))] []) ((zz70 m) ∧ bcond (ine m.9.2 m.2) (True ∧ True ∧ V [XV.c (CV.v (Value.bool false))] []) (zz110 m i)))) (zz100 m i)) (bcond (ieq i 1) ((true = true ∧ true = true ∧ True) ∧ True ∧ bcond (bnot false) (bcond (bnot (plB m.10.1 m.10.2 m.10.3 m.10.4)) ((zz61 m) ∧ True ∧ True ∧ V [XV.c (CV.v (Value.bool false))] []) (bcond (ine m.10.1 m.1) ((zz61 m) ∧ True ∧ True ∧ V [XV.c (CV.v (Value.bool false))] []) ((zz61 m) ∧ bcond (ine m.10.2 m.2) (True ∧ True ∧ V [XV.c (CV.v (Value.bool false))] []) (zz110 m i)))) (zz100 m i)) (bcond (ieq i 2) ((true = true ∧ true = true ∧ True) ∧ True ∧ bcond (bnot false) (bcond (bnot (plB m.11.1 m.11.2 m.11.3 m.11.4)) ((zz62 m) ∧ True ∧ True ∧ V [XV.c (CV.v (Value.bool false))] []) (bcond (ine m.11.1 m.1) ((zz62 m) ∧ True ∧ True ∧ V [XV.c (CV.v (Value.bool false))] []) ((zz62 m) ∧ bcond (ine m.11.2 m.2) (True ∧ True ∧ V [XV.c (CV.v (Value.bool false))] []) (zz110 m i)))) (zz100 m i)) (bcond (ieq i 3) ((true = true ∧ true = true ∧ True) ∧ True ∧ bcond (bnot false) (bcond (bnot (plB m.12.1 m.12.2 m.12.3 m.12.4)) ((zz63 m) ∧ True ∧ True ∧ V [XV.c (CV.v (Value.bool false))] []) (bcond (ine m.12.1 m.1) ((zz63 m) ∧ True ∧ True ∧ V [XV.c (CV.v (Value.bool false))] []) ((zz63 m) ∧ bcond (ine m.12.2 m.2) (True ∧ True ∧ V [XV.c (CV.v (Value.bool false))] []) (zz110 m i)))) (zz100 m i)) (bcond (ieq i 4) ((true = true ∧ true = true ∧ True) ∧ True ∧ bcond (bnot false) (bcond (bnot (plB m.13.1 m.13.2 m.13.3 m.13.4)) ((zz64 m) ∧ True ∧ True ∧ V [XV.c (CV.v (Value.bool false))] []) (bcond (ine m.13.1 m.1) ((zz64 m) ∧ True ∧ True ∧ V [XV.c (CV.v (Value.bool false))] []) ((zz64 m) ∧ bcond (ine m.13.2 m.2) (True ∧ True ∧ V [XV.c (CV.v (Value.bool false))] []) (zz110 m i)))) (zz100 m i)) False))))) (True ∧ True ∧ V [XV.c (CV.v (Value.bool (band (band (ieq m.4 0) (band (ieq m.5 0) (band (ieq m.6 0) true))) (band (ieq m.7 0) (band (ieq m.8 0) true)))))] [])) := by
  delta zz4 zz34 zz61 zz62 zz63 zz64 zz70 zz100 zz110
  try delta o_fin
  try delta s_plvalid
  generalize @in64 = in64
  generalize @intRow = intRow
  generalize @plB = plB
  generalize @rfoGood = rfoGood
  generalize @rfoMu = rfoMu
  kernel_rfl
set_option maxRecDepth 100000 in
theorem rpx_vc (m : Im) (x y : Int) (V : List QR.XV → List (List QR.CV) → Prop) : QR.evalBody Try.prog (QR.orc []) (fun n => bif Nat.beq n 5 then some (.rounds 6) else none) (Try.f49.body.getD .skip) Try.f49.results.toList Try.f49.ntmps [.x (.agg (imC m)), .x (.c (.v (.int .i64 x))), .x (.c (.v (.int .i64 y)))] V = (True ∧ True ∧ bcond m.3 (True ∧ True ∧ V [XV.agg [CV.v (Value.int .u16 m.4), CV.v (Value.int .u16 m.5), CV.v (Value.int .u16 m.6), CV.v (Value.int .u16 m.7), CV.v (Value.int .u16 m.8)]] []) (True ∧ True ∧ True ∧ (true = true ∧ true = true ∧ true = true ∧ true = true ∧ True) ∧ True ∧ True ∧ (true = true ∧ true = true ∧ true = true ∧ true = true ∧ True) ∧ True ∧ True ∧ (true = true ∧ true = true ∧ true = true ∧ true = true ∧ True) ∧ True ∧ True ∧ (true = true ∧ true = true ∧ true = true ∧ true = true ∧ True) ∧ True ∧ True ∧ (true = true ∧ true = true ∧ true = true ∧ true = true ∧ True) ∧ True ∧ True ∧ (ile 0 (iadd IntKind.i64 (imul IntKind.i64 y m.13.3) x) = true ∧ ilt (iadd IntKind.i64 (imul IntKind.i64 y m.13.3) x) m.13.4 = true ∧ true = true ∧ true = true ∧ true = true ∧ true = true ∧ ile 0 (iadd IntKind.i64 (imul IntKind.i64 y m.12.3) x) = true ∧ ilt (iadd IntKind.i64 (imul IntKind.i64 y m.12.3) x) m.12.4 = true ∧ true = true ∧ true = true ∧ true = true ∧ true = true ∧ ile 0 (iadd IntKind.i64 (imul IntKind.i64 y m.11.3) x) = true ∧ ilt (iadd IntKind.i64 (imul IntKind.i64 y m.11.3) x) m.11.4 = true ∧ true = true ∧ true = true ∧ true = true ∧ true = true ∧ ile 0 (iadd IntKind.i64 (imul IntKind.i64 y m.10.3) x) = true ∧ ilt (iadd IntKind.i64 (imul IntKind.i64 y m.10.3) x) m.10.4 = true ∧ true = true ∧ true = true ∧ true = true ∧ true = true ∧ ile 0 (iadd IntKind.i64 (imul IntKind.i64 y m.9.3) x) = true ∧ ilt (iadd IntKind.i64 (imul IntKind.i64 y m.9.3) x) m.9.4 = true ∧ true = true ∧ true = true ∧ true = true ∧ true = true ∧ True) ∧ True ∧ V (zz140 m y x) [])) := by
  delta zz140
  kernel_rfl
def rvoGood (m : Im) (t y : Int) : Prop := (0 ≤ y ∧ y ≤ m.h) ∧ ∀ a b : Int, 0 ≤ a → a < m.w → 0 ≤ b → b < y → pxB m t a b = true
def rvoMu (m : Im) (y : Int) : Nat := (m.h - y).toNat
def rviGood (m : Im) (t y x : Int) : Prop := ((0 ≤ y ∧ y < m.h) ∧ 0 ≤ x ∧ x ≤ m.w) ∧ (∀ a b : Int, 0 ≤ a → a < m.w → 0 ≤ b → b < y → pxB m t a b = true) ∧ ∀ a : Int, 0 ≤ a → a < x → pxB m t a y = true
def rviMu (m : Im) (x : Int) : Nat := (m.w - x).toNat
noncomputable def o_inv_rvo (m : Im) (t : Int) : QR.Inv where
  ι := Int
  good i := rvoGood m t i
  slots i := QR.slotsOf Try.f18.ntmps [(1, .x (.c (.v (.int .u16 t)))), (2, .x (.c (.ptr 1000000000000000 0))), (4, .x (.c (.v (.int .i64 0)))), (5, .x (.c (.v (.int .i64 i))))]
  blocks i := [(1000000000000000, .cells (imC m))]
  μ i := rvoMu m i
noncomputable def o_inv_rvi (m : Im) (t y : Int) : QR.Inv where
  ι := Int
  good i := rviGood m t y i
  slots i := QR.slotsOf Try.f18.ntmps [(1, .x (.c (.v (.int .u16 t)))), (2, .x (.c (.ptr 1000000000000000 0))), (4, .x (.c (.v (.int .i64 0)))), (5, .x (.c (.v (.int .i64 y)))), (6, .x (.c (.v (.int .i64 i))))]
  blocks i := [(1000000000000000, .cells (imC m))]
  μ i := rviMu m i
def o_rval : QR.Oracle := QR.orc [(46, s_fit), (47, s_imf), (48, s_pvalid2), (49, s_impx)]
set_option maxRecDepth 100000 in
theorem rval_vc (m : Im) (t : Int) (V : List QR.XV → List (List QR.CV) → Prop) : QR.evalBody Try.prog (o_rval) (fun n => bif Nat.beq n 10 then some (.inv (o_inv_rvo m t)) else bif Nat.beq n 13 then some (.invF fun g => [o_inv_rvi m t (g 5)]) else none) (Try.f18.body.getD .skip) Try.f18.results.toList Try.f18.ntmps [.x (.agg (imC m)), .x (.c (.v (.int .u16 t)))] V = (True ∧ (in64 m.1 = true ∧ in64 m.2 = true ∧ True) ∧ bcond (bnot (fitB m.1 m.2)) (True ∧ True ∧ V [XV.c (CV.v (Value.int .i64 6))] []) ((zz12 m) ∧ bcond (bnot (imF m)) (True ∧ True ∧ V [XV.c (CV.v (Value.int .i64 7))] []) (True ∧ bcond m.3 (True ∧ bcond (bnot (pvB m.4 m.5 m.6 m.7 m.8 t)) (True ∧ True ∧ V [XV.c (CV.v (Value.int .i64 8))] []) (True ∧ True ∧ V [XV.c (CV.v (Value.int .i64 0))] [])) (True ∧ (∃ (i : Int), rvoGood m t i ∧ True ∧ true = true ∧ ((true = true ∧ IntKind.u16 = IntKind.u16 ∧ t = t) ∧ (true = true ∧ 0 = 0 ∧ 0 = 0) ∧ (true = true ∧ IntKind.i64 = IntKind.i64 ∧ (0 : Int) = 0) ∧ (true = true ∧ IntKind.i64 = IntKind.i64 ∧ (0 : Int) = i) ∧ True) ∧ (zz1 m) ∧ True) ∧ ∀ (i : Int), rvoGood m t i → True ∧ bcond (ilt i m.2) (True ∧ ((∃ (i_1 : Int), rviGood m t i i_1 ∧ True ∧ true = true ∧ ((true = true ∧ IntKind.u16 = IntKind.u16 ∧ t = t) ∧ (true = true ∧ 1000000000000000 = 1000000000000000 ∧ 0 = 0) ∧ (true = true ∧ IntKind.i64 = IntKind.i64 ∧ (0 : Int) = 0) ∧ (true = true ∧ IntKind.i64 = IntKind.i64 ∧ i = i) ∧ (true = true ∧ IntKind.i64 = IntKind.i64 ∧ (0 : Int) = i_1) ∧ True) ∧ (zz1 m) ∧ True) ∨ False) ∧ (∀ (i_1 : Int), rviGood m t i i_1 → True ∧ bcond (ilt i_1 m.1) (∀ (i_2 : Int), i_2 = pxV m 0 i_1 i → ∀ (i_3 : Int), i_3 = pxV m 1 i_1 i → ∀ (i_4 : Int), i_4 = pxV m 2 i_1 i → ∀ (i_5 : Int), i_5 = pxV m 3 i_1 i → ∀ (i_6 : Int), i_6 = pxV m 4 i_1 i → (zz112 m i_1 i) ∧ bcond (bnot (pvB i_2 i_3 i_4 i_5 i_6 t)) (True ∧ True ∧ V [XV.c (CV.v (Value.int .i64 8))] []) (True ∧ ((∃ (i_7 : Int), rviGood m t i i_7 ∧ (True ∧ true = true ∧ ((true = true ∧ IntKind.u16 = IntKind.u16 ∧ t = t) ∧ (true = true ∧ 1000000000000000 = 1000000000000000 ∧ 0 = 0) ∧ (true = true ∧ IntKind.i64 = IntKind.i64 ∧ (0 : Int) = 0) ∧ (true = true ∧ IntKind.i64 = IntKind.i64 ∧ i = i) ∧ (true = true ∧ IntKind.i64 = IntKind.i64 ∧ iadd IntKind.i64 i_1 1 = i_7) ∧ True) ∧ (zz1 m) ∧ True) ∧ Nat.le (Nat.succ (rviMu m i_7)) (rviMu m i_1)) ∨ False))) (True ∧ ∃ (j : Int), rvoGood m t j ∧ (True ∧ true = true ∧ ((true = true ∧ IntKind.u16 = IntKind.u16 ∧ t = t) ∧ (true = true ∧ 1000000000000000 = 1000000000000000 ∧ 0 = 0) ∧ (true = true ∧ IntKind.i64 = IntKind.i64 ∧ (0 : Int) = 0) ∧ (true = true ∧ IntKind.i64 = IntKind.i64 ∧ iadd IntKind.i64 i 1 = j) ∧ True) ∧ (zz1 m) ∧ True) ∧ Nat.le (Nat.succ (rvoMu m j)) (rvoMu m i))) ∧ True) (True ∧ True ∧ V [XV.c (CV.v (Value.int .i64 0))] []))))) := by
  delta zz1 zz12 zz112
  try delta o_rval
  try delta s_fit
  try delta s_imf
  try delta s_pvalid2
  try delta s_impx
  try delta s_imOf
  generalize @fitB = fitB
  generalize @imF = imF
  generalize @imG = imG
  generalize @imIn = imIn
  generalize @in64 = in64
  generalize @intRow = intRow
  generalize @pvB = pvB
  generalize @pxV = pxV
  generalize @rviGood = rviGood
  generalize @rviMu = rviMu
  generalize @rvoGood = rvoGood
  generalize @rvoMu = rvoMu
  generalize @w2 = w2
  kernel_rfl
set_option maxRecDepth 100000 in
theorem risol_vc (w h c0 c1 c2 a f : Int) (V : List QR.XV → List (List QR.CV) → Prop) : QR.evalBody Try.prog (QR.orc []) (QR.noLoops) (Try.f24.body.getD .skip) Try.f24.results.toList Try.f24.ntmps [.x (.c (.v (.int .i64 w))), .x (.c (.v (.int .i64 h))), .x (.agg [.v (.int .u16 c0), .v (.int .u16 c1), .v (.int .u16 c2), .v (.int .u16 a), .v (.int .u16 f)])] V = (True ∧ True ∧ True ∧ V (zz98 w h c0 c1 c2 a f) []) := by
  delta zz98
  kernel_rfl
def rioGood (n i : Int) : Prop := 0 ≤ i ∧ i ≤ n
def rioMu (n i : Int) : Nat := (n - i).toNat
def rioN (w h : Int) : Int := w * h
def rioV (q : Int → Nat → Int) (i t : Int) (k : Nat) : Int := if t < i then q t k else 0
noncomputable def o_inv_rio (w h n : Int) (q : Int → Nat → Int) : QR.Inv where
  ι := Int
  good i := rioGood n i
  slots i := QR.slotsOf Try.f21.ntmps [(0, .x (.c (.v (.int .i64 w)))), (1, .x (.c (.v (.int .i64 h)))), (2, .x (.c (.slc 5 n (.fn fun i j => .v (.int .u16 (q i j)))))), (6, .x (.c (.ptr 1000000000000000 0))), (7, .x (.c (.v (.bool false)))), (8, .x (.c (.ptr 1000000000000001 0))), (10, .x (.c (.v (.int .i64 i))))]
  blocks i := [(1000000000000000, .cells [.v (.int .i64 0), .v (.int .i64 0), .v (.bool false), .v (.int .u16 0), .v (.int .u16 0), .v (.int .u16 0), .v (.int .u16 0), .v (.int .u16 0), .v (.int .i64 0), .v (.int .i64 0), .v (.int .i64 0), .v (.slice none 0 0), .v (.int .i64 0), .v (.int .i64 0), .v (.int .i64 0), .v (.slice none 0 0), .v (.int .i64 0), .v (.int .i64 0), .v (.int .i64 0), .v (.slice none 0 0), .v (.int .i64 0), .v (.int .i64 0), .v (.int .i64 0), .v (.slice none 0 0), .v (.int .i64 0), .v (.int .i64 0), .v (.int .i64 0), .v (.slice none 0 0)]), (1000000000000001, .cells [.v (.int .i64 w), .v (.int .i64 h), .v (.bool false), .v (.int .u16 0), .v (.int .u16 0), .v (.int .u16 0), .v (.int .u16 0), .v (.int .u16 0), .v (.int .i64 w), .v (.int .i64 h), .v (.int .i64 w), .own 1000000000000002 (rioN w h), .v (.int .i64 w), .v (.int .i64 h), .v (.int .i64 w), .own 1000000000000003 (rioN w h), .v (.int .i64 w), .v (.int .i64 h), .v (.int .i64 w), .own 1000000000000004 (rioN w h), .v (.int .i64 w), .v (.int .i64 h), .v (.int .i64 w), .own 1000000000000005 (rioN w h), .v (.int .i64 w), .v (.int .i64 h), .v (.int .i64 w), .own 1000000000000006 (rioN w h)]), (1000000000000002, .row 1 (rioN w h) (.fn fun t _ => .v (.int .u16 (rioV q i t 0)))), (1000000000000003, .row 1 (rioN w h) (.fn fun t _ => .v (.int .u16 (rioV q i t 1)))), (1000000000000004, .row 1 (rioN w h) (.fn fun t _ => .v (.int .u16 (rioV q i t 2)))), (1000000000000005, .row 1 (rioN w h) (.fn fun t _ => .v (.int .u16 (rioV q i t 3)))), (1000000000000006, .row 1 (rioN w h) (.fn fun t _ => .v (.int .u16 (rioV q i t 4))))]
  μ i := rioMu n i
def o_rio : QR.Oracle := QR.orc [(46, s_fit)]
set_option maxRecDepth 100000 in
theorem rio_vc (w h n : Int) (q : Int → Nat → Int) (V : List QR.XV → List (List QR.CV) → Prop) : QR.evalBody Try.prog (o_rio) (fun n_ => bif Nat.beq n_ 5 then some (.rounds 6) else bif Nat.beq n_ 9 then some (.inv (o_inv_rio w h n q)) else bif Nat.beq n_ 12 then some (.rounds 4) else none) (Try.f21.body.getD .skip) Try.f21.results.toList Try.f21.ntmps [.x (.c (.v (.int .i64 w))), .x (.c (.v (.int .i64 h))), .x (.c (.slc 5 n (.fn fun i j => .v (.int .u16 (q i j)))))] V = (True ∧ bcond (bnot (fitB w h)) ((in64 w = true ∧ in64 h = true ∧ True) ∧ True ∧ True ∧ V [XV.agg zz7, XV.c (CV.v (Value.bool false))] []) (∀ (i : Int), i = n → (in64 w = true ∧ in64 h = true ∧ True) ∧ bcond (ine i (imul IntKind.i64 w h)) (True ∧ True ∧ V [XV.agg zz7, XV.c (CV.v (Value.bool false))] []) (True ∧ True ∧ True ∧ (zz84 w h) ∧ True ∧ True ∧ (zz84 w h) ∧ True ∧ True ∧ (zz84 w h) ∧ True ∧ True ∧ (zz84 w h) ∧ True ∧ True ∧ (zz84 w h) ∧ True ∧ True ∧ True ∧ (∃ (i : Int), rioGood n i ∧ True ∧ true = true ∧ ((true = true ∧ IntKind.i64 = IntKind.i64 ∧ w = w) ∧ (true = true ∧ IntKind.i64 = IntKind.i64 ∧ h = h) ∧ (zz80 n q) ∧ (true = true ∧ 0 = 0 ∧ 0 = 0) ∧ (true = true ∧ false = false) ∧ (true = true ∧ 3075 = 3075 ∧ 0 = 0) ∧ (true = true ∧ IntKind.i64 = IntKind.i64 ∧ (0 : Int) = i) ∧ True) ∧ zz0 ∧ ((IntKind.i64 = IntKind.i64 ∧ w = w) ∧ (IntKind.i64 = IntKind.i64 ∧ h = h) ∧ false = false ∧ (IntKind.u16 = IntKind.u16 ∧ (0 : Int) = 0) ∧ (IntKind.u16 = IntKind.u16 ∧ (0 : Int) = 0) ∧ (IntKind.u16 = IntKind.u16 ∧ (0 : Int) = 0) ∧ (IntKind.u16 = IntKind.u16 ∧ (0 : Int) = 0) ∧ (IntKind.u16 = IntKind.u16 ∧ (0 : Int) = 0) ∧ (IntKind.i64 = IntKind.i64 ∧ w = w) ∧ (IntKind.i64 = IntKind.i64 ∧ h = h) ∧ (IntKind.i64 = IntKind.i64 ∧ w = w) ∧ (7175 = 7175 ∧ imul IntKind.i64 w h = rioN w h) ∧ (IntKind.i64 = IntKind.i64 ∧ w = w) ∧ (IntKind.i64 = IntKind.i64 ∧ h = h) ∧ (IntKind.i64 = IntKind.i64 ∧ w = w) ∧ (4201479 = 4201479 ∧ imul IntKind.i64 w h = rioN w h) ∧ (IntKind.i64 = IntKind.i64 ∧ w = w) ∧ (IntKind.i64 = IntKind.i64 ∧ h = h) ∧ (IntKind.i64 = IntKind.i64 ∧ w = w) ∧ (8395783 = 8395783 ∧ imul IntKind.i64 w h = rioN w h) ∧ (IntKind.i64 = IntKind.i64 ∧ w = w) ∧ (IntKind.i64 = IntKind.i64 ∧ h = h) ∧ (IntKind.i64 = IntKind.i64 ∧ w = w) ∧ (12590087 = 12590087 ∧ imul IntKind.i64 w h = rioN w h) ∧ (IntKind.i64 = IntKind.i64 ∧ w = w) ∧ (IntKind.i64 = IntKind.i64 ∧ h = h) ∧ (IntKind.i64 = IntKind.i64 ∧ w = w) ∧ (16784391 = 16784391 ∧ imul IntKind.i64 w h = rioN w h) ∧ True) ∧ (1 = 1 ∧ imul IntKind.i64 w h = rioN w h ∧ True ∧ ∀ (i_1 : Nat), ilt (Int.ofNat i_1) (imul IntKind.i64 w h) = true → IntKind.u16 = IntKind.u16 ∧ (0 : Int) = rioV q i (Int.ofNat i_1) 0) ∧ (1 = 1 ∧ imul IntKind.i64 w h = rioN w h ∧ True ∧ ∀ (i_1 : Nat), ilt (Int.ofNat i_1) (imul IntKind.i64 w h) = true → IntKind.u16 = IntKind.u16 ∧ (0 : Int) = rioV q i (Int.ofNat i_1) 1) ∧ (1 = 1 ∧ imul IntKind.i64 w h = rioN w h ∧ True ∧ ∀ (i_1 : Nat), ilt (Int.ofNat i_1) (imul IntKind.i64 w h) = true → IntKind.u16 = IntKind.u16 ∧ (0 : Int) = rioV q i (Int.ofNat i_1) 2) ∧ (1 = 1 ∧ imul IntKind.i64 w h = rioN w h ∧ True ∧ ∀ (i_1 : Nat), ilt (Int.ofNat i_1) (imul IntKind.i64 w h) = true → IntKind.u16 = IntKind.u16 ∧ (0 : Int) = rioV q i (Int.ofNat i_1) 3) ∧ (1 = 1 ∧ imul IntKind.i64 w h = rioN w h ∧ True ∧ ∀ (i_1 : Nat), ilt (Int.ofNat i_1) (imul IntKind.i64 w h) = true → IntKind.u16 = IntKind.u16 ∧ (0 : Int) = rioV q i (Int.ofNat i_1) 4) ∧ True) ∧ ∀ (i : Int), rioGood n i → ∀ (i_1 : Int), i_1 = n → True ∧ bcond (ilt i i_1) (True ∧ True ∧ (ile 0 i = true ∧ ilt i (rioN w h) = true ∧ true = true ∧ true = true ∧ ile 0 i = true ∧ ilt i n = true ∧ true = true ∧ true = true ∧ True) ∧ True ∧ True ∧ (ile 0 i = true ∧ ilt i (rioN w h) = true ∧ true = true ∧ true = true ∧ ile 0 i = true ∧ ilt i n = true ∧ true = true ∧ true = true ∧ True) ∧ True ∧ True ∧ (ile 0 i = true ∧ ilt i (rioN w h) = true ∧ true = true ∧ true = true ∧ ile 0 i = true ∧ ilt i n = true ∧ true = true ∧ true = true ∧ True) ∧ True ∧ True ∧ (ile 0 i = true ∧ ilt i (rioN w h) = true ∧ ile 0 i = true ∧ ilt i (rioN w h) = true ∧ ile 0 i = true ∧ ilt i n = true ∧ ile 0 i = true ∧ ilt i n = true ∧ true = true ∧ true = true ∧ true = true ∧ true = true ∧ True) ∧ True ∧ ∃ (j : Int), rioGood n j ∧ (True ∧ true = true ∧ ((true = true ∧ IntKind.i64 = IntKind.i64 ∧ w = w) ∧ (true = true ∧ IntKind.i64 = IntKind.i64 ∧ h = h) ∧ (zz80 n q) ∧ (true = true ∧ 1000000000000000 = 1000000000000000 ∧ 0 = 0) ∧ (true = true ∧ false = false) ∧ (true = true ∧ 1000000000000001 = 1000000000000001 ∧ 0 = 0) ∧ (true = true ∧ IntKind.i64 = IntKind.i64 ∧ iadd IntKind.i64 i 1 = j) ∧ True) ∧ zz0 ∧ ((IntKind.i64 = IntKind.i64 ∧ w = w) ∧ (IntKind.i64 = IntKind.i64 ∧ h = h) ∧ false = false ∧ (IntKind.u16 = IntKind.u16 ∧ (0 : Int) = 0) ∧ (IntKind.u16 = IntKind.u16 ∧ (0 : Int) = 0) ∧ (IntKind.u16 = IntKind.u16 ∧ (0 : Int) = 0) ∧ (IntKind.u16 = IntKind.u16 ∧ (0 : Int) = 0) ∧ (IntKind.u16 = IntKind.u16 ∧ (0 : Int) = 0) ∧ (IntKind.i64 = IntKind.i64 ∧ w = w) ∧ (IntKind.i64 = IntKind.i64 ∧ h = h) ∧ (IntKind.i64 = IntKind.i64 ∧ w = w) ∧ (1000000000000002 = 1000000000000002 ∧ rioN w h = rioN w h) ∧ (IntKind.i64 = IntKind.i64 ∧ w = w) ∧ (IntKind.i64 = IntKind.i64 ∧ h = h) ∧ (IntKind.i64 = IntKind.i64 ∧ w = w) ∧ (1000000000000003 = 1000000000000003 ∧ rioN w h = rioN w h) ∧ (IntKind.i64 = IntKind.i64 ∧ w = w) ∧ (IntKind.i64 = IntKind.i64 ∧ h = h) ∧ (IntKind.i64 = IntKind.i64 ∧ w = w) ∧ (1000000000000004 = 1000000000000004 ∧ rioN w h = rioN w h) ∧ (IntKind.i64 = IntKind.i64 ∧ w = w) ∧ (IntKind.i64 = IntKind.i64 ∧ h = h) ∧ (IntKind.i64 = IntKind.i64 ∧ w = w) ∧ (1000000000000005 = 1000000000000005 ∧ rioN w h = rioN w h) ∧ (IntKind.i64 = IntKind.i64 ∧ w = w) ∧ (IntKind.i64 = IntKind.i64 ∧ h = h) ∧ (IntKind.i64 = IntKind.i64 ∧ w = w) ∧ (1000000000000006 = 1000000000000006 ∧ rioN w h = rioN w h) ∧ True) ∧ (1 = 1 ∧ rioN w h = rioN w h ∧ True ∧ ∀ (i_2 : Nat), ilt (Int.ofNat i_2) (rioN w h) = true → IntKind.u16 = IntKind.u16 ∧ isel (ieq (Int.ofNat i_2) i) (q i 0) (rioV q i (Int.ofNat i_2) 0) = rioV q j (Int.ofNat i_2) 0) ∧ (1 = 1 ∧ rioN w h = rioN w h ∧ True ∧ ∀ (i_2 : Nat), ilt (Int.ofNat i_2) (rioN w h) = true → IntKind.u16 = IntKind.u16 ∧ isel (ieq (Int.ofNat i_2) i) (q i 1) (rioV q i (Int.ofNat i_2) 1) = rioV q j (Int.ofNat i_2) 1) ∧ (1 = 1 ∧ rioN w h = rioN w h ∧ True ∧ ∀ (i_2 : Nat), ilt (Int.ofNat i_2) (rioN w h) = true → IntKind.u16 = IntKind.u16 ∧ isel (ieq (Int.ofNat i_2) i) (q i 2) (rioV q i (Int.ofNat i_2) 2) = rioV q j (Int.ofNat i_2) 2) ∧ (1 = 1 ∧ rioN w h = rioN w h ∧ True ∧ ∀ (i_2 : Nat), ilt (Int.ofNat i_2) (rioN w h) = true → IntKind.u16 = IntKind.u16 ∧ isel (ieq (Int.ofNat i_2) i) (q i 3) (rioV q i (Int.ofNat i_2) 3) = rioV q j (Int.ofNat i_2) 3) ∧ (1 = 1 ∧ rioN w h = rioN w h ∧ True ∧ ∀ (i_2 : Nat), ilt (Int.ofNat i_2) (rioN w h) = true → IntKind.u16 = IntKind.u16 ∧ isel (ieq (Int.ofNat i_2) i) (q i 4) (rioV q i (Int.ofNat i_2) 4) = rioV q j (Int.ofNat i_2) 4) ∧ True) ∧ Nat.le (Nat.succ (rioMu n j)) (rioMu n i)) (True ∧ True ∧ V [XV.agg [CV.v (Value.int .i64 w), CV.v (Value.int .i64 h), CV.v (Value.bool false), CV.v (Value.int .u16 0), CV.v (Value.int .u16 0), CV.v (Value.int .u16 0), CV.v (Value.int .u16 0), CV.v (Value.int .u16 0), CV.v (Value.int .i64 w), CV.v (Value.int .i64 h), CV.v (Value.int .i64 w), CV.slc 1 (rioN w h) (QR.Row.fn fun (t : Int) (x : Nat) => CV.v (Value.int .u16 (rioV q i t 0))), CV.v (Value.int .i64 w), CV.v (Value.int .i64 h), CV.v (Value.int .i64 w), CV.slc 1 (rioN w h) (QR.Row.fn fun (t : Int) (x : Nat) => CV.v (Value.int .u16 (rioV q i t 1))), CV.v (Value.int .i64 w), CV.v (Value.int .i64 h), CV.v (Value.int .i64 w), CV.slc 1 (rioN w h) (QR.Row.fn fun (t : Int) (x : Nat) => CV.v (Value.int .u16 (rioV q i t 2))), CV.v (Value.int .i64 w), CV.v (Value.int .i64 h), CV.v (Value.int .i64 w), CV.slc 1 (rioN w h) (QR.Row.fn fun (t : Int) (x : Nat) => CV.v (Value.int .u16 (rioV q i t 3))), CV.v (Value.int .i64 w), CV.v (Value.int .i64 h), CV.v (Value.int .i64 w), CV.slc 1 (rioN w h) (QR.Row.fn fun (t : Int) (x : Nat) => CV.v (Value.int .u16 (rioV q i t 4)))], XV.c (CV.v (Value.bool true))] [])))) := by
  delta zz0 zz7 zz16 zz80 zz84
  try delta o_rio
  try delta s_fit
  generalize @fitB = fitB
  generalize @in64 = in64
  generalize @rioGood = rioGood
  generalize @rioMu = rioMu
  generalize @rioN = rioN
  generalize @rioV = rioV
  kernel_rfl
end Go.Proofs.Ytcckcifmhhaepaa
