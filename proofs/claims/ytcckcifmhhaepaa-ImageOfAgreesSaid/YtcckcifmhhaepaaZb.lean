import Derived.Test.YtcckcifmhhaepaaZaa
import Derived.Test.YtcckcifmhhaepaaZa
import Derived.Test.YtcckcifmhhaepaaNb
import Derived.Test.YtcckcifmhhaepaaMb
namespace Go.Proofs.Ytcckcifmhhaepaa
open Go.RowKit PR QR
set_option linter.unusedVariables false
def s_imf : List AV → Option QR.Ans
  | [.x (.agg l)] => match s_imOf l with
    | some (m, A) => some ⟨[.c (.v (.bool (imF m)))], [], imG m :: A⟩
    | none => none
  | _ => none
def s_imok : List AV → Option QR.Ans
  | [.x (.agg l)] => match s_imOf l with
    | some (m, A) => some ⟨[.c (.v (.bool (imOk m)))], [], imG m :: A⟩
    | none => none
  | _ => none
def s_impx : List AV → Option QR.Ans
  | [.x (.agg l), .x (.c (.v (.int .i64 x))), .x (.c (.v (.int .i64 y)))] => match s_imOf l with
    | some (m, A) => some ⟨[.agg [.v (.int .u16 (pxV m 0 x y)), .v (.int .u16 (pxV m 1 x y)), .v (.int .u16 (pxV m 2 x y)), .v (.int .u16 (pxV m 3 x y)), .v (.int .u16 (pxV m 4 x y))]], [], (imIn m x y = true) :: imG m :: A⟩
    | none => none
  | _ => none
def s_ime : List AV → Option QR.Ans
  | [.x (.agg l), .x (.c (.v (.int .u16 t)))] => match s_imOf l with
    | some (m, A) => some ⟨[.c (.v (.int .i64 (imE m t)))], [], imG m :: A⟩
    | none => none
  | _ => none
def s_isol : List AV → Option QR.Ans
  | [.x (.c (.v (.int .i64 w))), .x (.c (.v (.int .i64 h))), .x (.agg [.v (.int .u16 c0), .v (.int .u16 c1), .v (.int .u16 c2), .v (.int .u16 a), .v (.int .u16 f)])] => some ⟨[.agg (imC (imSol w h c0 c1 c2 a f))], [], []⟩
  | _ => none
def s_imof : List AV → Option QR.Ans
  | [.x (.c (.v (.int .i64 w))), .x (.c (.v (.int .i64 h))), .x (.c c)] => match slcOf 5 c with
    | some (n, r) => some ⟨[.agg (imC (imofV w h n fun i j => intC (den r i j))), .c (.v (.bool (imofOk w h n)))], [], [intRow .u16 5 n r, in64 w = true, in64 h = true, ile 0 n = true]⟩
    | none => none
  | _ => none
def s_imat : List AV → Option QR.Ans
  | [.x (.agg l), .x (.c (.v (.int .i64 x))), .x (.c (.v (.int .i64 y)))] => match s_imOf l with
    | some (m, A) => some ⟨[.agg [.v (.int .u16 (pxA m 0 x y)), .v (.int .u16 (pxA m 1 x y)), .v (.int .u16 (pxA m 2 x y)), .v (.int .u16 (pxA m 3 x y)), .v (.int .u16 (pxA m 4 x y))]], [], imG m :: A⟩
    | none => none
  | _ => none
def s_impxs : List AV → Option QR.Ans
  | [.x (.agg l)] => match s_imOf l with
    | some (m, A) => some ⟨[.c (.fresh 5 (imN m) (.fn fun i j => .v (.int .u16 (pxI m i j))))], [], imG m :: A⟩
    | none => none
  | _ => none
def s_pxsame : List AV → Option QR.Ans
  | [.x (.c c), .x (.c d)] => match slcOf 5 c, slcOf 5 d with
    | some (n, r), some (n2, r2) => some ⟨[.c (.v (.bool (pxSame n n2 (fun i j => intC (den r i j)) fun i j => intC (den r2 i j))))], [], [intRow .u16 5 n r, intRow .u16 5 n2 r2, ile 0 n = true, ile 0 n2 = true, ile n 1099511627776 = true]⟩
    | _, _ => none
  | _ => none
def s_imeq : List AV → Option QR.Ans
  | [.x (.agg l), .x (.agg k)] => match s_imOf l, s_imOf k with
    | some (m, A), some (n, B) => some ⟨[.c (.v (.bool (imEq m n)))], [], imG m :: imG n :: (A ++ B)⟩
    | _, _ => none
  | _ => none
def s_imsame : List AV → Option QR.Ans
  | [.x (.agg l), .x (.agg k)] => match s_imOf l, s_imOf k with
    | some (m, A), some (n, B) => some ⟨[.c (.v (.bool (imSame m n)))], [], imG m :: imG n :: (imL m = true) :: (A ++ B)⟩
    | _, _ => none
  | _ => none
def s_conv5 : List AV → Option QR.Ans
  | [.x (.agg [.v (.int .u16 c0), .v (.int .u16 c1), .v (.int .u16 c2), .v (.int .u16 a), .v (.int .u16 f)]), .x (.c (.v (.int .i64 s))), .x (.c (.v (.int .i64 t)))] => some ⟨[.agg [.v (.int .u16 (cvV s t c0)), .v (.int .u16 (cvV s t c1)), .v (.int .u16 (cvV s t c2)), .v (.int .u16 (cvV s t a)), .v (.int .u16 (cvV s t f))]], [], [in16 c0 = true, in16 c1 = true, in16 c2 = true, in16 a = true, in16 f = true]⟩
  | _ => none
def s_imcv : List AV → Option QR.Ans
  | [.x (.agg l), .x (.c (.v (.int .i64 s))), .x (.c (.v (.int .i64 t)))] => match s_imOf l with
    | some (m, A) => some ⟨[.agg (imC (imCv m s t)), .c (.v (.int .i64 (imCvE m s t)))], [], imG m :: A⟩
    | none => none
  | _ => none
def s_imrp : List AV → Option QR.Ans
  | [.x (.agg l), .x (.agg [.v (.int .i64 a), .v (.int .i64 b), .v (.int .i64 c), .v (.int .i64 d)]), .x (.c e)] => match s_imOf l, slcOf 5 e with
    | some (m, A), some (n, r) => some ⟨[.agg (imC (imRp m a b c d n fun i j => intC (den r i j))), .c (.v (.int .i64 (imRpE m a b c d n)))], [], imG m :: intRow .u16 5 n r :: (ile 0 n = true) :: A⟩
    | _, _ => none
  | _ => none
def s_gpxs : List AV → Option QR.Ans
  | [.x (.agg [.v (.int .i64 mood), c]), .x (.c (.v (.int .i64 k))), .x (.c (.v (.int .u16 t)))] => match slcOf 5 c with
    | some (n, r) => some ⟨[.c (.fresh 5 (iimax k 0) (.fn fun i j => .v (.int .u16 (gpxV mood n (fun i j => intC (den r i j)) t i j))))], [], [intRow .i64 5 n r, ile 0 n = true, in16 t = true, ile k 1099511627776 = true]⟩
    | none => none
  | _ => none
def s_gimg : List AV → Option QR.Ans
  | [.x (.agg [.v (.int .i64 W), .v (.int .i64 H), .v (.int .i64 S), .v (.int .i64 mood), c]), .x (.agg [.v (.int .i64 x0), .v (.int .i64 y0), .v (.int .i64 x1), .v (.int .i64 y1)]), .x (.c (.v (.int .u16 t)))] => match slcOf 5 c with
    | some (n, r) => some ⟨[.agg (imC (gimV W H S mood n (fun i j => intC (den r i j)) x0 y0 x1 y1 t))], [], [intRow .i64 5 n r, ile 0 n = true, in16 t = true, gcv x0 y0 x1 y1 = true]⟩
    | none => none
  | _ => none
def s_gstr : List AV → Option QR.Ans
  | [.x (.agg l), .x (.c (.v (.int .i64 k)))] => match s_imOf l with
    | some (m, A) => some ⟨[.agg (imC (gstV m k))], [], imG m :: (imOk m = true) :: A⟩
    | none => none
  | _ => none
def rfoGood (m : Im) (sol : Bool) (i : Int) : Prop := (0 ≤ i ∧ i ≤ 5) ∧ ∀ k : Nat, (k : Int) < i → bif sol then plZ (imPl m k) = true else plW m (imPl m k) = true
def rfoMu (i : Int) : Nat := (5 - i).toNat
noncomputable def o_inv_rfT (m : Im) : QR.Inv where
  ι := Int
  good i := rfoGood m true i
  slots i := QR.slotsOf Try.f47.ntmps [(1, .x (.c (.ptr 1000000000000000 0))), (2, .x (.c (.v (.bool false)))), (3, .x (.c (.v (.int .i64 i))))]
  blocks i := [(1000000000000000, .cells (imC ⟨m.w, m.h, true, m.c0, m.c1, m.c2, m.a, m.f, m.p0, m.p1, m.p2, m.p3, m.p4⟩))]
  μ i := rfoMu i
def zz101 (fz0 : Im) (fz1 : Int) : Prop := (True ∧ True ∧ ∃ (bz0 : Int), rfoGood fz0 true bz0 ∧ (True ∧ true = true ∧ (zz34 fz1 bz0) ∧ (zz5 fz0) ∧ True) ∧ Nat.le (Nat.succ (rfoMu bz0)) (rfoMu fz1))
def zz111 (fz0 : Im) (fz1 : Int) : Prop := (True ∧ ∃ (bz0 : Int), rfoGood fz0 true bz0 ∧ (True ∧ true = true ∧ (zz34 fz1 bz0) ∧ (zz5 fz0) ∧ True) ∧ Nat.le (Nat.succ (rfoMu bz0)) (rfoMu fz1))
set_option maxRecDepth 100000 in
theorem rfT_vc (m : Im) (V : List QR.XV → List (List QR.CV) → Prop) : QR.evalBody Try.prog (o_fin) (fun n => bif Nat.beq n 2 then some (.inv (o_inv_rfT m)) else none) (Try.f47.body.getD .skip) Try.f47.results.toList Try.f47.ntmps [.x (.agg (imC ⟨m.w, m.h, true, m.c0, m.c1, m.c2, m.a, m.f, m.p0, m.p1, m.p2, m.p3, m.p4⟩))] V = (True ∧ True ∧ (∃ (i : Int), rfoGood m true i ∧ True ∧ true = true ∧ ((true = true ∧ 0 = 0 ∧ 0 = 0) ∧ (true = true ∧ false = false) ∧ (true = true ∧ IntKind.i64 = IntKind.i64 ∧ (0 : Int) = i) ∧ True) ∧ (zz5 m) ∧ True) ∧ ∀ (i : Int), rfoGood m true i → True ∧ bcond (ilt i 5) (bcond (ieq i 0) ((true = true ∧ true = true ∧ True) ∧ bcond (ine m.9.1 0) (True ∧ True ∧ True ∧ V [XV.c (CV.v (Value.bool false))] []) (bcond (ine m.9.2 0) (True ∧ True ∧ True ∧ V [XV.c (CV.v (Value.bool false))] []) (bcond (ine m.9.3 0) (True ∧ True ∧ True ∧ V [XV.c (CV.v (Value.bool false))] []) (∀ (i_1 : Int), i_1 = m.9.4 → True ∧ bcond (igt i_1 0) (True ∧ True ∧ V [XV.c (CV.v (Value.bool false))] []) (bcond (bnot true) (bcond (bnot (plB m.9.1 m.9.2 m.9.3 m.9.4)) ((zz70 m) ∧ True ∧ True ∧ V [XV.c (CV.v (Value.bool false))] []) (bcond (ine m.9.1 m.1) ((zz70 m) ∧ True ∧ True ∧ V [XV.c (CV.v (Value.bool false))] []) ((zz70 m) ∧ bcond (ine m.9.2 m.2) (True ∧ True ∧ V [XV.c (CV.v (Value.bool false))] []) (zz111 m i)))) (zz101 m i)))))) (bcond (ieq i 1) ((true = true ∧ true = true ∧ True) ∧ bcond (ine m.10.1 0) (True ∧ True ∧ True ∧ V [XV.c (CV.v (Value.bool false))] []) (bcond (ine m.10.2 0) (True ∧ True ∧ True ∧ V [XV.c (CV.v (Value.bool false))] []) (bcond (ine m.10.3 0) (True ∧ True ∧ True ∧ V [XV.c (CV.v (Value.bool false))] []) (∀ (i_1 : Int), i_1 = m.10.4 → True ∧ bcond (igt i_1 0) (True ∧ True ∧ V [XV.c (CV.v (Value.bool false))] []) (bcond (bnot true) (bcond (bnot (plB m.10.1 m.10.2 m.10.3 m.10.4)) ((zz61 m) ∧ True ∧ True ∧ V [XV.c (CV.v (Value.bool false))] []) (bcond (ine m.10.1 m.1) ((zz61 m) ∧ True ∧ True ∧ V [XV.c (CV.v (Value.bool false))] []) ((zz61 m) ∧ bcond (ine m.10.2 m.2) (True ∧ True ∧ V [XV.c (CV.v (Value.bool false))] []) (zz111 m i)))) (zz101 m i)))))) (bcond (ieq i 2) ((true = true ∧ true = true ∧ True) ∧ bcond (ine m.11.1 0) (True ∧ True ∧ True ∧ V [XV.c (CV.v (Value.bool false))] []) (bcond (ine m.11.2 0) (True ∧ True ∧ True ∧ V [XV.c (CV.v (Value.bool false))] []) (bcond (ine m.11.3 0) (True ∧ True ∧ True ∧ V [XV.c (CV.v (Value.bool false))] []) (∀ (i_1 : Int), i_1 = m.11.4 → True ∧ bcond (igt i_1 0) (True ∧ True ∧ V [XV.c (CV.v (Value.bool false))] []) (bcond (bnot true) (bcond (bnot (plB m.11.1 m.11.2 m.11.3 m.11.4)) ((zz62 m) ∧ True ∧ True ∧ V [XV.c (CV.v (Value.bool false))] []) (bcond (ine m.11.1 m.1) ((zz62 m) ∧ True ∧ True ∧ V [XV.c (CV.v (Value.bool false))] []) ((zz62 m) ∧ bcond (ine m.11.2 m.2) (True ∧ True ∧ V [XV.c (CV.v (Value.bool false))] []) (zz111 m i)))) (zz101 m i)))))) (bcond (ieq i 3) ((true = true ∧ true = true ∧ True) ∧ bcond (ine m.12.1 0) (True ∧ True ∧ True ∧ V [XV.c (CV.v (Value.bool false))] []) (bcond (ine m.12.2 0) (True ∧ True ∧ True ∧ V [XV.c (CV.v (Value.bool false))] []) (bcond (ine m.12.3 0) (True ∧ True ∧ True ∧ V [XV.c (CV.v (Value.bool false))] []) (∀ (i_1 : Int), i_1 = m.12.4 → True ∧ bcond (igt i_1 0) (True ∧ True ∧ V [XV.c (CV.v (Value.bool false))] []) (bcond (bnot true) (bcond (bnot (plB m.12.1 m.12.2 m.12.3 m.12.4)) ((zz63 m) ∧ True ∧ True ∧ V [XV.c (CV.v (Value.bool false))] []) (bcond (ine m.12.1 m.1) ((zz63 m) ∧ True ∧ True ∧ V [XV.c (CV.v (Value.bool false))] []) ((zz63 m) ∧ bcond (ine m.12.2 m.2) (True ∧ True ∧ V [XV.c (CV.v (Value.bool false))] []) (zz111 m i)))) (zz101 m i)))))) (bcond (ieq i 4) ((true = true ∧ true = true ∧ True) ∧ bcond (ine m.13.1 0) (True ∧ True ∧ True ∧ V [XV.c (CV.v (Value.bool false))] []) (bcond (ine m.13.2 0) (True ∧ True ∧ True ∧ V [XV.c (CV.v (Value.bool false))] []) (bcond (ine m.13.3 0) (True ∧ True ∧ True ∧ V [XV.c (CV.v (Value.bool false))] []) (∀ (i_1 : Int), i_1 = m.13.4 → True ∧ bcond (igt i_1 0) (True ∧ True ∧ V [XV.c (CV.v (Value.bool false))] []) (bcond (bnot true) (bcond (bnot (plB m.13.1 m.13.2 m.13.3 m.13.4)) ((zz64 m) ∧ True ∧ True ∧ V [XV.c (CV.v (Value.bool false))] []) (bcond (ine m.13.1 m.1) ((zz64 m) ∧ True ∧ True ∧ V [XV.c (CV.v (Value.bool false))] []) ((zz64 m) ∧ bcond (ine m.13.2 m.2) (True ∧ True ∧ V [XV.c (CV.v (Value.bool false))] []) (zz111 m i)))) (zz101 m i)))))) False))))) (True ∧ True ∧ V [XV.c (CV.v (Value.bool true))] [])) := by
  delta zz5 zz34 zz61 zz62 zz63 zz64 zz70 zz101 zz111
  try delta o_fin
  try delta s_plvalid
  generalize @in64 = in64
  generalize @intRow = intRow
  generalize @plB = plB
  generalize @rfoGood = rfoGood
  generalize @rfoMu = rfoMu
  kernel_rfl
noncomputable def o_inv_rfF (m : Im) : QR.Inv where
  ι := Int
  good i := rfoGood m false i
  slots i := QR.slotsOf Try.f47.ntmps [(1, .x (.c (.ptr 1000000000000000 0))), (2, .x (.c (.v (.bool false)))), (3, .x (.c (.v (.int .i64 i))))]
  blocks i := [(1000000000000000, .cells (imC ⟨m.w, m.h, false, m.c0, m.c1, m.c2, m.a, m.f, m.p0, m.p1, m.p2, m.p3, m.p4⟩))]
  μ i := rfoMu i
def zz100 (fz0 : Im) (fz1 : Int) : Prop := (True ∧ True ∧ ∃ (bz0 : Int), rfoGood fz0 false bz0 ∧ (True ∧ true = true ∧ (zz34 fz1 bz0) ∧ (zz4 fz0) ∧ True) ∧ Nat.le (Nat.succ (rfoMu bz0)) (rfoMu fz1))
def zz110 (fz0 : Im) (fz1 : Int) : Prop := (True ∧ ∃ (bz0 : Int), rfoGood fz0 false bz0 ∧ (True ∧ true = true ∧ (zz34 fz1 bz0) ∧ (zz4 fz0) ∧ True) ∧ Nat.le (Nat.succ (rfoMu bz0)) (rfoMu fz1))
set_option maxRecDepth 100000 in
theorem rfF_vc (m : Im) (V : List QR.XV → List (List QR.CV) → Prop) : QR.evalBody Try.prog (o_fin) (fun n => bif Nat.beq n 2 then some (.inv (o_inv_rfF m)) else none) (Try.f47.body.getD .skip) Try.f47.results.toList Try.f47.ntmps [.x (.agg (imC ⟨m.w, m.h, false, m.c0, m.c1, m.c2, m.a, m.f, m.p0, m.p1, m.p2, m.p3, m.p4⟩))] V = (True ∧ True ∧ (∃ (i : Int), rfoGood m false i ∧ True ∧ true = true ∧ ((true = true ∧ 0 = 0 ∧ 0 = 0) ∧ (true = true ∧ false = false) ∧ (true = true ∧ IntKind.i64 = IntKind.i64 ∧ (0 : Int) = i) ∧ True) ∧ (zz4 m) ∧ True) ∧ ∀ (i : Int), rfoGood m false i → True ∧ bcond (ilt i 5) (bcond (ieq i 0) ((true = true ∧ true = true ∧ True) ∧ True ∧ bcond (bnot false) (bcond (bnot (plB m.9.1 m.9.2 m.9.3 m.9.4)) ((zz70 m) ∧ True ∧ True ∧ V [XV.c (CV.v (Value.bool false))] []) (bcond (ine m.9.1 m.1) ((zz70 m) ∧ True ∧ True ∧ V [XV.c (CV.v (Value.bool false))] []) ((zz70 m) ∧ bcond (ine m.9.2 m.2) (True ∧ True ∧ V [XV.c (CV.v (Value.bool false))] []) (zz110 m i)))) (zz100 m i)) (bcond (ieq i 1) ((true = true ∧ true = true ∧ True) ∧ True ∧ bcond (bnot false) (bcond (bnot (plB m.10.1 m.10.2 m.10.3 m.10.4)) ((zz61 m) ∧ True ∧ True ∧ V [XV.c (CV.v (Value.bool false))] []) (bcond (ine m.10.1 m.1) ((zz61 m) ∧ True ∧ True ∧ V [XV.c (CV.v (Value.bool false))] []) ((zz61 m) ∧ bcond (ine m.10.2 m.2) (True ∧ True ∧ V [XV.c (CV.v (Value.bool false))] []) (zz110 m i)))) (zz100 m i)) (bcond (ieq i 2) ((true = true ∧ true = true ∧ True) ∧ True ∧ bcond (bnot false) (bcond (bnot (plB m.11.1 m.11.2 m.11.3 m.11.4)) ((zz62 m) ∧ True ∧ True ∧ V [XV.c (CV.v (Value.bool false))] []) (bcond (ine m.11.1 m.1) ((zz62 m) ∧ True ∧ True ∧ V [XV.c (CV.v (Value.bool false))] []) ((zz62 m) ∧ bcond (ine m.11.2 m.2) (True ∧ True ∧ V [XV.c (CV.v (Value.bool false))] []) (zz110 m i)))) (zz100 m i)) (bcond (ieq i 3) ((true = true ∧ true = true ∧ True) ∧ True ∧ bcond (bnot false) (bcond (bnot (plB m.12.1 m.12.2 m.12.3 m.12.4)) ((zz63 m) ∧ True ∧ True ∧ V [XV.c (CV.v (Value.bool false))] []) (bcond (ine m.12.1 m.1) ((zz63 m) ∧ True ∧ True ∧ V [XV.c (CV.v (Value.bool false))] []) ((zz63 m) ∧ bcond (ine m.12.2 m.2) (True ∧ True ∧ V [XV.c (CV.v (Value.bool false))] []) (zz110 m i)))) (zz100 m i)) (bcond (ieq i 4) ((true = true ∧ true = true ∧ True) ∧ True ∧ bcond (bnot false) (bcond (bnot (plB m.13.1 m.13.2 m.13.3 m.13.4)) ((zz64 m) ∧ True ∧ True ∧ V [XV.c (CV.v (Value.bool false))] []) (bcond (ine m.13.1 m.1) ((zz64 m) ∧ True ∧ True ∧ V [XV.c (CV.v (Value.bool false))] []) ((zz64 m) ∧ bcond (ine m.13.2 m.2) (True ∧ True ∧ V [XV.c (CV.v (Value.bool false))] []) (zz110 m i)))) (zz100 m i)) False))))) (True ∧ True ∧ V [XV.c (CV.v (Value.bool (band (band (ieq m.4 0) (band (ieq m.5 0) (band (ieq m.6 0) true))) (band (ieq m.7 0) (band (ieq m.8 0) true)))))] [])) := by
  delta zz4 zz34 zz61 zz62 zz63 zz64 zz70 zz100 zz110
  try delta o_fin
  try delta s_plvalid
  generalize @in64 = in64
  generalize @intRow = intRow
  generalize @plB = plB
  generalize @rfoGood = rfoGood
  generalize @rfoMu = rfoMu
  kernel_rfl
def o_rformd : QR.Oracle := QR.orc [(46, s_fit), (47, s_imf)]
set_option maxRecDepth 100000 in
theorem rformd_vc (m : Im) (V : List QR.XV → List (List QR.CV) → Prop) : QR.evalBody Try.prog (o_rformd) (QR.noLoops) (Try.f57.body.getD .skip) Try.f57.results.toList Try.f57.ntmps [.x (.agg (imC m))] V = (True ∧ bcond (fitB m.1 m.2) ((imG m ∧ intRow IntKind.u16 1 m.9.4 (QR.Row.fn fun (i : Int) (x : Nat) => CV.v (Value.int .u16 (m.9.5 i))) ∧ intRow IntKind.u16 1 m.10.4 (QR.Row.fn fun (i : Int) (x : Nat) => CV.v (Value.int .u16 (m.10.5 i))) ∧ intRow IntKind.u16 1 m.11.4 (QR.Row.fn fun (i : Int) (x : Nat) => CV.v (Value.int .u16 (m.11.5 i))) ∧ intRow IntKind.u16 1 m.12.4 (QR.Row.fn fun (i : Int) (x : Nat) => CV.v (Value.int .u16 (m.12.5 i))) ∧ intRow IntKind.u16 1 m.13.4 (QR.Row.fn fun (i : Int) (x : Nat) => CV.v (Value.int .u16 (m.13.5 i))) ∧ in64 m.1 = true ∧ in64 m.2 = true ∧ True) ∧ True ∧ V [XV.c (CV.v (Value.bool (imF m)))] []) ((in64 m.1 = true ∧ in64 m.2 = true ∧ True) ∧ True ∧ V [XV.c (CV.v (Value.bool false))] [])) := by
  try delta o_rformd
  try delta s_fit
  try delta s_imf
  try delta s_imOf
  generalize @fitB = fitB
  generalize @imF = imF
  generalize @imG = imG
  generalize @in64 = in64
  generalize @intRow = intRow
  generalize @w2 = w2
  kernel_rfl
set_option maxRecDepth 100000 in
theorem rpx_vc (m : Im) (x y : Int) (V : List QR.XV → List (List QR.CV) → Prop) : QR.evalBody Try.prog (QR.orc []) (fun n => bif Nat.beq n 5 then some (.rounds 6) else none) (Try.f49.body.getD .skip) Try.f49.results.toList Try.f49.ntmps [.x (.agg (imC m)), .x (.c (.v (.int .i64 x))), .x (.c (.v (.int .i64 y)))] V = (True ∧ True ∧ bcond m.3 (True ∧ True ∧ V [XV.agg [CV.v (Value.int .u16 m.4), CV.v (Value.int .u16 m.5), CV.v (Value.int .u16 m.6), CV.v (Value.int .u16 m.7), CV.v (Value.int .u16 m.8)]] []) (True ∧ True ∧ True ∧ (true = true ∧ true = true ∧ true = true ∧ true = true ∧ True) ∧ True ∧ True ∧ (true = true ∧ true = true ∧ true = true ∧ true = true ∧ True) ∧ True ∧ True ∧ (true = true ∧ true = true ∧ true = true ∧ true = true ∧ True) ∧ True ∧ True ∧ (true = true ∧ true = true ∧ true = true ∧ true = true ∧ True) ∧ True ∧ True ∧ (true = true ∧ true = true ∧ true = true ∧ true = true ∧ True) ∧ True ∧ True ∧ (ile 0 (iadd IntKind.i64 (imul IntKind.i64 y m.13.3) x) = true ∧ ilt (iadd IntKind.i64 (imul IntKind.i64 y m.13.3) x) m.13.4 = true ∧ true = true ∧ true = true ∧ true = true ∧ true = true ∧ ile 0 (iadd IntKind.i64 (imul IntKind.i64 y m.12.3) x) = true ∧ ilt (iadd IntKind.i64 (imul IntKind.i64 y m.12.3) x) m.12.4 = true ∧ true = true ∧ true = true ∧ true = true ∧ true = true ∧ ile 0 (iadd IntKind.i64 (imul IntKind.i64 y m.11.3) x) = true ∧ ilt (iadd IntKind.i64 (imul IntKind.i64 y m.11.3) x) m.11.4 = true ∧ true = true ∧ true = true ∧ true = true ∧ true = true ∧ ile 0 (iadd IntKind.i64 (imul IntKind.i64 y m.10.3) x) = true ∧ ilt (iadd IntKind.i64 (imul IntKind.i64 y m.10.3) x) m.10.4 = true ∧ true = true ∧ true = true ∧ true = true ∧ true = true ∧ ile 0 (iadd IntKind.i64 (imul IntKind.i64 y m.9.3) x) = true ∧ ilt (iadd IntKind.i64 (imul IntKind.i64 y m.9.3) x) m.9.4 = true ∧ true = true ∧ true = true ∧ true = true ∧ true = true ∧ True) ∧ True ∧ V (zz140 m y x) [])) := by
  delta zz140
  kernel_rfl
def rvoGood (m : Im) (t y : Int) : Prop := (0 ≤ y ∧ y ≤ m.h) ∧ ∀ a b : Int, 0 ≤ a → a < m.w → 0 ≤ b → b < y → pxB m t a b = true
def rvoMu (m : Im) (y : Int) : Nat := (m.h - y).toNat
def rviGood (m : Im) (t y x : Int) : Prop := ((0 ≤ y ∧ y < m.h) ∧ 0 ≤ x ∧ x ≤ m.w) ∧ (∀ a b : Int, 0 ≤ a → a < m.w → 0 ≤ b → b < y → pxB m t a b = true) ∧ ∀ a : Int, 0 ≤ a → a < x → pxB m t a y = true
def rviMu (m : Im) (x : Int) : Nat := (m.w - x).toNat
noncomputable def o_inv_rvo (m : Im) (t : Int) : QR.Inv where
  ι := Int
  good i := rvoGood m t i
  slots i := QR.slotsOf Try.f18.ntmps [(1, .x (.c (.v (.int .u16 t)))), (2, .x (.c (.ptr 1000000000000000 0))), (4, .x (.c (.v (.int .i64 0)))), (5, .x (.c (.v (.int .i64 i))))]
  blocks i := [(1000000000000000, .cells (imC m))]
  μ i := rvoMu m i
noncomputable def o_inv_rvi (m : Im) (t y : Int) : QR.Inv where
  ι := Int
  good i := rviGood m t y i
  slots i := QR.slotsOf Try.f18.ntmps [(1, .x (.c (.v (.int .u16 t)))), (2, .x (.c (.ptr 1000000000000000 0))), (4, .x (.c (.v (.int .i64 0)))), (5, .x (.c (.v (.int .i64 y)))), (6, .x (.c (.v (.int .i64 i))))]
  blocks i := [(1000000000000000, .cells (imC m))]
  μ i := rviMu m i
def o_rval : QR.Oracle := QR.orc [(46, s_fit), (47, s_imf), (48, QR.lift1 s_pvalid), (49, s_impx)]
set_option maxRecDepth 100000 in
theorem rval_vc (m : Im) (t : Int) (V : List QR.XV → List (List QR.CV) → Prop) : QR.evalBody Try.prog (o_rval) (fun n => bif Nat.beq n 10 then some (.inv (o_inv_rvo m t)) else bif Nat.beq n 13 then some (.invF fun g => [o_inv_rvi m t (g 5)]) else none) (Try.f18.body.getD .skip) Try.f18.results.toList Try.f18.ntmps [.x (.agg (imC m)), .x (.c (.v (.int .u16 t)))] V = (True ∧ (in64 m.1 = true ∧ in64 m.2 = true ∧ True) ∧ bcond (bnot (fitB m.1 m.2)) (True ∧ True ∧ V [XV.c (CV.v (Value.int .i64 6))] []) ((zz12 m) ∧ bcond (bnot (imF m)) (True ∧ True ∧ V [XV.c (CV.v (Value.int .i64 7))] []) (True ∧ bcond m.3 (True ∧ bcond (bnot (pvB m.4 m.5 m.6 m.7 m.8 t)) (True ∧ True ∧ V [XV.c (CV.v (Value.int .i64 8))] []) (True ∧ True ∧ V [XV.c (CV.v (Value.int .i64 0))] [])) (True ∧ (∃ (i : Int), rvoGood m t i ∧ True ∧ true = true ∧ ((true = true ∧ IntKind.u16 = IntKind.u16 ∧ t = t) ∧ (true = true ∧ 0 = 0 ∧ 0 = 0) ∧ (true = true ∧ IntKind.i64 = IntKind.i64 ∧ (0 : Int) = 0) ∧ (true = true ∧ IntKind.i64 = IntKind.i64 ∧ (0 : Int) = i) ∧ True) ∧ (zz1 m) ∧ True) ∧ ∀ (i : Int), rvoGood m t i → True ∧ bcond (ilt i m.2) (True ∧ ((∃ (i_1 : Int), rviGood m t i i_1 ∧ True ∧ true = true ∧ ((true = true ∧ IntKind.u16 = IntKind.u16 ∧ t = t) ∧ (true = true ∧ 1000000000000000 = 1000000000000000 ∧ 0 = 0) ∧ (true = true ∧ IntKind.i64 = IntKind.i64 ∧ (0 : Int) = 0) ∧ (true = true ∧ IntKind.i64 = IntKind.i64 ∧ i = i) ∧ (true = true ∧ IntKind.i64 = IntKind.i64 ∧ (0 : Int) = i_1) ∧ True) ∧ (zz1 m) ∧ True) ∨ False) ∧ (∀ (i_1 : Int), rviGood m t i i_1 → True ∧ bcond (ilt i_1 m.1) (∀ (i_2 : Int), i_2 = pxV m 0 i_1 i → ∀ (i_3 : Int), i_3 = pxV m 1 i_1 i → ∀ (i_4 : Int), i_4 = pxV m 2 i_1 i → ∀ (i_5 : Int), i_5 = pxV m 3 i_1 i → ∀ (i_6 : Int), i_6 = pxV m 4 i_1 i → (zz112 m i_1 i) ∧ bcond (bnot (pvB i_2 i_3 i_4 i_5 i_6 t)) (True ∧ True ∧ V [XV.c (CV.v (Value.int .i64 8))] []) (True ∧ ((∃ (i_7 : Int), rviGood m t i i_7 ∧ (True ∧ true = true ∧ ((true = true ∧ IntKind.u16 = IntKind.u16 ∧ t = t) ∧ (true = true ∧ 1000000000000000 = 1000000000000000 ∧ 0 = 0) ∧ (true = true ∧ IntKind.i64 = IntKind.i64 ∧ (0 : Int) = 0) ∧ (true = true ∧ IntKind.i64 = IntKind.i64 ∧ i = i) ∧ (true = true ∧ IntKind.i64 = IntKind.i64 ∧ iadd IntKind.i64 i_1 1 = i_7) ∧ True) ∧ (zz1 m) ∧ True) ∧ Nat.le (Nat.succ (rviMu m i_7)) (rviMu m i_1)) ∨ False))) (True ∧ ∃ (j : Int), rvoGood m t j ∧ (True ∧ true = true ∧ ((true = true ∧ IntKind.u16 = IntKind.u16 ∧ t = t) ∧ (true = true ∧ 1000000000000000 = 1000000000000000 ∧ 0 = 0) ∧ (true = true ∧ IntKind.i64 = IntKind.i64 ∧ (0 : Int) = 0) ∧ (true = true ∧ IntKind.i64 = IntKind.i64 ∧ iadd IntKind.i64 i 1 = j) ∧ True) ∧ (zz1 m) ∧ True) ∧ Nat.le (Nat.succ (rvoMu m j)) (rvoMu m i))) ∧ True) (True ∧ True ∧ V [XV.c (CV.v (Value.int .i64 0))] []))))) := by
  delta zz1 zz12 zz112
  try delta o_rval
  try delta s_fit
  try delta s_imf
  try delta s_pvalid
  try delta s_impx
  try delta s_imOf
  generalize @fitB = fitB
  generalize @imF = imF
  generalize @imG = imG
  generalize @imIn = imIn
  generalize @in64 = in64
  generalize @intRow = intRow
  generalize @pvB = pvB
  generalize @pxV = pxV
  generalize @rviGood = rviGood
  generalize @rviMu = rviMu
  generalize @rvoGood = rvoGood
  generalize @rvoMu = rvoMu
  generalize @w2 = w2
  kernel_rfl
set_option maxRecDepth 100000 in
theorem risol_vc (w h c0 c1 c2 a f : Int) (V : List QR.XV → List (List QR.CV) → Prop) : QR.evalBody Try.prog (QR.orc []) (QR.noLoops) (Try.f24.body.getD .skip) Try.f24.results.toList Try.f24.ntmps [.x (.c (.v (.int .i64 w))), .x (.c (.v (.int .i64 h))), .x (.agg [.v (.int .u16 c0), .v (.int .u16 c1), .v (.int .u16 c2), .v (.int .u16 a), .v (.int .u16 f)])] V = (True ∧ True ∧ True ∧ V (zz98 w h c0 c1 c2 a f) []) := by
  delta zz98
  kernel_rfl
def o_riat : QR.Oracle := QR.orc [(57, s_imok), (49, s_impx)]
set_option maxRecDepth 100000 in
theorem riat_vc (m : Im) (x y : Int) (V : List QR.XV → List (List QR.CV) → Prop) : QR.evalBody Try.prog (o_riat) (QR.noLoops) (Try.f26.body.getD .skip) Try.f26.results.toList Try.f26.ntmps [.x (.agg (imC m)), .x (.c (.v (.int .i64 x))), .x (.c (.v (.int .i64 y)))] V = (True ∧ bcond (bnot (imOk m)) ((zz12 m) ∧ True ∧ True ∧ V zz96 []) (bcond (ilt x 0) ((zz12 m) ∧ True ∧ True ∧ V zz96 []) (bcond (ige x m.1) ((zz12 m) ∧ True ∧ True ∧ V zz96 []) (bcond (ilt y 0) ((zz12 m) ∧ True ∧ True ∧ V zz96 []) ((zz12 m) ∧ bcond (ige y m.2) (True ∧ True ∧ V zz96 []) (∀ (i : Int), i = pxV m 0 x y → ∀ (i_1 : Int), i_1 = pxV m 1 x y → ∀ (i_2 : Int), i_2 = pxV m 2 x y → ∀ (i_3 : Int), i_3 = pxV m 3 x y → ∀ (i_4 : Int), i_4 = pxV m 4 x y → (zz112 m x y) ∧ True ∧ V (zz83 i i_1 i_2 i_3 i_4) [])))))) := by
  delta zz12 zz83 zz96 zz112
  try delta o_riat
  try delta s_imok
  try delta s_impx
  try delta s_imOf
  generalize @imG = imG
  generalize @imIn = imIn
  generalize @imOk = imOk
  generalize @intRow = intRow
  generalize @pxV = pxV
  generalize @w2 = w2
  kernel_rfl
def rpN (m : Im) (y x : Int) : Int := y * m.w + x
def rpoGood (m : Im) (nil : Bool) (y : Int) : Prop := (0 ≤ y ∧ y ≤ m.h) ∧ (nil = true ↔ y = 0)
def rpoMu (m : Im) (y : Int) : Nat := (m.h - y).toNat
def rpiGood (m : Im) (nil : Bool) (y x : Int) : Prop := ((0 ≤ y ∧ y < m.h) ∧ 0 ≤ x ∧ x ≤ m.w) ∧ (nil = true ↔ y = 0 ∧ x = 0)
def rpiMu (m : Im) (x : Int) : Nat := (m.w - x).toNat
noncomputable def o_inv_rpo0 (m : Im) : QR.Inv where
  ι := Int
  good i := rpoGood m true i
  slots i := QR.slotsOf Try.f29.ntmps [(1, .x (.c (.ptr 1000000000000000 0))), (2, .x (.c (.v (.slice none 0 0)))), (3, .x (.c (.v (.slice none 0 0)))), (4, .x (.c (.v (.int .i64 i))))]
  blocks i := [(1000000000000000, .cells (imC m))]
  μ i := rpoMu m i
noncomputable def o_inv_rpo1 (m : Im) : QR.Inv where
  ι := Int
  good i := rpoGood m false i
  slots i := QR.slotsOf Try.f29.ntmps [(1, .x (.c (.ptr 1000000000000000 0))), (2, .x (.c (.v (.slice none 0 0)))), (3, .x (.c (.own 1000000000000001 (rpN m i 0)))), (4, .x (.c (.v (.int .i64 i))))]
  blocks i := [(1000000000000000, .cells (imC m)), (1000000000000001, .row 5 (rpN m i 0) (.fn fun i j => .v (.int .u16 (pxI m i j))))]
  μ i := rpoMu m i
noncomputable def o_inv_rpi0 (m : Im) (y : Int) : QR.Inv where
  ι := Int
  good i := rpiGood m true y i
  slots i := QR.slotsOf Try.f29.ntmps [(1, .x (.c (.ptr 1000000000000000 0))), (2, .x (.c (.v (.slice none 0 0)))), (3, .x (.c (.v (.slice none 0 0)))), (4, .x (.c (.v (.int .i64 y)))), (5, .x (.c (.v (.int .i64 i))))]
  blocks i := [(1000000000000000, .cells (imC m))]
  μ i := rpiMu m i
noncomputable def o_inv_rpi1 (m : Im) (y : Int) : QR.Inv where
  ι := Int
  good i := rpiGood m false y i
  slots i := QR.slotsOf Try.f29.ntmps [(1, .x (.c (.ptr 1000000000000000 0))), (2, .x (.c (.v (.slice none 0 0)))), (3, .x (.c (.own 1000000000000001 (rpN m y i)))), (4, .x (.c (.v (.int .i64 y)))), (5, .x (.c (.v (.int .i64 i))))]
  blocks i := [(1000000000000000, .cells (imC m)), (1000000000000001, .row 5 (rpN m y i) (.fn fun i j => .v (.int .u16 (pxI m i j))))]
  μ i := rpiMu m i
def zz19 (fz0 : Im) (fz1 : Int) : Prop := (∀ (bz0 : Int), rpiGood fz0 false fz1 bz0 → True ∧ bcond (ilt bz0 fz0.1) (∀ (bz1 : Int), bz1 = pxV fz0 0 bz0 fz1 → ∀ (bz2 : Int), bz2 = pxV fz0 1 bz0 fz1 → ∀ (bz3 : Int), bz3 = pxV fz0 2 bz0 fz1 → ∀ (bz4 : Int), bz4 = pxV fz0 3 bz0 fz1 → ∀ (bz5 : Int), bz5 = pxV fz0 4 bz0 fz1 → (ile (imulZ (addZ (rpN fz0 fz1 bz0) 1) 10) 140737488355328 = true ∧ imIn fz0 bz0 fz1 = true ∧ imG fz0 ∧ intRow IntKind.u16 1 fz0.9.4 (QR.Row.fn fun (bz6 : Int) (bz7 : Nat) => CV.v (Value.int .u16 (fz0.9.5 bz6))) ∧ intRow IntKind.u16 1 fz0.10.4 (QR.Row.fn fun (bz8 : Int) (bz9 : Nat) => CV.v (Value.int .u16 (fz0.10.5 bz8))) ∧ intRow IntKind.u16 1 fz0.11.4 (QR.Row.fn fun (bz10 : Int) (bz11 : Nat) => CV.v (Value.int .u16 (fz0.11.5 bz10))) ∧ intRow IntKind.u16 1 fz0.12.4 (QR.Row.fn fun (bz12 : Int) (bz13 : Nat) => CV.v (Value.int .u16 (fz0.12.5 bz12))) ∧ intRow IntKind.u16 1 fz0.13.4 (QR.Row.fn fun (bz14 : Int) (bz15 : Nat) => CV.v (Value.int .u16 (fz0.13.5 bz14))) ∧ True) ∧ True ∧ ((∃ (bz16 : Int), rpiGood fz0 true fz1 bz16 ∧ (True ∧ true = true ∧ ((true = true ∧ 1000000000000000 = 1000000000000000 ∧ 0 = 0) ∧ (true = true ∧ Value.slice Option.none 0 0 = Value.slice Option.none 0 0) ∧ (true = true ∧ False) ∧ (true = true ∧ IntKind.i64 = IntKind.i64 ∧ fz1 = fz1) ∧ (true = true ∧ IntKind.i64 = IntKind.i64 ∧ iadd IntKind.i64 bz0 1 = bz16) ∧ True) ∧ (zz1 fz0) ∧ True) ∧ Nat.le (Nat.succ (rpiMu fz0 bz16)) (rpiMu fz0 bz0)) ∨ (∃ (bz17 : Int), rpiGood fz0 false fz1 bz17 ∧ (True ∧ true = true ∧ ((true = true ∧ 1000000000000000 = 1000000000000000 ∧ 0 = 0) ∧ (true = true ∧ Value.slice Option.none 0 0 = Value.slice Option.none 0 0) ∧ (true = true ∧ 8398854 = 8398854 ∧ addZ (rpN fz0 fz1 bz0) 1 = rpN fz0 fz1 bz17) ∧ (true = true ∧ IntKind.i64 = IntKind.i64 ∧ fz1 = fz1) ∧ (true = true ∧ IntKind.i64 = IntKind.i64 ∧ iadd IntKind.i64 bz0 1 = bz17) ∧ True) ∧ (zz1 fz0) ∧ (5 = 5 ∧ addZ (rpN fz0 fz1 bz0) 1 = rpN fz0 fz1 bz17 ∧ ((((True ∧ ∀ (bz18 : Nat), ilt (Int.ofNat bz18) (addZ (rpN fz0 fz1 bz0) 1) = true → IntKind.u16 = IntKind.u16 ∧ isel (ilt (Int.ofNat bz18) (rpN fz0 fz1 bz0)) (pxI fz0 (Int.ofNat bz18) 0) (isel (ieq (subZ (Int.ofNat bz18) (rpN fz0 fz1 bz0)) 0) bz1 0) = pxI fz0 (Int.ofNat bz18) 0) ∧ ∀ (bz19 : Nat), ilt (Int.ofNat bz19) (addZ (rpN fz0 fz1 bz0) 1) = true → IntKind.u16 = IntKind.u16 ∧ isel (ilt (Int.ofNat bz19) (rpN fz0 fz1 bz0)) (pxI fz0 (Int.ofNat bz19) 1) (isel (ieq (subZ (Int.ofNat bz19) (rpN fz0 fz1 bz0)) 0) bz2 0) = pxI fz0 (Int.ofNat bz19) 1) ∧ ∀ (bz20 : Nat), ilt (Int.ofNat bz20) (addZ (rpN fz0 fz1 bz0) 1) = true → IntKind.u16 = IntKind.u16 ∧ isel (ilt (Int.ofNat bz20) (rpN fz0 fz1 bz0)) (pxI fz0 (Int.ofNat bz20) 2) (isel (ieq (subZ (Int.ofNat bz20) (rpN fz0 fz1 bz0)) 0) bz3 0) = pxI fz0 (Int.ofNat bz20) 2) ∧ ∀ (bz21 : Nat), ilt (Int.ofNat bz21) (addZ (rpN fz0 fz1 bz0) 1) = true → IntKind.u16 = IntKind.u16 ∧ isel (ilt (Int.ofNat bz21) (rpN fz0 fz1 bz0)) (pxI fz0 (Int.ofNat bz21) 3) (isel (ieq (subZ (Int.ofNat bz21) (rpN fz0 fz1 bz0)) 0) bz4 0) = pxI fz0 (Int.ofNat bz21) 3) ∧ ∀ (bz22 : Nat), ilt (Int.ofNat bz22) (addZ (rpN fz0 fz1 bz0) 1) = true → IntKind.u16 = IntKind.u16 ∧ isel (ilt (Int.ofNat bz22) (rpN fz0 fz1 bz0)) (pxI fz0 (Int.ofNat bz22) 4) (isel (ieq (subZ (Int.ofNat bz22) (rpN fz0 fz1 bz0)) 0) bz5 0) = pxI fz0 (Int.ofNat bz22) 4) ∧ True) ∧ Nat.le (Nat.succ (rpiMu fz0 bz17)) (rpiMu fz0 bz0)) ∨ False)) (True ∧ ((∃ (bz23 : Int), rpoGood fz0 true bz23 ∧ (True ∧ true = true ∧ ((true = true ∧ 1000000000000000 = 1000000000000000 ∧ 0 = 0) ∧ (true = true ∧ Value.slice Option.none 0 0 = Value.slice Option.none 0 0) ∧ (true = true ∧ False) ∧ (true = true ∧ IntKind.i64 = IntKind.i64 ∧ iadd IntKind.i64 fz1 1 = bz23) ∧ True) ∧ (zz1 fz0) ∧ True) ∧ Nat.le (Nat.succ (rpoMu fz0 bz23)) (rpoMu fz0 fz1)) ∨ (∃ (bz24 : Int), rpoGood fz0 false bz24 ∧ (True ∧ true = true ∧ ((true = true ∧ 1000000000000000 = 1000000000000000 ∧ 0 = 0) ∧ (true = true ∧ Value.slice Option.none 0 0 = Value.slice Option.none 0 0) ∧ (true = true ∧ 1000000000000001 = 1000000000000001 ∧ rpN fz0 fz1 bz0 = rpN fz0 bz24 0) ∧ (true = true ∧ IntKind.i64 = IntKind.i64 ∧ iadd IntKind.i64 fz1 1 = bz24) ∧ True) ∧ (zz1 fz0) ∧ (5 = 5 ∧ rpN fz0 fz1 bz0 = rpN fz0 bz24 0 ∧ ((((True ∧ ∀ (bz25 : Nat), ilt (Int.ofNat bz25) (rpN fz0 fz1 bz0) = true → IntKind.u16 = IntKind.u16 ∧ pxI fz0 (Int.ofNat bz25) 0 = pxI fz0 (Int.ofNat bz25) 0) ∧ ∀ (bz26 : Nat), ilt (Int.ofNat bz26) (rpN fz0 fz1 bz0) = true → IntKind.u16 = IntKind.u16 ∧ pxI fz0 (Int.ofNat bz26) 1 = pxI fz0 (Int.ofNat bz26) 1) ∧ ∀ (bz27 : Nat), ilt (Int.ofNat bz27) (rpN fz0 fz1 bz0) = true → IntKind.u16 = IntKind.u16 ∧ pxI fz0 (Int.ofNat bz27) 2 = pxI fz0 (Int.ofNat bz27) 2) ∧ ∀ (bz28 : Nat), ilt (Int.ofNat bz28) (rpN fz0 fz1 bz0) = true → IntKind.u16 = IntKind.u16 ∧ pxI fz0 (Int.ofNat bz28) 3 = pxI fz0 (Int.ofNat bz28) 3) ∧ ∀ (bz29 : Nat), ilt (Int.ofNat bz29) (rpN fz0 fz1 bz0) = true → IntKind.u16 = IntKind.u16 ∧ pxI fz0 (Int.ofNat bz29) 4 = pxI fz0 (Int.ofNat bz29) 4) ∧ True) ∧ Nat.le (Nat.succ (rpoMu fz0 bz24)) (rpoMu fz0 fz1)) ∨ False)))
def zz32 (fz0 : Im) (fz1 : Int) : Prop := (∀ (bz0 : Int), rpiGood fz0 true fz1 bz0 → True ∧ bcond (ilt bz0 fz0.1) (∀ (bz1 : Int), bz1 = pxV fz0 0 bz0 fz1 → ∀ (bz2 : Int), bz2 = pxV fz0 1 bz0 fz1 → ∀ (bz3 : Int), bz3 = pxV fz0 2 bz0 fz1 → ∀ (bz4 : Int), bz4 = pxV fz0 3 bz0 fz1 → ∀ (bz5 : Int), bz5 = pxV fz0 4 bz0 fz1 → (true = true ∧ imIn fz0 bz0 fz1 = true ∧ imG fz0 ∧ intRow IntKind.u16 1 fz0.9.4 (QR.Row.fn fun (bz6 : Int) (bz7 : Nat) => CV.v (Value.int .u16 (fz0.9.5 bz6))) ∧ intRow IntKind.u16 1 fz0.10.4 (QR.Row.fn fun (bz8 : Int) (bz9 : Nat) => CV.v (Value.int .u16 (fz0.10.5 bz8))) ∧ intRow IntKind.u16 1 fz0.11.4 (QR.Row.fn fun (bz10 : Int) (bz11 : Nat) => CV.v (Value.int .u16 (fz0.11.5 bz10))) ∧ intRow IntKind.u16 1 fz0.12.4 (QR.Row.fn fun (bz12 : Int) (bz13 : Nat) => CV.v (Value.int .u16 (fz0.12.5 bz12))) ∧ intRow IntKind.u16 1 fz0.13.4 (QR.Row.fn fun (bz14 : Int) (bz15 : Nat) => CV.v (Value.int .u16 (fz0.13.5 bz14))) ∧ True) ∧ True ∧ ((∃ (bz16 : Int), rpiGood fz0 true fz1 bz16 ∧ (True ∧ true = true ∧ ((true = true ∧ 1000000000000000 = 1000000000000000 ∧ 0 = 0) ∧ (true = true ∧ Value.slice Option.none 0 0 = Value.slice Option.none 0 0) ∧ (true = true ∧ False) ∧ (true = true ∧ IntKind.i64 = IntKind.i64 ∧ fz1 = fz1) ∧ (true = true ∧ IntKind.i64 = IntKind.i64 ∧ iadd IntKind.i64 bz0 1 = bz16) ∧ True) ∧ (zz1 fz0) ∧ True) ∧ Nat.le (Nat.succ (rpiMu fz0 bz16)) (rpiMu fz0 bz0)) ∨ (∃ (bz17 : Int), rpiGood fz0 false fz1 bz17 ∧ (True ∧ true = true ∧ ((true = true ∧ 1000000000000000 = 1000000000000000 ∧ 0 = 0) ∧ (true = true ∧ Value.slice Option.none 0 0 = Value.slice Option.none 0 0) ∧ (true = true ∧ 8398854 = 8398854 ∧ 1 = rpN fz0 fz1 bz17) ∧ (true = true ∧ IntKind.i64 = IntKind.i64 ∧ fz1 = fz1) ∧ (true = true ∧ IntKind.i64 = IntKind.i64 ∧ iadd IntKind.i64 bz0 1 = bz17) ∧ True) ∧ (zz1 fz0) ∧ (5 = 5 ∧ 1 = rpN fz0 fz1 bz17 ∧ ((((True ∧ ∀ (bz18 : Nat), ilt (Int.ofNat bz18) 1 = true → IntKind.u16 = IntKind.u16 ∧ isel (ieq (Int.ofNat bz18) 0) bz1 0 = pxI fz0 (Int.ofNat bz18) 0) ∧ ∀ (bz19 : Nat), ilt (Int.ofNat bz19) 1 = true → IntKind.u16 = IntKind.u16 ∧ isel (ieq (Int.ofNat bz19) 0) bz2 0 = pxI fz0 (Int.ofNat bz19) 1) ∧ ∀ (bz20 : Nat), ilt (Int.ofNat bz20) 1 = true → IntKind.u16 = IntKind.u16 ∧ isel (ieq (Int.ofNat bz20) 0) bz3 0 = pxI fz0 (Int.ofNat bz20) 2) ∧ ∀ (bz21 : Nat), ilt (Int.ofNat bz21) 1 = true → IntKind.u16 = IntKind.u16 ∧ isel (ieq (Int.ofNat bz21) 0) bz4 0 = pxI fz0 (Int.ofNat bz21) 3) ∧ ∀ (bz22 : Nat), ilt (Int.ofNat bz22) 1 = true → IntKind.u16 = IntKind.u16 ∧ isel (ieq (Int.ofNat bz22) 0) bz5 0 = pxI fz0 (Int.ofNat bz22) 4) ∧ True) ∧ Nat.le (Nat.succ (rpiMu fz0 bz17)) (rpiMu fz0 bz0)) ∨ False)) (True ∧ ((∃ (bz23 : Int), rpoGood fz0 true bz23 ∧ (True ∧ true = true ∧ ((true = true ∧ 1000000000000000 = 1000000000000000 ∧ 0 = 0) ∧ (true = true ∧ Value.slice Option.none 0 0 = Value.slice Option.none 0 0) ∧ (true = true ∧ Value.slice Option.none 0 0 = Value.slice Option.none 0 0) ∧ (true = true ∧ IntKind.i64 = IntKind.i64 ∧ iadd IntKind.i64 fz1 1 = bz23) ∧ True) ∧ (zz1 fz0) ∧ True) ∧ Nat.le (Nat.succ (rpoMu fz0 bz23)) (rpoMu fz0 fz1)) ∨ (∃ (bz24 : Int), rpoGood fz0 false bz24 ∧ (True ∧ true = true ∧ ((true = true ∧ 1000000000000000 = 1000000000000000 ∧ 0 = 0) ∧ (true = true ∧ Value.slice Option.none 0 0 = Value.slice Option.none 0 0) ∧ (true = true ∧ False) ∧ (true = true ∧ IntKind.i64 = IntKind.i64 ∧ iadd IntKind.i64 fz1 1 = bz24) ∧ True) ∧ (zz1 fz0) ∧ False ∧ True) ∧ Nat.le (Nat.succ (rpoMu fz0 bz24)) (rpoMu fz0 fz1)) ∨ False)))
set_option maxHeartbeats 8000000 in
set_option maxRecDepth 100000 in
theorem rpxs_vc (m : Im) (V : List QR.XV → List (List QR.CV) → Prop) : QR.evalBody Try.prog (o_riat) (fun n => bif Nat.beq n 5 then some (.invs [o_inv_rpo0 m, o_inv_rpo1 m]) else bif Nat.beq n 8 then some (.invF fun g => [o_inv_rpi0 m (g 4), o_inv_rpi1 m (g 4)]) else none) (Try.f29.body.getD .skip) Try.f29.results.toList Try.f29.ntmps [.x (.agg (imC m))] V = (True ∧ (zz12 m) ∧ bcond (bnot (imOk m)) (True ∧ True ∧ V [XV.c (CV.v (Value.slice Option.none 0 0))] []) (True ∧ True ∧ ((∃ (i : Int), rpoGood m true i ∧ True ∧ true = true ∧ ((true = true ∧ 0 = 0 ∧ 0 = 0) ∧ (true = true ∧ Value.slice Option.none 0 0 = Value.slice Option.none 0 0) ∧ (true = true ∧ Value.slice Option.none 0 0 = Value.slice Option.none 0 0) ∧ (true = true ∧ IntKind.i64 = IntKind.i64 ∧ (0 : Int) = i) ∧ True) ∧ (zz1 m) ∧ True) ∨ (∃ (i : Int), rpoGood m false i ∧ True ∧ true = true ∧ ((true = true ∧ 0 = 0 ∧ 0 = 0) ∧ (true = true ∧ Value.slice Option.none 0 0 = Value.slice Option.none 0 0) ∧ (true = true ∧ False) ∧ (true = true ∧ IntKind.i64 = IntKind.i64 ∧ (0 : Int) = i) ∧ True) ∧ (zz1 m) ∧ False ∧ True) ∨ False) ∧ (∀ (i : Int), rpoGood m true i → True ∧ bcond (ilt i m.2) (True ∧ ((∃ (i_1 : Int), rpiGood m true i i_1 ∧ True ∧ true = true ∧ ((true = true ∧ 1000000000000000 = 1000000000000000 ∧ 0 = 0) ∧ (true = true ∧ Value.slice Option.none 0 0 = Value.slice Option.none 0 0) ∧ (true = true ∧ Value.slice Option.none 0 0 = Value.slice Option.none 0 0) ∧ (true = true ∧ IntKind.i64 = IntKind.i64 ∧ i = i) ∧ (true = true ∧ IntKind.i64 = IntKind.i64 ∧ (0 : Int) = i_1) ∧ True) ∧ (zz1 m) ∧ True) ∨ (∃ (i_1 : Int), rpiGood m false i i_1 ∧ True ∧ true = true ∧ ((true = true ∧ 1000000000000000 = 1000000000000000 ∧ 0 = 0) ∧ (true = true ∧ Value.slice Option.none 0 0 = Value.slice Option.none 0 0) ∧ (true = true ∧ False) ∧ (true = true ∧ IntKind.i64 = IntKind.i64 ∧ i = i) ∧ (true = true ∧ IntKind.i64 = IntKind.i64 ∧ (0 : Int) = i_1) ∧ True) ∧ (zz1 m) ∧ False ∧ True) ∨ False) ∧ (zz32 m i) ∧ (zz19 m i) ∧ True) (True ∧ True ∧ V [XV.c (CV.v (Value.slice Option.none 0 0))] [])) ∧ (∀ (i : Int), rpoGood m false i → True ∧ bcond (ilt i m.2) (True ∧ ((∃ (i_1 : Int), rpiGood m true i i_1 ∧ True ∧ true = true ∧ ((true = true ∧ 1000000000000000 = 1000000000000000 ∧ 0 = 0) ∧ (true = true ∧ Value.slice Option.none 0 0 = Value.slice Option.none 0 0) ∧ (true = true ∧ False) ∧ (true = true ∧ IntKind.i64 = IntKind.i64 ∧ i = i) ∧ (true = true ∧ IntKind.i64 = IntKind.i64 ∧ (0 : Int) = i_1) ∧ True) ∧ (zz1 m) ∧ True) ∨ (∃ (i_1 : Int), rpiGood m false i i_1 ∧ True ∧ true = true ∧ ((true = true ∧ 1000000000000000 = 1000000000000000 ∧ 0 = 0) ∧ (true = true ∧ Value.slice Option.none 0 0 = Value.slice Option.none 0 0) ∧ (true = true ∧ 1000000000000001 = 1000000000000001 ∧ rpN m i 0 = rpN m i i_1) ∧ (true = true ∧ IntKind.i64 = IntKind.i64 ∧ i = i) ∧ (true = true ∧ IntKind.i64 = IntKind.i64 ∧ (0 : Int) = i_1) ∧ True) ∧ (zz1 m) ∧ (5 = 5 ∧ rpN m i 0 = rpN m i i_1 ∧ ((((True ∧ ∀ (i_2 : Nat), ilt (Int.ofNat i_2) (rpN m i 0) = true → IntKind.u16 = IntKind.u16 ∧ pxI m (Int.ofNat i_2) 0 = pxI m (Int.ofNat i_2) 0) ∧ ∀ (i_2 : Nat), ilt (Int.ofNat i_2) (rpN m i 0) = true → IntKind.u16 = IntKind.u16 ∧ pxI m (Int.ofNat i_2) 1 = pxI m (Int.ofNat i_2) 1) ∧ ∀ (i_2 : Nat), ilt (Int.ofNat i_2) (rpN m i 0) = true → IntKind.u16 = IntKind.u16 ∧ pxI m (Int.ofNat i_2) 2 = pxI m (Int.ofNat i_2) 2) ∧ ∀ (i_2 : Nat), ilt (Int.ofNat i_2) (rpN m i 0) = true → IntKind.u16 = IntKind.u16 ∧ pxI m (Int.ofNat i_2) 3 = pxI m (Int.ofNat i_2) 3) ∧ ∀ (i_2 : Nat), ilt (Int.ofNat i_2) (rpN m i 0) = true → IntKind.u16 = IntKind.u16 ∧ pxI m (Int.ofNat i_2) 4 = pxI m (Int.ofNat i_2) 4) ∧ True) ∨ False) ∧ (zz32 m i) ∧ (zz19 m i) ∧ True) (True ∧ True ∧ V [XV.c (CV.fresh 5 (rpN m i 0) (QR.Row.fn fun (i : Int) (j : Nat) => CV.v (Value.int .u16 (pxI m i j))))] [])) ∧ True)) := by
  delta zz1 zz12 zz19 zz32
  try delta o_riat
  try delta s_imok
  try delta s_impx
  try delta s_imOf
  generalize @imG = imG
  generalize @imIn = imIn
  generalize @imOk = imOk
  generalize @intRow = intRow
  generalize @pxI = pxI
  generalize @pxV = pxV
  generalize @rpN = rpN
  generalize @rpiGood = rpiGood
  generalize @rpiMu = rpiMu
  generalize @rpoGood = rpoGood
  generalize @rpoMu = rpoMu
  generalize @w2 = w2
  kernel_rfl
def rspGood (n : Int) (q r : Int → Nat → Int) (i : Int) : Prop := (0 ≤ i ∧ i ≤ n) ∧ ∀ (p : Nat) (k : Nat), (p : Int) < i → k < 5 → q p k = r p k
def rspMu (n i : Int) : Nat := (n - i).toNat
noncomputable def o_inv_rsp (n n2 : Int) (q r : Int → Nat → Int) : QR.Inv where
  ι := Int
  good i := rspGood n q r i
  slots i := QR.slotsOf Try.f27.ntmps [(0, .x (.c (.slc 5 n (.fn fun i j => .v (.int .u16 (q i j)))))), (1, .x (.c (.slc 5 n2 (.fn fun i j => .v (.int .u16 (r i j)))))), (4, .x (.c (.v (.bool false)))), (5, .x (.c (.v (.int .i64 i))))]
  blocks i := []
  μ i := rspMu n i
set_option maxRecDepth 100000 in
theorem rsp_vc (n n2 : Int) (q r : Int → Nat → Int) (V : List QR.XV → List (List QR.CV) → Prop) : QR.evalBody Try.prog (QR.orc []) (fun n_ => bif Nat.beq n_ 4 then some (.inv (o_inv_rsp n n2 q r)) else none) (Try.f27.body.getD .skip) Try.f27.results.toList Try.f27.ntmps [.x (.c (.slc 5 n (.fn fun i j => .v (.int .u16 (q i j))))), .x (.c (.slc 5 n2 (.fn fun i j => .v (.int .u16 (r i j)))))] V = (True ∧ ∀ (i : Int), i = n → ∀ (i_1 : Int), i_1 = n2 → True ∧ bcond (ine i i_1) (True ∧ True ∧ V [XV.c (CV.v (Value.bool false))] []) (True ∧ (∃ (i : Int), rspGood n q r i ∧ True ∧ true = true ∧ ((zz80 n q) ∧ (zz80 n2 r) ∧ (true = true ∧ false = false) ∧ (true = true ∧ IntKind.i64 = IntKind.i64 ∧ (0 : Int) = i) ∧ True) ∧ True) ∧ ∀ (i : Int), rspGood n q r i → ∀ (i_2 : Int), i_2 = n → True ∧ bcond (ilt i i_2) ((ile 0 i = true ∧ ilt i n2 = true ∧ ile 0 i = true ∧ ilt i n = true ∧ True) ∧ bcond (bnot (band (band (ieq (q i 0) (r i 0)) (band (ieq (q i 1) (r i 1)) (band (ieq (q i 2) (r i 2)) true))) (band (ieq (q i 3) (r i 3)) (band (ieq (q i 4) (r i 4)) true)))) (True ∧ True ∧ V [XV.c (CV.v (Value.bool false))] []) (True ∧ ∃ (j : Int), rspGood n q r j ∧ (True ∧ true = true ∧ ((zz80 n q) ∧ (zz80 n2 r) ∧ (true = true ∧ false = false) ∧ (true = true ∧ IntKind.i64 = IntKind.i64 ∧ iadd IntKind.i64 i 1 = j) ∧ True) ∧ True) ∧ Nat.le (Nat.succ (rspMu n j)) (rspMu n i))) (True ∧ True ∧ V [XV.c (CV.v (Value.bool true))] []))) := by
  delta zz16 zz80
  generalize @rspGood = rspGood
  generalize @rspMu = rspMu
  kernel_rfl
def o_rieq : QR.Oracle := QR.orc [(57, s_imok), (29, s_impxs), (27, s_pxsame)]
set_option maxRecDepth 100000 in
theorem rieq_vc (m n : Im) (V : List QR.XV → List (List QR.CV) → Prop) : QR.evalBody Try.prog (o_rieq) (QR.noLoops) (Try.f31.body.getD .skip) Try.f31.results.toList Try.f31.ntmps [.x (.agg (imC m)), .x (.agg (imC n))] V = (True ∧ bcond (imOk m) (bcond (imOk n) (bcond (ieq m.1 n.1) (bcond (ieq m.2 n.2) ((intRow IntKind.u16 5 (imN m) (QR.Row.fn fun (i : Int) (j : Nat) => CV.v (Value.int .u16 (pxI m i j))) ∧ intRow IntKind.u16 5 (imN n) (QR.Row.fn fun (i : Int) (j : Nat) => CV.v (Value.int .u16 (pxI n i j))) ∧ ile 0 (imN m) = true ∧ ile 0 (imN n) = true ∧ ile (imN m) 1099511627776 = true ∧ imG n ∧ intRow IntKind.u16 1 n.9.4 (QR.Row.fn fun (i : Int) (x : Nat) => CV.v (Value.int .u16 (n.9.5 i))) ∧ intRow IntKind.u16 1 n.10.4 (QR.Row.fn fun (i : Int) (x : Nat) => CV.v (Value.int .u16 (n.10.5 i))) ∧ intRow IntKind.u16 1 n.11.4 (QR.Row.fn fun (i : Int) (x : Nat) => CV.v (Value.int .u16 (n.11.5 i))) ∧ intRow IntKind.u16 1 n.12.4 (QR.Row.fn fun (i : Int) (x : Nat) => CV.v (Value.int .u16 (n.12.5 i))) ∧ intRow IntKind.u16 1 n.13.4 (QR.Row.fn fun (i : Int) (x : Nat) => CV.v (Value.int .u16 (n.13.5 i))) ∧ imG m ∧ intRow IntKind.u16 1 m.9.4 (QR.Row.fn fun (i : Int) (x : Nat) => CV.v (Value.int .u16 (m.9.5 i))) ∧ intRow IntKind.u16 1 m.10.4 (QR.Row.fn fun (i : Int) (x : Nat) => CV.v (Value.int .u16 (m.10.5 i))) ∧ intRow IntKind.u16 1 m.11.4 (QR.Row.fn fun (i : Int) (x : Nat) => CV.v (Value.int .u16 (m.11.5 i))) ∧ intRow IntKind.u16 1 m.12.4 (QR.Row.fn fun (i : Int) (x : Nat) => CV.v (Value.int .u16 (m.12.5 i))) ∧ intRow IntKind.u16 1 m.13.4 (QR.Row.fn fun (i : Int) (x : Nat) => CV.v (Value.int .u16 (m.13.5 i))) ∧ imG n ∧ intRow IntKind.u16 1 n.9.4 (QR.Row.fn fun (i : Int) (x : Nat) => CV.v (Value.int .u16 (n.9.5 i))) ∧ intRow IntKind.u16 1 n.10.4 (QR.Row.fn fun (i : Int) (x : Nat) => CV.v (Value.int .u16 (n.10.5 i))) ∧ intRow IntKind.u16 1 n.11.4 (QR.Row.fn fun (i : Int) (x : Nat) => CV.v (Value.int .u16 (n.11.5 i))) ∧ intRow IntKind.u16 1 n.12.4 (QR.Row.fn fun (i : Int) (x : Nat) => CV.v (Value.int .u16 (n.12.5 i))) ∧ intRow IntKind.u16 1 n.13.4 (QR.Row.fn fun (i : Int) (x : Nat) => CV.v (Value.int .u16 (n.13.5 i))) ∧ imG m ∧ intRow IntKind.u16 1 m.9.4 (QR.Row.fn fun (i : Int) (x : Nat) => CV.v (Value.int .u16 (m.9.5 i))) ∧ intRow IntKind.u16 1 m.10.4 (QR.Row.fn fun (i : Int) (x : Nat) => CV.v (Value.int .u16 (m.10.5 i))) ∧ intRow IntKind.u16 1 m.11.4 (QR.Row.fn fun (i : Int) (x : Nat) => CV.v (Value.int .u16 (m.11.5 i))) ∧ intRow IntKind.u16 1 m.12.4 (QR.Row.fn fun (i : Int) (x : Nat) => CV.v (Value.int .u16 (m.12.5 i))) ∧ intRow IntKind.u16 1 m.13.4 (QR.Row.fn fun (i : Int) (x : Nat) => CV.v (Value.int .u16 (m.13.5 i))) ∧ True) ∧ True ∧ V [XV.c (CV.v (Value.bool (pxSame (imN m) (imN n) (fun (i : Int) (j : Nat) => pxI m i j) fun (i : Int) (j : Nat) => pxI n i j)))] []) ((zz18 n m) ∧ True ∧ V [XV.c (CV.v (Value.bool false))] [])) ((zz18 n m) ∧ True ∧ V [XV.c (CV.v (Value.bool false))] [])) ((zz18 n m) ∧ True ∧ V [XV.c (CV.v (Value.bool false))] [])) ((zz12 m) ∧ True ∧ V [XV.c (CV.v (Value.bool false))] [])) := by
  delta zz12 zz18
  try delta o_rieq
  try delta s_imok
  try delta s_impxs
  try delta s_pxsame
  try delta s_imOf
  generalize @imG = imG
  generalize @imN = imN
  generalize @imOk = imOk
  generalize @intRow = intRow
  generalize @pxI = pxI
  generalize @pxSame = pxSame
  generalize @w2 = w2
  kernel_rfl
def o_risame : QR.Oracle := QR.orc [(54, s_plsame)]
set_option maxRecDepth 100000 in
theorem risame_vc (m n : Im) (V : List QR.XV → List (List QR.CV) → Prop) : QR.evalBody Try.prog (o_risame) (fun n_ => bif Nat.beq n_ 2 then some (.rounds 6) else none) (Try.f22.body.getD .skip) Try.f22.results.toList Try.f22.ntmps [.x (.agg (imC m)), .x (.agg (imC n))] V = (True ∧ True ∧ True ∧ (intRow IntKind.u16 1 m.9.4 (QR.Row.fn fun (i : Int) (x : Nat) => CV.v (Value.int .u16 (m.9.5 i))) ∧ ile 0 m.9.4 = true ∧ in64 m.9.1 = true ∧ in64 m.9.2 = true ∧ in64 m.9.3 = true ∧ intRow IntKind.u16 1 n.9.4 (QR.Row.fn fun (i : Int) (x : Nat) => CV.v (Value.int .u16 (n.9.5 i))) ∧ ile 0 n.9.4 = true ∧ in64 n.9.1 = true ∧ in64 n.9.2 = true ∧ in64 n.9.3 = true ∧ ile m.9.4 1099511627776 = true ∧ true = true ∧ true = true ∧ true = true ∧ true = true ∧ True) ∧ bcond (bnot (spB m.9.1 m.9.2 m.9.3 m.9.4 (QR.Row.fn fun (i : Int) (x : Nat) => CV.v (Value.int .u16 (m.9.5 i))) n.9.1 n.9.2 n.9.3 n.9.4 (QR.Row.fn fun (i : Int) (x : Nat) => CV.v (Value.int .u16 (n.9.5 i))))) (True ∧ True ∧ V [XV.c (CV.v (Value.bool false))] []) (True ∧ True ∧ (intRow IntKind.u16 1 m.10.4 (QR.Row.fn fun (i : Int) (x : Nat) => CV.v (Value.int .u16 (m.10.5 i))) ∧ ile 0 m.10.4 = true ∧ in64 m.10.1 = true ∧ in64 m.10.2 = true ∧ in64 m.10.3 = true ∧ intRow IntKind.u16 1 n.10.4 (QR.Row.fn fun (i : Int) (x : Nat) => CV.v (Value.int .u16 (n.10.5 i))) ∧ ile 0 n.10.4 = true ∧ in64 n.10.1 = true ∧ in64 n.10.2 = true ∧ in64 n.10.3 = true ∧ ile m.10.4 1099511627776 = true ∧ true = true ∧ true = true ∧ true = true ∧ true = true ∧ True) ∧ bcond (bnot (spB m.10.1 m.10.2 m.10.3 m.10.4 (QR.Row.fn fun (i : Int) (x : Nat) => CV.v (Value.int .u16 (m.10.5 i))) n.10.1 n.10.2 n.10.3 n.10.4 (QR.Row.fn fun (i : Int) (x : Nat) => CV.v (Value.int .u16 (n.10.5 i))))) (True ∧ True ∧ V [XV.c (CV.v (Value.bool false))] []) (True ∧ True ∧ (intRow IntKind.u16 1 m.11.4 (QR.Row.fn fun (i : Int) (x : Nat) => CV.v (Value.int .u16 (m.11.5 i))) ∧ ile 0 m.11.4 = true ∧ in64 m.11.1 = true ∧ in64 m.11.2 = true ∧ in64 m.11.3 = true ∧ intRow IntKind.u16 1 n.11.4 (QR.Row.fn fun (i : Int) (x : Nat) => CV.v (Value.int .u16 (n.11.5 i))) ∧ ile 0 n.11.4 = true ∧ in64 n.11.1 = true ∧ in64 n.11.2 = true ∧ in64 n.11.3 = true ∧ ile m.11.4 1099511627776 = true ∧ true = true ∧ true = true ∧ true = true ∧ true = true ∧ True) ∧ bcond (bnot (spB m.11.1 m.11.2 m.11.3 m.11.4 (QR.Row.fn fun (i : Int) (x : Nat) => CV.v (Value.int .u16 (m.11.5 i))) n.11.1 n.11.2 n.11.3 n.11.4 (QR.Row.fn fun (i : Int) (x : Nat) => CV.v (Value.int .u16 (n.11.5 i))))) (True ∧ True ∧ V [XV.c (CV.v (Value.bool false))] []) (True ∧ True ∧ (intRow IntKind.u16 1 m.12.4 (QR.Row.fn fun (i : Int) (x : Nat) => CV.v (Value.int .u16 (m.12.5 i))) ∧ ile 0 m.12.4 = true ∧ in64 m.12.1 = true ∧ in64 m.12.2 = true ∧ in64 m.12.3 = true ∧ intRow IntKind.u16 1 n.12.4 (QR.Row.fn fun (i : Int) (x : Nat) => CV.v (Value.int .u16 (n.12.5 i))) ∧ ile 0 n.12.4 = true ∧ in64 n.12.1 = true ∧ in64 n.12.2 = true ∧ in64 n.12.3 = true ∧ ile m.12.4 1099511627776 = true ∧ true = true ∧ true = true ∧ true = true ∧ true = true ∧ True) ∧ bcond (bnot (spB m.12.1 m.12.2 m.12.3 m.12.4 (QR.Row.fn fun (i : Int) (x : Nat) => CV.v (Value.int .u16 (m.12.5 i))) n.12.1 n.12.2 n.12.3 n.12.4 (QR.Row.fn fun (i : Int) (x : Nat) => CV.v (Value.int .u16 (n.12.5 i))))) (True ∧ True ∧ V [XV.c (CV.v (Value.bool false))] []) (True ∧ True ∧ (intRow IntKind.u16 1 m.13.4 (QR.Row.fn fun (i : Int) (x : Nat) => CV.v (Value.int .u16 (m.13.5 i))) ∧ ile 0 m.13.4 = true ∧ in64 m.13.1 = true ∧ in64 m.13.2 = true ∧ in64 m.13.3 = true ∧ intRow IntKind.u16 1 n.13.4 (QR.Row.fn fun (i : Int) (x : Nat) => CV.v (Value.int .u16 (n.13.5 i))) ∧ ile 0 n.13.4 = true ∧ in64 n.13.1 = true ∧ in64 n.13.2 = true ∧ in64 n.13.3 = true ∧ ile m.13.4 1099511627776 = true ∧ true = true ∧ true = true ∧ true = true ∧ true = true ∧ True) ∧ bcond (bnot (spB m.13.1 m.13.2 m.13.3 m.13.4 (QR.Row.fn fun (i : Int) (x : Nat) => CV.v (Value.int .u16 (m.13.5 i))) n.13.1 n.13.2 n.13.3 n.13.4 (QR.Row.fn fun (i : Int) (x : Nat) => CV.v (Value.int .u16 (n.13.5 i))))) (True ∧ True ∧ V [XV.c (CV.v (Value.bool false))] []) (True ∧ True ∧ bcond (ieq m.1 n.1) (bcond (ieq m.2 n.2) (bcond (beq' m.3 n.3) (True ∧ True ∧ V [XV.c (CV.v (Value.bool (band (band (ieq m.4 n.4) (band (ieq m.5 n.5) (band (ieq m.6 n.6) true))) (band (ieq m.7 n.7) (band (ieq m.8 n.8) true)))))] []) (True ∧ True ∧ V [XV.c (CV.v (Value.bool false))] [])) (True ∧ True ∧ V [XV.c (CV.v (Value.bool false))] [])) (True ∧ True ∧ V [XV.c (CV.v (Value.bool false))] []))))))) := by
  try delta o_risame
  try delta s_plsame
  generalize @in64 = in64
  generalize @intRow = intRow
  generalize @spB = spB
  generalize @w2 = w2
  kernel_rfl
def rioGood (n i : Int) : Prop := 0 ≤ i ∧ i ≤ n
def rioMu (n i : Int) : Nat := (n - i).toNat
def rioN (w h : Int) : Int := w * h
def rioV (q : Int → Nat → Int) (i t : Int) (k : Nat) : Int := if t < i then q t k else 0
noncomputable def o_inv_rio (w h n : Int) (q : Int → Nat → Int) : QR.Inv where
  ι := Int
  good i := rioGood n i
  slots i := QR.slotsOf Try.f21.ntmps [(0, .x (.c (.v (.int .i64 w)))), (1, .x (.c (.v (.int .i64 h)))), (2, .x (.c (.slc 5 n (.fn fun i j => .v (.int .u16 (q i j)))))), (6, .x (.c (.ptr 1000000000000000 0))), (7, .x (.c (.v (.bool false)))), (8, .x (.c (.ptr 1000000000000001 0))), (10, .x (.c (.v (.int .i64 i))))]
  blocks i := [(1000000000000000, .cells [.v (.int .i64 0), .v (.int .i64 0), .v (.bool false), .v (.int .u16 0), .v (.int .u16 0), .v (.int .u16 0), .v (.int .u16 0), .v (.int .u16 0), .v (.int .i64 0), .v (.int .i64 0), .v (.int .i64 0), .v (.slice none 0 0), .v (.int .i64 0), .v (.int .i64 0), .v (.int .i64 0), .v (.slice none 0 0), .v (.int .i64 0), .v (.int .i64 0), .v (.int .i64 0), .v (.slice none 0 0), .v (.int .i64 0), .v (.int .i64 0), .v (.int .i64 0), .v (.slice none 0 0), .v (.int .i64 0), .v (.int .i64 0), .v (.int .i64 0), .v (.slice none 0 0)]), (1000000000000001, .cells [.v (.int .i64 w), .v (.int .i64 h), .v (.bool false), .v (.int .u16 0), .v (.int .u16 0), .v (.int .u16 0), .v (.int .u16 0), .v (.int .u16 0), .v (.int .i64 w), .v (.int .i64 h), .v (.int .i64 w), .own 1000000000000002 (rioN w h), .v (.int .i64 w), .v (.int .i64 h), .v (.int .i64 w), .own 1000000000000003 (rioN w h), .v (.int .i64 w), .v (.int .i64 h), .v (.int .i64 w), .own 1000000000000004 (rioN w h), .v (.int .i64 w), .v (.int .i64 h), .v (.int .i64 w), .own 1000000000000005 (rioN w h), .v (.int .i64 w), .v (.int .i64 h), .v (.int .i64 w), .own 1000000000000006 (rioN w h)]), (1000000000000002, .row 1 (rioN w h) (.fn fun t _ => .v (.int .u16 (rioV q i t 0)))), (1000000000000003, .row 1 (rioN w h) (.fn fun t _ => .v (.int .u16 (rioV q i t 1)))), (1000000000000004, .row 1 (rioN w h) (.fn fun t _ => .v (.int .u16 (rioV q i t 2)))), (1000000000000005, .row 1 (rioN w h) (.fn fun t _ => .v (.int .u16 (rioV q i t 3)))), (1000000000000006, .row 1 (rioN w h) (.fn fun t _ => .v (.int .u16 (rioV q i t 4))))]
  μ i := rioMu n i
def o_rio : QR.Oracle := QR.orc [(46, s_fit)]
set_option maxRecDepth 100000 in
theorem rio_vc (w h n : Int) (q : Int → Nat → Int) (V : List QR.XV → List (List QR.CV) → Prop) : QR.evalBody Try.prog (o_rio) (fun n_ => bif Nat.beq n_ 5 then some (.rounds 6) else bif Nat.beq n_ 9 then some (.inv (o_inv_rio w h n q)) else bif Nat.beq n_ 12 then some (.rounds 4) else none) (Try.f21.body.getD .skip) Try.f21.results.toList Try.f21.ntmps [.x (.c (.v (.int .i64 w))), .x (.c (.v (.int .i64 h))), .x (.c (.slc 5 n (.fn fun i j => .v (.int .u16 (q i j)))))] V = (True ∧ bcond (bnot (fitB w h)) ((in64 w = true ∧ in64 h = true ∧ True) ∧ True ∧ True ∧ V [XV.agg zz7, XV.c (CV.v (Value.bool false))] []) (∀ (i : Int), i = n → (in64 w = true ∧ in64 h = true ∧ True) ∧ bcond (ine i (imul IntKind.i64 w h)) (True ∧ True ∧ V [XV.agg zz7, XV.c (CV.v (Value.bool false))] []) (True ∧ True ∧ True ∧ (zz84 w h) ∧ True ∧ True ∧ (zz84 w h) ∧ True ∧ True ∧ (zz84 w h) ∧ True ∧ True ∧ (zz84 w h) ∧ True ∧ True ∧ (zz84 w h) ∧ True ∧ True ∧ True ∧ (∃ (i : Int), rioGood n i ∧ True ∧ true = true ∧ ((true = true ∧ IntKind.i64 = IntKind.i64 ∧ w = w) ∧ (true = true ∧ IntKind.i64 = IntKind.i64 ∧ h = h) ∧ (zz80 n q) ∧ (true = true ∧ 0 = 0 ∧ 0 = 0) ∧ (true = true ∧ false = false) ∧ (true = true ∧ 3075 = 3075 ∧ 0 = 0) ∧ (true = true ∧ IntKind.i64 = IntKind.i64 ∧ (0 : Int) = i) ∧ True) ∧ zz0 ∧ ((IntKind.i64 = IntKind.i64 ∧ w = w) ∧ (IntKind.i64 = IntKind.i64 ∧ h = h) ∧ false = false ∧ (IntKind.u16 = IntKind.u16 ∧ (0 : Int) = 0) ∧ (IntKind.u16 = IntKind.u16 ∧ (0 : Int) = 0) ∧ (IntKind.u16 = IntKind.u16 ∧ (0 : Int) = 0) ∧ (IntKind.u16 = IntKind.u16 ∧ (0 : Int) = 0) ∧ (IntKind.u16 = IntKind.u16 ∧ (0 : Int) = 0) ∧ (IntKind.i64 = IntKind.i64 ∧ w = w) ∧ (IntKind.i64 = IntKind.i64 ∧ h = h) ∧ (IntKind.i64 = IntKind.i64 ∧ w = w) ∧ (7175 = 7175 ∧ imul IntKind.i64 w h = rioN w h) ∧ (IntKind.i64 = IntKind.i64 ∧ w = w) ∧ (IntKind.i64 = IntKind.i64 ∧ h = h) ∧ (IntKind.i64 = IntKind.i64 ∧ w = w) ∧ (4201479 = 4201479 ∧ imul IntKind.i64 w h = rioN w h) ∧ (IntKind.i64 = IntKind.i64 ∧ w = w) ∧ (IntKind.i64 = IntKind.i64 ∧ h = h) ∧ (IntKind.i64 = IntKind.i64 ∧ w = w) ∧ (8395783 = 8395783 ∧ imul IntKind.i64 w h = rioN w h) ∧ (IntKind.i64 = IntKind.i64 ∧ w = w) ∧ (IntKind.i64 = IntKind.i64 ∧ h = h) ∧ (IntKind.i64 = IntKind.i64 ∧ w = w) ∧ (12590087 = 12590087 ∧ imul IntKind.i64 w h = rioN w h) ∧ (IntKind.i64 = IntKind.i64 ∧ w = w) ∧ (IntKind.i64 = IntKind.i64 ∧ h = h) ∧ (IntKind.i64 = IntKind.i64 ∧ w = w) ∧ (16784391 = 16784391 ∧ imul IntKind.i64 w h = rioN w h) ∧ True) ∧ (1 = 1 ∧ imul IntKind.i64 w h = rioN w h ∧ True ∧ ∀ (i_1 : Nat), ilt (Int.ofNat i_1) (imul IntKind.i64 w h) = true → IntKind.u16 = IntKind.u16 ∧ (0 : Int) = rioV q i (Int.ofNat i_1) 0) ∧ (1 = 1 ∧ imul IntKind.i64 w h = rioN w h ∧ True ∧ ∀ (i_1 : Nat), ilt (Int.ofNat i_1) (imul IntKind.i64 w h) = true → IntKind.u16 = IntKind.u16 ∧ (0 : Int) = rioV q i (Int.ofNat i_1) 1) ∧ (1 = 1 ∧ imul IntKind.i64 w h = rioN w h ∧ True ∧ ∀ (i_1 : Nat), ilt (Int.ofNat i_1) (imul IntKind.i64 w h) = true → IntKind.u16 = IntKind.u16 ∧ (0 : Int) = rioV q i (Int.ofNat i_1) 2) ∧ (1 = 1 ∧ imul IntKind.i64 w h = rioN w h ∧ True ∧ ∀ (i_1 : Nat), ilt (Int.ofNat i_1) (imul IntKind.i64 w h) = true → IntKind.u16 = IntKind.u16 ∧ (0 : Int) = rioV q i (Int.ofNat i_1) 3) ∧ (1 = 1 ∧ imul IntKind.i64 w h = rioN w h ∧ True ∧ ∀ (i_1 : Nat), ilt (Int.ofNat i_1) (imul IntKind.i64 w h) = true → IntKind.u16 = IntKind.u16 ∧ (0 : Int) = rioV q i (Int.ofNat i_1) 4) ∧ True) ∧ ∀ (i : Int), rioGood n i → ∀ (i_1 : Int), i_1 = n → True ∧ bcond (ilt i i_1) (True ∧ True ∧ (ile 0 i = true ∧ ilt i (rioN w h) = true ∧ true = true ∧ true = true ∧ ile 0 i = true ∧ ilt i n = true ∧ true = true ∧ true = true ∧ True) ∧ True ∧ True ∧ (ile 0 i = true ∧ ilt i (rioN w h) = true ∧ true = true ∧ true = true ∧ ile 0 i = true ∧ ilt i n = true ∧ true = true ∧ true = true ∧ True) ∧ True ∧ True ∧ (ile 0 i = true ∧ ilt i (rioN w h) = true ∧ true = true ∧ true = true ∧ ile 0 i = true ∧ ilt i n = true ∧ true = true ∧ true = true ∧ True) ∧ True ∧ True ∧ (ile 0 i = true ∧ ilt i (rioN w h) = true ∧ ile 0 i = true ∧ ilt i (rioN w h) = true ∧ ile 0 i = true ∧ ilt i n = true ∧ ile 0 i = true ∧ ilt i n = true ∧ true = true ∧ true = true ∧ true = true ∧ true = true ∧ True) ∧ True ∧ ∃ (j : Int), rioGood n j ∧ (True ∧ true = true ∧ ((true = true ∧ IntKind.i64 = IntKind.i64 ∧ w = w) ∧ (true = true ∧ IntKind.i64 = IntKind.i64 ∧ h = h) ∧ (zz80 n q) ∧ (true = true ∧ 1000000000000000 = 1000000000000000 ∧ 0 = 0) ∧ (true = true ∧ false = false) ∧ (true = true ∧ 1000000000000001 = 1000000000000001 ∧ 0 = 0) ∧ (true = true ∧ IntKind.i64 = IntKind.i64 ∧ iadd IntKind.i64 i 1 = j) ∧ True) ∧ zz0 ∧ ((IntKind.i64 = IntKind.i64 ∧ w = w) ∧ (IntKind.i64 = IntKind.i64 ∧ h = h) ∧ false = false ∧ (IntKind.u16 = IntKind.u16 ∧ (0 : Int) = 0) ∧ (IntKind.u16 = IntKind.u16 ∧ (0 : Int) = 0) ∧ (IntKind.u16 = IntKind.u16 ∧ (0 : Int) = 0) ∧ (IntKind.u16 = IntKind.u16 ∧ (0 : Int) = 0) ∧ (IntKind.u16 = IntKind.u16 ∧ (0 : Int) = 0) ∧ (IntKind.i64 = IntKind.i64 ∧ w = w) ∧ (IntKind.i64 = IntKind.i64 ∧ h = h) ∧ (IntKind.i64 = IntKind.i64 ∧ w = w) ∧ (1000000000000002 = 1000000000000002 ∧ rioN w h = rioN w h) ∧ (IntKind.i64 = IntKind.i64 ∧ w = w) ∧ (IntKind.i64 = IntKind.i64 ∧ h = h) ∧ (IntKind.i64 = IntKind.i64 ∧ w = w) ∧ (1000000000000003 = 1000000000000003 ∧ rioN w h = rioN w h) ∧ (IntKind.i64 = IntKind.i64 ∧ w = w) ∧ (IntKind.i64 = IntKind.i64 ∧ h = h) ∧ (IntKind.i64 = IntKind.i64 ∧ w = w) ∧ (1000000000000004 = 1000000000000004 ∧ rioN w h = rioN w h) ∧ (IntKind.i64 = IntKind.i64 ∧ w = w) ∧ (IntKind.i64 = IntKind.i64 ∧ h = h) ∧ (IntKind.i64 = IntKind.i64 ∧ w = w) ∧ (1000000000000005 = 1000000000000005 ∧ rioN w h = rioN w h) ∧ (IntKind.i64 = IntKind.i64 ∧ w = w) ∧ (IntKind.i64 = IntKind.i64 ∧ h = h) ∧ (IntKind.i64 = IntKind.i64 ∧ w = w) ∧ (1000000000000006 = 1000000000000006 ∧ rioN w h = rioN w h) ∧ True) ∧ (1 = 1 ∧ rioN w h = rioN w h ∧ True ∧ ∀ (i_2 : Nat), ilt (Int.ofNat i_2) (rioN w h) = true → IntKind.u16 = IntKind.u16 ∧ isel (ieq (Int.ofNat i_2) i) (q i 0) (rioV q i (Int.ofNat i_2) 0) = rioV q j (Int.ofNat i_2) 0) ∧ (1 = 1 ∧ rioN w h = rioN w h ∧ True ∧ ∀ (i_2 : Nat), ilt (Int.ofNat i_2) (rioN w h) = true → IntKind.u16 = IntKind.u16 ∧ isel (ieq (Int.ofNat i_2) i) (q i 1) (rioV q i (Int.ofNat i_2) 1) = rioV q j (Int.ofNat i_2) 1) ∧ (1 = 1 ∧ rioN w h = rioN w h ∧ True ∧ ∀ (i_2 : Nat), ilt (Int.ofNat i_2) (rioN w h) = true → IntKind.u16 = IntKind.u16 ∧ isel (ieq (Int.ofNat i_2) i) (q i 2) (rioV q i (Int.ofNat i_2) 2) = rioV q j (Int.ofNat i_2) 2) ∧ (1 = 1 ∧ rioN w h = rioN w h ∧ True ∧ ∀ (i_2 : Nat), ilt (Int.ofNat i_2) (rioN w h) = true → IntKind.u16 = IntKind.u16 ∧ isel (ieq (Int.ofNat i_2) i) (q i 3) (rioV q i (Int.ofNat i_2) 3) = rioV q j (Int.ofNat i_2) 3) ∧ (1 = 1 ∧ rioN w h = rioN w h ∧ True ∧ ∀ (i_2 : Nat), ilt (Int.ofNat i_2) (rioN w h) = true → IntKind.u16 = IntKind.u16 ∧ isel (ieq (Int.ofNat i_2) i) (q i 4) (rioV q i (Int.ofNat i_2) 4) = rioV q j (Int.ofNat i_2) 4) ∧ True) ∧ Nat.le (Nat.succ (rioMu n j)) (rioMu n i)) (True ∧ True ∧ V [XV.agg [CV.v (Value.int .i64 w), CV.v (Value.int .i64 h), CV.v (Value.bool false), CV.v (Value.int .u16 0), CV.v (Value.int .u16 0), CV.v (Value.int .u16 0), CV.v (Value.int .u16 0), CV.v (Value.int .u16 0), CV.v (Value.int .i64 w), CV.v (Value.int .i64 h), CV.v (Value.int .i64 w), CV.slc 1 (rioN w h) (QR.Row.fn fun (t : Int) (x : Nat) => CV.v (Value.int .u16 (rioV q i t 0))), CV.v (Value.int .i64 w), CV.v (Value.int .i64 h), CV.v (Value.int .i64 w), CV.slc 1 (rioN w h) (QR.Row.fn fun (t : Int) (x : Nat) => CV.v (Value.int .u16 (rioV q i t 1))), CV.v (Value.int .i64 w), CV.v (Value.int .i64 h), CV.v (Value.int .i64 w), CV.slc 1 (rioN w h) (QR.Row.fn fun (t : Int) (x : Nat) => CV.v (Value.int .u16 (rioV q i t 2))), CV.v (Value.int .i64 w), CV.v (Value.int .i64 h), CV.v (Value.int .i64 w), CV.slc 1 (rioN w h) (QR.Row.fn fun (t : Int) (x : Nat) => CV.v (Value.int .u16 (rioV q i t 3))), CV.v (Value.int .i64 w), CV.v (Value.int .i64 h), CV.v (Value.int .i64 w), CV.slc 1 (rioN w h) (QR.Row.fn fun (t : Int) (x : Nat) => CV.v (Value.int .u16 (rioV q i t 4)))], XV.c (CV.v (Value.bool true))] [])))) := by
  delta zz0 zz7 zz16 zz80 zz84
  try delta o_rio
  try delta s_fit
  generalize @fitB = fitB
  generalize @in64 = in64
  generalize @rioGood = rioGood
  generalize @rioMu = rioMu
  generalize @rioN = rioN
  generalize @rioV = rioV
  kernel_rfl
end Go.Proofs.Ytcckcifmhhaepaa
