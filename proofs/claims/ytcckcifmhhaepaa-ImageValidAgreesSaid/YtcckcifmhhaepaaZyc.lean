import Derived.Test.YtcckcifmhhaepaaZaa
import Derived.Test.YtcckcifmhhaepaaZyb
namespace Go.Proofs.Ytcckcifmhhaepaa
open Go.RowKit PR QR
set_option linter.unusedVariables false
set_option linter.unusedSimpArgs false
set_option maxRecDepth 20000
def plrN (a b c d : Int) : Nat := ((d - b) * (c - a)).toNat
def rvlGood (m : Im) (t : Int) (pre : List (List Int)) : Prop := ∀ v ∈ pre, pxB m t (nthI v 0) (nthI v 1) = true
def rpxGood (m : Im) (pre : List (List Int)) : Prop := True
def pxL (m : Im) (pre : List (List Int)) (i : Int) (k : Nat) : Int := pxV m k (nthI ((pre[i.toNat]?).getD []) 0) (nthI ((pre[i.toNat]?).getD []) 1)
def req (m n : Im) (pre : List (List Int)) : Prop := ∀ v ∈ pre, ∀ k : Nat, k < 5 → pxV m k (nthI v 0) (nthI v 1) = pxV n k (nthI v 0) (nthI v 1)
def rqW (m n : Im) : Int := bif m.sol && n.sol then 1 else m.w
def rqH (m n : Im) : Int := bif m.sol && n.sol then 1 else m.h
noncomputable def o_rng_val (m : Im) (t : Int) : QR.RAnn where
  ok v := plrOk 0 0 (vaW m) (vaH m) v
  S p := plrAll 0 0 (vaW m) (vaH m) p
  N := plrN 0 0 (vaW m) (vaH m)
  good p := rvlGood m t p
  slots := QR.slotsOf Try.f16.ntmps [(2, .x (.c (.ptr 100000000000001000 0))), (3, .x (.c (.ptr 100000000000001001 0))), (4, .x (.c (.ptr 100000000000001002 0)))]
  blocks p := [(100000000000001000, .cells (imC m)), (100000000000001001, .cells [.v (.int .u16 t)]), (100000000000001002, .cells [.v (.int .i64 0)])]
def o_ival : QR.Oracle := QR.orc [(41, s_fault), (43, s_varied), (42, s_plcI), (44, s_pvalid2), (45, s_pixelI)]
set_option maxRecDepth 100000 in
theorem ivalI_vc (m : Im) (t : Int) (V : List QR.XV → List (List QR.CV) → Prop) : QR.evalBodyT Try.prog (o_ival) (QR.noLoops) (fun n => bif Nat.beq n 7 then some (o_rng_val m t) else none) ((⟨itP, nthI, lnI, snocL, lenOkP⟩ : QR.IterW)) (Try.f16.body.getD .skip) Try.f16.results.toList Try.f16.ntmps [.x (.agg (imC m)), .x (.c (.v (.int .u16 t)))] V = (True ∧ ∀ (i : Int), i = imFt m → (zz12 m) ∧ True ∧ bcond (ine i 0) (True ∧ True ∧ V [XV.c (CV.v (Value.int .i64 i))] []) (∀ (i : Int), i = 0 → ∀ (i_1 : Int), i_1 = 0 → ∀ (i_2 : Int), i_2 = vaW m → ∀ (i_3 : Int), i_3 = vaH m → (zz44 m) ∧ True ∧ true = true ∧ itP 73 [[Value.int .i64 i, Value.int .i64 i_1, Value.int .i64 i_2, Value.int .i64 i_3]] (fun (v : List Int) => plrOk 0 0 (vaW m) (vaH m) v) (fun (p : List (List Int)) => plrAll 0 0 (vaW m) (vaH m) p) (plrN 0 0 (vaW m) (vaH m)) ∧ lenOkP (fun (v : List Int) => plrOk 0 0 (vaW m) (vaH m) v) 2 ∧ rvlGood m t [] ∧ (true = true ∧ ((true = true ∧ 0 = 0 ∧ 0 = 0) ∧ (true = true ∧ 1 = 1 ∧ 0 = 0) ∧ (true = true ∧ 2 = 2 ∧ 0 = 0) ∧ True) ∧ (zz1 m) ∧ ((IntKind.u16 = IntKind.u16 ∧ t = t) ∧ True) ∧ ((IntKind.i64 = IntKind.i64 ∧ (0 : Int) = 0) ∧ True) ∧ True) ∧ (∀ (pre : List (List Int)) (v : List Int), rvlGood m t pre → ilt (lnI pre) (Int.ofNat (plrN 0 0 (vaW m) (vaH m))) = true → plrOk 0 0 (vaW m) (vaH m) v → ∀ (i : Int), i = pxV m 0 (nthI v 0) (nthI v 1) → ∀ (i_4 : Int), i_4 = pxV m 1 (nthI v 0) (nthI v 1) → ∀ (i_5 : Int), i_5 = pxV m 2 (nthI v 0) (nthI v 1) → ∀ (i_6 : Int), i_6 = pxV m 3 (nthI v 0) (nthI v 1) → ∀ (i_7 : Int), i_7 = pxV m 4 (nthI v 0) (nthI v 1) → (zz108 m v) ∧ bcond (bnot (pvB i i_4 i_5 i_6 i_7 t)) (True ∧ True ∧ true = true ∧ True ∧ V [XV.c (CV.v (Value.int .i64 8))] []) (True ∧ rvlGood m t (snocL pre v) ∧ true = true ∧ True ∧ true = true ∧ True ∧ (zz1 m) ∧ ((IntKind.u16 = IntKind.u16 ∧ t = t) ∧ True) ∧ ((IntKind.i64 = IntKind.i64 ∧ (0 : Int) = 0) ∧ True) ∧ True)) ∧ ∀ (pre : List (List Int)), plrAll 0 0 (vaW m) (vaH m) pre → rvlGood m t pre → True ∧ True ∧ V [XV.c (CV.v (Value.int .i64 0))] [])) := by
  delta zz1 zz12 zz44 zz108
  try delta o_ival
  try delta s_fault
  try delta s_varied
  try delta s_plcI
  try delta s_pvalid2
  try delta s_pixelI
  try delta s_imOf
  generalize @imFt = imFt
  generalize @imG = imG
  generalize @imIn = imIn
  generalize @intRow = intRow
  generalize @itP = itP
  generalize @lenOkP = lenOkP
  generalize @lnI = lnI
  generalize @nthI = nthI
  generalize @plrAll = plrAll
  generalize @plrN = plrN
  generalize @plrOk = plrOk
  generalize @pvB = pvB
  generalize @pxV = pxV
  generalize @rvlGood = rvlGood
  generalize @snocL = snocL
  generalize @vaH = vaH
  generalize @vaW = vaW
  generalize @w2 = w2
  kernel_rfl
def o_iatI : QR.Oracle := QR.orc [(41, s_fault), (56, s_whole), (55, s_rcont), (45, s_pixelI)]
set_option maxRecDepth 100000 in
theorem iatI_vc (m : Im) (x y : Int) (V : List QR.XV → List (List QR.CV) → Prop) : QR.evalBody Try.prog (o_iatI) (QR.noLoops) (Try.f25.body.getD .skip) Try.f25.results.toList Try.f25.ntmps [.x (.agg (imC m)), .x (.c (.v (.int .i64 x))), .x (.c (.v (.int .i64 y)))] V = (True ∧ ∀ (i : Int), i = imFt m → bcond (ine i 0) ((zz12 m) ∧ True ∧ True ∧ V zz96 []) (∀ (i : Int), i = 0 → ∀ (i_1 : Int), i_1 = 0 → ∀ (i_2 : Int), i_2 = m.1 → ∀ (i_3 : Int), i_3 = m.2 → (intRow IntKind.u16 1 m.9.4 (QR.Row.fn fun (i : Int) (x : Nat) => CV.v (Value.int .u16 (m.9.5 i))) ∧ intRow IntKind.u16 1 m.10.4 (QR.Row.fn fun (i : Int) (x : Nat) => CV.v (Value.int .u16 (m.10.5 i))) ∧ intRow IntKind.u16 1 m.11.4 (QR.Row.fn fun (i : Int) (x : Nat) => CV.v (Value.int .u16 (m.11.5 i))) ∧ intRow IntKind.u16 1 m.12.4 (QR.Row.fn fun (i : Int) (x : Nat) => CV.v (Value.int .u16 (m.12.5 i))) ∧ intRow IntKind.u16 1 m.13.4 (QR.Row.fn fun (i : Int) (x : Nat) => CV.v (Value.int .u16 (m.13.5 i))) ∧ imG m ∧ intRow IntKind.u16 1 m.9.4 (QR.Row.fn fun (i : Int) (x : Nat) => CV.v (Value.int .u16 (m.9.5 i))) ∧ intRow IntKind.u16 1 m.10.4 (QR.Row.fn fun (i : Int) (x : Nat) => CV.v (Value.int .u16 (m.10.5 i))) ∧ intRow IntKind.u16 1 m.11.4 (QR.Row.fn fun (i : Int) (x : Nat) => CV.v (Value.int .u16 (m.11.5 i))) ∧ intRow IntKind.u16 1 m.12.4 (QR.Row.fn fun (i : Int) (x : Nat) => CV.v (Value.int .u16 (m.12.5 i))) ∧ intRow IntKind.u16 1 m.13.4 (QR.Row.fn fun (i : Int) (x : Nat) => CV.v (Value.int .u16 (m.13.5 i))) ∧ True) ∧ bcond (bnot (rcB i i_1 i_2 i_3 x y)) (True ∧ True ∧ V zz96 []) (∀ (i : Int), i = pxV m 0 x y → ∀ (i_4 : Int), i_4 = pxV m 1 x y → ∀ (i_5 : Int), i_5 = pxV m 2 x y → ∀ (i_6 : Int), i_6 = pxV m 3 x y → ∀ (i_7 : Int), i_7 = pxV m 4 x y → (zz81 m x y) ∧ True ∧ V (zz83 i i_4 i_5 i_6 i_7) []))) := by
  delta zz12 zz81 zz83 zz96
  try delta o_iatI
  try delta s_fault
  try delta s_whole
  try delta s_rcont
  try delta s_pixelI
  try delta s_imOf
  generalize @imFt = imFt
  generalize @imG = imG
  generalize @imIn = imIn
  generalize @intRow = intRow
  generalize @pxV = pxV
  generalize @rcB = rcB
  generalize @w2 = w2
  kernel_rfl
noncomputable def o_rng_pxs (m : Im) : QR.RAnn where
  ok v := plrOk 0 0 m.w m.h v
  S p := plrAll 0 0 m.w m.h p
  N := plrN 0 0 m.w m.h
  good p := rpxGood m p
  slots := QR.slotsOf Try.f28.ntmps [(1, .x (.c (.ptr 100000000000001000 0))), (3, .x (.c (.ptr 100000000000001001 0)))]
  blocks p := [(100000000000001000, .cells (imC m)), (100000000000001001, .cells [.own 1000000000000000 (lnI p)]), (1000000000000000, .row 5 (lnI p) (.fn fun i k => .v (.int .u16 (pxL m p i k))))]
def o_ipxsI : QR.Oracle := QR.orc [(41, s_fault), (56, s_whole), (42, s_plcI), (45, s_pixelI)]
set_option maxRecDepth 100000 in
theorem ipxsI_vc (m : Im) (V : List QR.XV → List (List QR.CV) → Prop) : QR.evalBodyT Try.prog (o_ipxsI) (QR.noLoops) (fun n => bif Nat.beq n 7 then some (o_rng_pxs m) else none) ((⟨itP, nthI, lnI, snocL, lenOkP⟩ : QR.IterW)) (Try.f28.body.getD .skip) Try.f28.results.toList Try.f28.ntmps [.x (.agg (imC m))] V = (True ∧ ∀ (i : Int), i = imFt m → (zz12 m) ∧ bcond (ine i 0) (True ∧ True ∧ V [XV.c (CV.v (Value.slice Option.none 0 0))] []) ((true = true ∧ ile 0 (imul IntKind.i64 m.1 m.2) = true ∧ ile (imulZ (imul IntKind.i64 m.1 m.2) 10) 140737488355328 = true ∧ ile (imul IntKind.i64 m.1 m.2) 140737488355328 = true ∧ True) ∧ ∀ (i : Int), i = 0 → ∀ (i_1 : Int), i_1 = 0 → ∀ (i_2 : Int), i_2 = m.1 → ∀ (i_3 : Int), i_3 = m.2 → (zz44 m) ∧ True ∧ true = true ∧ itP 73 [[Value.int .i64 i, Value.int .i64 i_1, Value.int .i64 i_2, Value.int .i64 i_3]] (fun (v : List Int) => plrOk 0 0 m.1 m.2 v) (fun (p : List (List Int)) => plrAll 0 0 m.1 m.2 p) (plrN 0 0 m.1 m.2) ∧ lenOkP (fun (v : List Int) => plrOk 0 0 m.1 m.2 v) 2 ∧ rpxGood m [] ∧ (true = true ∧ ((true = true ∧ 0 = 0 ∧ 0 = 0) ∧ (true = true ∧ 3078 = 3078 ∧ 0 = 0) ∧ True) ∧ (zz1 m) ∧ ((3077 = 3077 ∧ 0 = lnI []) ∧ True) ∧ (5 = 5 ∧ 0 = lnI [] ∧ ((((True ∧ ∀ (i : Nat), ilt (Int.ofNat i) 0 = true → IntKind.u16 = IntKind.u16 ∧ (0 : Int) = pxL m [] (Int.ofNat i) 0) ∧ ∀ (i : Nat), ilt (Int.ofNat i) 0 = true → IntKind.u16 = IntKind.u16 ∧ (0 : Int) = pxL m [] (Int.ofNat i) 1) ∧ ∀ (i : Nat), ilt (Int.ofNat i) 0 = true → IntKind.u16 = IntKind.u16 ∧ (0 : Int) = pxL m [] (Int.ofNat i) 2) ∧ ∀ (i : Nat), ilt (Int.ofNat i) 0 = true → IntKind.u16 = IntKind.u16 ∧ (0 : Int) = pxL m [] (Int.ofNat i) 3) ∧ ∀ (i : Nat), ilt (Int.ofNat i) 0 = true → IntKind.u16 = IntKind.u16 ∧ (0 : Int) = pxL m [] (Int.ofNat i) 4) ∧ True) ∧ (∀ (pre : List (List Int)) (v : List Int), rpxGood m pre → ilt (lnI pre) (Int.ofNat (plrN 0 0 m.1 m.2)) = true → plrOk 0 0 m.1 m.2 v → ∀ (i : Int), i = pxV m 0 (nthI v 0) (nthI v 1) → ∀ (i_4 : Int), i_4 = pxV m 1 (nthI v 0) (nthI v 1) → ∀ (i_5 : Int), i_5 = pxV m 2 (nthI v 0) (nthI v 1) → ∀ (i_6 : Int), i_6 = pxV m 3 (nthI v 0) (nthI v 1) → ∀ (i_7 : Int), i_7 = pxV m 4 (nthI v 0) (nthI v 1) → (ile (imulZ (addZ (lnI pre) 1) 10) 140737488355328 = true ∧ imG m ∧ imIn m (nthI v 0) (nthI v 1) = true ∧ intRow IntKind.u16 1 m.9.4 (QR.Row.fn fun (i : Int) (x : Nat) => CV.v (Value.int .u16 (m.9.5 i))) ∧ intRow IntKind.u16 1 m.10.4 (QR.Row.fn fun (i : Int) (x : Nat) => CV.v (Value.int .u16 (m.10.5 i))) ∧ intRow IntKind.u16 1 m.11.4 (QR.Row.fn fun (i : Int) (x : Nat) => CV.v (Value.int .u16 (m.11.5 i))) ∧ intRow IntKind.u16 1 m.12.4 (QR.Row.fn fun (i : Int) (x : Nat) => CV.v (Value.int .u16 (m.12.5 i))) ∧ intRow IntKind.u16 1 m.13.4 (QR.Row.fn fun (i : Int) (x : Nat) => CV.v (Value.int .u16 (m.13.5 i))) ∧ True) ∧ True ∧ rpxGood m (snocL pre v) ∧ true = true ∧ True ∧ true = true ∧ True ∧ (zz1 m) ∧ ((4201477 = 4201477 ∧ addZ (lnI pre) 1 = lnI (snocL pre v)) ∧ True) ∧ (5 = 5 ∧ addZ (lnI pre) 1 = lnI (snocL pre v) ∧ ((((True ∧ ∀ (i_8 : Nat), ilt (Int.ofNat i_8) (addZ (lnI pre) 1) = true → IntKind.u16 = IntKind.u16 ∧ isel (ilt (Int.ofNat i_8) (lnI pre)) (pxL m pre (Int.ofNat i_8) 0) (isel (ieq (subZ (Int.ofNat i_8) (lnI pre)) 0) i 0) = pxL m (snocL pre v) (Int.ofNat i_8) 0) ∧ ∀ (i : Nat), ilt (Int.ofNat i) (addZ (lnI pre) 1) = true → IntKind.u16 = IntKind.u16 ∧ isel (ilt (Int.ofNat i) (lnI pre)) (pxL m pre (Int.ofNat i) 1) (isel (ieq (subZ (Int.ofNat i) (lnI pre)) 0) i_4 0) = pxL m (snocL pre v) (Int.ofNat i) 1) ∧ ∀ (i : Nat), ilt (Int.ofNat i) (addZ (lnI pre) 1) = true → IntKind.u16 = IntKind.u16 ∧ isel (ilt (Int.ofNat i) (lnI pre)) (pxL m pre (Int.ofNat i) 2) (isel (ieq (subZ (Int.ofNat i) (lnI pre)) 0) i_5 0) = pxL m (snocL pre v) (Int.ofNat i) 2) ∧ ∀ (i : Nat), ilt (Int.ofNat i) (addZ (lnI pre) 1) = true → IntKind.u16 = IntKind.u16 ∧ isel (ilt (Int.ofNat i) (lnI pre)) (pxL m pre (Int.ofNat i) 3) (isel (ieq (subZ (Int.ofNat i) (lnI pre)) 0) i_6 0) = pxL m (snocL pre v) (Int.ofNat i) 3) ∧ ∀ (i : Nat), ilt (Int.ofNat i) (addZ (lnI pre) 1) = true → IntKind.u16 = IntKind.u16 ∧ isel (ilt (Int.ofNat i) (lnI pre)) (pxL m pre (Int.ofNat i) 4) (isel (ieq (subZ (Int.ofNat i) (lnI pre)) 0) i_7 0) = pxL m (snocL pre v) (Int.ofNat i) 4) ∧ True) ∧ ∀ (pre : List (List Int)), plrAll 0 0 m.1 m.2 pre → rpxGood m pre → True ∧ True ∧ V [XV.c (CV.fresh 5 (lnI pre) (QR.Row.fn fun (i : Int) (k : Nat) => CV.v (Value.int .u16 (pxL m pre i k))))] [])) := by
  delta zz1 zz12 zz44
  try delta o_ipxsI
  try delta s_fault
  try delta s_whole
  try delta s_plcI
  try delta s_pixelI
  try delta s_imOf
  generalize @imFt = imFt
  generalize @imG = imG
  generalize @imIn = imIn
  generalize @intRow = intRow
  generalize @itP = itP
  generalize @lenOkP = lenOkP
  generalize @lnI = lnI
  generalize @nthI = nthI
  generalize @plrAll = plrAll
  generalize @plrN = plrN
  generalize @plrOk = plrOk
  generalize @pxL = pxL
  generalize @pxV = pxV
  generalize @rpxGood = rpxGood
  generalize @snocL = snocL
  generalize @w2 = w2
  kernel_rfl
noncomputable def o_rng_ieq (m n : Im) : QR.RAnn where
  ok v := plrOk 0 0 (rqW m n) (rqH m n) v
  S p := plrAll 0 0 (rqW m n) (rqH m n) p
  N := plrN 0 0 (rqW m n) (rqH m n)
  good p := req m n p
  slots := QR.slotsOf Try.f30.ntmps [(2, .x (.c (.ptr 100000000000001000 0))), (3, .x (.c (.ptr 100000000000001001 0))), (4, .x (.c (.ptr 100000000000001002 0)))]
  blocks p := [(100000000000001000, .cells (imC m)), (100000000000001001, .cells (imC n)), (100000000000001002, .cells [.v (.bool false)])]
def o_ieqI : QR.Oracle := QR.orc [(41, s_fault), (43, s_varied), (58, s_rhull), (42, s_plcI), (45, s_pixelI)]
set_option maxRecDepth 100000 in
theorem ieqI_vc (m n : Im) (V : List QR.XV → List (List QR.CV) → Prop) : QR.evalBodyT Try.prog (o_ieqI) (QR.noLoops) (fun k => bif Nat.beq k 6 then some (o_rng_ieq m n) else none) ((⟨itP, nthI, lnI, snocL, lenOkP⟩ : QR.IterW)) (Try.f30.body.getD .skip) Try.f30.results.toList Try.f30.ntmps [.x (.agg (imC m)), .x (.agg (imC n))] V = (True ∧ ∀ (i : Int), i = imFt m → bcond (ine i 0) ((zz12 m) ∧ True ∧ True ∧ V [XV.c (CV.v (Value.bool false))] []) (∀ (i : Int), i = imFt n → bcond (ine i 0) ((zz18 n m) ∧ True ∧ True ∧ V [XV.c (CV.v (Value.bool false))] []) (bcond (ine m.1 n.1) ((zz18 n m) ∧ True ∧ True ∧ V [XV.c (CV.v (Value.bool false))] []) ((zz18 n m) ∧ bcond (ine m.2 n.2) (True ∧ True ∧ V [XV.c (CV.v (Value.bool false))] []) (∀ (i : Int), i = 0 → ∀ (i_1 : Int), i_1 = 0 → ∀ (i_2 : Int), i_2 = vaW m → ∀ (i_3 : Int), i_3 = vaH m → ∀ (i_4 : Int), i_4 = 0 → ∀ (i_5 : Int), i_5 = 0 → ∀ (i_6 : Int), i_6 = vaW n → ∀ (i_7 : Int), i_7 = vaH n → ∀ (i_8 : Int), i_8 = huR 0 2 (zz55 i i_1 i_2 i_3 i_4 i_5 i_6 i_7) → ∀ (i_9 : Int), i_9 = huR 1 2 (zz55 i i_1 i_2 i_3 i_4 i_5 i_6 i_7) → ∀ (i_10 : Int), i_10 = huR 2 2 (zz55 i i_1 i_2 i_3 i_4 i_5 i_6 i_7) → ∀ (i_11 : Int), i_11 = huR 3 2 (zz55 i i_1 i_2 i_3 i_4 i_5 i_6 i_7) → (intRow IntKind.i64 4 2 (zz55 i i_1 i_2 i_3 i_4 i_5 i_6 i_7) ∧ true = true ∧ true = true ∧ intRow IntKind.u16 1 n.9.4 (QR.Row.fn fun (i : Int) (x : Nat) => CV.v (Value.int .u16 (n.9.5 i))) ∧ intRow IntKind.u16 1 n.10.4 (QR.Row.fn fun (i : Int) (x : Nat) => CV.v (Value.int .u16 (n.10.5 i))) ∧ intRow IntKind.u16 1 n.11.4 (QR.Row.fn fun (i : Int) (x : Nat) => CV.v (Value.int .u16 (n.11.5 i))) ∧ intRow IntKind.u16 1 n.12.4 (QR.Row.fn fun (i : Int) (x : Nat) => CV.v (Value.int .u16 (n.12.5 i))) ∧ intRow IntKind.u16 1 n.13.4 (QR.Row.fn fun (i : Int) (x : Nat) => CV.v (Value.int .u16 (n.13.5 i))) ∧ intRow IntKind.u16 1 m.9.4 (QR.Row.fn fun (i : Int) (x : Nat) => CV.v (Value.int .u16 (m.9.5 i))) ∧ intRow IntKind.u16 1 m.10.4 (QR.Row.fn fun (i : Int) (x : Nat) => CV.v (Value.int .u16 (m.10.5 i))) ∧ intRow IntKind.u16 1 m.11.4 (QR.Row.fn fun (i : Int) (x : Nat) => CV.v (Value.int .u16 (m.11.5 i))) ∧ intRow IntKind.u16 1 m.12.4 (QR.Row.fn fun (i : Int) (x : Nat) => CV.v (Value.int .u16 (m.12.5 i))) ∧ intRow IntKind.u16 1 m.13.4 (QR.Row.fn fun (i : Int) (x : Nat) => CV.v (Value.int .u16 (m.13.5 i))) ∧ True) ∧ True ∧ true = true ∧ itP 73 [[Value.int .i64 i_8, Value.int .i64 i_9, Value.int .i64 i_10, Value.int .i64 i_11]] (fun (v : List Int) => plrOk 0 0 (rqW m n) (rqH m n) v) (fun (p : List (List Int)) => plrAll 0 0 (rqW m n) (rqH m n) p) (plrN 0 0 (rqW m n) (rqH m n)) ∧ lenOkP (fun (v : List Int) => plrOk 0 0 (rqW m n) (rqH m n) v) 2 ∧ req m n [] ∧ (true = true ∧ ((true = true ∧ 0 = 0 ∧ 0 = 0) ∧ (true = true ∧ 1 = 1 ∧ 0 = 0) ∧ (true = true ∧ 2 = 2 ∧ 0 = 0) ∧ True) ∧ (zz1 m) ∧ (zz1 n) ∧ (false = false ∧ True) ∧ True) ∧ (∀ (pre : List (List Int)) (v : List Int), req m n pre → ilt (lnI pre) (Int.ofNat (plrN 0 0 (rqW m n) (rqH m n))) = true → plrOk 0 0 (rqW m n) (rqH m n) v → ∀ (i : Int), i = pxV m 0 (nthI v 0) (nthI v 1) → ∀ (i_12 : Int), i_12 = pxV m 1 (nthI v 0) (nthI v 1) → ∀ (i_13 : Int), i_13 = pxV m 2 (nthI v 0) (nthI v 1) → ∀ (i_14 : Int), i_14 = pxV m 3 (nthI v 0) (nthI v 1) → ∀ (i_15 : Int), i_15 = pxV m 4 (nthI v 0) (nthI v 1) → ∀ (i_16 : Int), i_16 = pxV n 0 (nthI v 0) (nthI v 1) → ∀ (i_17 : Int), i_17 = pxV n 1 (nthI v 0) (nthI v 1) → ∀ (i_18 : Int), i_18 = pxV n 2 (nthI v 0) (nthI v 1) → ∀ (i_19 : Int), i_19 = pxV n 3 (nthI v 0) (nthI v 1) → ∀ (i_20 : Int), i_20 = pxV n 4 (nthI v 0) (nthI v 1) → (imG n ∧ imIn n (nthI v 0) (nthI v 1) = true ∧ intRow IntKind.u16 1 n.9.4 (QR.Row.fn fun (i : Int) (x : Nat) => CV.v (Value.int .u16 (n.9.5 i))) ∧ intRow IntKind.u16 1 n.10.4 (QR.Row.fn fun (i : Int) (x : Nat) => CV.v (Value.int .u16 (n.10.5 i))) ∧ intRow IntKind.u16 1 n.11.4 (QR.Row.fn fun (i : Int) (x : Nat) => CV.v (Value.int .u16 (n.11.5 i))) ∧ intRow IntKind.u16 1 n.12.4 (QR.Row.fn fun (i : Int) (x : Nat) => CV.v (Value.int .u16 (n.12.5 i))) ∧ intRow IntKind.u16 1 n.13.4 (QR.Row.fn fun (i : Int) (x : Nat) => CV.v (Value.int .u16 (n.13.5 i))) ∧ imG m ∧ imIn m (nthI v 0) (nthI v 1) = true ∧ intRow IntKind.u16 1 m.9.4 (QR.Row.fn fun (i : Int) (x : Nat) => CV.v (Value.int .u16 (m.9.5 i))) ∧ intRow IntKind.u16 1 m.10.4 (QR.Row.fn fun (i : Int) (x : Nat) => CV.v (Value.int .u16 (m.10.5 i))) ∧ intRow IntKind.u16 1 m.11.4 (QR.Row.fn fun (i : Int) (x : Nat) => CV.v (Value.int .u16 (m.11.5 i))) ∧ intRow IntKind.u16 1 m.12.4 (QR.Row.fn fun (i : Int) (x : Nat) => CV.v (Value.int .u16 (m.12.5 i))) ∧ intRow IntKind.u16 1 m.13.4 (QR.Row.fn fun (i : Int) (x : Nat) => CV.v (Value.int .u16 (m.13.5 i))) ∧ True) ∧ bcond (bnot (band (band (ieq i i_16) (band (ieq i_12 i_17) (band (ieq i_13 i_18) true))) (band (ieq i_14 i_19) (band (ieq i_15 i_20) true)))) (True ∧ True ∧ true = true ∧ True ∧ V [XV.c (CV.v (Value.bool false))] []) (True ∧ req m n (snocL pre v) ∧ true = true ∧ True ∧ true = true ∧ True ∧ (zz1 m) ∧ (zz1 n) ∧ (false = false ∧ True) ∧ True)) ∧ ∀ (pre : List (List Int)), plrAll 0 0 (rqW m n) (rqH m n) pre → req m n pre → True ∧ True ∧ V [XV.c (CV.v (Value.bool true))] []))))) := by
  delta zz1 zz12 zz18 zz55
  try delta o_ieqI
  try delta s_fault
  try delta s_varied
  try delta s_rhull
  try delta s_plcI
  try delta s_pixelI
  try delta s_imOf
  generalize @huR = huR
  generalize @imFt = imFt
  generalize @imG = imG
  generalize @imIn = imIn
  generalize @intRow = intRow
  generalize @itP = itP
  generalize @lenOkP = lenOkP
  generalize @lnI = lnI
  generalize @nthI = nthI
  generalize @plrAll = plrAll
  generalize @plrN = plrN
  generalize @plrOk = plrOk
  generalize @pxV = pxV
  generalize @req = req
  generalize @rqH = rqH
  generalize @rqW = rqW
  generalize @snocL = snocL
  generalize @vaH = vaH
  generalize @vaW = vaW
  generalize @w2 = w2
  kernel_rfl
end Go.Proofs.Ytcckcifmhhaepaa
