/-
  Layer 9 (pixel): the conditions of the calls.
-/
import Derived.Test.YtgbhjdpjjhlbiaaDoorIa
namespace Go.Proofs.YtgbhjdpjjhlbiaaDoor
open Go.RowKit PR QR
set_option linter.unusedVariables false

-- SPEC pcOk bz tpB oqB p3 pvfB in3
def pcOk (o k m s0 s1 s2 sa sf d0 d1 d2 da df : Int) : Bool := (decide ((1 ≤ o ∧ o ≤ 12) ∧ (1 ≤ k ∧ k ≤ 12)) && (pvB s0 s1 s2 sa sf m && pvB d0 d1 d2 da df m)) && fullB m
def bz (ok : Bool) (x : Int) : Int := bif ok then x else 0
def tpB (c0 c1 c2 a f : Int) : Bool := decide (c0 = 0 ∧ c1 = 0 ∧ c2 = 0 ∧ a = 0 ∧ f = 0)
def oqB (c0 c1 c2 a f m : Int) : Bool := (fullB m && pvB c0 c1 c2 a f m) && decide (a = m)

def pvfB (c0 c1 c2 a f m : Int) : Bool := fullB m && pvB c0 c1 c2 a f m
def in3 (i : Int) : Bool := decide (0 ≤ i ∧ i ≤ 2)
def p3 (i x y z : Int) : Int := if i = 0 then x else if i = 1 then y else z

def s_transp : List AV → Option QR.Ans
  | [.x (.agg [.v (.int .u16 c0), .v (.int .u16 c1), .v (.int .u16 c2), .v (.int .u16 a), .v (.int .u16 f)])] => some ⟨[.c (.v (.bool (tpB c0 c1 c2 a f)))], [], []⟩
  | _ => none
def s_opaque : List AV → Option QR.Ans
  | [.x (.agg [.v (.int .u16 c0), .v (.int .u16 c1), .v (.int .u16 c2), .v (.int .u16 a), .v (.int .u16 f)]), .x (.c (.v (.int .u16 m)))] => some ⟨[.c (.v (.bool (oqB c0 c1 c2 a f m)))], [], []⟩
  | _ => none
def s_comp : List AV → Option QR.Ans
  | [.x (.c (.v (.int .i64 o))), .x (.c (.v (.int .i64 k))), .x (.c (.v (.int .u16 m))), .x (.agg [.v (.int .u16 s0), .v (.int .u16 s1), .v (.int .u16 s2), .v (.int .u16 sa), .v (.int .u16 sf)]), .x (.agg [.v (.int .u16 d0), .v (.int .u16 d1), .v (.int .u16 d2), .v (.int .u16 da), .v (.int .u16 df)])] => some ⟨[.agg [.v (.int .u16 (bz (pcOk o k m s0 s1 s2 sa sf d0 d1 d2 da df) (mcV o k m s0 sa d0 da))), .v (.int .u16 (bz (pcOk o k m s0 s1 s2 sa sf d0 d1 d2 da df) (mcV o k m s1 sa d1 da))), .v (.int .u16 (bz (pcOk o k m s0 s1 s2 sa sf d0 d1 d2 da df) (mcV o k m s2 sa d2 da))), .v (.int .u16 (bz (pcOk o k m s0 s1 s2 sa sf d0 d1 d2 da df) (alV o sa da m))), .v (.int .u16 (bz (pcOk o k m s0 s1 s2 sa sf d0 d1 d2 da df) (shV o sf df m)))], .c (.v (.bool (pcOk o k m s0 s1 s2 sa sf d0 d1 d2 da df)))], [], [in16 m = true, in16 s0 = true, in16 s1 = true, in16 s2 = true, in16 sa = true, in16 sf = true, in16 d0 = true, in16 d1 = true, in16 d2 = true, in16 da = true, in16 df = true]⟩
  | _ => none

def s_pvf : List AV → Option QR.Ans
  | [.x (.agg [.v (.int .u16 c0), .v (.int .u16 c1), .v (.int .u16 c2), .v (.int .u16 a), .v (.int .u16 f)]), .x (.c (.v (.int .u16 m)))] => some ⟨[.c (.v (.bool (pvfB c0 c1 c2 a f m)))], [], []⟩
  | _ => none
def s_pcol : List AV → Option QR.Ans
  | [.x (.c (.v (.int .i64 i))), .ref 0 [.v (.int .i64 o)], .ref 0 [.v (.int .i64 k)], .ref 0 [.v (.int .u16 m)], .ref 0 [.v (.int .u16 s0), .v (.int .u16 s1), .v (.int .u16 s2), .v (.int .u16 sa), .v (.int .u16 sf)], .ref 0 [.v (.int .u16 d0), .v (.int .u16 d1), .v (.int .u16 d2), .v (.int .u16 da), .v (.int .u16 df)]] => some ⟨[.c (.v (.int .u16 (mcV o k m (p3 i s0 s1 s2) sa (p3 i d0 d1 d2) da))), .c (.v (.bool (mxOk o k m (p3 i s0 s1 s2) sa (p3 i d0 d1 d2) da)))], [[.v (.int .i64 o)], [.v (.int .i64 k)], [.v (.int .u16 m)], [.v (.int .u16 s0), .v (.int .u16 s1), .v (.int .u16 s2), .v (.int .u16 sa), .v (.int .u16 sf)], [.v (.int .u16 d0), .v (.int .u16 d1), .v (.int .u16 d2), .v (.int .u16 da), .v (.int .u16 df)]], [in3 i = true, in16 m = true, in16 s0 = true, in16 s1 = true, in16 s2 = true, in16 sa = true, in16 d0 = true, in16 d1 = true, in16 d2 = true, in16 da = true]⟩
  | _ => none

def o_pvf : QR.Oracle := QR.orc [(34, QR.lift1 s_pvalid)]
def o_opq : QR.Oracle := QR.orc [(24, s_pvf)]
def o_pcol : QR.Oracle := QR.orc [(26, s_mcol)]
def o_comp : QR.Oracle := QR.orc [(24, s_pvf), (25, s_pcol), (27, s_oalpha), (28, s_oshape)]
set_option maxRecDepth 100000 in
theorem pvf_vc (c0 c1 c2 a f m : Int) (V : List QR.XV → List (List QR.CV) → Prop) : QR.evalBody Tryd.prog (o_pvf) (QR.noLoops) (Tryd.f24.body.getD .skip) Tryd.f24.results.toList Tryd.f24.ntmps [.x (.agg [.v (.int .u16 c0), .v (.int .u16 c1), .v (.int .u16 c2), .v (.int .u16 a), .v (.int .u16 f)]), .x (.c (.v (.int .u16 m)))] V = (True ∧ bcond (ieq m 255) (True ∧ True ∧ V [XV.c (CV.v (Value.bool (pvB c0 c1 c2 a f m)))] []) (bcond (ieq m 65535) (True ∧ True ∧ V [XV.c (CV.v (Value.bool (pvB c0 c1 c2 a f m)))] []) (True ∧ True ∧ V [XV.c (CV.v (Value.bool false))] []))) := by
  try delta o_pvf
  try delta s_pvalid
  generalize @pvB = pvB
  kernel_rfl
set_option maxRecDepth 100000 in
theorem transp_vc (c0 c1 c2 a f : Int) (V : List QR.XV → List (List QR.CV) → Prop) : QR.evalBody Tryd.prog (QR.orc []) (QR.noLoops) (Tryd.f14.body.getD .skip) Tryd.f14.results.toList Tryd.f14.ntmps [.x (.agg [.v (.int .u16 c0), .v (.int .u16 c1), .v (.int .u16 c2), .v (.int .u16 a), .v (.int .u16 f)])] V = (True ∧ True ∧ True ∧ V [XV.c (CV.v (Value.bool (band (band (ieq c0 0) (band (ieq c1 0) (band (ieq c2 0) true))) (band (ieq a 0) (band (ieq f 0) true)))))] []) := by
  kernel_rfl
set_option maxRecDepth 100000 in
theorem opaque_vc (c0 c1 c2 a f m : Int) (V : List QR.XV → List (List QR.CV) → Prop) : QR.evalBody Tryd.prog (o_opq) (QR.noLoops) (Tryd.f15.body.getD .skip) Tryd.f15.results.toList Tryd.f15.ntmps [.x (.agg [.v (.int .u16 c0), .v (.int .u16 c1), .v (.int .u16 c2), .v (.int .u16 a), .v (.int .u16 f)]), .x (.c (.v (.int .u16 m)))] V = (True ∧ bcond (pvfB c0 c1 c2 a f m) (True ∧ True ∧ V [XV.c (CV.v (Value.bool (ieq a m)))] []) (True ∧ True ∧ V [XV.c (CV.v (Value.bool false))] [])) := by
  try delta o_opq
  try delta s_pvf
  generalize @pvfB = pvfB
  kernel_rfl
set_option maxRecDepth 100000 in
theorem pcol_vc (i o k m s0 s1 s2 sa sf d0 d1 d2 da df : Int) (V : List QR.XV → List (List QR.CV) → Prop) : QR.evalBody Tryd.prog (o_pcol) (QR.noLoops) (Tryd.f25.body.getD .skip) Tryd.f25.results.toList Tryd.f25.ntmps [.x (.c (.v (.int .i64 i))), .ref 0 [.v (.int .i64 o)], .ref 0 [.v (.int .i64 k)], .ref 0 [.v (.int .u16 m)], .ref 0 [.v (.int .u16 s0), .v (.int .u16 s1), .v (.int .u16 s2), .v (.int .u16 sa), .v (.int .u16 sf)], .ref 0 [.v (.int .u16 d0), .v (.int .u16 d1), .v (.int .u16 d2), .v (.int .u16 da), .v (.int .u16 df)]] V = (True ∧ bcond (ieq i 0) (bcond (ieq i 0) (∀ (i : Int), i = mcV o k m s0 sa d0 da → (in16 m = true ∧ in16 s0 = true ∧ in16 sa = true ∧ in16 d0 = true ∧ in16 da = true ∧ true = true ∧ true = true ∧ true = true ∧ true = true ∧ True) ∧ True ∧ V [XV.c (CV.v (Value.int .u16 i)), XV.c (CV.v (Value.bool (mxOk o k m s0 sa d0 da)))] [[CV.v (Value.int .i64 o)], [CV.v (Value.int .i64 k)], [CV.v (Value.int .u16 m)], [CV.v (Value.int .u16 s0), CV.v (Value.int .u16 s1), CV.v (Value.int .u16 s2), CV.v (Value.int .u16 sa), CV.v (Value.int .u16 sf)], [CV.v (Value.int .u16 d0), CV.v (Value.int .u16 d1), CV.v (Value.int .u16 d2), CV.v (Value.int .u16 da), CV.v (Value.int .u16 df)]]) (bcond (ieq i 1) (∀ (i : Int), i = mcV o k m s0 sa d1 da → (in16 m = true ∧ in16 s0 = true ∧ in16 sa = true ∧ in16 d1 = true ∧ in16 da = true ∧ true = true ∧ true = true ∧ true = true ∧ true = true ∧ True) ∧ True ∧ V [XV.c (CV.v (Value.int .u16 i)), XV.c (CV.v (Value.bool (mxOk o k m s0 sa d1 da)))] [[CV.v (Value.int .i64 o)], [CV.v (Value.int .i64 k)], [CV.v (Value.int .u16 m)], [CV.v (Value.int .u16 s0), CV.v (Value.int .u16 s1), CV.v (Value.int .u16 s2), CV.v (Value.int .u16 sa), CV.v (Value.int .u16 sf)], [CV.v (Value.int .u16 d0), CV.v (Value.int .u16 d1), CV.v (Value.int .u16 d2), CV.v (Value.int .u16 da), CV.v (Value.int .u16 df)]]) (bcond (ieq i 2) (∀ (i : Int), i = mcV o k m s0 sa d2 da → (in16 m = true ∧ in16 s0 = true ∧ in16 sa = true ∧ in16 d2 = true ∧ in16 da = true ∧ true = true ∧ true = true ∧ true = true ∧ true = true ∧ True) ∧ True ∧ V [XV.c (CV.v (Value.int .u16 i)), XV.c (CV.v (Value.bool (mxOk o k m s0 sa d2 da)))] [[CV.v (Value.int .i64 o)], [CV.v (Value.int .i64 k)], [CV.v (Value.int .u16 m)], [CV.v (Value.int .u16 s0), CV.v (Value.int .u16 s1), CV.v (Value.int .u16 s2), CV.v (Value.int .u16 sa), CV.v (Value.int .u16 sf)], [CV.v (Value.int .u16 d0), CV.v (Value.int .u16 d1), CV.v (Value.int .u16 d2), CV.v (Value.int .u16 da), CV.v (Value.int .u16 df)]]) False))) (bcond (ieq i 1) (bcond (ieq i 0) (∀ (i : Int), i = mcV o k m s1 sa d0 da → (in16 m = true ∧ in16 s1 = true ∧ in16 sa = true ∧ in16 d0 = true ∧ in16 da = true ∧ true = true ∧ true = true ∧ true = true ∧ true = true ∧ True) ∧ True ∧ V [XV.c (CV.v (Value.int .u16 i)), XV.c (CV.v (Value.bool (mxOk o k m s1 sa d0 da)))] [[CV.v (Value.int .i64 o)], [CV.v (Value.int .i64 k)], [CV.v (Value.int .u16 m)], [CV.v (Value.int .u16 s0), CV.v (Value.int .u16 s1), CV.v (Value.int .u16 s2), CV.v (Value.int .u16 sa), CV.v (Value.int .u16 sf)], [CV.v (Value.int .u16 d0), CV.v (Value.int .u16 d1), CV.v (Value.int .u16 d2), CV.v (Value.int .u16 da), CV.v (Value.int .u16 df)]]) (bcond (ieq i 1) (∀ (i : Int), i = mcV o k m s1 sa d1 da → (in16 m = true ∧ in16 s1 = true ∧ in16 sa = true ∧ in16 d1 = true ∧ in16 da = true ∧ true = true ∧ true = true ∧ true = true ∧ true = true ∧ True) ∧ True ∧ V [XV.c (CV.v (Value.int .u16 i)), XV.c (CV.v (Value.bool (mxOk o k m s1 sa d1 da)))] [[CV.v (Value.int .i64 o)], [CV.v (Value.int .i64 k)], [CV.v (Value.int .u16 m)], [CV.v (Value.int .u16 s0), CV.v (Value.int .u16 s1), CV.v (Value.int .u16 s2), CV.v (Value.int .u16 sa), CV.v (Value.int .u16 sf)], [CV.v (Value.int .u16 d0), CV.v (Value.int .u16 d1), CV.v (Value.int .u16 d2), CV.v (Value.int .u16 da), CV.v (Value.int .u16 df)]]) (bcond (ieq i 2) (∀ (i : Int), i = mcV o k m s1 sa d2 da → (in16 m = true ∧ in16 s1 = true ∧ in16 sa = true ∧ in16 d2 = true ∧ in16 da = true ∧ true = true ∧ true = true ∧ true = true ∧ true = true ∧ True) ∧ True ∧ V [XV.c (CV.v (Value.int .u16 i)), XV.c (CV.v (Value.bool (mxOk o k m s1 sa d2 da)))] [[CV.v (Value.int .i64 o)], [CV.v (Value.int .i64 k)], [CV.v (Value.int .u16 m)], [CV.v (Value.int .u16 s0), CV.v (Value.int .u16 s1), CV.v (Value.int .u16 s2), CV.v (Value.int .u16 sa), CV.v (Value.int .u16 sf)], [CV.v (Value.int .u16 d0), CV.v (Value.int .u16 d1), CV.v (Value.int .u16 d2), CV.v (Value.int .u16 da), CV.v (Value.int .u16 df)]]) False))) (bcond (ieq i 2) (bcond (ieq i 0) (∀ (i : Int), i = mcV o k m s2 sa d0 da → (in16 m = true ∧ in16 s2 = true ∧ in16 sa = true ∧ in16 d0 = true ∧ in16 da = true ∧ true = true ∧ true = true ∧ true = true ∧ true = true ∧ True) ∧ True ∧ V [XV.c (CV.v (Value.int .u16 i)), XV.c (CV.v (Value.bool (mxOk o k m s2 sa d0 da)))] [[CV.v (Value.int .i64 o)], [CV.v (Value.int .i64 k)], [CV.v (Value.int .u16 m)], [CV.v (Value.int .u16 s0), CV.v (Value.int .u16 s1), CV.v (Value.int .u16 s2), CV.v (Value.int .u16 sa), CV.v (Value.int .u16 sf)], [CV.v (Value.int .u16 d0), CV.v (Value.int .u16 d1), CV.v (Value.int .u16 d2), CV.v (Value.int .u16 da), CV.v (Value.int .u16 df)]]) (bcond (ieq i 1) (∀ (i : Int), i = mcV o k m s2 sa d1 da → (in16 m = true ∧ in16 s2 = true ∧ in16 sa = true ∧ in16 d1 = true ∧ in16 da = true ∧ true = true ∧ true = true ∧ true = true ∧ true = true ∧ True) ∧ True ∧ V [XV.c (CV.v (Value.int .u16 i)), XV.c (CV.v (Value.bool (mxOk o k m s2 sa d1 da)))] [[CV.v (Value.int .i64 o)], [CV.v (Value.int .i64 k)], [CV.v (Value.int .u16 m)], [CV.v (Value.int .u16 s0), CV.v (Value.int .u16 s1), CV.v (Value.int .u16 s2), CV.v (Value.int .u16 sa), CV.v (Value.int .u16 sf)], [CV.v (Value.int .u16 d0), CV.v (Value.int .u16 d1), CV.v (Value.int .u16 d2), CV.v (Value.int .u16 da), CV.v (Value.int .u16 df)]]) (bcond (ieq i 2) (∀ (i : Int), i = mcV o k m s2 sa d2 da → (in16 m = true ∧ in16 s2 = true ∧ in16 sa = true ∧ in16 d2 = true ∧ in16 da = true ∧ true = true ∧ true = true ∧ true = true ∧ true = true ∧ True) ∧ True ∧ V [XV.c (CV.v (Value.int .u16 i)), XV.c (CV.v (Value.bool (mxOk o k m s2 sa d2 da)))] [[CV.v (Value.int .i64 o)], [CV.v (Value.int .i64 k)], [CV.v (Value.int .u16 m)], [CV.v (Value.int .u16 s0), CV.v (Value.int .u16 s1), CV.v (Value.int .u16 s2), CV.v (Value.int .u16 sa), CV.v (Value.int .u16 sf)], [CV.v (Value.int .u16 d0), CV.v (Value.int .u16 d1), CV.v (Value.int .u16 d2), CV.v (Value.int .u16 da), CV.v (Value.int .u16 df)]]) False))) False))) := by
  try delta o_pcol
  try delta s_mcol
  generalize @in16 = in16
  generalize @mcV = mcV
  generalize @mxOk = mxOk
  kernel_rfl
set_option maxRecDepth 100000 in
theorem comp_vc (o k m s0 s1 s2 sa sf d0 d1 d2 da df : Int) (V : List QR.XV → List (List QR.CV) → Prop) : QR.evalBody Tryd.prog (o_comp) (fun n => bif Nat.beq n 6 then some (.rounds 4) else none) (Tryd.f17.body.getD .skip) Tryd.f17.results.toList Tryd.f17.ntmps [.x (.c (.v (.int .i64 o))), .x (.c (.v (.int .i64 k))), .x (.c (.v (.int .u16 m))), .x (.agg [.v (.int .u16 s0), .v (.int .u16 s1), .v (.int .u16 s2), .v (.int .u16 sa), .v (.int .u16 sf)]), .x (.agg [.v (.int .u16 d0), .v (.int .u16 d1), .v (.int .u16 d2), .v (.int .u16 da), .v (.int .u16 df)])] V = (True ∧ bcond (bnot (pvfB s0 s1 s2 sa sf m)) (True ∧ True ∧ True ∧ V [XV.agg [CV.v (Value.int .u16 0), CV.v (Value.int .u16 0), CV.v (Value.int .u16 0), CV.v (Value.int .u16 0), CV.v (Value.int .u16 0)], XV.c (CV.v (Value.bool false))] []) (True ∧ bcond (bnot (pvfB d0 d1 d2 da df m)) (True ∧ True ∧ V [XV.agg [CV.v (Value.int .u16 0), CV.v (Value.int .u16 0), CV.v (Value.int .u16 0), CV.v (Value.int .u16 0), CV.v (Value.int .u16 0)], XV.c (CV.v (Value.bool false))] []) (True ∧ True ∧ True ∧ True ∧ True ∧ ∀ (i : Int), i = mcV o k m (p3 0 s0 s1 s2) sa (p3 0 d0 d1 d2) da → (in3 0 = true ∧ in16 m = true ∧ in16 s0 = true ∧ in16 s1 = true ∧ in16 s2 = true ∧ in16 sa = true ∧ in16 d0 = true ∧ in16 d1 = true ∧ in16 d2 = true ∧ in16 da = true ∧ True) ∧ True ∧ bcond (bnot (mxOk o k m (p3 0 s0 s1 s2) sa (p3 0 d0 d1 d2) da)) (True ∧ True ∧ V [XV.agg [CV.v (Value.int .u16 0), CV.v (Value.int .u16 0), CV.v (Value.int .u16 0), CV.v (Value.int .u16 0), CV.v (Value.int .u16 0)], XV.c (CV.v (Value.bool false))] []) ((true = true ∧ true = true ∧ True) ∧ True ∧ True ∧ True ∧ ∀ (i_1 : Int), i_1 = mcV o k m (p3 1 s0 s1 s2) sa (p3 1 d0 d1 d2) da → (in3 1 = true ∧ in16 m = true ∧ in16 s0 = true ∧ in16 s1 = true ∧ in16 s2 = true ∧ in16 sa = true ∧ in16 d0 = true ∧ in16 d1 = true ∧ in16 d2 = true ∧ in16 da = true ∧ True) ∧ True ∧ bcond (bnot (mxOk o k m (p3 1 s0 s1 s2) sa (p3 1 d0 d1 d2) da)) (True ∧ True ∧ V [XV.agg [CV.v (Value.int .u16 0), CV.v (Value.int .u16 0), CV.v (Value.int .u16 0), CV.v (Value.int .u16 0), CV.v (Value.int .u16 0)], XV.c (CV.v (Value.bool false))] []) ((true = true ∧ true = true ∧ True) ∧ True ∧ True ∧ True ∧ ∀ (i_2 : Int), i_2 = mcV o k m (p3 2 s0 s1 s2) sa (p3 2 d0 d1 d2) da → (in3 2 = true ∧ in16 m = true ∧ in16 s0 = true ∧ in16 s1 = true ∧ in16 s2 = true ∧ in16 sa = true ∧ in16 d0 = true ∧ in16 d1 = true ∧ in16 d2 = true ∧ in16 da = true ∧ True) ∧ True ∧ bcond (bnot (mxOk o k m (p3 2 s0 s1 s2) sa (p3 2 d0 d1 d2) da)) (True ∧ True ∧ V [XV.agg [CV.v (Value.int .u16 0), CV.v (Value.int .u16 0), CV.v (Value.int .u16 0), CV.v (Value.int .u16 0), CV.v (Value.int .u16 0)], XV.c (CV.v (Value.bool false))] []) ((true = true ∧ true = true ∧ True) ∧ True ∧ True ∧ ∀ (i_3 : Int), i_3 = alV o sa da m → (in16 sa = true ∧ in16 da = true ∧ in16 m = true ∧ True) ∧ ∀ (i_4 : Int), i_4 = shV o sf df m → (in16 sf = true ∧ in16 df = true ∧ in16 m = true ∧ True) ∧ True ∧ True ∧ V [XV.agg [CV.v (Value.int .u16 i), CV.v (Value.int .u16 i_1), CV.v (Value.int .u16 i_2), CV.v (Value.int .u16 i_3), CV.v (Value.int .u16 i_4)], XV.c (CV.v (Value.bool true))] [])))))) := by
  try delta o_comp
  try delta s_pvf
  try delta s_pcol
  try delta s_oalpha
  try delta s_oshape
  generalize @alV = alV
  generalize @in16 = in16
  generalize @in3 = in3
  generalize @mcV = mcV
  generalize @mxOk = mxOk
  generalize @p3 = p3
  generalize @pvfB = pvfB
  generalize @shV = shV
  kernel_rfl
def o_rcomp : QR.Oracle := QR.orc [(29, s_known7), (30, s_known6), (11, s_full8), (12, QR.lift1 s_pvalid), (31, s_oalpha), (32, s_oshape), (33, s_mcol)]
set_option maxRecDepth 100000 in
theorem rcomp_vc (o k m s0 s1 s2 sa sf d0 d1 d2 da df : Int) (V : List QR.XV → List (List QR.CV) → Prop) : QR.evalBody Tryd.prog (o_rcomp) (fun n => bif Nat.beq n 5 then some (.rounds 4) else none) (Tryd.f18.body.getD .skip) Tryd.f18.results.toList Tryd.f18.ntmps [.x (.c (.v (.int .i64 o))), .x (.c (.v (.int .i64 k))), .x (.c (.v (.int .u16 m))), .x (.agg [.v (.int .u16 s0), .v (.int .u16 s1), .v (.int .u16 s2), .v (.int .u16 sa), .v (.int .u16 sf)]), .x (.agg [.v (.int .u16 d0), .v (.int .u16 d1), .v (.int .u16 d2), .v (.int .u16 da), .v (.int .u16 df)])] V = (True ∧ bcond (bnot (band (ige o 1) (ile o 12))) (True ∧ True ∧ True ∧ V [XV.agg [CV.v (Value.int .u16 0), CV.v (Value.int .u16 0), CV.v (Value.int .u16 0), CV.v (Value.int .u16 0), CV.v (Value.int .u16 0)], XV.c (CV.v (Value.bool false))] []) (bcond (bnot (band (ige k 1) (ile k 12))) (True ∧ True ∧ True ∧ V [XV.agg [CV.v (Value.int .u16 0), CV.v (Value.int .u16 0), CV.v (Value.int .u16 0), CV.v (Value.int .u16 0), CV.v (Value.int .u16 0)], XV.c (CV.v (Value.bool false))] []) (bcond (bnot (fullB m)) (True ∧ True ∧ True ∧ V [XV.agg [CV.v (Value.int .u16 0), CV.v (Value.int .u16 0), CV.v (Value.int .u16 0), CV.v (Value.int .u16 0), CV.v (Value.int .u16 0)], XV.c (CV.v (Value.bool false))] []) (bcond (bnot (pvB s0 s1 s2 sa sf m)) (True ∧ True ∧ True ∧ V [XV.agg [CV.v (Value.int .u16 0), CV.v (Value.int .u16 0), CV.v (Value.int .u16 0), CV.v (Value.int .u16 0), CV.v (Value.int .u16 0)], XV.c (CV.v (Value.bool false))] []) (True ∧ bcond (bnot (pvB d0 d1 d2 da df m)) (True ∧ True ∧ V [XV.agg [CV.v (Value.int .u16 0), CV.v (Value.int .u16 0), CV.v (Value.int .u16 0), CV.v (Value.int .u16 0), CV.v (Value.int .u16 0)], XV.c (CV.v (Value.bool false))] []) (∀ (i : Int), i = alV o sa da m → ∀ (i_1 : Int), i_1 = shV o sf df m → (in16 sf = true ∧ in16 df = true ∧ in16 m = true ∧ in16 sa = true ∧ in16 da = true ∧ in16 m = true ∧ True) ∧ True ∧ True ∧ ∀ (i_2 : Int), i_2 = mcV o k m s0 sa d0 da → (true = true ∧ true = true ∧ in16 m = true ∧ in16 s0 = true ∧ in16 sa = true ∧ in16 d0 = true ∧ in16 da = true ∧ true = true ∧ true = true ∧ true = true ∧ true = true ∧ True) ∧ True ∧ True ∧ ∀ (i_3 : Int), i_3 = mcV o k m s1 sa d1 da → (true = true ∧ true = true ∧ in16 m = true ∧ in16 s1 = true ∧ in16 sa = true ∧ in16 d1 = true ∧ in16 da = true ∧ true = true ∧ true = true ∧ true = true ∧ true = true ∧ True) ∧ True ∧ True ∧ ∀ (i_4 : Int), i_4 = mcV o k m s2 sa d2 da → (true = true ∧ true = true ∧ in16 m = true ∧ in16 s2 = true ∧ in16 sa = true ∧ in16 d2 = true ∧ in16 da = true ∧ true = true ∧ true = true ∧ true = true ∧ true = true ∧ True) ∧ True ∧ True ∧ True ∧ True ∧ V [XV.agg [CV.v (Value.int .u16 i_2), CV.v (Value.int .u16 i_3), CV.v (Value.int .u16 i_4), CV.v (Value.int .u16 i), CV.v (Value.int .u16 i_1)], XV.c (CV.v (Value.bool true))] [])))))) := by
  try delta o_rcomp
  try delta s_known7
  try delta s_known6
  try delta s_full8
  try delta s_pvalid
  try delta s_oalpha
  try delta s_oshape
  try delta s_mcol
  generalize @alV = alV
  generalize @fullB = fullB
  generalize @in16 = in16
  generalize @mcV = mcV
  generalize @mxOk = mxOk
  generalize @pvB = pvB
  generalize @shV = shV
  kernel_rfl
end Go.Proofs.YtgbhjdpjjhlbiaaDoor
