import Derived.Test.YtpjhdjakpbabhaaGreatDoorZaa
import Derived.Test.YtpjhdjakpbabhaaGreatDoorZ0
import Derived.Test.YtpjhdjakpbabhaaGreatDoorLa
import Derived.Test.YtpjhdjakpbabhaaGreatDoorKa
import Derived.Test.YtpjhdjakpbabhaaGreatDoorJc
namespace Go.Proofs.YtpjhdjakpbabhaaGreatDoor
open Go.RowKit PR QR
set_option linter.unusedVariables false
def gaF (n4 own m : Int) : Int := bif ieq (gmod own 4) 3 then gsV (iquo .i64 own 4) m else gpF n4 m
def gaO (n3 n4 own m : Int) : Int := gsV own (iimin (gpA n3 n4 m) (gaF n4 own m))
def s_va : List AV → Option QR.Ans
  | [.x (.agg [.v (.int .u16 c0), .v (.int .u16 c1), .v (.int .u16 c2), .v (.int .u16 a), .v (.int .u16 own), .v (.int .u16 f)]), .x (.agg [.v (.int .u16 k0), .v (.int .u16 k1), .v (.int .u16 k2), .v (.int .u16 ka), .v (.int .u16 kf)]), .x (.c (.v (.int .u16 m)))] => some ⟨[.c (.v (.bool (vaB c0 c1 c2 a own f k0 k1 k2 ka kf m)))], [], []⟩
  | _ => none
def s_gstep : List AV → Option QR.Ans
  | [.x (.c (.v (.bool kn))), .x (.c (.v (.int .i64 o))), .x (.c (.v (.int .i64 k))), .x (.c (.v (.int .u16 m))), .x (.agg [.v (.int .u16 s0), .v (.int .u16 s1), .v (.int .u16 s2), .v (.int .u16 sa), .v (.int .u16 sf)]), .x (.agg [.v (.int .u16 c0), .v (.int .u16 c1), .v (.int .u16 c2), .v (.int .u16 a), .v (.int .u16 own), .v (.int .u16 f)]), .x (.agg [.v (.int .u16 k0), .v (.int .u16 k1), .v (.int .u16 k2), .v (.int .u16 ka), .v (.int .u16 kf)])] => some ⟨[.agg [.v (.int .u16 (bz (gsOk kn o k m s0 s1 s2 sa sf c0 c1 c2 a own f k0 k1 k2 ka kf) (gsC kn o k m s0 sa sf c0 a k0 ka))), .v (.int .u16 (bz (gsOk kn o k m s0 s1 s2 sa sf c0 c1 c2 a own f k0 k1 k2 ka kf) (gsC kn o k m s1 sa sf c1 a k1 ka))), .v (.int .u16 (bz (gsOk kn o k m s0 s1 s2 sa sf c0 c1 c2 a own f k0 k1 k2 ka kf) (gsC kn o k m s2 sa sf c2 a k2 ka))), .v (.int .u16 (bz (gsOk kn o k m s0 s1 s2 sa sf c0 c1 c2 a own f k0 k1 k2 ka kf) (gsA kn o m sa sf a ka))), .v (.int .u16 (bz (gsOk kn o k m s0 s1 s2 sa sf c0 c1 c2 a own f k0 k1 k2 ka kf) (gsO kn o m sa sf own))), .v (.int .u16 (bz (gsOk kn o k m s0 s1 s2 sa sf c0 c1 c2 a own f k0 k1 k2 ka kf) (gsF o m sf f)))], .c (.v (.bool (gsOk kn o k m s0 s1 s2 sa sf c0 c1 c2 a own f k0 k1 k2 ka kf)))], [], [in16 m = true, in16 s0 = true, in16 s1 = true, in16 s2 = true, in16 sa = true, in16 sf = true, in16 c0 = true, in16 c1 = true, in16 c2 = true, in16 a = true, in16 own = true, in16 f = true, in16 k0 = true, in16 k1 = true, in16 k2 = true, in16 ka = true, in16 kf = true]⟩
  | _ => none
def s_gres : List AV → Option QR.Ans
  | [.x (.agg [.v (.int .u16 c0), .v (.int .u16 c1), .v (.int .u16 c2), .v (.int .u16 a), .v (.int .u16 own), .v (.int .u16 f)]), .x (.agg [.v (.int .u16 k0), .v (.int .u16 k1), .v (.int .u16 k2), .v (.int .u16 ka), .v (.int .u16 kf)]), .x (.c (.v (.int .u16 m)))] => some ⟨[.agg [.v (.int .u16 (grV (vaB c0 c1 c2 a own f k0 k1 k2 ka kf m) c0 k0 own m)), .v (.int .u16 (grV (vaB c0 c1 c2 a own f k0 k1 k2 ka kf m) c1 k1 own m)), .v (.int .u16 (grV (vaB c0 c1 c2 a own f k0 k1 k2 ka kf m) c2 k2 own m)), .v (.int .u16 (bz (vaB c0 c1 c2 a own f k0 k1 k2 ka kf m) own)), .v (.int .u16 (bz (vaB c0 c1 c2 a own f k0 k1 k2 ka kf m) f))], .c (.v (.bool (vaB c0 c1 c2 a own f k0 k1 k2 ka kf m)))], [], [in16 m = true, in16 c0 = true, in16 c1 = true, in16 c2 = true, in16 a = true, in16 own = true, in16 f = true, in16 k0 = true, in16 k1 = true, in16 k2 = true, in16 ka = true, in16 kf = true]⟩
  | _ => none
def s_gback : List AV → Option QR.Ans
  | [.x (.agg [.v (.int .i64 n0), .v (.int .i64 n1), .v (.int .i64 n2), .v (.int .i64 n3), .v (.int .i64 n4)]), .x (.c (.v (.int .u16 m)))] => some ⟨[.agg [.v (.int .u16 (gpC n0 n3 n4 m)), .v (.int .u16 (gpC n1 n3 n4 m)), .v (.int .u16 (gpC n2 n3 n4 m)), .v (.int .u16 (gpA n3 n4 m)), .v (.int .u16 (gpA n3 n4 m))]], [], [in16 m = true]⟩
  | _ => none
def s_gaccum : List AV → Option QR.Ans
  | [.x (.agg [.v (.int .i64 n0), .v (.int .i64 n1), .v (.int .i64 n2), .v (.int .i64 n3), .v (.int .i64 n4)]), .x (.c (.v (.int .i64 own))), .x (.c (.v (.int .u16 m)))] => some ⟨[.agg [.v (.int .u16 (gpC n0 n3 n4 m)), .v (.int .u16 (gpC n1 n3 n4 m)), .v (.int .u16 (gpC n2 n3 n4 m)), .v (.int .u16 (gpA n3 n4 m)), .v (.int .u16 (gaO n3 n4 own m)), .v (.int .u16 (gaF n4 own m))]], [], [in16 m = true]⟩
  | _ => none
def adOk (o k m s0 s1 s2 sa c0 c1 c2 a : Int) : Bool := mxOk o k m s0 sa c0 a && (mxOk o k m s1 sa c1 a && mxOk o k m s2 sa c2 a)
def rpOk (k m s0 s1 s2 sa sf c0 c1 c2 k0 k1 k2 ka : Int) : Bool := knOk k m s0 sa sf c0 k0 ka && (knOk k m s1 sa sf c1 k1 ka && knOk k m s2 sa sf c2 k2 ka)
def rmV (m own c d : Int) : Int := bif igt ((m - own) * d) (m * c) then 0 else iconv .u16 (hlf (m * c - (m - own) * d) m)
def s_gben : List AV → Option QR.Ans
  | [.x (.agg [.v (.int .u16 c0), .v (.int .u16 c1), .v (.int .u16 c2), .v (.int .u16 a), .v (.int .u16 own), .v (.int .u16 f)])] => some ⟨[.agg [.v (.int .u16 (c0)), .v (.int .u16 (c1)), .v (.int .u16 (c2)), .v (.int .u16 (a)), .v (.int .u16 (a))]], [], []⟩
  | _ => none
def s_gadd : List AV → Option QR.Ans
  | [.x (.c (.v (.int .i64 o))), .x (.c (.v (.int .i64 k))), .x (.c (.v (.int .u16 m))), .x (.agg [.v (.int .u16 s0), .v (.int .u16 s1), .v (.int .u16 s2), .v (.int .u16 sa), .v (.int .u16 sf)]), .x (.agg [.v (.int .u16 c0), .v (.int .u16 c1), .v (.int .u16 c2), .v (.int .u16 a), .v (.int .u16 own), .v (.int .u16 f)])] => some ⟨[.agg [.v (.int .u16 (bz (adOk o k m s0 s1 s2 sa c0 c1 c2 a) (mcV o k m s0 sa c0 a))), .v (.int .u16 (bz (adOk o k m s0 s1 s2 sa c0 c1 c2 a) (mcV o k m s1 sa c1 a))), .v (.int .u16 (bz (adOk o k m s0 s1 s2 sa c0 c1 c2 a) (mcV o k m s2 sa c2 a))), .v (.int .u16 (bz (adOk o k m s0 s1 s2 sa c0 c1 c2 a) (alV o sa a m))), .v (.int .u16 (bz (adOk o k m s0 s1 s2 sa c0 c1 c2 a) (alV o sa own m))), .v (.int .u16 (bz (adOk o k m s0 s1 s2 sa c0 c1 c2 a) (shV o sf f m)))], .c (.v (.bool (adOk o k m s0 s1 s2 sa c0 c1 c2 a)))], [], [in16 m = true, in16 s0 = true, in16 s1 = true, in16 s2 = true, in16 sa = true, in16 sf = true, in16 c0 = true, in16 c1 = true, in16 c2 = true, in16 a = true, in16 own = true, in16 f = true]⟩
  | _ => none
def s_grep : List AV → Option QR.Ans
  | [.x (.c (.v (.int .i64 k))), .x (.c (.v (.int .u16 m))), .x (.agg [.v (.int .u16 s0), .v (.int .u16 s1), .v (.int .u16 s2), .v (.int .u16 sa), .v (.int .u16 sf)]), .x (.agg [.v (.int .u16 c0), .v (.int .u16 c1), .v (.int .u16 c2), .v (.int .u16 a), .v (.int .u16 own), .v (.int .u16 f)]), .x (.agg [.v (.int .u16 k0), .v (.int .u16 k1), .v (.int .u16 k2), .v (.int .u16 ka), .v (.int .u16 kf)])] => some ⟨[.agg [.v (.int .u16 (bz (rpOk k m s0 s1 s2 sa sf c0 c1 c2 k0 k1 k2 ka) (kcV k m s0 sa sf c0 k0 ka))), .v (.int .u16 (bz (rpOk k m s0 s1 s2 sa sf c0 c1 c2 k0 k1 k2 ka) (kcV k m s1 sa sf c1 k1 ka))), .v (.int .u16 (bz (rpOk k m s0 s1 s2 sa sf c0 c1 c2 k0 k1 k2 ka) (kcV k m s2 sa sf c2 k2 ka))), .v (.int .u16 (bz (rpOk k m s0 s1 s2 sa sf c0 c1 c2 k0 k1 k2 ka) (kaV m sa sf a ka))), .v (.int .u16 (bz (rpOk k m s0 s1 s2 sa sf c0 c1 c2 k0 k1 k2 ka) (kaV m sa sf own 0))), .v (.int .u16 (bz (rpOk k m s0 s1 s2 sa sf c0 c1 c2 k0 k1 k2 ka) (shV 4 sf f m)))], .c (.v (.bool (rpOk k m s0 s1 s2 sa sf c0 c1 c2 k0 k1 k2 ka)))], [], [in16 m = true, in16 s0 = true, in16 s1 = true, in16 s2 = true, in16 sa = true, in16 sf = true, in16 c0 = true, in16 c1 = true, in16 c2 = true, in16 a = true, in16 own = true, in16 f = true, in16 k0 = true, in16 k1 = true, in16 k2 = true, in16 ka = true, in16 kf = true]⟩
  | _ => none
def s_grm : List AV → Option QR.Ans
  | [.x (.c (.v (.int .u16 m))), .x (.c (.v (.int .u16 own))), .x (.c (.v (.int .u16 c))), .x (.c (.v (.int .u16 d)))] => some ⟨[.c (.v (.int .u16 (rmV m own c d)))], [], [in16 m = true, in16 own = true, in16 c = true, in16 d = true, ile own m = true]⟩
  | _ => none
def o_gva : QR.Oracle := QR.orc [(59, s_pvalid2), (88, s_gben)]
def o_gadd : QR.Oracle := QR.orc [(39, s_oshape), (38, s_oalpha), (37, s_mcol)]
def o_grep : QR.Oracle := QR.orc [(39, s_oshape), (92, s_kcol), (90, s_kalpha), (91, s_kown)]
def o_gstep : QR.Oracle := QR.orc [(51, s_va), (59, s_pvalid2), (60, s_gadd), (61, s_grep)]
def o_grm : QR.Oracle := QR.orc [(93, QR.lift1 s_half)]
def o_gres : QR.Oracle := QR.orc [(51, s_va), (62, s_grm)]
set_option maxRecDepth 100000 in
theorem gben_vc (c0 c1 c2 a own f : Int) (V : List QR.XV → List (List QR.CV) → Prop) : QR.evalBody Tryz.prog (QR.orc []) (QR.noLoops) (Tryz.f88.body.getD .skip) Tryz.f88.results.toList Tryz.f88.ntmps [.x (.agg [.v (.int .u16 c0), .v (.int .u16 c1), .v (.int .u16 c2), .v (.int .u16 a), .v (.int .u16 own), .v (.int .u16 f)])] V = (True ∧ True ∧ True ∧ V [XV.agg [CV.v (Value.int .u16 c0), CV.v (Value.int .u16 c1), CV.v (Value.int .u16 c2), CV.v (Value.int .u16 a), CV.v (Value.int .u16 a)]] []) := by
  kernel_rfl
set_option maxRecDepth 100000 in
theorem gva_vc (c0 c1 c2 a own f k0 k1 k2 ka kf m : Int) (V : List QR.XV → List (List QR.CV) → Prop) : QR.evalBody Tryz.prog (o_gva) (QR.noLoops) (Tryz.f51.body.getD .skip) Tryz.f51.results.toList Tryz.f51.ntmps [.x (.agg [.v (.int .u16 c0), .v (.int .u16 c1), .v (.int .u16 c2), .v (.int .u16 a), .v (.int .u16 own), .v (.int .u16 f)]), .x (.agg [.v (.int .u16 k0), .v (.int .u16 k1), .v (.int .u16 k2), .v (.int .u16 ka), .v (.int .u16 kf)]), .x (.c (.v (.int .u16 m)))] V = (True ∧ bcond (ine m 255) (True ∧ bcond (ine m 65535) (True ∧ True ∧ V [XV.c (CV.v (Value.bool false))] []) (bcond (ine kf ka) (True ∧ True ∧ True ∧ V [XV.c (CV.v (Value.bool false))] []) (True ∧ bcond (bnot (pvB k0 k1 k2 ka kf m)) (True ∧ True ∧ V [XV.c (CV.v (Value.bool false))] []) (∀ (i : Int), i = c0 → ∀ (i_1 : Int), i_1 = c1 → ∀ (i_2 : Int), i_2 = c2 → ∀ (i_3 : Int), i_3 = a → ∀ (i_4 : Int), i_4 = a → bcond (pvB i i_1 i_2 i_3 i_4 m) (bcond (ile own a) (bcond (ile own f) (True ∧ True ∧ V [XV.c (CV.v (Value.bool (ile f m)))] []) (True ∧ True ∧ V [XV.c (CV.v (Value.bool false))] [])) (True ∧ True ∧ V [XV.c (CV.v (Value.bool false))] [])) (True ∧ True ∧ V [XV.c (CV.v (Value.bool false))] []))))) (True ∧ bcond (ine kf ka) (True ∧ True ∧ True ∧ V [XV.c (CV.v (Value.bool false))] []) (True ∧ bcond (bnot (pvB k0 k1 k2 ka kf m)) (True ∧ True ∧ V [XV.c (CV.v (Value.bool false))] []) (∀ (i : Int), i = c0 → ∀ (i_1 : Int), i_1 = c1 → ∀ (i_2 : Int), i_2 = c2 → ∀ (i_3 : Int), i_3 = a → ∀ (i_4 : Int), i_4 = a → bcond (pvB i i_1 i_2 i_3 i_4 m) (bcond (ile own a) (bcond (ile own f) (True ∧ True ∧ V [XV.c (CV.v (Value.bool (ile f m)))] []) (True ∧ True ∧ V [XV.c (CV.v (Value.bool false))] [])) (True ∧ True ∧ V [XV.c (CV.v (Value.bool false))] [])) (True ∧ True ∧ V [XV.c (CV.v (Value.bool false))] []))))) := by
  try delta o_gva
  try delta s_pvalid2
  try delta s_gben
  generalize @pvB = pvB
  kernel_rfl
set_option maxRecDepth 100000 in
theorem gadd_vc (o k m s0 s1 s2 sa sf c0 c1 c2 a own f : Int) (V : List QR.XV → List (List QR.CV) → Prop) : QR.evalBody Tryz.prog (o_gadd) (fun n => bif Nat.beq n 3 then some (.rounds 4) else none) (Tryz.f60.body.getD .skip) Tryz.f60.results.toList Tryz.f60.ntmps [.x (.c (.v (.int .i64 o))), .x (.c (.v (.int .i64 k))), .x (.c (.v (.int .u16 m))), .x (.agg [.v (.int .u16 s0), .v (.int .u16 s1), .v (.int .u16 s2), .v (.int .u16 sa), .v (.int .u16 sf)]), .x (.agg [.v (.int .u16 c0), .v (.int .u16 c1), .v (.int .u16 c2), .v (.int .u16 a), .v (.int .u16 own), .v (.int .u16 f)])] V = (True ∧ ∀ (i : Int), i = alV o sa a m → ∀ (i_1 : Int), i_1 = alV o sa own m → ∀ (i_2 : Int), i_2 = shV o sf f m → (in16 sf = true ∧ in16 f = true ∧ in16 m = true ∧ in16 sa = true ∧ in16 own = true ∧ in16 m = true ∧ in16 sa = true ∧ in16 a = true ∧ in16 m = true ∧ True) ∧ True ∧ True ∧ (true = true ∧ true = true ∧ True) ∧ ∀ (i_3 : Int), i_3 = mcV o k m s0 sa c0 a → (in16 m = true ∧ in16 s0 = true ∧ in16 sa = true ∧ in16 c0 = true ∧ in16 a = true ∧ true = true ∧ true = true ∧ True) ∧ True ∧ bcond (bnot (mxOk o k m s0 sa c0 a)) (True ∧ True ∧ V zz266 []) ((true = true ∧ true = true ∧ True) ∧ True ∧ True ∧ (true = true ∧ true = true ∧ True) ∧ ∀ (i_4 : Int), i_4 = mcV o k m s1 sa c1 a → (in16 m = true ∧ in16 s1 = true ∧ in16 sa = true ∧ in16 c1 = true ∧ in16 a = true ∧ true = true ∧ true = true ∧ True) ∧ True ∧ bcond (bnot (mxOk o k m s1 sa c1 a)) (True ∧ True ∧ V zz266 []) ((true = true ∧ true = true ∧ True) ∧ True ∧ True ∧ (true = true ∧ true = true ∧ True) ∧ ∀ (i_5 : Int), i_5 = mcV o k m s2 sa c2 a → (in16 m = true ∧ in16 s2 = true ∧ in16 sa = true ∧ in16 c2 = true ∧ in16 a = true ∧ true = true ∧ true = true ∧ True) ∧ True ∧ bcond (bnot (mxOk o k m s2 sa c2 a)) (True ∧ True ∧ V zz266 []) ((true = true ∧ true = true ∧ True) ∧ True ∧ True ∧ True ∧ True ∧ V [XV.agg (zz303 i_3 i_4 i_5 i i_1 i_2), XV.c (CV.v (Value.bool true))] [])))) := by
  delta zz266 zz303
  try delta o_gadd
  try delta s_oshape
  try delta s_oalpha
  try delta s_mcol
  generalize @alV = alV
  generalize @in16 = in16
  generalize @mcV = mcV
  generalize @mxOk = mxOk
  generalize @shV = shV
  kernel_rfl
set_option maxRecDepth 100000 in
theorem grep_vc (k m s0 s1 s2 sa sf c0 c1 c2 a own f k0 k1 k2 ka kf : Int) (V : List QR.XV → List (List QR.CV) → Prop) : QR.evalBody Tryz.prog (o_grep) (fun n => bif Nat.beq n 5 then some (.rounds 4) else none) (Tryz.f61.body.getD .skip) Tryz.f61.results.toList Tryz.f61.ntmps [.x (.c (.v (.int .i64 k))), .x (.c (.v (.int .u16 m))), .x (.agg [.v (.int .u16 s0), .v (.int .u16 s1), .v (.int .u16 s2), .v (.int .u16 sa), .v (.int .u16 sf)]), .x (.agg [.v (.int .u16 c0), .v (.int .u16 c1), .v (.int .u16 c2), .v (.int .u16 a), .v (.int .u16 own), .v (.int .u16 f)]), .x (.agg [.v (.int .u16 k0), .v (.int .u16 k1), .v (.int .u16 k2), .v (.int .u16 ka), .v (.int .u16 kf)])] V = (True ∧ ∀ (i : Int), i = shV 4 sf f m → (in16 sf = true ∧ in16 f = true ∧ in16 m = true ∧ True) ∧ ∀ (i_1 : Int), i_1 = kaV m sa sf a ka → (in16 m = true ∧ in16 sa = true ∧ in16 sf = true ∧ in16 a = true ∧ in16 ka = true ∧ True) ∧ ∀ (i_2 : Int), i_2 = kaV m sa sf own 0 → (in16 m = true ∧ in16 sa = true ∧ in16 sf = true ∧ in16 own = true ∧ True) ∧ True ∧ True ∧ (true = true ∧ true = true ∧ True) ∧ ∀ (i_3 : Int), i_3 = kcV k m s0 sa sf c0 k0 ka → (zz304 m s0 sa sf c0 k0 ka) ∧ True ∧ bcond (bnot (knOk k m s0 sa sf c0 k0 ka)) (True ∧ True ∧ V zz266 []) ((true = true ∧ true = true ∧ True) ∧ True ∧ True ∧ (true = true ∧ true = true ∧ True) ∧ ∀ (i_4 : Int), i_4 = kcV k m s1 sa sf c1 k1 ka → (zz304 m s1 sa sf c1 k1 ka) ∧ True ∧ bcond (bnot (knOk k m s1 sa sf c1 k1 ka)) (True ∧ True ∧ V zz266 []) ((true = true ∧ true = true ∧ True) ∧ True ∧ True ∧ (true = true ∧ true = true ∧ True) ∧ ∀ (i_5 : Int), i_5 = kcV k m s2 sa sf c2 k2 ka → (zz304 m s2 sa sf c2 k2 ka) ∧ True ∧ bcond (bnot (knOk k m s2 sa sf c2 k2 ka)) (True ∧ True ∧ V zz266 []) ((true = true ∧ true = true ∧ True) ∧ True ∧ True ∧ True ∧ True ∧ V [XV.agg (zz303 i_3 i_4 i_5 i_1 i_2 i), XV.c (CV.v (Value.bool true))] [])))) := by
  delta zz266 zz303 zz304
  try delta o_grep
  try delta s_oshape
  try delta s_kcol
  try delta s_kalpha
  try delta s_kown
  generalize @in16 = in16
  generalize @kaOk = kaOk
  generalize @kaV = kaV
  generalize @kcV = kcV
  generalize @knOk = knOk
  generalize @shV = shV
  kernel_rfl
set_option maxRecDepth 100000 in
theorem grm_vc (m own c d : Int) (V : List QR.XV → List (List QR.CV) → Prop) : QR.evalBody Tryz.prog (o_grm) (QR.noLoops) (Tryz.f62.body.getD .skip) Tryz.f62.results.toList Tryz.f62.ntmps [.x (.c (.v (.int .u16 m))), .x (.c (.v (.int .u16 own))), .x (.c (.v (.int .u16 c))), .x (.c (.v (.int .u16 d)))] V = (True ∧ True ∧ True ∧ bcond (igt (imul IntKind.u64 (iconv IntKind.u64 (isub IntKind.u16 m own)) (iconv IntKind.u64 d)) (imul IntKind.u64 (iconv IntKind.u64 m) (iconv IntKind.u64 c))) (True ∧ True ∧ V [XV.c (CV.v (Value.int .u16 0))] []) (∀ (i : Int), i = hlf (isub IntKind.u64 (imul IntKind.u64 (iconv IntKind.u64 m) (iconv IntKind.u64 c)) (imul IntKind.u64 (iconv IntKind.u64 (isub IntKind.u16 m own)) (iconv IntKind.u64 d))) (iconv IntKind.u64 m) → (inU (isub IntKind.u64 (imul IntKind.u64 (iconv IntKind.u64 m) (iconv IntKind.u64 c)) (imul IntKind.u64 (iconv IntKind.u64 (isub IntKind.u16 m own)) (iconv IntKind.u64 d))) = true ∧ inU (iconv IntKind.u64 m) = true ∧ True) ∧ True ∧ V [XV.c (CV.v (Value.int .u16 (iconv IntKind.u16 i)))] [])) := by
  try delta o_grm
  try delta s_half
  generalize @hlf = hlf
  generalize @inU = inU
  kernel_rfl
set_option maxRecDepth 100000 in
theorem gstepT_vc (o k m s0 s1 s2 sa sf c0 c1 c2 a own f k0 k1 k2 ka kf : Int) (V : List QR.XV → List (List QR.CV) → Prop) : QR.evalBody Tryz.prog (o_gstep) (QR.noLoops) (Tryz.f19.body.getD .skip) Tryz.f19.results.toList Tryz.f19.ntmps [.x (.c (.v (.bool true))), .x (.c (.v (.int .i64 o))), .x (.c (.v (.int .i64 k))), .x (.c (.v (.int .u16 m))), .x (.agg [.v (.int .u16 s0), .v (.int .u16 s1), .v (.int .u16 s2), .v (.int .u16 sa), .v (.int .u16 sf)]), .x (.agg [.v (.int .u16 c0), .v (.int .u16 c1), .v (.int .u16 c2), .v (.int .u16 a), .v (.int .u16 own), .v (.int .u16 f)]), .x (.agg [.v (.int .u16 k0), .v (.int .u16 k1), .v (.int .u16 k2), .v (.int .u16 ka), .v (.int .u16 kf)])] V = (True ∧ bcond (bnot (vaB c0 c1 c2 a own f k0 k1 k2 ka kf m)) (True ∧ True ∧ True ∧ V zz266 []) (True ∧ bcond (bnot (pvB s0 s1 s2 sa sf m)) (True ∧ True ∧ V zz266 []) (True ∧ True ∧ bcond (ine o 4) (True ∧ True ∧ V zz266 []) (∀ (i : Int), i = bz (rpOk k m s0 s1 s2 sa sf c0 c1 c2 k0 k1 k2 ka) (kcV k m s0 sa sf c0 k0 ka) → ∀ (i_1 : Int), i_1 = bz (rpOk k m s0 s1 s2 sa sf c0 c1 c2 k0 k1 k2 ka) (kcV k m s1 sa sf c1 k1 ka) → ∀ (i_2 : Int), i_2 = bz (rpOk k m s0 s1 s2 sa sf c0 c1 c2 k0 k1 k2 ka) (kcV k m s2 sa sf c2 k2 ka) → ∀ (i_3 : Int), i_3 = bz (rpOk k m s0 s1 s2 sa sf c0 c1 c2 k0 k1 k2 ka) (kaV m sa sf a ka) → ∀ (i_4 : Int), i_4 = bz (rpOk k m s0 s1 s2 sa sf c0 c1 c2 k0 k1 k2 ka) (kaV m sa sf own 0) → ∀ (i_5 : Int), i_5 = bz (rpOk k m s0 s1 s2 sa sf c0 c1 c2 k0 k1 k2 ka) (shV 4 sf f m) → (in16 m = true ∧ in16 s0 = true ∧ in16 s1 = true ∧ in16 s2 = true ∧ in16 sa = true ∧ in16 sf = true ∧ in16 c0 = true ∧ in16 c1 = true ∧ (zz302 c2 a own f k0 k1 k2 ka kf)) ∧ True ∧ V [XV.agg (zz303 i i_1 i_2 i_3 i_4 i_5), XV.c (CV.v (Value.bool (rpOk k m s0 s1 s2 sa sf c0 c1 c2 k0 k1 k2 ka)))] [])))) := by
  delta zz266 zz302 zz303
  try delta o_gstep
  try delta s_va
  try delta s_pvalid2
  try delta s_gadd
  try delta s_grep
  generalize @adOk = adOk
  generalize @alV = alV
  generalize @bz = bz
  generalize @in16 = in16
  generalize @kaV = kaV
  generalize @kcV = kcV
  generalize @mcV = mcV
  generalize @pvB = pvB
  generalize @rpOk = rpOk
  generalize @shV = shV
  generalize @vaB = vaB
  kernel_rfl
set_option maxRecDepth 100000 in
theorem gstepF_vc (o k m s0 s1 s2 sa sf c0 c1 c2 a own f k0 k1 k2 ka kf : Int) (V : List QR.XV → List (List QR.CV) → Prop) : QR.evalBody Tryz.prog (o_gstep) (QR.noLoops) (Tryz.f19.body.getD .skip) Tryz.f19.results.toList Tryz.f19.ntmps [.x (.c (.v (.bool false))), .x (.c (.v (.int .i64 o))), .x (.c (.v (.int .i64 k))), .x (.c (.v (.int .u16 m))), .x (.agg [.v (.int .u16 s0), .v (.int .u16 s1), .v (.int .u16 s2), .v (.int .u16 sa), .v (.int .u16 sf)]), .x (.agg [.v (.int .u16 c0), .v (.int .u16 c1), .v (.int .u16 c2), .v (.int .u16 a), .v (.int .u16 own), .v (.int .u16 f)]), .x (.agg [.v (.int .u16 k0), .v (.int .u16 k1), .v (.int .u16 k2), .v (.int .u16 ka), .v (.int .u16 kf)])] V = (True ∧ bcond (bnot (vaB c0 c1 c2 a own f k0 k1 k2 ka kf m)) (True ∧ True ∧ True ∧ V zz266 []) (True ∧ bcond (bnot (pvB s0 s1 s2 sa sf m)) (True ∧ True ∧ V zz266 []) (True ∧ ∀ (i : Int), i = bz (adOk o k m s0 s1 s2 sa c0 c1 c2 a) (mcV o k m s0 sa c0 a) → ∀ (i_1 : Int), i_1 = bz (adOk o k m s0 s1 s2 sa c0 c1 c2 a) (mcV o k m s1 sa c1 a) → ∀ (i_2 : Int), i_2 = bz (adOk o k m s0 s1 s2 sa c0 c1 c2 a) (mcV o k m s2 sa c2 a) → ∀ (i_3 : Int), i_3 = bz (adOk o k m s0 s1 s2 sa c0 c1 c2 a) (alV o sa a m) → ∀ (i_4 : Int), i_4 = bz (adOk o k m s0 s1 s2 sa c0 c1 c2 a) (alV o sa own m) → ∀ (i_5 : Int), i_5 = bz (adOk o k m s0 s1 s2 sa c0 c1 c2 a) (shV o sf f m) → (in16 m = true ∧ in16 s0 = true ∧ in16 s1 = true ∧ (zz302 s2 sa sf c0 c1 c2 a own f)) ∧ True ∧ V [XV.agg (zz303 i i_1 i_2 i_3 i_4 i_5), XV.c (CV.v (Value.bool (adOk o k m s0 s1 s2 sa c0 c1 c2 a)))] []))) := by
  delta zz266 zz302 zz303
  try delta o_gstep
  try delta s_va
  try delta s_pvalid2
  try delta s_gadd
  try delta s_grep
  generalize @adOk = adOk
  generalize @alV = alV
  generalize @bz = bz
  generalize @in16 = in16
  generalize @kaV = kaV
  generalize @kcV = kcV
  generalize @mcV = mcV
  generalize @pvB = pvB
  generalize @rpOk = rpOk
  generalize @shV = shV
  generalize @vaB = vaB
  kernel_rfl
set_option maxRecDepth 100000 in
theorem gres_vc (c0 c1 c2 a own f k0 k1 k2 ka kf m : Int) (V : List QR.XV → List (List QR.CV) → Prop) : QR.evalBody Tryz.prog (o_gres) (fun n => bif Nat.beq n 5 then some (.rounds 4) else none) (Tryz.f20.body.getD .skip) Tryz.f20.results.toList Tryz.f20.ntmps [.x (.agg [.v (.int .u16 c0), .v (.int .u16 c1), .v (.int .u16 c2), .v (.int .u16 a), .v (.int .u16 own), .v (.int .u16 f)]), .x (.agg [.v (.int .u16 k0), .v (.int .u16 k1), .v (.int .u16 k2), .v (.int .u16 ka), .v (.int .u16 kf)]), .x (.c (.v (.int .u16 m)))] V = (True ∧ True ∧ bcond (bnot (vaB c0 c1 c2 a own f k0 k1 k2 ka kf m)) (True ∧ True ∧ V [XV.agg [CV.v (Value.int .u16 0), CV.v (Value.int .u16 0), CV.v (Value.int .u16 0), CV.v (Value.int .u16 0), CV.v (Value.int .u16 0)], XV.c (CV.v (Value.bool false))] []) (True ∧ True ∧ True ∧ (true = true ∧ true = true ∧ True) ∧ ∀ (i : Int), i = rmV m own c0 k0 → ∀ (i_1 : Int), i_1 = iimin i own → (true = true ∧ true = true ∧ in16 m = true ∧ in16 own = true ∧ in16 c0 = true ∧ in16 k0 = true ∧ ile own m = true ∧ true = true ∧ true = true ∧ True) ∧ True ∧ True ∧ (true = true ∧ true = true ∧ True) ∧ ∀ (i : Int), i = rmV m own c1 k1 → ∀ (i_2 : Int), i_2 = iimin i own → (true = true ∧ true = true ∧ in16 m = true ∧ in16 own = true ∧ in16 c1 = true ∧ in16 k1 = true ∧ ile own m = true ∧ true = true ∧ true = true ∧ True) ∧ True ∧ True ∧ (true = true ∧ true = true ∧ True) ∧ ∀ (i : Int), i = rmV m own c2 k2 → ∀ (i_3 : Int), i_3 = iimin i own → (true = true ∧ true = true ∧ in16 m = true ∧ in16 own = true ∧ in16 c2 = true ∧ in16 k2 = true ∧ ile own m = true ∧ true = true ∧ true = true ∧ True) ∧ True ∧ True ∧ True ∧ True ∧ V [XV.agg [CV.v (Value.int .u16 i_1), CV.v (Value.int .u16 i_2), CV.v (Value.int .u16 i_3), CV.v (Value.int .u16 own), CV.v (Value.int .u16 f)], XV.c (CV.v (Value.bool true))] [])) := by
  try delta o_gres
  try delta s_va
  try delta s_grm
  generalize @in16 = in16
  generalize @rmV = rmV
  generalize @vaB = vaB
  kernel_rfl
def o_gback : QR.Oracle := QR.orc [(25, s_gpixel2)]
def o_gaccum : QR.Oracle := QR.orc [(25, s_gpixel2), (8, QR.lift1 s_mod), (47, s_gsample2)]
set_option maxRecDepth 100000 in
theorem gback_vc (n0 n1 n2 n3 n4 m : Int) (V : List QR.XV → List (List QR.CV) → Prop) : QR.evalBody Tryz.prog (o_gback) (QR.noLoops) (Tryz.f16.body.getD .skip) Tryz.f16.results.toList Tryz.f16.ntmps [.x (.agg [.v (.int .i64 n0), .v (.int .i64 n1), .v (.int .i64 n2), .v (.int .i64 n3), .v (.int .i64 n4)]), .x (.c (.v (.int .u16 m)))] V = (True ∧ ∀ (i : Int), i = gpC n0 n3 n4 m → ∀ (i_1 : Int), i_1 = gpC n1 n3 n4 m → ∀ (i_2 : Int), i_2 = gpC n2 n3 n4 m → ∀ (i_3 : Int), i_3 = gpA n3 n4 m → ∀ (i_4 : Int), i_4 = gpF n4 m → (in16 m = true ∧ True) ∧ True ∧ True ∧ True ∧ V [XV.agg [CV.v (Value.int .u16 i), CV.v (Value.int .u16 i_1), CV.v (Value.int .u16 i_2), CV.v (Value.int .u16 i_3), CV.v (Value.int .u16 i_3)]] []) := by
  try delta o_gback
  try delta s_gpixel2
  generalize @gpA = gpA
  generalize @gpC = gpC
  generalize @gpF = gpF
  generalize @in16 = in16
  kernel_rfl
set_option maxRecDepth 100000 in
theorem gaccum_vc (n0 n1 n2 n3 n4 own m : Int) (V : List QR.XV → List (List QR.CV) → Prop) : QR.evalBody Tryz.prog (o_gaccum) (QR.noLoops) (Tryz.f14.body.getD .skip) Tryz.f14.results.toList Tryz.f14.ntmps [.x (.agg [.v (.int .i64 n0), .v (.int .i64 n1), .v (.int .i64 n2), .v (.int .i64 n3), .v (.int .i64 n4)]), .x (.c (.v (.int .i64 own))), .x (.c (.v (.int .u16 m)))] V = (True ∧ ∀ (i : Int), i = gpC n0 n3 n4 m → ∀ (i_1 : Int), i_1 = gpC n1 n3 n4 m → ∀ (i_2 : Int), i_2 = gpC n2 n3 n4 m → ∀ (i_3 : Int), i_3 = gpA n3 n4 m → ∀ (i_4 : Int), i_4 = gpF n4 m → (in16 m = true ∧ True) ∧ True ∧ ∀ (i_5 : Int), i_5 = gmod own 4 → (modOk 4 = true ∧ True) ∧ bcond (ieq i_5 3) (∀ (i_6 : Int), i_6 = gsV (iquo IntKind.i64 own 4) m → (in16 m = true ∧ true = true ∧ True) ∧ ∀ (i_7 : Int), i_7 = iimin i_3 i_6 → ∀ (i_8 : Int), i_8 = gsV own i_7 → (in16 i_7 = true ∧ True) ∧ True ∧ V [XV.agg [CV.v (Value.int .u16 i), CV.v (Value.int .u16 i_1), CV.v (Value.int .u16 i_2), CV.v (Value.int .u16 i_3), CV.v (Value.int .u16 i_8), CV.v (Value.int .u16 i_6)]] []) (∀ (i_6 : Int), i_6 = iimin i_3 i_4 → ∀ (i_7 : Int), i_7 = gsV own i_6 → (in16 i_6 = true ∧ True) ∧ True ∧ V [XV.agg [CV.v (Value.int .u16 i), CV.v (Value.int .u16 i_1), CV.v (Value.int .u16 i_2), CV.v (Value.int .u16 i_3), CV.v (Value.int .u16 i_7), CV.v (Value.int .u16 i_4)]] [])) := by
  try delta o_gaccum
  try delta s_gpixel2
  try delta s_mod
  try delta s_gsample2
  generalize @gmod = gmod
  generalize @gpA = gpA
  generalize @gpC = gpC
  generalize @gpF = gpF
  generalize @gsV = gsV
  generalize @in16 = in16
  generalize @modOk = modOk
  kernel_rfl
end Go.Proofs.YtpjhdjakpbabhaaGreatDoor
