import Derived.Test.YtcckcifmhhaepaaZaa
import Derived.Test.YtcckcifmhhaepaaZw
namespace Go.Proofs.Ytcckcifmhhaepaa
open Go.RowKit PR QR
set_option linter.unusedVariables false
set_option linter.unusedSimpArgs false
set_option maxRecDepth 20000
def o_vdB1 : QR.Oracle := QR.orc [(16, s_ime), (18, s_ime), (11, s_gmax2), (17, QR.lift1 s_mod), (13, s_gimg), (12, s_gstr1), (15, s_yes15), (14, s_cover15)]
def zz103 (fz0 : Im) (fz1 : Im) : Prop := (e64 fz0.1 fz1.1 ∧ e64 fz0.2 fz1.2 ∧ fz0.3 = fz1.3 ∧ e16 fz0.4 fz1.4 ∧ e16 fz0.5 fz1.5 ∧ e16 fz0.6 fz1.6 ∧ e16 fz0.7 fz1.7 ∧ e16 fz0.8 fz1.8 ∧ e64 fz0.9.1 fz1.9.1 ∧ e64 fz0.9.2 fz1.9.2 ∧ e64 fz0.9.3 fz1.9.3 ∧ eP fz0.9 fz1.9 ∧ e64 fz0.10.1 fz1.10.1 ∧ e64 fz0.10.2 fz1.10.2 ∧ e64 fz0.10.3 fz1.10.3 ∧ (2053 = 2053 ∧ fz0.10.4 = fz1.10.4) ∧ e64 fz0.11.1 fz1.11.1 ∧ e64 fz0.11.2 fz1.11.2 ∧ e64 fz0.11.3 fz1.11.3 ∧ eP fz0.11 fz1.11 ∧ e64 fz0.12.1 fz1.12.1 ∧ e64 fz0.12.2 fz1.12.2 ∧ e64 fz0.12.3 fz1.12.3 ∧ eP fz0.12 fz1.12 ∧ e64 fz0.13.1 fz1.13.1 ∧ e64 fz0.13.2 fz1.13.2 ∧ e64 fz0.13.3 fz1.13.3 ∧ eP fz0.13 fz1.13 ∧ True)
def zz129 (fz0 : Im) : Prop := (imG fz0 ∧ iR fz0.9 ∧ iR fz0.10 ∧ iR fz0.11 ∧ iR fz0.12 ∧ iR fz0.13 ∧ imG fz0 ∧ iR fz0.9 ∧ iR fz0.10 ∧ iR fz0.11 ∧ iR fz0.12 ∧ iR fz0.13 ∧ True)
def zz173 (fz0 : Im) (fz1 : Im) : Prop := e64 fz0.11.1 fz1.11.1 ∧ e64 fz0.11.2 fz1.11.2 ∧ e64 fz0.11.3 fz1.11.3 ∧ eP fz0.11 fz1.11 ∧ e64 fz0.12.1 fz1.12.1 ∧ e64 fz0.12.2 fz1.12.2 ∧ e64 fz0.12.3 fz1.12.3 ∧ eP fz0.12 fz1.12 ∧ e64 fz0.13.1 fz1.13.1 ∧ e64 fz0.13.2 fz1.13.2 ∧ e64 fz0.13.3 fz1.13.3 ∧ eP fz0.13 fz1.13 ∧ True
set_option maxRecDepth 100000 in
theorem ImageZwb1_vc (pW pH pS pM : Int) (pn : Int) (pq : Int → Nat → Int) (what by' mx : Int) (v : Int) (eW eH : Int) (eO : Bool) (e0 e1 e2 eA eF : Int) (ew0 eh0 es0 : Int) (en0 : Int) (el0 : Int → Nat → Int) (ew1 eh1 es1 : Int) (en1 : Int) (el1 : Int → Nat → Int) (ew2 eh2 es2 : Int) (en2 : Int) (el2 : Int → Nat → Int) (ew3 eh3 es3 : Int) (en3 : Int) (el3 : Int → Nat → Int) (ew4 eh4 es4 : Int) (en4 : Int) (el4 : Int → Nat → Int) (V : List QR.XV → List (List QR.CV) → Prop) : QR.evalBody Try.prog (o_vdB1) (fun n_ => bif Nat.beq n_ 700007 then some (.cuts [o_inv_v1b1 1 5 pW pH pS pM pn pq by' mx v eW eH eO e0 e1 e2 eA eF ew0 eh0 es0 en0 el0 ew1 eh1 es1 en1 el1 ew2 eh2 es2 en2 el2 ew3 eh3 es3 en3 el3 ew4 eh4 es4 en4 el4, o_inv_v1b1 1 7 pW pH pS pM pn pq by' mx v eW eH eO e0 e1 e2 eA eF ew0 eh0 es0 en0 el0 ew1 eh1 es1 en1 el1 ew2 eh2 es2 en2 el2 ew3 eh3 es3 en3 el3 ew4 eh4 es4 en4 el4]) else bif Nat.beq n_ 700024 then some (.cutZ [([(14, 11), (14, 15), (14, 19), (14, 23), (14, 27)], o_inv_v2 mx eW eH eO e0 e1 e2 eA eF ew0 eh0 es0 en0 el0 ew1 eh1 es1 en1 el1 ew2 eh2 es2 en2 el2 ew3 eh3 es3 en3 el3 ew4 eh4 es4 en4 el4)]) else none) (Try.f3.body.getD .skip) Try.f3.results.toList Try.f3.ntmps [.x (.agg [.v (.int .i64 pW), .v (.int .i64 pH), .v (.int .i64 pS), .v (.int .i64 pM), .slc 5 pn (.fn fun i j => .v (.int .i64 (pq i j)))]), .x (.c (.v (.int .i64 what))), .x (.c (.v (.int .i64 by'))), .x (.c (.v (.int .i64 mx))), .x (.c (.v (.int .u16 v))), .x (.agg [.v (.int .i64 eW), .v (.int .i64 eH), .v (.bool eO), .v (.int .u16 e0), .v (.int .u16 e1), .v (.int .u16 e2), .v (.int .u16 eA), .v (.int .u16 eF), .v (.int .i64 ew0), .v (.int .i64 eh0), .v (.int .i64 es0), .slc 1 en0 (.fn fun i j => .v (.int .u16 (el0 i j))), .v (.int .i64 ew1), .v (.int .i64 eh1), .v (.int .i64 es1), .slc 1 en1 (.fn fun i j => .v (.int .u16 (el1 i j))), .v (.int .i64 ew2), .v (.int .i64 eh2), .v (.int .i64 es2), .slc 1 en2 (.fn fun i j => .v (.int .u16 (el2 i j))), .v (.int .i64 ew3), .v (.int .i64 eh3), .v (.int .i64 es3), .slc 1 en3 (.fn fun i j => .v (.int .u16 (el3 i j))), .v (.int .i64 ew4), .v (.int .i64 eh4), .v (.int .i64 es4), .slc 1 en4 (.fn fun i j => .v (.int .u16 (el4 i j)))])] V = (share (e64 eW eW ∧ e64 eH eH ∧ eO = eO ∧ e16 e0 e0 ∧ e16 e1 e1 ∧ e16 e2 e2 ∧ e16 eA eA ∧ e16 eF eF ∧ e64 ew0 ew0 ∧ e64 eh0 eh0 ∧ e64 es0 es0 ∧ (zz21 en0 el0) ∧ e64 ew1 ew1 ∧ e64 eh1 eh1 ∧ e64 es1 es1 ∧ (zz21 en1 el1) ∧ e64 ew2 ew2 ∧ e64 eh2 eh2 ∧ e64 es2 es2 ∧ (zz21 en2 el2) ∧ e64 ew3 ew3 ∧ e64 eh3 eh3 ∧ e64 es3 es3 ∧ (zz21 en3 el3) ∧ e64 ew4 ew4 ∧ e64 eh4 eh4 ∧ e64 es4 es4 ∧ (zz21 en4 el4) ∧ True) fun (mQ : Prop) => True ∧ ∀ (i : Int), i = gxMax mx → True ∧ ∀ (i_1 : Int), i_1 = 0 → ∀ (i_2 : Int), i_2 = 0 → ∀ (i_3 : Int), i_3 = 3 → ∀ (i_4 : Int), i_4 = 2 → share (gimV pW pH pS pM pn pq i_1 i_2 i_3 i_4 i) fun (mA : Im) => share (gstV mA by') fun (mB : Im) => (imG mA ∧ imOk mA = true ∧ mA.3 = false ∧ iR mA.9 ∧ iR mA.10 ∧ iR mA.11 ∧ iR mA.12 ∧ iR mA.13 ∧ iQ .i64 5 pn pq ∧ ile 0 pn = true ∧ in16 i = true ∧ gcv i_1 i_2 i_3 i_4 = true ∧ True) ∧ ∀ (i_5 : Int), i_5 = imE mB i → (imG mB ∧ iR mB.9 ∧ iR mB.10 ∧ iR mB.11 ∧ iR mB.12 ∧ iR mB.13 ∧ True) ∧ bcond (ine i_5 0) (True ∧ True ∧ V [XV.c (CV.v (Value.bool false))] []) (∀ (i_6 : Int), i_6 = gmod by' 5 → (modOk 5 = true ∧ True) ∧ ((∀ (i_7 : Int), i_7 = gmod what 9 → (modOk 9 = true ∧ True) ∧ ((∃ (i_8 : Im), vdG pW pH pS pM pn pq by' mx i_8 ∧ True ∧ true = true ∧ ((true = true ∧ IntKind.i64 = IntKind.i64 ∧ by' = by') ∧ (true = true ∧ IntKind.u16 = IntKind.u16 ∧ v = v) ∧ (true = true ∧ 1 = 1 ∧ 0 = 0) ∧ (true = true ∧ IntKind.u16 = IntKind.u16 ∧ i = gxMax mx) ∧ (true = true ∧ 2054 = 2054 ∧ 0 = 0) ∧ (true = true ∧ IntKind.i64 = IntKind.i64 ∧ i_6 = 1) ∧ (true = true ∧ IntKind.i64 = IntKind.i64 ∧ i_7 = 5) ∧ True) ∧ mQ ∧ (zz103 mB i_8) ∧ eP mB.10 i_8.10 ∧ True) ∨ (∃ (i_8 : Im), vdG pW pH pS pM pn pq by' mx i_8 ∧ True ∧ true = true ∧ (zz146 by' v i mx i_6 i_7) ∧ mQ ∧ (zz103 mB i_8) ∧ eP mB.10 i_8.10 ∧ True) ∨ False)) ∧ (∀ (i : Im), vdG pW pH pS pM pn pq by' mx i → True ∧ True ∧ True ∧ True ∧ True ∧ True ∧ ∀ (i_7 : Int), i_7 = i.10.4 → (true = true ∧ true = true ∧ True) ∧ bcond (igt i_7 0) (∀ (i_8 : Int), i_8 = i.10.4 → ∀ (i_9 : Int), i_9 = gmod (iquo IntKind.i64 by' 5) i_8 → (ile 0 i_9 = true ∧ ilt i_9 i.10.4 = true ∧ (zz176 i_8)) ∧ ((∃ (i_10 : Im), imG i_10 ∧ True ∧ true = true ∧ (zz28 mx) ∧ mQ ∧ (e64 i.1 i_10.1 ∧ e64 i.2 i_10.2 ∧ i.3 = i_10.3 ∧ e16 i.4 i_10.4 ∧ e16 i.5 i_10.5 ∧ e16 i.6 i_10.6 ∧ e16 i.7 i_10.7 ∧ e16 i.8 i_10.8 ∧ e64 i.9.1 i_10.9.1 ∧ e64 i.9.2 i_10.9.2 ∧ e64 i.9.3 i_10.9.3 ∧ eP i.9 i_10.9 ∧ e64 i.10.1 i_10.10.1 ∧ e64 i.10.2 i_10.10.2 ∧ e64 i.10.3 i_10.10.3 ∧ (1 = 1 ∧ i.10.4 = i_10.10.4 ∧ True ∧ ∀ (i_11 : Nat), ilt (Int.ofNat i_11) i.10.4 = true → IntKind.u16 = IntKind.u16 ∧ isel (ieq (Int.ofNat i_11) i_9) v (i.10.5 (Int.ofNat i_11)) = i_10.10.5 (Int.ofNat i_11)) ∧ (zz173 i i_10)) ∧ True) ∨ False)) ((∃ (i_8 : Im), imG i_8 ∧ True ∧ true = true ∧ (zz28 mx) ∧ mQ ∧ (e64 i.1 i_8.1 ∧ e64 i.2 i_8.2 ∧ i.3 = i_8.3 ∧ e16 i.4 i_8.4 ∧ e16 i.5 i_8.5 ∧ e16 i.6 i_8.6 ∧ e16 i.7 i_8.7 ∧ e16 i.8 i_8.8 ∧ e64 i.9.1 i_8.9.1 ∧ e64 i.9.2 i_8.9.2 ∧ e64 i.9.3 i_8.9.3 ∧ eP i.9 i_8.9 ∧ e64 i.10.1 i_8.10.1 ∧ e64 i.10.2 i_8.10.2 ∧ e64 i.10.3 i_8.10.3 ∧ eP i.10 i_8.10 ∧ (zz173 i i_8)) ∧ True) ∨ False)) ∧ (∀ (i : Im), vdG pW pH pS pM pn pq by' mx i → True ∧ True ∧ True ∧ True ∧ True ∧ True ∧ True ∧ True ∧ (true = true ∧ true = true ∧ ile (imulZ (addZ i.10.4 1) 2) 140737488355328 = true ∧ true = true ∧ true = true ∧ True) ∧ ((∃ (i_7 : Im), imG i_7 ∧ True ∧ true = true ∧ (zz28 mx) ∧ mQ ∧ (e64 i.1 i_7.1 ∧ e64 i.2 i_7.2 ∧ i.3 = i_7.3 ∧ e16 i.4 i_7.4 ∧ e16 i.5 i_7.5 ∧ e16 i.6 i_7.6 ∧ e16 i.7 i_7.7 ∧ e16 i.8 i_7.8 ∧ e64 i.9.1 i_7.9.1 ∧ e64 i.9.2 i_7.9.2 ∧ e64 i.9.3 i_7.9.3 ∧ eP i.9 i_7.9 ∧ e64 i.10.1 i_7.10.1 ∧ e64 i.10.2 i_7.10.2 ∧ e64 i.10.3 i_7.10.3 ∧ (1 = 1 ∧ addZ i.10.4 1 = i_7.10.4 ∧ True ∧ ∀ (i_8 : Nat), ilt (Int.ofNat i_8) (addZ i.10.4 1) = true → IntKind.u16 = IntKind.u16 ∧ isel (ilt (Int.ofNat i_8) i.10.4) (i.10.5 (Int.ofNat i_8)) (isel (ieq (subZ (Int.ofNat i_8) i.10.4) 0) v 0) = i_7.10.5 (Int.ofNat i_8)) ∧ (zz173 i i_7)) ∧ True) ∨ False)) ∧ True) ∧ (∀ (i : Im), imG i → ∀ (i_7 : Int), i_7 = en0 → bcond (ilt i_7 100) (∀ (i_8 : Int), i_8 = en1 → (true = true ∧ true = true ∧ true = true ∧ true = true ∧ True) ∧ ∀ (i_9 : Int), i_9 = imE i (gxMax mx) → ∀ (i_10 : Int), i_10 = imE i (gxMax mx) → bcond (ieq i_9 i_10) (bcond (bnot (ilt i_8 100)) ((zz129 i) ∧ True ∧ V [XV.c (CV.v (Value.bool true))] []) (∀ (i_11 : Int), i_11 = imE { w := eW, h := eH, sol := eO, c0 := e0, c1 := e1, c2 := e2, a := eA, f := eF, p0 := { w := ew0, h := eh0, s := es0, n := en0, l := fun (i : Int) => el0 i 0 }, p1 := { w := ew1, h := eh1, s := es1, n := en1, l := fun (i : Int) => el1 i 0 }, p2 := { w := ew2, h := eh2, s := es2, n := en2, l := fun (i : Int) => el2 i 0 }, p3 := { w := ew3, h := eh3, s := es3, n := en3, l := fun (i : Int) => el3 i 0 }, p4 := { w := ew4, h := eh4, s := es4, n := en4, l := fun (i : Int) => el4 i 0 } } (gxMax mx) → ∀ (i_12 : Int), i_12 = imE { w := eW, h := eH, sol := eO, c0 := e0, c1 := e1, c2 := e2, a := eA, f := eF, p0 := { w := ew0, h := eh0, s := es0, n := en0, l := fun (i : Int) => el0 i 0 }, p1 := { w := ew1, h := eh1, s := es1, n := en1, l := fun (i : Int) => el1 i 0 }, p2 := { w := ew2, h := eh2, s := es2, n := en2, l := fun (i : Int) => el2 i 0 }, p3 := { w := ew3, h := eh3, s := es3, n := en3, l := fun (i : Int) => el3 i 0 }, p4 := { w := ew4, h := eh4, s := es4, n := en4, l := fun (i : Int) => el4 i 0 } } (gxMax mx) → (imG { w := eW, h := eH, sol := eO, c0 := e0, c1 := e1, c2 := e2, a := eA, f := eF, p0 := { w := ew0, h := eh0, s := es0, n := en0, l := fun (i : Int) => el0 i 0 }, p1 := { w := ew1, h := eh1, s := es1, n := en1, l := fun (i : Int) => el1 i 0 }, p2 := { w := ew2, h := eh2, s := es2, n := en2, l := fun (i : Int) => el2 i 0 }, p3 := { w := ew3, h := eh3, s := es3, n := en3, l := fun (i : Int) => el3 i 0 }, p4 := { w := ew4, h := eh4, s := es4, n := en4, l := fun (i : Int) => el4 i 0 } } ∧ iQ .u16 1 en0 el0 ∧ iQ .u16 1 en1 el1 ∧ iQ .u16 1 en2 el2 ∧ iQ .u16 1 en3 el3 ∧ iQ .u16 1 en4 el4 ∧ imG { w := eW, h := eH, sol := eO, c0 := e0, c1 := e1, c2 := e2, a := eA, f := eF, p0 := { w := ew0, h := eh0, s := es0, n := en0, l := fun (i : Int) => el0 i 0 }, p1 := { w := ew1, h := eh1, s := es1, n := en1, l := fun (i : Int) => el1 i 0 }, p2 := { w := ew2, h := eh2, s := es2, n := en2, l := fun (i : Int) => el2 i 0 }, p3 := { w := ew3, h := eh3, s := es3, n := en3, l := fun (i : Int) => el3 i 0 }, p4 := { w := ew4, h := eh4, s := es4, n := en4, l := fun (i : Int) => el4 i 0 } } ∧ iQ .u16 1 en0 el0 ∧ iQ .u16 1 en1 el1 ∧ iQ .u16 1 en2 el2 ∧ iQ .u16 1 en3 el3 ∧ iQ .u16 1 en4 el4 ∧ imG i ∧ iR i.9 ∧ iR i.10 ∧ iR i.11 ∧ iR i.12 ∧ iR i.13 ∧ imG i ∧ iR i.9 ∧ iR i.10 ∧ iR i.11 ∧ iR i.12 ∧ iR i.13 ∧ True) ∧ True ∧ V [XV.c (CV.v (Value.bool (ieq i_11 i_12)))] [])) ((zz129 i) ∧ True ∧ V [XV.c (CV.v (Value.bool false))] [])) ((true = true ∧ true = true ∧ True) ∧ ∀ (i_8 : Int), i_8 = imE i (gxMax mx) → ∀ (i_9 : Int), i_9 = imE i (gxMax mx) → bcond (ieq i_8 i_9) ((zz129 i) ∧ True ∧ V [XV.c (CV.v (Value.bool true))] []) ((zz129 i) ∧ True ∧ V [XV.c (CV.v (Value.bool false))] []))) ∧ True)) := by
  delta zz21 zz28 zz103 zz129 zz146 zz173 zz176
  try delta o_vdB1
  try delta s_ime
  try delta s_gmax2
  try delta s_mod
  try delta s_gimg
  try delta s_gstr1
  try delta s_yes15
  try delta s_cover15
  try delta s_imOf
  generalize @gcv = gcv
  generalize @gimV = gimV
  generalize @gmod = gmod
  generalize @gstV = gstV
  generalize @gxMax = gxMax
  generalize @imE = imE
  generalize @imG = imG
  generalize @imOk = imOk
  generalize @in16 = in16
  generalize @intRow = intRow
  generalize @modOk = modOk
  generalize @vdG = vdG
  generalize @w2 = w2
  kernel_rfl
theorem ImageZwb1_core (pW pH pS pM : Int) (pn : Nat) (pq : Int → Nat → Int) (what by' mx : Int) (v : Int) (eW eH : Int) (eO : Bool) (e0 e1 e2 eA eF : Int) (ew0 eh0 es0 : Int) (en0 : Nat) (el0 : Int → Nat → Int) (ew1 eh1 es1 : Int) (en1 : Nat) (el1 : Int → Nat → Int) (ew2 eh2 es2 : Int) (en2 : Nat) (el2 : Int → Nat → Int) (ew3 eh3 es3 : Int) (en3 : Nat) (el3 : Int → Nat → Int) (ew4 eh4 es4 : Int) (en4 : Nat) (el4 : Int → Nat → Int) (hw : gmod what 9 = 5 ∨ gmod what 9 = 7) (hS : gmod pS 2 ≠ 0) (hk : gmod by' 5 = 1) (w8 : (Lit.int .u16 v).wf = true) (gr : imG ⟨eW, eH, eO, e0, e1, e2, eA, eF, ⟨ew0, eh0, es0, en0, fun (i : Int) => el0 i 0⟩, ⟨ew1, eh1, es1, en1, fun (i : Int) => el1 i 0⟩, ⟨ew2, eh2, es2, en2, fun (i : Int) => el2 i 0⟩, ⟨ew3, eh3, es3, en3, fun (i : Int) => el3 i 0⟩, ⟨ew4, eh4, es4, en4, fun (i : Int) => el4 i 0⟩⟩) :
    vdEv o_vdB1 (fun n_ => bif Nat.beq n_ 700007 then some (.cuts [o_inv_v1b1 1 5 pW pH pS pM pn pq by' mx v eW eH eO e0 e1 e2 eA eF ew0 eh0 es0 en0 el0 ew1 eh1 es1 en1 el1 ew2 eh2 es2 en2 el2 ew3 eh3 es3 en3 el3 ew4 eh4 es4 en4 el4, o_inv_v1b1 1 7 pW pH pS pM pn pq by' mx v eW eH eO e0 e1 e2 eA eF ew0 eh0 es0 en0 el0 ew1 eh1 es1 en1 el1 ew2 eh2 es2 en2 el2 ew3 eh3 es3 en3 el3 ew4 eh4 es4 en4 el4]) else bif Nat.beq n_ 700024 then some (.cutZ [([(14, 11), (14, 15), (14, 19), (14, 23), (14, 27)], o_inv_v2 mx eW eH eO e0 e1 e2 eA eF ew0 eh0 es0 en0 el0 ew1 eh1 es1 en1 el1 ew2 eh2 es2 en2 el2 ew3 eh3 es3 en3 el3 ew4 eh4 es4 en4 el4)]) else none) pW pH pS pM ((pn : Nat) : Int) pq what by' mx v eW eH eO e0 e1 e2 eA eF ew0 eh0 es0 ((en0 : Nat) : Int) el0 ew1 eh1 es1 ((en1 : Nat) : Int) el1 ew2 eh2 es2 ((en2 : Nat) : Int) el2 ew3 eh3 es3 ((en3 : Nat) : Int) el3 ew4 eh4 es4 ((en4 : Nat) : Int) el4 := by
  unfold vdEv
  rw [ImageZwb1_vc]
  delta zz21 zz28 zz103 zz129 zz146 zz173 zz176
  have hn : ile 0 (pn : Int) = true := ile_t (by omega)
  refine share_in fun mQ hQ => ?_
  have hQ' : mQ = True := by rw [hQ]; simp [e64_t, e16_t]
  subst hQ'
  clear hQ
  simp only [forall_eq, true_and, and_true, iR_t, iQ_t, hn]
  refine share_in fun mA hA => ?_
  refine share_in fun mB hB => ?_
  have g := gim_good pW pH pS pM pn pq (x0 := 0) (y0 := 0) (x1 := 3) (y1 := 2) (t := gxMax mx) (gx16' mx) rfl
  have vB : vdG pW pH pS pM pn pq by' mx mB := by unfold vdG; rw [hB, hA]
  rw [← hA] at g
  obtain ⟨r, gw, gh, al⟩ := g
  have w5' := gim_size (W := pW) (H := pH) (x0 := 0) (y0 := 0) (x1 := 3) (y1 := 2) rfl
  obtain ⟨s, sw, sh, sp⟩ := gst_good by' r (by omega) (by omega)
  rw [← hB] at s sw sh sp
  have e5 : imE mB (gxMax mx) = 0 := ime_good s.2.1 (by rw [px_all ⟨sw, sh, sp⟩ (ok_iff.1 r.2.1).1]; exact al)
  have k1 := gx16' mx
  have k2 : gcv 0 0 3 2 = true := rfl
  rw [e5]
  have sol : mA.sol = false := by rw [hA, gim_sol _ _ _ _ _ _ k2]; simpa using hS
  have nb := gst_n by' r sol (k := 1) (by decide)
  rw [← hB] at nb
  have nb : 0 ≤ mB.p1.n ∧ mB.p1.n ≤ 67108864 := nb
  have same : ∀ i, vdG pW pH pS pM pn pq by' mx i → mB = i := fun i vi => by unfold vdG at vi vB; rw [vi, vB]
  have k5 : modOk 5 = true := rfl
  have k9 : modOk 9 = true := rfl
  refine ⟨⟨r.1, r.2.1, sol, k1, k2⟩, s.1, bcond_iff.2 ⟨fun c => absurd (show ine 0 0 = true from c) (by decide), fun _ => ⟨k5, ⟨⟨k9, ?_⟩, ?_, ?_⟩, ?_⟩⟩⟩
  · rcases hw with h | h
    · exact Or.inl ⟨mB, vB, ⟨hk, h⟩, by simp [e64_t, e16_t, eP_t]⟩
    · exact Or.inr (Or.inl ⟨mB, vB, ⟨hk, h⟩, by simp [e64_t, e16_t, eP_t]⟩)
  · intro i vi
    have e := same i vi
    clear hB
    subst e
    have pg0 : plG mB.p0 := imPlG s.1 0
    have pg1 : plG mB.p1 := imPlG s.1 1
    have pg2 : plG mB.p2 := imPlG s.1 2
    have pg3 : plG mB.p3 := imPlG s.1 3
    have pg4 : plG mB.p4 := imPlG s.1 4
    refine bcond_iff.2 ⟨fun c => ?_, fun c => Or.inl ⟨mB, s.1, by simp [e64_t, e16_t, eP_t]⟩⟩
    have c : mB.p1.n > 0 := of_decide_eq_true c
    have m1 := mod_ok (show 1 ≤ mB.p1.n by omega) (by omega)
    have z := gm_in (x := iquo .i64 by' 5) (show 1 ≤ mB.p1.n by omega)
    exact ⟨⟨ile_t z.1, ilt_t z.2, m1⟩, Or.inl ⟨⟨mB.w, mB.h, mB.sol, mB.c0, mB.c1, mB.c2, mB.a, mB.f, mB.p0, ⟨mB.p1.w, mB.p1.h, mB.p1.s, mB.p1.n, fun t => isel (ieq t (gmod (iquo .i64 by' 5) mB.p1.n)) v (mB.p1.l t)⟩, mB.p2, mB.p3, mB.p4⟩, ⟨s.1.1, s.1.2.1, pg0, pl_store pg1 (wf16 w8), pg2, pg3, pg4⟩, by simp [e64_t, e16_t, eP_t]⟩⟩
  · intro i vi
    have e := same i vi
    clear hB
    subst e
    have pg0 : plG mB.p0 := imPlG s.1 0
    have pg1 : plG mB.p1 := imPlG s.1 1
    have pg2 : plG mB.p2 := imPlG s.1 2
    have pg3 : plG mB.p3 := imPlG s.1 3
    have pg4 : plG mB.p4 := imPlG s.1 4
    exact ⟨ile_t (by unfold imulZ addZ; omega), Or.inl ⟨⟨mB.w, mB.h, mB.sol, mB.c0, mB.c1, mB.c2, mB.a, mB.f, mB.p0, ⟨mB.p1.w, mB.p1.h, mB.p1.s, addZ mB.p1.n 1, fun t => isel (ilt t mB.p1.n) (mB.p1.l t) (isel (ieq (subZ t mB.p1.n) 0) v 0)⟩, mB.p2, mB.p3, mB.p4⟩, ⟨s.1.1, s.1.2.1, pg0, pl_app pg1 (wf16 w8), pg2, pg3, pg4⟩, by simp [e64_t, e16_t, eP_t]⟩⟩
  · intro i gi
    simp [okAns, eqXs, eqX, eqo, eqLo, eqc, veq, eqUs, bcond_iff, ieq_rfl', gi, gr]
end Go.Proofs.Ytcckcifmhhaepaa
