import Derived.Test.YtpjhdjakpbabhaaGreatDoorZaa
import Derived.Test.YtpjhdjakpbabhaaGreatDoorXc
import Derived.Test.YtpjhdjakpbabhaaGreatDoorZ0
import Derived.Test.YtpjhdjakpbabhaaGreatDoorKa
import Derived.Test.YtpjhdjakpbabhaaGreatDoorJc
import Derived.Test.YtpjhdjakpbabhaaGreatDoorRk
namespace Go.Proofs.YtpjhdjakpbabhaaGreatDoor
open Go.RowKit PR QR
set_option linter.unusedVariables false
def nuB (o : Int) : Bool := decide (o = 3 ∨ o = 4 ∨ o = 5 ∨ o = 9 ∨ o = 10 ∨ o = 12)
def rplB (o k : Int) : Bool := decide (o = 4 ∧ k = 1)
def efV (o k m n : Int) (q : Int → Nat → Int) : Int := bif decide (clsV n q m = 1) then (bif nuB o then 1 else 3) else bif decide (clsV n q m = 2) then (bif rplB o k && pxO m q 0 then 2 else 3) else bif decide (clsV n q m = 3) && rplB o k then 2 else 0
def vpR (m : Int) (d : Int → Nat → Int) (i : Int) : Bool := vaB (d i 0) (d i 1) (d i 2) (d i 3) (d i 3) (d i 4) 0 0 0 0 0 m
def rcZ (o k m : Int) (s d : Int → Nat → Int) (i : Int) (j : Nat) : Int := bz (rcI o k m s d i) (rcV o k m s d i j)
def eqR (z : Nat) (d : Int → Nat → Int) (i i' : Int) : Bool := decide (∀ j : Nat, j < z → d i j = d i' j)
def rgZ (kn : Bool) (o k m : Int) (s a b : Int → Nat → Int) (i : Int) (j : Nat) : Int := bz (rgI kn o k m s a b i) (rgV kn o k m s a b i j)
def rrZ (m : Int) (a b : Int → Nat → Int) (i : Int) : Nat → Int
  | 0 => grV (rrI m a b i) (a i 0) (b i 0) (a i 4) m
  | 1 => grV (rrI m a b i) (a i 1) (b i 1) (a i 4) m
  | 2 => grV (rrI m a b i) (a i 2) (b i 2) (a i 4) m
  | 3 => bz (rrI m a b i) (a i 4)
  | _ => bz (rrI m a b i) (a i 5)
def pxQ (c0 c1 c2 a f : Int) (q : Int → Nat → Int) : Bool := decide (c0 = q 0 0 ∧ c1 = q 0 1 ∧ c2 = q 0 2 ∧ a = q 0 3 ∧ f = q 0 4)
def rwV (i : Int) (V : Int → Nat → Int) (a : Int) (b : Nat) : Int := if a < i then V a b else 0
def lsV (i : Int) (V : Int → Nat → Int) (b : Nat) : Int := if i = 0 then 0 else V (i - 1) b
def rwG (n : Int) (f : Int → Bool) (i : Int) : Prop := (0 ≤ i ∧ i ≤ n) ∧ allR i f = true
def rwG0 (n : Int) (i : Int) : Prop := i = 0 ∧ 0 ≤ n
def rwG1 (n : Int) (f : Int → Bool) (i : Int) : Prop := rwG n f i ∧ 1 ≤ i
def rcP (p q : Int) (n n' : Int) : Prop := p = q ∧ n = n'
def s_nu : List AV → Option QR.Ans
  | [.x (.c (.v (.int .i64 o)))] => some ⟨[.c (.v (.bool (nuB o)))], [], []⟩
  | _ => none
def s_spv : List AV → Option QR.Ans
  | [.x (.agg [.v (.int .u16 c0), .v (.int .u16 c1), .v (.int .u16 c2), .v (.int .u16 a), .v (.int .u16 f)]), .x (.c (.v (.int .u16 m)))] => some ⟨[.c (.v (.bool (vaB c0 c1 c2 a a f 0 0 0 0 0 m)))], [], []⟩
  | _ => none
def s_alone : List AV → Option QR.Ans
  | [.x (.agg [.v (.int .u16 c0), .v (.int .u16 c1), .v (.int .u16 c2), .v (.int .u16 a), .v (.int .u16 own), .v (.int .u16 f)])] => some ⟨[.agg [.v (.int .u16 (iimin c0 own)), .v (.int .u16 (iimin c1 own)), .v (.int .u16 (iimin c2 own)), .v (.int .u16 own), .v (.int .u16 f)]], [], []⟩
  | _ => none
def s_cl1 : List AV → Option QR.Ans
  | [.x (.agg [.v (.int .u16 c0), .v (.int .u16 c1), .v (.int .u16 c2), .v (.int .u16 a), .v (.int .u16 f)]), .ref 0 [.slc z n r]] => bif Nat.beq z 5 then some ⟨[.c (.v (.bool (pxQ c0 c1 c2 a f (qOf r))))], [[.own 0 0]], [intRow .u16 5 n r, ilt 0 n = true]⟩ else none
  | _ => none
def s_cl2 : List AV → Option QR.Ans
  | [.x (.agg [.v (.int .u16 c0), .v (.int .u16 c1), .v (.int .u16 c2), .v (.int .u16 a), .v (.int .u16 f)]), .ref 0 [.v (.int .u16 m)]] => some ⟨[.c (.v (.bool (oqB c0 c1 c2 a f m)))], [[.own 0 0]], []⟩
  | _ => none
def s_cex : List AV → Option QR.Ans
  | [.x (.c (.v (.int .i64 i))), .ref 0 [.v (.int .i64 o)], .ref 0 [.v (.int .i64 k)], .ref 0 [.v (.int .u16 m)], .ref 0 [.slc z n r], .ref 0 [.slc z2 n2 r2]] => bif Nat.beq z 5 && Nat.beq z2 5 then some ⟨[.agg [.v (.int .u16 (rcZ o k m (qOf r) (qOf r2) i 0)), .v (.int .u16 (rcZ o k m (qOf r) (qOf r2) i 1)), .v (.int .u16 (rcZ o k m (qOf r) (qOf r2) i 2)), .v (.int .u16 (rcZ o k m (qOf r) (qOf r2) i 3)), .v (.int .u16 (rcZ o k m (qOf r) (qOf r2) i 4))], .c (.v (.bool (rcI o k m (qOf r) (qOf r2) i)))], [[.own 0 0]],
      [intRow .u16 5 n r, intRow .u16 5 n2 r2, row16 5 n (qOf r), row16 5 n2 (qOf r2), in16 m = true, ile 0 i = true, ilt i n = true, ilt i n2 = true]⟩ else none
  | _ => none
def s_ckp : List AV → Option QR.Ans
  | [.x (.c (.v (.int .i64 i))), .ref 0 [.slc z n r], .ref 0 [.v (.int .u16 m)]] => bif Nat.beq z 5 then some ⟨[.agg [.v (.int .u16 (qOf r i 0)), .v (.int .u16 (qOf r i 1)), .v (.int .u16 (qOf r i 2)), .v (.int .u16 (qOf r i 3)), .v (.int .u16 (qOf r i 4))], .c (.v (.bool (vpR m (qOf r) i)))], [[.own 0 0]], [intRow .u16 5 n r, ile 0 i = true, ilt i n = true]⟩ else none
  | _ => none
def s_ccv : List AV → Option QR.Ans
  | [.x (.c (.v (.int .i64 i))), .ref 0 [.slc z n r], .ref 0 [.slc z2 n2 r2], .ref 0 [.v (.int .u16 m)]] => bif Nat.beq z 5 && Nat.beq z2 5 then some ⟨[.agg [.v (.int .u16 (qOf r i 0)), .v (.int .u16 (qOf r i 1)), .v (.int .u16 (qOf r i 2)), .v (.int .u16 (qOf r i 3)), .v (.int .u16 (qOf r i 4))], .c (.v (.bool (vpR m (qOf r2) i)))], [[.own 0 0]], [intRow .u16 5 n r, intRow .u16 5 n2 r2, ile 0 i = true, ilt i n = true, ilt i n2 = true]⟩ else none
  | _ => none
def s_csm : List AV → Option QR.Ans
  | [.x (.c (.v (.int .i64 i))), .ref 0 [.slc z n r]] => bif Nat.beq z 5 then some ⟨[.c (.v (.bool (eqR 5 (qOf r) i (isub .i64 i 1))))], [[.own 0 0]], [intRow .u16 5 n r, ile 0 i = true, ilt i n = true, ile 0 (isub .i64 i 1) = true, ilt (isub .i64 i 1) n = true]⟩ else none
  | _ => none
def s_gex : List AV → Option QR.Ans
  | [.x (.c (.v (.int .i64 i))), .ref 0 [.v (.bool kn)], .ref 0 [.v (.int .i64 o)], .ref 0 [.v (.int .i64 k)], .ref 0 [.v (.int .u16 m)], .ref 0 [.slc z n r], .ref 0 [.slc za na ra], .ref 0 [.slc zb nb rb]] => bif Nat.beq z 5 && (Nat.beq za 6 && Nat.beq zb 5) then some ⟨[.agg [.v (.int .u16 (rgZ kn o k m (qOf r) (qOf ra) (qOf rb) i 0)), .v (.int .u16 (rgZ kn o k m (qOf r) (qOf ra) (qOf rb) i 1)), .v (.int .u16 (rgZ kn o k m (qOf r) (qOf ra) (qOf rb) i 2)), .v (.int .u16 (rgZ kn o k m (qOf r) (qOf ra) (qOf rb) i 3)), .v (.int .u16 (rgZ kn o k m (qOf r) (qOf ra) (qOf rb) i 4)), .v (.int .u16 (rgZ kn o k m (qOf r) (qOf ra) (qOf rb) i 5))], .c (.v (.bool (rgI kn o k m (qOf r) (qOf ra) (qOf rb) i)))], [[.own 0 0]],
      [intRow .u16 5 n r, intRow .u16 6 na ra, intRow .u16 5 nb rb, row16 5 n (qOf r), row16 6 na (qOf ra), row16 5 nb (qOf rb), in16 m = true, ile 0 i = true, ilt i n = true, ilt i na = true, ilt i nb = true]⟩ else none
  | _ => none
def s_gkp : List AV → Option QR.Ans
  | [.x (.c (.v (.int .i64 i))), .ref 0 [.slc za na ra], .ref 0 [.slc zb nb rb], .ref 0 [.v (.int .u16 m)]] => bif Nat.beq za 6 && Nat.beq zb 5 then some ⟨[.agg [.v (.int .u16 (qOf ra i 0)), .v (.int .u16 (qOf ra i 1)), .v (.int .u16 (qOf ra i 2)), .v (.int .u16 (qOf ra i 3)), .v (.int .u16 (qOf ra i 4)), .v (.int .u16 (qOf ra i 5))], .c (.v (.bool (rrI m (qOf ra) (qOf rb) i)))], [[.own 0 0]], [intRow .u16 6 na ra, intRow .u16 5 nb rb, ile 0 i = true, ilt i na = true, ilt i nb = true]⟩ else none
  | _ => none
def s_gcv : List AV → Option QR.Ans
  | [.x (.c (.v (.int .i64 i))), .ref 0 [.slc z n r], .ref 0 [.v (.int .u16 m)], .ref 0 [.slc za na ra], .ref 0 [.slc zb nb rb]] => bif Nat.beq z 5 && (Nat.beq za 6 && Nat.beq zb 5) then some ⟨[.agg [.v (.int .u16 (qOf r i 0)), .v (.int .u16 (qOf r i 1)), .v (.int .u16 (qOf r i 2)), .v (.int .u16 m), .v (.int .u16 m), .v (.int .u16 m)], .c (.v (.bool (rrI m (qOf ra) (qOf rb) i)))], [[.own 0 0]], [intRow .u16 5 n r, intRow .u16 6 na ra, intRow .u16 5 nb rb, ile 0 i = true, ilt i n = true, ilt i na = true, ilt i nb = true]⟩ else none
  | _ => none
def s_gsm : List AV → Option QR.Ans
  | [.x (.c (.v (.int .i64 i))), .ref 0 [.slc za na ra], .ref 0 [.slc zb nb rb]] => bif Nat.beq za 6 && Nat.beq zb 5 then some ⟨[.c (.v (.bool (eqR 6 (qOf ra) i (isub .i64 i 1) && eqR 5 (qOf rb) i (isub .i64 i 1))))], [[.own 0 0]], [intRow .u16 6 na ra, intRow .u16 5 nb rb, ile 0 i = true, ilt i na = true, ilt i nb = true, ile 0 (isub .i64 i 1) = true, ilt (isub .i64 i 1) na = true, ilt (isub .i64 i 1) nb = true]⟩ else none
  | _ => none
def s_rex : List AV → Option QR.Ans
  | [.x (.c (.v (.int .i64 i))), .ref 0 [.slc za na ra], .ref 0 [.slc zb nb rb], .ref 0 [.v (.int .u16 m)]] => bif Nat.beq za 6 && Nat.beq zb 5 then some ⟨[.agg [.v (.int .u16 (rrZ m (qOf ra) (qOf rb) i 0)), .v (.int .u16 (rrZ m (qOf ra) (qOf rb) i 1)), .v (.int .u16 (rrZ m (qOf ra) (qOf rb) i 2)), .v (.int .u16 (rrZ m (qOf ra) (qOf rb) i 3)), .v (.int .u16 (rrZ m (qOf ra) (qOf rb) i 4))], .c (.v (.bool (rrI m (qOf ra) (qOf rb) i)))], [[.own 0 0]],
      [intRow .u16 6 na ra, intRow .u16 5 nb rb, row16 6 na (qOf ra), row16 5 nb (qOf rb), in16 m = true, ile 0 i = true, ilt i na = true, ilt i nb = true]⟩ else none
  | _ => none
def s_ral : List AV → Option QR.Ans
  | [.x (.c (.v (.int .i64 i))), .ref 0 [.slc za na ra], .ref 0 [.slc zb nb rb], .ref 0 [.v (.int .u16 m)]] => bif Nat.beq za 6 && Nat.beq zb 5 then some ⟨[.agg [.v (.int .u16 (iimin (qOf ra i 0) (qOf ra i 4))), .v (.int .u16 (iimin (qOf ra i 1) (qOf ra i 4))), .v (.int .u16 (iimin (qOf ra i 2) (qOf ra i 4))), .v (.int .u16 (qOf ra i 4)), .v (.int .u16 (qOf ra i 5))], .c (.v (.bool (rrI m (qOf ra) (qOf rb) i)))], [[.own 0 0]], [intRow .u16 6 na ra, intRow .u16 5 nb rb, ile 0 i = true, ilt i na = true, ilt i nb = true]⟩ else none
  | _ => none
def s_rsm : List AV → Option QR.Ans
  | [.x (.c (.v (.int .i64 i))), .ref 0 [.slc z n r]] => bif Nat.beq z 6 then some ⟨[.c (.v (.bool (eqR 6 (qOf r) i (isub .i64 i 1))))], [[.own 0 0]], [intRow .u16 6 n r, ile 0 i = true, ilt i n = true, ile 0 (isub .i64 i 1) = true, ilt (isub .i64 i 1) n = true]⟩ else none
  | _ => none
def s_eff : List AV → Option QR.Ans
  | [.x (.c (.v (.int .i64 o))), .x (.c (.v (.int .i64 k))), .x (.c (.v (.int .u16 m))), .x (.c (.slc z n r))] => bif Nat.beq z 5 then some ⟨[.c (.v (.int .i64 (efV o k m n (qOf r))))], [], [intRow .u16 5 n r, ile 0 n = true, ile n 9223372036854775807 = true]⟩ else none
  | _ => none
def o_spv : QR.Oracle := QR.orc [(51, s_va)]
def o_cl2 : QR.Oracle := QR.orc [(71, s_opaque)]
def o_cex : QR.Oracle := QR.orc [(12, s_comp)]
def o_cva : QR.Oracle := QR.orc [(30, s_spv)]
def o_gex : QR.Oracle := QR.orc [(19, s_gstep)]
def o_rex : QR.Oracle := QR.orc [(20, s_gres)]
def o_ral : QR.Oracle := QR.orc [(57, s_alone), (51, s_va)]
def o_eff : QR.Oracle := QR.orc [(34, s_scls), (70, s_nu), (71, s_opaque)]
def o_clB (n m : Int) (q : Int → Nat → Int) : List (Nat × Blk) := [(100000000000000500, .cells [.slc 5 n (.fn fun a b => .v (.int .u16 (q a b)))]), (100000000000000501, .cells [.v (.int .u16 m)])]
noncomputable def o_inv_all (n m : Int) (q : Int → Nat → Int) (g : CV) (f : Int → Bool) : QR.Inv where
  ι := Int
  good i := rwG n f i
  slots i := QR.slotsOf Tryz.f73.ntmps [(1, .x (.c g)), (7, .x (.c (.slc 5 n (.fn fun a b => .v (.int .u16 (q a b)))))), (8, .x (.c (.v (.int .i64 n)))), (9, .x (.c (.v (.int .i64 i))))]
  blocks _ := o_clB n m q
  μ i := scMu n i
def o_allO : QR.Oracle := QR.orc [(74, s_transp), (75, s_cl1), (76, s_cl2)]
noncomputable def o_inl_all (j : Nat) (n m : Int) (q : Int → Nat → Int) (g : CV) (f : Int → Bool) : QR.Inl := ⟨j, QR.GB, 73, Tryz.f73.ntmps, Tryz.f73.results.toList, QR.evalJ Tryz.prog o_allO (fun k => bif Nat.beq k 2 then some (.inv (o_inv_all n m q g f)) else none) (fun _ => none) (Tryz.f73.body.getD .skip)⟩
noncomputable def o_pin_cl (n m : Int) (q : Int → Nat → Int) : QR.Inv where
  ι := Nat
  good _ := True
  slots _ := QR.slotsOf Tryz.f34.ntmps [(2, .x (.c (.ptr 100000000000000500 0))), (3, .x (.c (.ptr 100000000000000501 0)))]
  blocks _ := o_clB n m q
  μ _ := 0
noncomputable def o_cfg_cl (n m : Int) (q : Int → Nat → Int) : QR.CfgK := ⟨QR.noLoops, fun _ => none, fun k => bif Nat.beq k 1 then some (o_inl_all 1 n m q (.v (.func (.func 74) ⟨[]⟩ ⟨[]⟩)) (pxT q)) else bif Nat.beq k 3 then some (o_inl_all 2 n m q (.fn 75 [(100000000000000500, 0)]) (pxE q)) else bif Nat.beq k 5 then some (o_inl_all 2 n m q (.fn 76 [(100000000000000501, 0)]) (pxO m q)) else none, fun k => bif Nat.beq k 1 then some (o_pin_cl n m q) else none, 500⟩
set_option maxRecDepth 100000 in
theorem nu_vc (o : Int) (V : List QR.XV → List (List QR.CV) → Prop) : QR.evalBody Tryz.prog (QR.orc []) (QR.noLoops) (Tryz.f70.body.getD .skip) Tryz.f70.results.toList Tryz.f70.ntmps [.x (.c (.v (.int .i64 o)))] V = (True ∧ True ∧ True ∧ bcond (ieq o 3) (bcond (ieq o 3) (True ∧ True ∧ V [XV.c (CV.v (Value.bool true))] []) (True ∧ True ∧ V [XV.c (CV.v (Value.bool false))] [])) (True ∧ bcond (ieq o 4) (bcond (ieq o 4) (True ∧ True ∧ V [XV.c (CV.v (Value.bool true))] []) (True ∧ True ∧ V [XV.c (CV.v (Value.bool false))] [])) (True ∧ bcond (ieq o 5) (bcond (ieq o 5) (True ∧ True ∧ V [XV.c (CV.v (Value.bool true))] []) (True ∧ True ∧ V [XV.c (CV.v (Value.bool false))] [])) (True ∧ bcond (ieq o 9) (bcond (ieq o 9) (True ∧ True ∧ V [XV.c (CV.v (Value.bool true))] []) (True ∧ True ∧ V [XV.c (CV.v (Value.bool false))] [])) (True ∧ bcond (ieq o 10) (bcond (ieq o 10) (True ∧ True ∧ V [XV.c (CV.v (Value.bool true))] []) (True ∧ True ∧ V [XV.c (CV.v (Value.bool false))] [])) (True ∧ bcond (ieq o 12) (True ∧ True ∧ V [XV.c (CV.v (Value.bool true))] []) (True ∧ True ∧ V [XV.c (CV.v (Value.bool false))] []))))))) := by
  kernel_rfl
set_option maxRecDepth 100000 in
theorem spv_vc (c0 c1 c2 a f m : Int) (V : List QR.XV → List (List QR.CV) → Prop) : QR.evalBody Tryz.prog (o_spv) (QR.noLoops) (Tryz.f30.body.getD .skip) Tryz.f30.results.toList Tryz.f30.ntmps [.x (.agg [.v (.int .u16 c0), .v (.int .u16 c1), .v (.int .u16 c2), .v (.int .u16 a), .v (.int .u16 f)]), .x (.c (.v (.int .u16 m)))] V = (True ∧ True ∧ True ∧ V [XV.c (CV.v (Value.bool (vaB c0 c1 c2 a a f 0 0 0 0 0 m)))] []) := by
  try delta o_spv
  try delta s_va
  generalize @vaB = vaB
  kernel_rfl
set_option maxRecDepth 100000 in
theorem alone_vc (c0 c1 c2 a own f : Int) (V : List QR.XV → List (List QR.CV) → Prop) : QR.evalBody Tryz.prog (QR.orc []) (fun n => bif Nat.beq n 3 then some (.rounds 4) else none) (Tryz.f57.body.getD .skip) Tryz.f57.results.toList Tryz.f57.ntmps [.x (.agg [.v (.int .u16 c0), .v (.int .u16 c1), .v (.int .u16 c2), .v (.int .u16 a), .v (.int .u16 own), .v (.int .u16 f)])] V = (True ∧ True ∧ True ∧ True ∧ (true = true ∧ true = true ∧ True) ∧ ∀ (i : Int), i = iimin c0 own → (true = true ∧ true = true ∧ True) ∧ True ∧ True ∧ (true = true ∧ true = true ∧ True) ∧ ∀ (i_1 : Int), i_1 = iimin c1 own → (true = true ∧ true = true ∧ True) ∧ True ∧ True ∧ (true = true ∧ true = true ∧ True) ∧ ∀ (i_2 : Int), i_2 = iimin c2 own → (true = true ∧ true = true ∧ True) ∧ True ∧ True ∧ True ∧ True ∧ V [XV.agg [CV.v (Value.int .u16 i), CV.v (Value.int .u16 i_1), CV.v (Value.int .u16 i_2), CV.v (Value.int .u16 own), CV.v (Value.int .u16 f)]] []) := by
  kernel_rfl
set_option maxRecDepth 100000 in
theorem cl1_vc (c0 c1 c2 a f n : Int) (q : Int → Nat → Int) (V : List QR.XV → List (List QR.CV) → Prop) : QR.evalBody Tryz.prog (QR.orc []) (QR.noLoops) (Tryz.f75.body.getD .skip) Tryz.f75.results.toList Tryz.f75.ntmps [.x (.agg [.v (.int .u16 c0), .v (.int .u16 c1), .v (.int .u16 c2), .v (.int .u16 a), .v (.int .u16 f)]), .ref 0 [.slc 5 n (.fn fun i j => .v (.int .u16 (q i j)))]] V = (True ∧ (true = true ∧ ilt 0 n = true ∧ True) ∧ True ∧ V [XV.c (CV.v (Value.bool (band (band (ieq c0 (q 0 0)) (band (ieq c1 (q 0 1)) (band (ieq c2 (q 0 2)) true))) (band (ieq a (q 0 3)) (band (ieq f (q 0 4)) true)))))] [[CV.slc 5 n (QR.Row.fn fun (i : Int) (j : Nat) => CV.v (Value.int .u16 (q i j)))]]) := by
  kernel_rfl
set_option maxRecDepth 100000 in
theorem cl2_vc (c0 c1 c2 a f m : Int) (V : List QR.XV → List (List QR.CV) → Prop) : QR.evalBody Tryz.prog (o_cl2) (QR.noLoops) (Tryz.f76.body.getD .skip) Tryz.f76.results.toList Tryz.f76.ntmps [.x (.agg [.v (.int .u16 c0), .v (.int .u16 c1), .v (.int .u16 c2), .v (.int .u16 a), .v (.int .u16 f)]), .ref 0 [.v (.int .u16 m)]] V = (True ∧ True ∧ True ∧ V [XV.c (CV.v (Value.bool (oqB c0 c1 c2 a f m)))] [[CV.v (Value.int .u16 m)]]) := by
  try delta o_cl2
  try delta s_opaque
  generalize @oqB = oqB
  kernel_rfl
set_option maxRecDepth 100000 in
theorem cex_vc (i o k m n n2 : Int) (s d : Int → Nat → Int) (V : List QR.XV → List (List QR.CV) → Prop) : QR.evalBody Tryz.prog (o_cex) (QR.noLoops) (Tryz.f26.body.getD .skip) Tryz.f26.results.toList Tryz.f26.ntmps [.x (.c (.v (.int .i64 i))), .ref 0 [.v (.int .i64 o)], .ref 0 [.v (.int .i64 k)], .ref 0 [.v (.int .u16 m)], .ref 0 [.slc 5 n (.fn fun i j => .v (.int .u16 (s i j)))], .ref 0 [.slc 5 n2 (.fn fun i j => .v (.int .u16 (d i j)))]] V = (True ∧ ∀ (i_1 : Int), i_1 = bz (pcOk o k m (s i 0) (s i 1) (s i 2) (s i 3) (s i 4) (d i 0) (d i 1) (d i 2) (d i 3) (d i 4)) (mcV o k m (s i 0) (s i 3) (d i 0) (d i 3)) → ∀ (i_2 : Int), i_2 = bz (pcOk o k m (s i 0) (s i 1) (s i 2) (s i 3) (s i 4) (d i 0) (d i 1) (d i 2) (d i 3) (d i 4)) (mcV o k m (s i 1) (s i 3) (d i 1) (d i 3)) → ∀ (i_3 : Int), i_3 = bz (pcOk o k m (s i 0) (s i 1) (s i 2) (s i 3) (s i 4) (d i 0) (d i 1) (d i 2) (d i 3) (d i 4)) (mcV o k m (s i 2) (s i 3) (d i 2) (d i 3)) → ∀ (i_4 : Int), i_4 = bz (pcOk o k m (s i 0) (s i 1) (s i 2) (s i 3) (s i 4) (d i 0) (d i 1) (d i 2) (d i 3) (d i 4)) (alV o (s i 3) (d i 3) m) → ∀ (i_5 : Int), i_5 = bz (pcOk o k m (s i 0) (s i 1) (s i 2) (s i 3) (s i 4) (d i 0) (d i 1) (d i 2) (d i 3) (d i 4)) (shV o (s i 4) (d i 4) m) → (in16 m = true ∧ in16 (s i 0) = true ∧ in16 (s i 1) = true ∧ in16 (s i 2) = true ∧ in16 (s i 3) = true ∧ in16 (s i 4) = true ∧ in16 (d i 0) = true ∧ in16 (d i 1) = true ∧ in16 (d i 2) = true ∧ in16 (d i 3) = true ∧ in16 (d i 4) = true ∧ ile 0 i = true ∧ ilt i n2 = true ∧ ile 0 i = true ∧ ilt i n = true ∧ True) ∧ True ∧ V [XV.agg [CV.v (Value.int .u16 i_1), CV.v (Value.int .u16 i_2), CV.v (Value.int .u16 i_3), CV.v (Value.int .u16 i_4), CV.v (Value.int .u16 i_5)], XV.c (CV.v (Value.bool (pcOk o k m (s i 0) (s i 1) (s i 2) (s i 3) (s i 4) (d i 0) (d i 1) (d i 2) (d i 3) (d i 4))))] [[CV.v (Value.int .i64 o)], [CV.v (Value.int .i64 k)], [CV.v (Value.int .u16 m)], [CV.slc 5 n (QR.Row.fn fun (i : Int) (j : Nat) => CV.v (Value.int .u16 (s i j)))], [CV.slc 5 n2 (QR.Row.fn fun (i : Int) (j : Nat) => CV.v (Value.int .u16 (d i j)))]]) := by
  try delta o_cex
  try delta s_comp
  generalize @alV = alV
  generalize @bz = bz
  generalize @in16 = in16
  generalize @mcV = mcV
  generalize @pcOk = pcOk
  generalize @shV = shV
  kernel_rfl
set_option maxRecDepth 100000 in
theorem ckp_vc (i m n : Int) (d : Int → Nat → Int) (V : List QR.XV → List (List QR.CV) → Prop) : QR.evalBody Tryz.prog (o_cva) (QR.noLoops) (Tryz.f29.body.getD .skip) Tryz.f29.results.toList Tryz.f29.ntmps [.x (.c (.v (.int .i64 i))), .ref 0 [.slc 5 n (.fn fun i j => .v (.int .u16 (d i j)))], .ref 0 [.v (.int .u16 m)]] V = (True ∧ (ile 0 i = true ∧ ilt i n = true ∧ ile 0 i = true ∧ ilt i n = true ∧ True) ∧ True ∧ V [XV.agg [CV.v (Value.int .u16 (d i 0)), CV.v (Value.int .u16 (d i 1)), CV.v (Value.int .u16 (d i 2)), CV.v (Value.int .u16 (d i 3)), CV.v (Value.int .u16 (d i 4))], XV.c (CV.v (Value.bool (vaB (d i 0) (d i 1) (d i 2) (d i 3) (d i 3) (d i 4) 0 0 0 0 0 m)))] [[CV.slc 5 n (QR.Row.fn fun (i : Int) (j : Nat) => CV.v (Value.int .u16 (d i j)))], [CV.v (Value.int .u16 m)]]) := by
  try delta o_cva
  try delta s_spv
  generalize @vaB = vaB
  kernel_rfl
set_option maxRecDepth 100000 in
theorem ccv_vc (i m n n2 : Int) (s d : Int → Nat → Int) (V : List QR.XV → List (List QR.CV) → Prop) : QR.evalBody Tryz.prog (o_cva) (QR.noLoops) (Tryz.f31.body.getD .skip) Tryz.f31.results.toList Tryz.f31.ntmps [.x (.c (.v (.int .i64 i))), .ref 0 [.slc 5 n (.fn fun i j => .v (.int .u16 (s i j)))], .ref 0 [.slc 5 n2 (.fn fun i j => .v (.int .u16 (d i j)))], .ref 0 [.v (.int .u16 m)]] V = (True ∧ (ile 0 i = true ∧ ilt i n2 = true ∧ ile 0 i = true ∧ ilt i n = true ∧ True) ∧ True ∧ V [XV.agg [CV.v (Value.int .u16 (s i 0)), CV.v (Value.int .u16 (s i 1)), CV.v (Value.int .u16 (s i 2)), CV.v (Value.int .u16 (s i 3)), CV.v (Value.int .u16 (s i 4))], XV.c (CV.v (Value.bool (vaB (d i 0) (d i 1) (d i 2) (d i 3) (d i 3) (d i 4) 0 0 0 0 0 m)))] [[CV.slc 5 n (QR.Row.fn fun (i : Int) (j : Nat) => CV.v (Value.int .u16 (s i j)))], [CV.slc 5 n2 (QR.Row.fn fun (i : Int) (j : Nat) => CV.v (Value.int .u16 (d i j)))], [CV.v (Value.int .u16 m)]]) := by
  try delta o_cva
  try delta s_spv
  generalize @vaB = vaB
  kernel_rfl
set_option maxRecDepth 100000 in
theorem csm_vc (i n : Int) (d : Int → Nat → Int) (V : List QR.XV → List (List QR.CV) → Prop) : QR.evalBody Tryz.prog (QR.orc []) (QR.noLoops) (Tryz.f33.body.getD .skip) Tryz.f33.results.toList Tryz.f33.ntmps [.x (.c (.v (.int .i64 i))), .ref 0 [.slc 5 n (.fn fun i j => .v (.int .u16 (d i j)))]] V = (True ∧ (ile 0 (isub IntKind.i64 i 1) = true ∧ ilt (isub IntKind.i64 i 1) n = true ∧ ile 0 i = true ∧ ilt i n = true ∧ True) ∧ True ∧ V [XV.c (CV.v (Value.bool (band (band (ieq (d i 0) (d (isub IntKind.i64 i 1) 0)) (band (ieq (d i 1) (d (isub IntKind.i64 i 1) 1)) (band (ieq (d i 2) (d (isub IntKind.i64 i 1) 2)) true))) (band (ieq (d i 3) (d (isub IntKind.i64 i 1) 3)) (band (ieq (d i 4) (d (isub IntKind.i64 i 1) 4)) true)))))] [[CV.slc 5 n (QR.Row.fn fun (i : Int) (j : Nat) => CV.v (Value.int .u16 (d i j)))]]) := by
  kernel_rfl
set_option maxRecDepth 100000 in
theorem gex_vc (kn : Bool) (i o k m n na nb : Int) (s a b : Int → Nat → Int) (V : List QR.XV → List (List QR.CV) → Prop) : QR.evalBody Tryz.prog (o_gex) (QR.noLoops) (Tryz.f48.body.getD .skip) Tryz.f48.results.toList Tryz.f48.ntmps [.x (.c (.v (.int .i64 i))), .ref 0 [.v (.bool kn)], .ref 0 [.v (.int .i64 o)], .ref 0 [.v (.int .i64 k)], .ref 0 [.v (.int .u16 m)], .ref 0 [.slc 5 n (.fn fun i j => .v (.int .u16 (s i j)))], .ref 0 [.slc 6 na (.fn fun i j => .v (.int .u16 (a i j)))], .ref 0 [.slc 5 nb (.fn fun i j => .v (.int .u16 (b i j)))]] V = (True ∧ ∀ (i_1 : Int), i_1 = bz (gsOk kn o k m (s i 0) (s i 1) (s i 2) (s i 3) (s i 4) (a i 0) (a i 1) (a i 2) (a i 3) (a i 4) (a i 5) (b i 0) (b i 1) (b i 2) (b i 3) (b i 4)) (gsC kn o k m (s i 0) (s i 3) (s i 4) (a i 0) (a i 3) (b i 0) (b i 3)) → ∀ (i_2 : Int), i_2 = bz (gsOk kn o k m (s i 0) (s i 1) (s i 2) (s i 3) (s i 4) (a i 0) (a i 1) (a i 2) (a i 3) (a i 4) (a i 5) (b i 0) (b i 1) (b i 2) (b i 3) (b i 4)) (gsC kn o k m (s i 1) (s i 3) (s i 4) (a i 1) (a i 3) (b i 1) (b i 3)) → ∀ (i_3 : Int), i_3 = bz (gsOk kn o k m (s i 0) (s i 1) (s i 2) (s i 3) (s i 4) (a i 0) (a i 1) (a i 2) (a i 3) (a i 4) (a i 5) (b i 0) (b i 1) (b i 2) (b i 3) (b i 4)) (gsC kn o k m (s i 2) (s i 3) (s i 4) (a i 2) (a i 3) (b i 2) (b i 3)) → ∀ (i_4 : Int), i_4 = bz (gsOk kn o k m (s i 0) (s i 1) (s i 2) (s i 3) (s i 4) (a i 0) (a i 1) (a i 2) (a i 3) (a i 4) (a i 5) (b i 0) (b i 1) (b i 2) (b i 3) (b i 4)) (gsA kn o m (s i 3) (s i 4) (a i 3) (b i 3)) → ∀ (i_5 : Int), i_5 = bz (gsOk kn o k m (s i 0) (s i 1) (s i 2) (s i 3) (s i 4) (a i 0) (a i 1) (a i 2) (a i 3) (a i 4) (a i 5) (b i 0) (b i 1) (b i 2) (b i 3) (b i 4)) (gsO kn o m (s i 3) (s i 4) (a i 4)) → ∀ (i_6 : Int), i_6 = bz (gsOk kn o k m (s i 0) (s i 1) (s i 2) (s i 3) (s i 4) (a i 0) (a i 1) (a i 2) (a i 3) (a i 4) (a i 5) (b i 0) (b i 1) (b i 2) (b i 3) (b i 4)) (gsF o m (s i 4) (a i 5)) → (in16 m = true ∧ in16 (s i 0) = true ∧ in16 (s i 1) = true ∧ in16 (s i 2) = true ∧ in16 (s i 3) = true ∧ in16 (s i 4) = true ∧ in16 (a i 0) = true ∧ in16 (a i 1) = true ∧ in16 (a i 2) = true ∧ in16 (a i 3) = true ∧ in16 (a i 4) = true ∧ in16 (a i 5) = true ∧ in16 (b i 0) = true ∧ in16 (b i 1) = true ∧ in16 (b i 2) = true ∧ in16 (b i 3) = true ∧ in16 (b i 4) = true ∧ ile 0 i = true ∧ ilt i nb = true ∧ ile 0 i = true ∧ ilt i na = true ∧ ile 0 i = true ∧ ilt i n = true ∧ True) ∧ True ∧ V [XV.agg [CV.v (Value.int .u16 i_1), CV.v (Value.int .u16 i_2), CV.v (Value.int .u16 i_3), CV.v (Value.int .u16 i_4), CV.v (Value.int .u16 i_5), CV.v (Value.int .u16 i_6)], XV.c (CV.v (Value.bool (gsOk kn o k m (s i 0) (s i 1) (s i 2) (s i 3) (s i 4) (a i 0) (a i 1) (a i 2) (a i 3) (a i 4) (a i 5) (b i 0) (b i 1) (b i 2) (b i 3) (b i 4))))] [[CV.v (Value.bool kn)], [CV.v (Value.int .i64 o)], [CV.v (Value.int .i64 k)], [CV.v (Value.int .u16 m)], [CV.slc 5 n (QR.Row.fn fun (i : Int) (j : Nat) => CV.v (Value.int .u16 (s i j)))], [CV.slc 6 na (QR.Row.fn fun (i : Int) (j : Nat) => CV.v (Value.int .u16 (a i j)))], [CV.slc 5 nb (QR.Row.fn fun (i : Int) (j : Nat) => CV.v (Value.int .u16 (b i j)))]]) := by
  try delta o_gex
  try delta s_gstep
  generalize @bz = bz
  generalize @gsA = gsA
  generalize @gsC = gsC
  generalize @gsF = gsF
  generalize @gsO = gsO
  generalize @gsOk = gsOk
  generalize @in16 = in16
  kernel_rfl
set_option maxRecDepth 100000 in
theorem gkp_vc (i m na nb : Int) (a b : Int → Nat → Int) (V : List QR.XV → List (List QR.CV) → Prop) : QR.evalBody Tryz.prog (o_spv) (QR.noLoops) (Tryz.f50.body.getD .skip) Tryz.f50.results.toList Tryz.f50.ntmps [.x (.c (.v (.int .i64 i))), .ref 0 [.slc 6 na (.fn fun i j => .v (.int .u16 (a i j)))], .ref 0 [.slc 5 nb (.fn fun i j => .v (.int .u16 (b i j)))], .ref 0 [.v (.int .u16 m)]] V = (True ∧ (ile 0 i = true ∧ ilt i nb = true ∧ ile 0 i = true ∧ ilt i na = true ∧ ile 0 i = true ∧ ilt i na = true ∧ True) ∧ True ∧ V [XV.agg [CV.v (Value.int .u16 (a i 0)), CV.v (Value.int .u16 (a i 1)), CV.v (Value.int .u16 (a i 2)), CV.v (Value.int .u16 (a i 3)), CV.v (Value.int .u16 (a i 4)), CV.v (Value.int .u16 (a i 5))], XV.c (CV.v (Value.bool (vaB (a i 0) (a i 1) (a i 2) (a i 3) (a i 4) (a i 5) (b i 0) (b i 1) (b i 2) (b i 3) (b i 4) m)))] [[CV.slc 6 na (QR.Row.fn fun (i : Int) (j : Nat) => CV.v (Value.int .u16 (a i j)))], [CV.slc 5 nb (QR.Row.fn fun (i : Int) (j : Nat) => CV.v (Value.int .u16 (b i j)))], [CV.v (Value.int .u16 m)]]) := by
  try delta o_spv
  try delta s_va
  generalize @vaB = vaB
  kernel_rfl
set_option maxRecDepth 100000 in
theorem gcv_vc (i m n na nb : Int) (s a b : Int → Nat → Int) (V : List QR.XV → List (List QR.CV) → Prop) : QR.evalBody Tryz.prog (o_spv) (QR.noLoops) (Tryz.f52.body.getD .skip) Tryz.f52.results.toList Tryz.f52.ntmps [.x (.c (.v (.int .i64 i))), .ref 0 [.slc 5 n (.fn fun i j => .v (.int .u16 (s i j)))], .ref 0 [.v (.int .u16 m)], .ref 0 [.slc 6 na (.fn fun i j => .v (.int .u16 (a i j)))], .ref 0 [.slc 5 nb (.fn fun i j => .v (.int .u16 (b i j)))]] V = (True ∧ (ile 0 i = true ∧ ilt i nb = true ∧ ile 0 i = true ∧ ilt i na = true ∧ ile 0 i = true ∧ ilt i n = true ∧ True) ∧ True ∧ V [XV.agg [CV.v (Value.int .u16 (s i 0)), CV.v (Value.int .u16 (s i 1)), CV.v (Value.int .u16 (s i 2)), CV.v (Value.int .u16 m), CV.v (Value.int .u16 m), CV.v (Value.int .u16 m)], XV.c (CV.v (Value.bool (vaB (a i 0) (a i 1) (a i 2) (a i 3) (a i 4) (a i 5) (b i 0) (b i 1) (b i 2) (b i 3) (b i 4) m)))] [[CV.slc 5 n (QR.Row.fn fun (i : Int) (j : Nat) => CV.v (Value.int .u16 (s i j)))], [CV.v (Value.int .u16 m)], [CV.slc 6 na (QR.Row.fn fun (i : Int) (j : Nat) => CV.v (Value.int .u16 (a i j)))], [CV.slc 5 nb (QR.Row.fn fun (i : Int) (j : Nat) => CV.v (Value.int .u16 (b i j)))]]) := by
  try delta o_spv
  try delta s_va
  generalize @vaB = vaB
  kernel_rfl
set_option maxRecDepth 100000 in
theorem gsm_vc (i na nb : Int) (a b : Int → Nat → Int) (V : List QR.XV → List (List QR.CV) → Prop) : QR.evalBody Tryz.prog (QR.orc []) (QR.noLoops) (Tryz.f54.body.getD .skip) Tryz.f54.results.toList Tryz.f54.ntmps [.x (.c (.v (.int .i64 i))), .ref 0 [.slc 6 na (.fn fun i j => .v (.int .u16 (a i j)))], .ref 0 [.slc 5 nb (.fn fun i j => .v (.int .u16 (b i j)))]] V = (True ∧ bcond (band (band (ieq (a i 0) (a (isub IntKind.i64 i 1) 0)) (band (ieq (a i 1) (a (isub IntKind.i64 i 1) 1)) (band (ieq (a i 2) (a (isub IntKind.i64 i 1) 2)) true))) (band (ieq (a i 3) (a (isub IntKind.i64 i 1) 3)) (band (ieq (a i 4) (a (isub IntKind.i64 i 1) 4)) (band (ieq (a i 5) (a (isub IntKind.i64 i 1) 5)) true)))) ((ile 0 (isub IntKind.i64 i 1) = true ∧ ilt (isub IntKind.i64 i 1) nb = true ∧ ile 0 i = true ∧ ilt i nb = true ∧ ile 0 (isub IntKind.i64 i 1) = true ∧ ilt (isub IntKind.i64 i 1) na = true ∧ ile 0 i = true ∧ ilt i na = true ∧ True) ∧ True ∧ V [XV.c (CV.v (Value.bool (band (band (ieq (b i 0) (b (isub IntKind.i64 i 1) 0)) (band (ieq (b i 1) (b (isub IntKind.i64 i 1) 1)) (band (ieq (b i 2) (b (isub IntKind.i64 i 1) 2)) true))) (band (ieq (b i 3) (b (isub IntKind.i64 i 1) 3)) (band (ieq (b i 4) (b (isub IntKind.i64 i 1) 4)) true)))))] [[CV.slc 6 na (QR.Row.fn fun (i : Int) (j : Nat) => CV.v (Value.int .u16 (a i j)))], [CV.slc 5 nb (QR.Row.fn fun (i : Int) (j : Nat) => CV.v (Value.int .u16 (b i j)))]]) ((ile 0 (isub IntKind.i64 i 1) = true ∧ ilt (isub IntKind.i64 i 1) na = true ∧ ile 0 i = true ∧ ilt i na = true ∧ True) ∧ True ∧ V [XV.c (CV.v (Value.bool false))] [[CV.slc 6 na (QR.Row.fn fun (i : Int) (j : Nat) => CV.v (Value.int .u16 (a i j)))], [CV.slc 5 nb (QR.Row.fn fun (i : Int) (j : Nat) => CV.v (Value.int .u16 (b i j)))]])) := by
  kernel_rfl
set_option maxRecDepth 100000 in
theorem rex_vc (i m na nb : Int) (a b : Int → Nat → Int) (V : List QR.XV → List (List QR.CV) → Prop) : QR.evalBody Tryz.prog (o_rex) (QR.noLoops) (Tryz.f55.body.getD .skip) Tryz.f55.results.toList Tryz.f55.ntmps [.x (.c (.v (.int .i64 i))), .ref 0 [.slc 6 na (.fn fun i j => .v (.int .u16 (a i j)))], .ref 0 [.slc 5 nb (.fn fun i j => .v (.int .u16 (b i j)))], .ref 0 [.v (.int .u16 m)]] V = (True ∧ ∀ (i_1 : Int), i_1 = grV (vaB (a i 0) (a i 1) (a i 2) (a i 3) (a i 4) (a i 5) (b i 0) (b i 1) (b i 2) (b i 3) (b i 4) m) (a i 0) (b i 0) (a i 4) m → ∀ (i_2 : Int), i_2 = grV (vaB (a i 0) (a i 1) (a i 2) (a i 3) (a i 4) (a i 5) (b i 0) (b i 1) (b i 2) (b i 3) (b i 4) m) (a i 1) (b i 1) (a i 4) m → ∀ (i_3 : Int), i_3 = grV (vaB (a i 0) (a i 1) (a i 2) (a i 3) (a i 4) (a i 5) (b i 0) (b i 1) (b i 2) (b i 3) (b i 4) m) (a i 2) (b i 2) (a i 4) m → ∀ (i_4 : Int), i_4 = bz (vaB (a i 0) (a i 1) (a i 2) (a i 3) (a i 4) (a i 5) (b i 0) (b i 1) (b i 2) (b i 3) (b i 4) m) (a i 4) → ∀ (i_5 : Int), i_5 = bz (vaB (a i 0) (a i 1) (a i 2) (a i 3) (a i 4) (a i 5) (b i 0) (b i 1) (b i 2) (b i 3) (b i 4) m) (a i 5) → (in16 m = true ∧ in16 (a i 0) = true ∧ in16 (a i 1) = true ∧ in16 (a i 2) = true ∧ in16 (a i 3) = true ∧ in16 (a i 4) = true ∧ in16 (a i 5) = true ∧ in16 (b i 0) = true ∧ in16 (b i 1) = true ∧ in16 (b i 2) = true ∧ in16 (b i 3) = true ∧ in16 (b i 4) = true ∧ ile 0 i = true ∧ ilt i nb = true ∧ ile 0 i = true ∧ ilt i na = true ∧ True) ∧ True ∧ V [XV.agg [CV.v (Value.int .u16 i_1), CV.v (Value.int .u16 i_2), CV.v (Value.int .u16 i_3), CV.v (Value.int .u16 i_4), CV.v (Value.int .u16 i_5)], XV.c (CV.v (Value.bool (vaB (a i 0) (a i 1) (a i 2) (a i 3) (a i 4) (a i 5) (b i 0) (b i 1) (b i 2) (b i 3) (b i 4) m)))] [[CV.slc 6 na (QR.Row.fn fun (i : Int) (j : Nat) => CV.v (Value.int .u16 (a i j)))], [CV.slc 5 nb (QR.Row.fn fun (i : Int) (j : Nat) => CV.v (Value.int .u16 (b i j)))], [CV.v (Value.int .u16 m)]]) := by
  try delta o_rex
  try delta s_gres
  generalize @bz = bz
  generalize @grV = grV
  generalize @in16 = in16
  generalize @vaB = vaB
  kernel_rfl
set_option maxRecDepth 100000 in
theorem ral_vc (i m na nb : Int) (a b : Int → Nat → Int) (V : List QR.XV → List (List QR.CV) → Prop) : QR.evalBody Tryz.prog (o_ral) (QR.noLoops) (Tryz.f56.body.getD .skip) Tryz.f56.results.toList Tryz.f56.ntmps [.x (.c (.v (.int .i64 i))), .ref 0 [.slc 6 na (.fn fun i j => .v (.int .u16 (a i j)))], .ref 0 [.slc 5 nb (.fn fun i j => .v (.int .u16 (b i j)))], .ref 0 [.v (.int .u16 m)]] V = (True ∧ ∀ (i_1 : Int), i_1 = iimin (a i 0) (a i 4) → ∀ (i_2 : Int), i_2 = iimin (a i 1) (a i 4) → ∀ (i_3 : Int), i_3 = iimin (a i 2) (a i 4) → ∀ (i_4 : Int), i_4 = a i 4 → ∀ (i_5 : Int), i_5 = a i 5 → (ile 0 i = true ∧ ilt i nb = true ∧ ile 0 i = true ∧ ilt i na = true ∧ ile 0 i = true ∧ ilt i na = true ∧ True) ∧ True ∧ V [XV.agg [CV.v (Value.int .u16 i_1), CV.v (Value.int .u16 i_2), CV.v (Value.int .u16 i_3), CV.v (Value.int .u16 i_4), CV.v (Value.int .u16 i_5)], XV.c (CV.v (Value.bool (vaB (a i 0) (a i 1) (a i 2) (a i 3) (a i 4) (a i 5) (b i 0) (b i 1) (b i 2) (b i 3) (b i 4) m)))] [[CV.slc 6 na (QR.Row.fn fun (i : Int) (j : Nat) => CV.v (Value.int .u16 (a i j)))], [CV.slc 5 nb (QR.Row.fn fun (i : Int) (j : Nat) => CV.v (Value.int .u16 (b i j)))], [CV.v (Value.int .u16 m)]]) := by
  try delta o_ral
  try delta s_alone
  try delta s_va
  generalize @vaB = vaB
  kernel_rfl
set_option maxRecDepth 100000 in
theorem rsm_vc (i n : Int) (a : Int → Nat → Int) (V : List QR.XV → List (List QR.CV) → Prop) : QR.evalBody Tryz.prog (QR.orc []) (QR.noLoops) (Tryz.f58.body.getD .skip) Tryz.f58.results.toList Tryz.f58.ntmps [.x (.c (.v (.int .i64 i))), .ref 0 [.slc 6 n (.fn fun i j => .v (.int .u16 (a i j)))]] V = (True ∧ (ile 0 (isub IntKind.i64 i 1) = true ∧ ilt (isub IntKind.i64 i 1) n = true ∧ ile 0 i = true ∧ ilt i n = true ∧ True) ∧ True ∧ V [XV.c (CV.v (Value.bool (band (band (ieq (a i 0) (a (isub IntKind.i64 i 1) 0)) (band (ieq (a i 1) (a (isub IntKind.i64 i 1) 1)) (band (ieq (a i 2) (a (isub IntKind.i64 i 1) 2)) true))) (band (ieq (a i 3) (a (isub IntKind.i64 i 1) 3)) (band (ieq (a i 4) (a (isub IntKind.i64 i 1) 4)) (band (ieq (a i 5) (a (isub IntKind.i64 i 1) 5)) true))))))] [[CV.slc 6 n (QR.Row.fn fun (i : Int) (j : Nat) => CV.v (Value.int .u16 (a i j)))]]) := by
  kernel_rfl
set_option maxRecDepth 100000 in
theorem cls_vc (n m : Int) (q : Int → Nat → Int) (V : List QR.XV → List (List QR.CV) → Prop) : QR.evalBodyK Tryz.prog (QR.orc []) ((o_cfg_cl n m q)) (Tryz.f34.body.getD .skip) Tryz.f34.results.toList Tryz.f34.ntmps [.x (.c (.slc 5 n (.fn fun i j => .v (.int .u16 (q i j))))), .x (.c (.v (.int .u16 m)))] V = ((True ∧ True ∧ ∃ (i : Nat), True ∧ true = true ∧ true = true ∧ ((true = true ∧ 0 = 0 ∧ 0 = 0) ∧ (true = true ∧ 1 = 1 ∧ 0 = 0) ∧ True) ∧ (zz82 n q) ∧ ((IntKind.u16 = IntKind.u16 ∧ m = m) ∧ True) ∧ True) ∧ ∀ (i : Nat), True → True ∧ True ∧ ∀ (i : Int), i = n → True ∧ (∃ (i_1 : Int), rwG n (pxT q) i_1 ∧ True ∧ true = true ∧ ((true = true ∧ Value.func (Fn.func 74) #[] #[] = Value.func (Fn.func 74) #[] #[]) ∧ (zz80 n q) ∧ (true = true ∧ IntKind.i64 = IntKind.i64 ∧ i = n) ∧ (true = true ∧ IntKind.i64 = IntKind.i64 ∧ (0 : Int) = i_1) ∧ True) ∧ (zz82 n q) ∧ ((IntKind.u16 = IntKind.u16 ∧ m = m) ∧ True) ∧ True) ∧ ∀ (i : Int), rwG n (pxT q) i → True ∧ bcond (ilt i n) ((ile 0 i = true ∧ ilt i n = true ∧ True) ∧ True ∧ bcond (bnot (tpB (q i 0) (q i 1) (q i 2) (q i 3) (q i 4))) (True ∧ True ∧ true = true ∧ True ∧ True ∧ True ∧ ∀ (i : Int), i = n → True ∧ (∃ (i_1 : Int), rwG n (pxE q) i_1 ∧ True ∧ true = true ∧ ((true = true ∧ 75 = 75 ∧ [(100000000000000500, 0)] = [(100000000000000500, 0)]) ∧ (zz80 n q) ∧ (true = true ∧ IntKind.i64 = IntKind.i64 ∧ i = n) ∧ (true = true ∧ IntKind.i64 = IntKind.i64 ∧ (0 : Int) = i_1) ∧ True) ∧ (zz82 n q) ∧ ((IntKind.u16 = IntKind.u16 ∧ m = m) ∧ True) ∧ True) ∧ ∀ (i : Int), rwG n (pxE q) i → True ∧ bcond (ilt i n) ((ile 0 i = true ∧ ilt i n = true ∧ True) ∧ (intRow IntKind.u16 5 n (QR.Row.fn fun (a : Int) (b : Nat) => CV.v (Value.int .u16 (q a b))) ∧ ilt 0 n = true ∧ True) ∧ bcond (bnot (pxQ (q i 0) (q i 1) (q i 2) (q i 3) (q i 4) (qOf (QR.Row.fn fun (a : Int) (b : Nat) => CV.v (Value.int .u16 (q a b)))))) (True ∧ True ∧ true = true ∧ True ∧ True ∧ True ∧ ∀ (i : Int), i = n → True ∧ (∃ (i_1 : Int), rwG n (pxO m q) i_1 ∧ True ∧ true = true ∧ ((true = true ∧ 76 = 76 ∧ [(100000000000000501, 0)] = [(100000000000000501, 0)]) ∧ (zz80 n q) ∧ (true = true ∧ IntKind.i64 = IntKind.i64 ∧ i = n) ∧ (true = true ∧ IntKind.i64 = IntKind.i64 ∧ (0 : Int) = i_1) ∧ True) ∧ (zz82 n q) ∧ ((IntKind.u16 = IntKind.u16 ∧ m = m) ∧ True) ∧ True) ∧ ∀ (i : Int), rwG n (pxO m q) i → True ∧ bcond (ilt i n) ((ile 0 i = true ∧ ilt i n = true ∧ True) ∧ True ∧ bcond (bnot (oqB (q i 0) (q i 1) (q i 2) (q i 3) (q i 4) m)) (True ∧ True ∧ true = true ∧ True ∧ True ∧ True ∧ V [XV.c (CV.v (Value.int .i64 4))] []) (True ∧ ∃ (j : Int), rwG n (pxO m q) j ∧ (True ∧ true = true ∧ ((true = true ∧ 76 = 76 ∧ [(100000000000000501, 0)] = [(100000000000000501, 0)]) ∧ (zz80 n q) ∧ (true = true ∧ IntKind.i64 = IntKind.i64 ∧ n = n) ∧ (true = true ∧ IntKind.i64 = IntKind.i64 ∧ iadd IntKind.i64 i 1 = j) ∧ True) ∧ (zz82 n q) ∧ ((IntKind.u16 = IntKind.u16 ∧ m = m) ∧ True) ∧ True) ∧ Nat.le (Nat.succ (scMu n j)) (scMu n i))) (True ∧ True ∧ true = true ∧ True ∧ True ∧ True ∧ V [XV.c (CV.v (Value.int .i64 3))] [])) (True ∧ ∃ (j : Int), rwG n (pxE q) j ∧ (True ∧ true = true ∧ ((true = true ∧ 75 = 75 ∧ [(100000000000000500, 0)] = [(100000000000000500, 0)]) ∧ (zz80 n q) ∧ (true = true ∧ IntKind.i64 = IntKind.i64 ∧ n = n) ∧ (true = true ∧ IntKind.i64 = IntKind.i64 ∧ iadd IntKind.i64 i 1 = j) ∧ True) ∧ (zz82 n q) ∧ ((IntKind.u16 = IntKind.u16 ∧ m = m) ∧ True) ∧ True) ∧ Nat.le (Nat.succ (scMu n j)) (scMu n i))) (True ∧ True ∧ true = true ∧ True ∧ True ∧ True ∧ V [XV.c (CV.v (Value.int .i64 2))] [])) (True ∧ ∃ (j : Int), rwG n (pxT q) j ∧ (True ∧ true = true ∧ ((true = true ∧ Value.func (Fn.func 74) #[] #[] = Value.func (Fn.func 74) #[] #[]) ∧ (zz80 n q) ∧ (true = true ∧ IntKind.i64 = IntKind.i64 ∧ n = n) ∧ (true = true ∧ IntKind.i64 = IntKind.i64 ∧ iadd IntKind.i64 i 1 = j) ∧ True) ∧ (zz82 n q) ∧ ((IntKind.u16 = IntKind.u16 ∧ m = m) ∧ True) ∧ True) ∧ Nat.le (Nat.succ (scMu n j)) (scMu n i))) (True ∧ True ∧ true = true ∧ True ∧ True ∧ True ∧ V [XV.c (CV.v (Value.int .i64 1))] [])) := by
  delta zz16 zz80 zz82
  generalize @intRow = intRow
  generalize @oqB = oqB
  generalize @pxE = pxE
  generalize @pxO = pxO
  generalize @pxQ = pxQ
  generalize @pxT = pxT
  generalize @qOf = qOf
  generalize @rwG = rwG
  generalize @scMu = scMu
  generalize @tpB = tpB
  kernel_rfl
set_option maxRecDepth 100000 in
theorem eff_vc (o k m n : Int) (q : Int → Nat → Int) (V : List QR.XV → List (List QR.CV) → Prop) : QR.evalBody Tryz.prog (o_eff) (QR.noLoops) (Tryz.f27.body.getD .skip) Tryz.f27.results.toList Tryz.f27.ntmps [.x (.c (.v (.int .i64 o))), .x (.c (.v (.int .i64 k))), .x (.c (.v (.int .u16 m))), .x (.c (.slc 5 n (.fn fun i j => .v (.int .u16 (q i j)))))] V = (True ∧ bcond (ieq o 4) (True ∧ ∀ (i : Int), i = clsV n (qOf (QR.Row.fn fun (i : Int) (j : Nat) => CV.v (Value.int .u16 (q i j)))) m → (intRow IntKind.u16 5 n (QR.Row.fn fun (i : Int) (j : Nat) => CV.v (Value.int .u16 (q i j))) ∧ ile 0 n = true ∧ ile n 9223372036854775807 = true ∧ True) ∧ True ∧ bcond (ieq i 1) (True ∧ bcond (nuB o) (True ∧ True ∧ V [XV.c (CV.v (Value.int .i64 1))] []) (True ∧ True ∧ V [XV.c (CV.v (Value.int .i64 3))] [])) (True ∧ bcond (ieq i 2) (bcond (ieq k 1) ((true = true ∧ ilt 0 n = true ∧ True) ∧ bcond (oqB (q 0 0) (q 0 1) (q 0 2) (q 0 3) (q 0 4) m) (True ∧ True ∧ V [XV.c (CV.v (Value.int .i64 2))] []) (True ∧ True ∧ V [XV.c (CV.v (Value.int .i64 3))] [])) (True ∧ True ∧ True ∧ V [XV.c (CV.v (Value.int .i64 3))] [])) (True ∧ bcond (ieq i 3) (True ∧ bcond (ieq k 1) (True ∧ True ∧ V [XV.c (CV.v (Value.int .i64 2))] []) (True ∧ True ∧ V [XV.c (CV.v (Value.int .i64 0))] [])) (True ∧ True ∧ V [XV.c (CV.v (Value.int .i64 0))] [])))) (True ∧ ∀ (i : Int), i = clsV n (qOf (QR.Row.fn fun (i : Int) (j : Nat) => CV.v (Value.int .u16 (q i j)))) m → (intRow IntKind.u16 5 n (QR.Row.fn fun (i : Int) (j : Nat) => CV.v (Value.int .u16 (q i j))) ∧ ile 0 n = true ∧ ile n 9223372036854775807 = true ∧ True) ∧ True ∧ bcond (ieq i 1) (True ∧ bcond (nuB o) (True ∧ True ∧ V [XV.c (CV.v (Value.int .i64 1))] []) (True ∧ True ∧ V [XV.c (CV.v (Value.int .i64 3))] [])) (True ∧ bcond (ieq i 2) (True ∧ True ∧ True ∧ V [XV.c (CV.v (Value.int .i64 3))] []) (True ∧ bcond (ieq i 3) (True ∧ True ∧ True ∧ V [XV.c (CV.v (Value.int .i64 0))] []) (True ∧ True ∧ V [XV.c (CV.v (Value.int .i64 0))] []))))) := by
  try delta o_eff
  try delta s_scls
  try delta s_nu
  try delta s_opaque
  generalize @clsV = clsV
  generalize @intRow = intRow
  generalize @nuB = nuB
  generalize @oqB = oqB
  generalize @qOf = qOf
  kernel_rfl
end Go.Proofs.YtpjhdjakpbabhaaGreatDoor
