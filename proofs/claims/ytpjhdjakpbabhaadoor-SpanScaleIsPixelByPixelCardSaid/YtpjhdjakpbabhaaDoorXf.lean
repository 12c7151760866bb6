import Derived.Test.YtpjhdjakpbabhaaDoorZaa
import Derived.Test.YtpjhdjakpbabhaaDoorXc
import Derived.Test.YtpjhdjakpbabhaaDoorKc
import Derived.Test.YtpjhdjakpbabhaaDoorRk
namespace Go.Proofs.YtpjhdjakpbabhaaDoor
open Go.RowKit PR QR
set_option linter.unusedVariables false
def nuB (o : Int) : Bool := decide (o = 3 ∨ o = 4 ∨ o = 5 ∨ o = 9 ∨ o = 10 ∨ o = 12)
def rplB (o k : Int) : Bool := decide (o = 4 ∧ k = 1)
def efV (o k m n : Int) (q : Int → Nat → Int) : Int := bif decide (clsV n q m = 1) then (bif nuB o then 1 else 3) else bif decide (clsV n q m = 2) then (bif rplB o k && pxO m q 0 then 2 else 3) else bif decide (clsV n q m = 3) && rplB o k then 2 else 0
def vpR (m : Int) (d : Int → Nat → Int) (i : Int) : Bool := vaB (d i 0) (d i 1) (d i 2) (d i 3) (d i 3) (d i 4) 0 0 0 0 0 m
def rcZ (o k m : Int) (s d : Int → Nat → Int) (i : Int) (j : Nat) : Int := bz (rcI o k m s d i) (rcV o k m s d i j)
def eqR (z : Nat) (d : Int → Nat → Int) (i i' : Int) : Bool := decide (∀ j : Nat, j < z → d i j = d i' j)
def faI (nm i : Int) : Bool := decide (0 ≤ nm ∧ (0 < nm → 0 ≤ i ∧ i < nm))
def pxQ (c0 c1 c2 a f : Int) (q : Int → Nat → Int) : Bool := decide (c0 = q 0 0 ∧ c1 = q 0 1 ∧ c2 = q 0 2 ∧ a = q 0 3 ∧ f = q 0 4)
def rwV (i : Int) (V : Int → Nat → Int) (a : Int) (b : Nat) : Int := if a < i then V a b else 0
def lsV (i : Int) (V : Int → Nat → Int) (b : Nat) : Int := if i = 0 then 0 else V (i - 1) b
def rwG (n : Int) (f : Int → Bool) (i : Int) : Prop := (0 ≤ i ∧ i ≤ n) ∧ allR i f = true
def rwG0 (n : Int) (i : Int) : Prop := i = 0 ∧ 0 ≤ n
def rwG1 (n : Int) (f : Int → Bool) (i : Int) : Prop := rwG n f i ∧ 1 ≤ i
def rcP (p q : Int) (n n' : Int) : Prop := p = q ∧ n = n'
def s_nu : List AV → Option QR.Ans
  | [.x (.c (.v (.int .i64 o)))] => some ⟨[.c (.v (.bool (nuB o)))], [], []⟩
  | _ => none
def s_spv : List AV → Option QR.Ans
  | [.x (.agg [.v (.int .u16 c0), .v (.int .u16 c1), .v (.int .u16 c2), .v (.int .u16 a), .v (.int .u16 f)]), .x (.c (.v (.int .u16 m)))] => some ⟨[.c (.v (.bool (vaB c0 c1 c2 a a f 0 0 0 0 0 m)))], [], []⟩
  | _ => none
def s_cl1 : List AV → Option QR.Ans
  | [.x (.agg [.v (.int .u16 c0), .v (.int .u16 c1), .v (.int .u16 c2), .v (.int .u16 a), .v (.int .u16 f)]), .ref 0 [.slc z n r]] => bif Nat.beq z 5 then some ⟨[.c (.v (.bool (pxQ c0 c1 c2 a f (qOf r))))], [[.own 0 0]], [intRow .u16 5 n r, ilt 0 n = true]⟩ else none
  | _ => none
def s_cl2 : List AV → Option QR.Ans
  | [.x (.agg [.v (.int .u16 c0), .v (.int .u16 c1), .v (.int .u16 c2), .v (.int .u16 a), .v (.int .u16 f)]), .ref 0 [.v (.int .u16 m)]] => some ⟨[.c (.v (.bool (oqB c0 c1 c2 a f m)))], [[.own 0 0]], []⟩
  | _ => none
def s_cex : List AV → Option QR.Ans
  | [.x (.c (.v (.int .i64 i))), .ref 0 [.v (.int .i64 o)], .ref 0 [.v (.int .i64 k)], .ref 0 [.v (.int .u16 m)], .ref 0 [.slc z n r], .ref 0 [.slc z2 n2 r2]] => bif Nat.beq z 5 && Nat.beq z2 5 then some ⟨[.agg [.v (.int .u16 (rcZ o k m (qOf r) (qOf r2) i 0)), .v (.int .u16 (rcZ o k m (qOf r) (qOf r2) i 1)), .v (.int .u16 (rcZ o k m (qOf r) (qOf r2) i 2)), .v (.int .u16 (rcZ o k m (qOf r) (qOf r2) i 3)), .v (.int .u16 (rcZ o k m (qOf r) (qOf r2) i 4))], .c (.v (.bool (rcI o k m (qOf r) (qOf r2) i)))], [[.own 0 0]],
      [intRow .u16 5 n r, intRow .u16 5 n2 r2, row16 5 n (qOf r), row16 5 n2 (qOf r2), in16 m = true, ile 0 i = true, ilt i n = true, ilt i n2 = true]⟩ else none
  | _ => none
def s_ckp : List AV → Option QR.Ans
  | [.x (.c (.v (.int .i64 i))), .ref 0 [.slc z n r], .ref 0 [.v (.int .u16 m)]] => bif Nat.beq z 5 then some ⟨[.agg [.v (.int .u16 (qOf r i 0)), .v (.int .u16 (qOf r i 1)), .v (.int .u16 (qOf r i 2)), .v (.int .u16 (qOf r i 3)), .v (.int .u16 (qOf r i 4))], .c (.v (.bool (vpR m (qOf r) i)))], [[.own 0 0]], [intRow .u16 5 n r, ile 0 i = true, ilt i n = true]⟩ else none
  | _ => none
def s_ccv : List AV → Option QR.Ans
  | [.x (.c (.v (.int .i64 i))), .ref 0 [.slc z n r], .ref 0 [.slc z2 n2 r2], .ref 0 [.v (.int .u16 m)]] => bif Nat.beq z 5 && Nat.beq z2 5 then some ⟨[.agg [.v (.int .u16 (qOf r i 0)), .v (.int .u16 (qOf r i 1)), .v (.int .u16 (qOf r i 2)), .v (.int .u16 (qOf r i 3)), .v (.int .u16 (qOf r i 4))], .c (.v (.bool (vpR m (qOf r2) i)))], [[.own 0 0]], [intRow .u16 5 n r, intRow .u16 5 n2 r2, ile 0 i = true, ilt i n = true, ilt i n2 = true]⟩ else none
  | _ => none
def s_csm : List AV → Option QR.Ans
  | [.x (.c (.v (.int .i64 i))), .ref 0 [.slc z n r]] => bif Nat.beq z 5 then some ⟨[.c (.v (.bool (eqR 5 (qOf r) i (isub .i64 i 1))))], [[.own 0 0]], [intRow .u16 5 n r, ile 0 i = true, ilt i n = true, ile 0 (isub .i64 i 1) = true, ilt (isub .i64 i 1) n = true]⟩ else none
  | _ => none
def s_cfa : List AV → Option QR.Ans
  | [.x (.c (.v (.int .i64 i))), .ref 0 [.slc z n r], .ref 0 [.v (.int .u16 m)]] => bif Nat.beq z 1 then some ⟨[.c (.v (.int .u16 (smkV m n (qO1 r) i)))], [[.own 0 0]], [intRow .u16 1 n r, faI n i = true]⟩ else none
  | _ => none
def s_eff : List AV → Option QR.Ans
  | [.x (.c (.v (.int .i64 o))), .x (.c (.v (.int .i64 k))), .x (.c (.v (.int .u16 m))), .x (.c (.slc z n r))] => bif Nat.beq z 5 then some ⟨[.c (.v (.int .i64 (efV o k m n (qOf r))))], [], [intRow .u16 5 n r, ile 0 n = true, ile n 9223372036854775807 = true]⟩ else none
  | _ => none
def o_spv : QR.Oracle := QR.orc [(41, s_va)]
def o_cl2 : QR.Oracle := QR.orc [(21, s_opaque)]
def o_cex : QR.Oracle := QR.orc [(34, s_comp)]
def o_cva : QR.Oracle := QR.orc [(31, s_spv)]
def o_eff : QR.Oracle := QR.orc [(9, s_scls), (48, s_nu), (21, s_opaque)]
def o_clB (n m : Int) (q : Int → Nat → Int) : List (Nat × Blk) := [(100000000000000500, .cells [.slc 5 n (.fn fun a b => .v (.int .u16 (q a b)))]), (100000000000000501, .cells [.v (.int .u16 m)])]
noncomputable def o_inv_all (n m : Int) (q : Int → Nat → Int) (g : CV) (f : Int → Bool) : QR.Inv where
  ι := Int
  good i := rwG n f i
  slots i := QR.slotsOf Tryd.f17.ntmps [(1, .x (.c g)), (7, .x (.c (.slc 5 n (.fn fun a b => .v (.int .u16 (q a b)))))), (8, .x (.c (.v (.int .i64 n)))), (9, .x (.c (.v (.int .i64 i))))]
  blocks _ := o_clB n m q
  μ i := scMu n i
def o_allO : QR.Oracle := QR.orc [(18, s_transp), (19, s_cl1), (20, s_cl2)]
noncomputable def o_inl_all (j : Nat) (n m : Int) (q : Int → Nat → Int) (g : CV) (f : Int → Bool) : QR.Inl := ⟨j, QR.GB, 17, Tryd.f17.ntmps, Tryd.f17.results.toList, QR.evalJ Tryd.prog o_allO (fun k => bif Nat.beq k 2 then some (.inv (o_inv_all n m q g f)) else none) (fun _ => none) (Tryd.f17.body.getD .skip)⟩
noncomputable def o_pin_cl (n m : Int) (q : Int → Nat → Int) : QR.Inv where
  ι := Nat
  good _ := True
  slots _ := QR.slotsOf Tryd.f9.ntmps [(2, .x (.c (.ptr 100000000000000500 0))), (3, .x (.c (.ptr 100000000000000501 0)))]
  blocks _ := o_clB n m q
  μ _ := 0
noncomputable def o_cfg_cl (n m : Int) (q : Int → Nat → Int) : QR.CfgK := ⟨QR.noLoops, fun _ => none, fun k => bif Nat.beq k 1 then some (o_inl_all 1 n m q (.v (.func (.func 18) ⟨[]⟩ ⟨[]⟩)) (pxT q)) else bif Nat.beq k 3 then some (o_inl_all 2 n m q (.fn 19 [(100000000000000500, 0)]) (pxE q)) else bif Nat.beq k 5 then some (o_inl_all 2 n m q (.fn 20 [(100000000000000501, 0)]) (pxO m q)) else none, fun k => bif Nat.beq k 1 then some (o_pin_cl n m q) else none, 500⟩
set_option maxRecDepth 100000 in
theorem nu_vc (o : Int) (V : List QR.XV → List (List QR.CV) → Prop) : QR.evalBody Tryd.prog (QR.orc []) (QR.noLoops) (Tryd.f48.body.getD .skip) Tryd.f48.results.toList Tryd.f48.ntmps [.x (.c (.v (.int .i64 o)))] V = (True ∧ True ∧ True ∧ bcond (ieq o 3) (bcond (ieq o 3) (True ∧ True ∧ V [XV.c (CV.v (Value.bool true))] []) (True ∧ True ∧ V [XV.c (CV.v (Value.bool false))] [])) (True ∧ bcond (ieq o 4) (bcond (ieq o 4) (True ∧ True ∧ V [XV.c (CV.v (Value.bool true))] []) (True ∧ True ∧ V [XV.c (CV.v (Value.bool false))] [])) (True ∧ bcond (ieq o 5) (bcond (ieq o 5) (True ∧ True ∧ V [XV.c (CV.v (Value.bool true))] []) (True ∧ True ∧ V [XV.c (CV.v (Value.bool false))] [])) (True ∧ bcond (ieq o 9) (bcond (ieq o 9) (True ∧ True ∧ V [XV.c (CV.v (Value.bool true))] []) (True ∧ True ∧ V [XV.c (CV.v (Value.bool false))] [])) (True ∧ bcond (ieq o 10) (bcond (ieq o 10) (True ∧ True ∧ V [XV.c (CV.v (Value.bool true))] []) (True ∧ True ∧ V [XV.c (CV.v (Value.bool false))] [])) (True ∧ bcond (ieq o 12) (True ∧ True ∧ V [XV.c (CV.v (Value.bool true))] []) (True ∧ True ∧ V [XV.c (CV.v (Value.bool false))] []))))))) := by
  kernel_rfl
set_option maxRecDepth 100000 in
theorem spv_vc (c0 c1 c2 a f m : Int) (V : List QR.XV → List (List QR.CV) → Prop) : QR.evalBody Tryd.prog (o_spv) (QR.noLoops) (Tryd.f31.body.getD .skip) Tryd.f31.results.toList Tryd.f31.ntmps [.x (.agg [.v (.int .u16 c0), .v (.int .u16 c1), .v (.int .u16 c2), .v (.int .u16 a), .v (.int .u16 f)]), .x (.c (.v (.int .u16 m)))] V = (True ∧ True ∧ True ∧ V [XV.c (CV.v (Value.bool (vaB c0 c1 c2 a a f 0 0 0 0 0 m)))] []) := by
  try delta o_spv
  try delta s_va
  generalize @vaB = vaB
  kernel_rfl
set_option maxRecDepth 100000 in
theorem cl1_vc (c0 c1 c2 a f n : Int) (q : Int → Nat → Int) (V : List QR.XV → List (List QR.CV) → Prop) : QR.evalBody Tryd.prog (QR.orc []) (QR.noLoops) (Tryd.f19.body.getD .skip) Tryd.f19.results.toList Tryd.f19.ntmps [.x (.agg [.v (.int .u16 c0), .v (.int .u16 c1), .v (.int .u16 c2), .v (.int .u16 a), .v (.int .u16 f)]), .ref 0 [.slc 5 n (.fn fun i j => .v (.int .u16 (q i j)))]] V = (True ∧ (true = true ∧ ilt 0 n = true ∧ True) ∧ True ∧ V [XV.c (CV.v (Value.bool (band (band (ieq c0 (q 0 0)) (band (ieq c1 (q 0 1)) (band (ieq c2 (q 0 2)) true))) (band (ieq a (q 0 3)) (band (ieq f (q 0 4)) true)))))] [[CV.slc 5 n (QR.Row.fn fun (i : Int) (j : Nat) => CV.v (Value.int .u16 (q i j)))]]) := by
  kernel_rfl
set_option maxRecDepth 100000 in
theorem cl2_vc (c0 c1 c2 a f m : Int) (V : List QR.XV → List (List QR.CV) → Prop) : QR.evalBody Tryd.prog (o_cl2) (QR.noLoops) (Tryd.f20.body.getD .skip) Tryd.f20.results.toList Tryd.f20.ntmps [.x (.agg [.v (.int .u16 c0), .v (.int .u16 c1), .v (.int .u16 c2), .v (.int .u16 a), .v (.int .u16 f)]), .ref 0 [.v (.int .u16 m)]] V = (True ∧ True ∧ True ∧ V [XV.c (CV.v (Value.bool (oqB c0 c1 c2 a f m)))] [[CV.v (Value.int .u16 m)]]) := by
  try delta o_cl2
  try delta s_opaque
  generalize @oqB = oqB
  kernel_rfl
set_option maxRecDepth 100000 in
theorem cex_vc (i o k m n n2 : Int) (s d : Int → Nat → Int) (V : List QR.XV → List (List QR.CV) → Prop) : QR.evalBody Tryd.prog (o_cex) (QR.noLoops) (Tryd.f33.body.getD .skip) Tryd.f33.results.toList Tryd.f33.ntmps [.x (.c (.v (.int .i64 i))), .ref 0 [.v (.int .i64 o)], .ref 0 [.v (.int .i64 k)], .ref 0 [.v (.int .u16 m)], .ref 0 [.slc 5 n (.fn fun i j => .v (.int .u16 (s i j)))], .ref 0 [.slc 5 n2 (.fn fun i j => .v (.int .u16 (d i j)))]] V = (True ∧ ∀ (i_1 : Int), i_1 = bz (pcOk o k m (s i 0) (s i 1) (s i 2) (s i 3) (s i 4) (d i 0) (d i 1) (d i 2) (d i 3) (d i 4)) (mcV o k m (s i 0) (s i 3) (d i 0) (d i 3)) → ∀ (i_2 : Int), i_2 = bz (pcOk o k m (s i 0) (s i 1) (s i 2) (s i 3) (s i 4) (d i 0) (d i 1) (d i 2) (d i 3) (d i 4)) (mcV o k m (s i 1) (s i 3) (d i 1) (d i 3)) → ∀ (i_3 : Int), i_3 = bz (pcOk o k m (s i 0) (s i 1) (s i 2) (s i 3) (s i 4) (d i 0) (d i 1) (d i 2) (d i 3) (d i 4)) (mcV o k m (s i 2) (s i 3) (d i 2) (d i 3)) → ∀ (i_4 : Int), i_4 = bz (pcOk o k m (s i 0) (s i 1) (s i 2) (s i 3) (s i 4) (d i 0) (d i 1) (d i 2) (d i 3) (d i 4)) (alV o (s i 3) (d i 3) m) → ∀ (i_5 : Int), i_5 = bz (pcOk o k m (s i 0) (s i 1) (s i 2) (s i 3) (s i 4) (d i 0) (d i 1) (d i 2) (d i 3) (d i 4)) (shV o (s i 4) (d i 4) m) → (in16 m = true ∧ in16 (s i 0) = true ∧ in16 (s i 1) = true ∧ in16 (s i 2) = true ∧ in16 (s i 3) = true ∧ in16 (s i 4) = true ∧ in16 (d i 0) = true ∧ in16 (d i 1) = true ∧ in16 (d i 2) = true ∧ in16 (d i 3) = true ∧ in16 (d i 4) = true ∧ ile 0 i = true ∧ ilt i n2 = true ∧ ile 0 i = true ∧ ilt i n = true ∧ True) ∧ True ∧ V [XV.agg [CV.v (Value.int .u16 i_1), CV.v (Value.int .u16 i_2), CV.v (Value.int .u16 i_3), CV.v (Value.int .u16 i_4), CV.v (Value.int .u16 i_5)], XV.c (CV.v (Value.bool (pcOk o k m (s i 0) (s i 1) (s i 2) (s i 3) (s i 4) (d i 0) (d i 1) (d i 2) (d i 3) (d i 4))))] [[CV.v (Value.int .i64 o)], [CV.v (Value.int .i64 k)], [CV.v (Value.int .u16 m)], [CV.slc 5 n (QR.Row.fn fun (i : Int) (j : Nat) => CV.v (Value.int .u16 (s i j)))], [CV.slc 5 n2 (QR.Row.fn fun (i : Int) (j : Nat) => CV.v (Value.int .u16 (d i j)))]]) := by
  try delta o_cex
  try delta s_comp
  generalize @alV = alV
  generalize @bz = bz
  generalize @in16 = in16
  generalize @mcV = mcV
  generalize @pcOk = pcOk
  generalize @shV = shV
  kernel_rfl
set_option maxRecDepth 100000 in
theorem ckp_vc (i m n : Int) (d : Int → Nat → Int) (V : List QR.XV → List (List QR.CV) → Prop) : QR.evalBody Tryd.prog (o_cva) (QR.noLoops) (Tryd.f36.body.getD .skip) Tryd.f36.results.toList Tryd.f36.ntmps [.x (.c (.v (.int .i64 i))), .ref 0 [.slc 5 n (.fn fun i j => .v (.int .u16 (d i j)))], .ref 0 [.v (.int .u16 m)]] V = (True ∧ (ile 0 i = true ∧ ilt i n = true ∧ ile 0 i = true ∧ ilt i n = true ∧ True) ∧ True ∧ V [XV.agg [CV.v (Value.int .u16 (d i 0)), CV.v (Value.int .u16 (d i 1)), CV.v (Value.int .u16 (d i 2)), CV.v (Value.int .u16 (d i 3)), CV.v (Value.int .u16 (d i 4))], XV.c (CV.v (Value.bool (vaB (d i 0) (d i 1) (d i 2) (d i 3) (d i 3) (d i 4) 0 0 0 0 0 m)))] [[CV.slc 5 n (QR.Row.fn fun (i : Int) (j : Nat) => CV.v (Value.int .u16 (d i j)))], [CV.v (Value.int .u16 m)]]) := by
  try delta o_cva
  try delta s_spv
  generalize @vaB = vaB
  kernel_rfl
set_option maxRecDepth 100000 in
theorem ccv_vc (i m n n2 : Int) (s d : Int → Nat → Int) (V : List QR.XV → List (List QR.CV) → Prop) : QR.evalBody Tryd.prog (o_cva) (QR.noLoops) (Tryd.f37.body.getD .skip) Tryd.f37.results.toList Tryd.f37.ntmps [.x (.c (.v (.int .i64 i))), .ref 0 [.slc 5 n (.fn fun i j => .v (.int .u16 (s i j)))], .ref 0 [.slc 5 n2 (.fn fun i j => .v (.int .u16 (d i j)))], .ref 0 [.v (.int .u16 m)]] V = (True ∧ (ile 0 i = true ∧ ilt i n2 = true ∧ ile 0 i = true ∧ ilt i n = true ∧ True) ∧ True ∧ V [XV.agg [CV.v (Value.int .u16 (s i 0)), CV.v (Value.int .u16 (s i 1)), CV.v (Value.int .u16 (s i 2)), CV.v (Value.int .u16 (s i 3)), CV.v (Value.int .u16 (s i 4))], XV.c (CV.v (Value.bool (vaB (d i 0) (d i 1) (d i 2) (d i 3) (d i 3) (d i 4) 0 0 0 0 0 m)))] [[CV.slc 5 n (QR.Row.fn fun (i : Int) (j : Nat) => CV.v (Value.int .u16 (s i j)))], [CV.slc 5 n2 (QR.Row.fn fun (i : Int) (j : Nat) => CV.v (Value.int .u16 (d i j)))], [CV.v (Value.int .u16 m)]]) := by
  try delta o_cva
  try delta s_spv
  generalize @vaB = vaB
  kernel_rfl
set_option maxRecDepth 100000 in
theorem csm_vc (i n : Int) (d : Int → Nat → Int) (V : List QR.XV → List (List QR.CV) → Prop) : QR.evalBody Tryd.prog (QR.orc []) (QR.noLoops) (Tryd.f38.body.getD .skip) Tryd.f38.results.toList Tryd.f38.ntmps [.x (.c (.v (.int .i64 i))), .ref 0 [.slc 5 n (.fn fun i j => .v (.int .u16 (d i j)))]] V = (True ∧ (ile 0 (isub IntKind.i64 i 1) = true ∧ ilt (isub IntKind.i64 i 1) n = true ∧ ile 0 i = true ∧ ilt i n = true ∧ True) ∧ True ∧ V [XV.c (CV.v (Value.bool (band (band (ieq (d i 0) (d (isub IntKind.i64 i 1) 0)) (band (ieq (d i 1) (d (isub IntKind.i64 i 1) 1)) (band (ieq (d i 2) (d (isub IntKind.i64 i 1) 2)) true))) (band (ieq (d i 3) (d (isub IntKind.i64 i 1) 3)) (band (ieq (d i 4) (d (isub IntKind.i64 i 1) 4)) true)))))] [[CV.slc 5 n (QR.Row.fn fun (i : Int) (j : Nat) => CV.v (Value.int .u16 (d i j)))]]) := by
  kernel_rfl
set_option maxRecDepth 100000 in
theorem cfa_vc (i m n : Int) (k : Int → Nat → Int) (V : List QR.XV → List (List QR.CV) → Prop) : QR.evalBody Tryd.prog (QR.orc []) (QR.noLoops) (Tryd.f24.body.getD .skip) Tryd.f24.results.toList Tryd.f24.ntmps [.x (.c (.v (.int .i64 i))), .ref 0 [.slc 1 n (.fn fun i j => .v (.int .u16 (k i j)))], .ref 0 [.v (.int .u16 m)]] V = (True ∧ ∀ (i_1 : Int), i_1 = n → True ∧ bcond (ieq i_1 0) (True ∧ True ∧ V [XV.c (CV.v (Value.int .u16 m))] [[CV.slc 1 n (QR.Row.fn fun (i : Int) (j : Nat) => CV.v (Value.int .u16 (k i j)))], [CV.v (Value.int .u16 m)]]) ((ile 0 i = true ∧ ilt i n = true ∧ True) ∧ True ∧ V [XV.c (CV.v (Value.int .u16 (k i 0)))] [[CV.slc 1 n (QR.Row.fn fun (i : Int) (j : Nat) => CV.v (Value.int .u16 (k i j)))], [CV.v (Value.int .u16 m)]])) := by
  kernel_rfl
set_option maxRecDepth 100000 in
theorem cls_vc (n m : Int) (q : Int → Nat → Int) (V : List QR.XV → List (List QR.CV) → Prop) : QR.evalBodyK Tryd.prog (QR.orc []) ((o_cfg_cl n m q)) (Tryd.f9.body.getD .skip) Tryd.f9.results.toList Tryd.f9.ntmps [.x (.c (.slc 5 n (.fn fun i j => .v (.int .u16 (q i j))))), .x (.c (.v (.int .u16 m)))] V = ((True ∧ True ∧ ∃ (i : Nat), True ∧ true = true ∧ true = true ∧ ((true = true ∧ 0 = 0 ∧ 0 = 0) ∧ (true = true ∧ 1 = 1 ∧ 0 = 0) ∧ True) ∧ (zz82 n q) ∧ ((IntKind.u16 = IntKind.u16 ∧ m = m) ∧ True) ∧ True) ∧ ∀ (i : Nat), True → True ∧ True ∧ ∀ (i : Int), i = n → True ∧ (∃ (i_1 : Int), rwG n (pxT q) i_1 ∧ True ∧ true = true ∧ ((true = true ∧ Value.func (Fn.func 18) #[] #[] = Value.func (Fn.func 18) #[] #[]) ∧ (zz80 n q) ∧ (true = true ∧ IntKind.i64 = IntKind.i64 ∧ i = n) ∧ (true = true ∧ IntKind.i64 = IntKind.i64 ∧ (0 : Int) = i_1) ∧ True) ∧ (zz82 n q) ∧ ((IntKind.u16 = IntKind.u16 ∧ m = m) ∧ True) ∧ True) ∧ ∀ (i : Int), rwG n (pxT q) i → True ∧ bcond (ilt i n) ((ile 0 i = true ∧ ilt i n = true ∧ True) ∧ True ∧ bcond (bnot (tpB (q i 0) (q i 1) (q i 2) (q i 3) (q i 4))) (True ∧ True ∧ true = true ∧ True ∧ True ∧ True ∧ ∀ (i : Int), i = n → True ∧ (∃ (i_1 : Int), rwG n (pxE q) i_1 ∧ True ∧ true = true ∧ ((true = true ∧ 19 = 19 ∧ [(100000000000000500, 0)] = [(100000000000000500, 0)]) ∧ (zz80 n q) ∧ (true = true ∧ IntKind.i64 = IntKind.i64 ∧ i = n) ∧ (true = true ∧ IntKind.i64 = IntKind.i64 ∧ (0 : Int) = i_1) ∧ True) ∧ (zz82 n q) ∧ ((IntKind.u16 = IntKind.u16 ∧ m = m) ∧ True) ∧ True) ∧ ∀ (i : Int), rwG n (pxE q) i → True ∧ bcond (ilt i n) ((ile 0 i = true ∧ ilt i n = true ∧ True) ∧ (intRow IntKind.u16 5 n (QR.Row.fn fun (a : Int) (b : Nat) => CV.v (Value.int .u16 (q a b))) ∧ ilt 0 n = true ∧ True) ∧ bcond (bnot (pxQ (q i 0) (q i 1) (q i 2) (q i 3) (q i 4) (qOf (QR.Row.fn fun (a : Int) (b : Nat) => CV.v (Value.int .u16 (q a b)))))) (True ∧ True ∧ true = true ∧ True ∧ True ∧ True ∧ ∀ (i : Int), i = n → True ∧ (∃ (i_1 : Int), rwG n (pxO m q) i_1 ∧ True ∧ true = true ∧ ((true = true ∧ 20 = 20 ∧ [(100000000000000501, 0)] = [(100000000000000501, 0)]) ∧ (zz80 n q) ∧ (true = true ∧ IntKind.i64 = IntKind.i64 ∧ i = n) ∧ (true = true ∧ IntKind.i64 = IntKind.i64 ∧ (0 : Int) = i_1) ∧ True) ∧ (zz82 n q) ∧ ((IntKind.u16 = IntKind.u16 ∧ m = m) ∧ True) ∧ True) ∧ ∀ (i : Int), rwG n (pxO m q) i → True ∧ bcond (ilt i n) ((ile 0 i = true ∧ ilt i n = true ∧ True) ∧ True ∧ bcond (bnot (oqB (q i 0) (q i 1) (q i 2) (q i 3) (q i 4) m)) (True ∧ True ∧ true = true ∧ True ∧ True ∧ True ∧ V [XV.c (CV.v (Value.int .i64 4))] []) (True ∧ ∃ (j : Int), rwG n (pxO m q) j ∧ (True ∧ true = true ∧ ((true = true ∧ 20 = 20 ∧ [(100000000000000501, 0)] = [(100000000000000501, 0)]) ∧ (zz80 n q) ∧ (true = true ∧ IntKind.i64 = IntKind.i64 ∧ n = n) ∧ (true = true ∧ IntKind.i64 = IntKind.i64 ∧ iadd IntKind.i64 i 1 = j) ∧ True) ∧ (zz82 n q) ∧ ((IntKind.u16 = IntKind.u16 ∧ m = m) ∧ True) ∧ True) ∧ Nat.le (Nat.succ (scMu n j)) (scMu n i))) (True ∧ True ∧ true = true ∧ True ∧ True ∧ True ∧ V [XV.c (CV.v (Value.int .i64 3))] [])) (True ∧ ∃ (j : Int), rwG n (pxE q) j ∧ (True ∧ true = true ∧ ((true = true ∧ 19 = 19 ∧ [(100000000000000500, 0)] = [(100000000000000500, 0)]) ∧ (zz80 n q) ∧ (true = true ∧ IntKind.i64 = IntKind.i64 ∧ n = n) ∧ (true = true ∧ IntKind.i64 = IntKind.i64 ∧ iadd IntKind.i64 i 1 = j) ∧ True) ∧ (zz82 n q) ∧ ((IntKind.u16 = IntKind.u16 ∧ m = m) ∧ True) ∧ True) ∧ Nat.le (Nat.succ (scMu n j)) (scMu n i))) (True ∧ True ∧ true = true ∧ True ∧ True ∧ True ∧ V [XV.c (CV.v (Value.int .i64 2))] [])) (True ∧ ∃ (j : Int), rwG n (pxT q) j ∧ (True ∧ true = true ∧ ((true = true ∧ Value.func (Fn.func 18) #[] #[] = Value.func (Fn.func 18) #[] #[]) ∧ (zz80 n q) ∧ (true = true ∧ IntKind.i64 = IntKind.i64 ∧ n = n) ∧ (true = true ∧ IntKind.i64 = IntKind.i64 ∧ iadd IntKind.i64 i 1 = j) ∧ True) ∧ (zz82 n q) ∧ ((IntKind.u16 = IntKind.u16 ∧ m = m) ∧ True) ∧ True) ∧ Nat.le (Nat.succ (scMu n j)) (scMu n i))) (True ∧ True ∧ true = true ∧ True ∧ True ∧ True ∧ V [XV.c (CV.v (Value.int .i64 1))] [])) := by
  delta zz16 zz80 zz82
  generalize @intRow = intRow
  generalize @oqB = oqB
  generalize @pxE = pxE
  generalize @pxO = pxO
  generalize @pxQ = pxQ
  generalize @pxT = pxT
  generalize @qOf = qOf
  generalize @rwG = rwG
  generalize @scMu = scMu
  generalize @tpB = tpB
  kernel_rfl
set_option maxRecDepth 100000 in
theorem eff_vc (o k m n : Int) (q : Int → Nat → Int) (V : List QR.XV → List (List QR.CV) → Prop) : QR.evalBody Tryd.prog (o_eff) (QR.noLoops) (Tryd.f35.body.getD .skip) Tryd.f35.results.toList Tryd.f35.ntmps [.x (.c (.v (.int .i64 o))), .x (.c (.v (.int .i64 k))), .x (.c (.v (.int .u16 m))), .x (.c (.slc 5 n (.fn fun i j => .v (.int .u16 (q i j)))))] V = (True ∧ bcond (ieq o 4) (True ∧ ∀ (i : Int), i = clsV n (qOf (QR.Row.fn fun (i : Int) (j : Nat) => CV.v (Value.int .u16 (q i j)))) m → (intRow IntKind.u16 5 n (QR.Row.fn fun (i : Int) (j : Nat) => CV.v (Value.int .u16 (q i j))) ∧ ile 0 n = true ∧ ile n 9223372036854775807 = true ∧ True) ∧ True ∧ bcond (ieq i 1) (True ∧ bcond (nuB o) (True ∧ True ∧ V [XV.c (CV.v (Value.int .i64 1))] []) (True ∧ True ∧ V [XV.c (CV.v (Value.int .i64 3))] [])) (True ∧ bcond (ieq i 2) (bcond (ieq k 1) ((true = true ∧ ilt 0 n = true ∧ True) ∧ bcond (oqB (q 0 0) (q 0 1) (q 0 2) (q 0 3) (q 0 4) m) (True ∧ True ∧ V [XV.c (CV.v (Value.int .i64 2))] []) (True ∧ True ∧ V [XV.c (CV.v (Value.int .i64 3))] [])) (True ∧ True ∧ True ∧ V [XV.c (CV.v (Value.int .i64 3))] [])) (True ∧ bcond (ieq i 3) (True ∧ bcond (ieq k 1) (True ∧ True ∧ V [XV.c (CV.v (Value.int .i64 2))] []) (True ∧ True ∧ V [XV.c (CV.v (Value.int .i64 0))] [])) (True ∧ True ∧ V [XV.c (CV.v (Value.int .i64 0))] [])))) (True ∧ ∀ (i : Int), i = clsV n (qOf (QR.Row.fn fun (i : Int) (j : Nat) => CV.v (Value.int .u16 (q i j)))) m → (intRow IntKind.u16 5 n (QR.Row.fn fun (i : Int) (j : Nat) => CV.v (Value.int .u16 (q i j))) ∧ ile 0 n = true ∧ ile n 9223372036854775807 = true ∧ True) ∧ True ∧ bcond (ieq i 1) (True ∧ bcond (nuB o) (True ∧ True ∧ V [XV.c (CV.v (Value.int .i64 1))] []) (True ∧ True ∧ V [XV.c (CV.v (Value.int .i64 3))] [])) (True ∧ bcond (ieq i 2) (True ∧ True ∧ True ∧ V [XV.c (CV.v (Value.int .i64 3))] []) (True ∧ bcond (ieq i 3) (True ∧ True ∧ True ∧ V [XV.c (CV.v (Value.int .i64 0))] []) (True ∧ True ∧ V [XV.c (CV.v (Value.int .i64 0))] []))))) := by
  try delta o_eff
  try delta s_scls
  try delta s_nu
  try delta s_opaque
  generalize @clsV = clsV
  generalize @intRow = intRow
  generalize @nuB = nuB
  generalize @oqB = oqB
  generalize @qOf = qOf
  kernel_rfl
end Go.Proofs.YtpjhdjakpbabhaaDoor
