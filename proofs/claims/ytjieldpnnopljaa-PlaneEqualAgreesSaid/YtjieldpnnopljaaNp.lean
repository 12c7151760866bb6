/-
  Layer 14 (plane): the conditions of the program's own calls.
-/
import Derived.Test.YtjieldpnnopljaaNb
namespace Go.Proofs.Ytjieldpnnopljaa
open Go.RowKit PR QR
set_option linter.unusedVariables false

-- SPEC prB ndN slEq rowOk rowL seGood seMu plGood plMu ccGood ccMu ccV mulP
/-- the numbers of a valid plane -/
def prB (w h s : Int) : Bool := decide (fitB w h = true ∧ w ≤ s ∧ s ≤ 16777216)
def ndN (w h s : Int) : Int := (h - 1) * s + w
def s_prm : List AV → Option QR.Ans
  | [.x (.c (.v (.int .i64 w))), .x (.c (.v (.int .i64 h))), .x (.c (.v (.int .i64 s)))] => some ⟨[.c (.v (.bool (prB w h s)))], [], [in64 w = true, in64 h = true, in64 s = true]⟩
  | _ => none
def s_ndd : List AV → Option QR.Ans
  | [.x (.c (.v (.int .i64 w))), .x (.c (.v (.int .i64 h))), .x (.c (.v (.int .i64 s)))] => some ⟨[.c (.v (.int .i64 (ndN w h s)))], [], [prB w h s = true]⟩
  | _ => none
/-- a row of a plane: from the y * s-th element on, w elements -/
def rowOk (w s n y : Int) : Prop := (1 ≤ w ∧ w ≤ 16777216) ∧ (0 ≤ y ∧ y ≤ 16777216) ∧ (0 ≤ s ∧ s ≤ 16777216) ∧ y * s + w ≤ n
def rowL (s y : Int) : Int := y * s
def s_prow : List AV → Option QR.Ans
  | [.x (.agg [.v (.int .i64 w), .v (.int .i64 h), .v (.int .i64 s), c]), .x (.c (.v (.int .i64 y)))] => match slcOf 1 c with
    | some (n, r) => some ⟨[vwX 0 3 (rowL s y) w], [], [rowOk w s n y]⟩
    | none => none
  | _ => none
def slEq (n : Int) (r : QR.Row) (n2 : Int) (r2 : QR.Row) : Bool := sameR 1 n n2 r r2
def s_sleq : List AV → Option QR.Ans
  | [.x (.c c), .x (.c c2)] => match slcOf 1 c, slcOf 1 c2 with
    | some (n, r), some (n2, r2) => some ⟨[.c (.v (.bool (slEq n r n2 r2)))], [], [intRow .u16 1 n r, ile 0 n = true, intRow .u16 1 n2 r2, ile 0 n2 = true, ile n 1099511627776 = true]⟩
    | _, _ => none
  | _ => none
def o_pnv : QR.Oracle := QR.orc [(24, s_prm), (25, s_ndd)]
def o_phs : QR.Oracle := QR.orc [(10, s_plvalid)]
def o_pat : QR.Oracle := QR.orc [(27, s_plin), (28, s_prow)]
def o_pcc : QR.Oracle := QR.orc [(10, s_plvalid), (28, s_prow)]
def o_peq : QR.Oracle := QR.orc [(10, s_plvalid), (28, s_prow), (30, s_sleq)]
set_option maxRecDepth 100000 in
theorem lprm_vc (w h s : Int) (V : List QR.XV → List (List QR.CV) → Prop) : QR.evalBody Try.prog (QR.orc []) (QR.noLoops) (Try.f24.body.getD .skip) Try.f24.results.toList Try.f24.ntmps [.x (.c (.v (.int .i64 w))), .x (.c (.v (.int .i64 h))), .x (.c (.v (.int .i64 s)))] V = (True ∧ bcond (ile 1 w) (bcond (ile w s) (bcond (ile s 16777216) (bcond (ile 1 h) (bcond (ile h 16777216) (True ∧ True ∧ V [XV.c (CV.v (Value.bool (ile (imul IntKind.i64 w h) 16777216)))] []) (True ∧ True ∧ V [XV.c (CV.v (Value.bool false))] [])) (True ∧ True ∧ V [XV.c (CV.v (Value.bool false))] [])) (True ∧ True ∧ V [XV.c (CV.v (Value.bool false))] [])) (True ∧ True ∧ V [XV.c (CV.v (Value.bool false))] [])) (True ∧ True ∧ V [XV.c (CV.v (Value.bool false))] [])) := by
  kernel_rfl
set_option maxRecDepth 100000 in
theorem lndd_vc (w h s : Int) (V : List QR.XV → List (List QR.CV) → Prop) : QR.evalBody Try.prog (QR.orc []) (QR.noLoops) (Try.f25.body.getD .skip) Try.f25.results.toList Try.f25.ntmps [.x (.c (.v (.int .i64 w))), .x (.c (.v (.int .i64 h))), .x (.c (.v (.int .i64 s)))] V = (True ∧ True ∧ True ∧ V [XV.c (CV.v (Value.int .i64 (iadd IntKind.i64 (imul IntKind.i64 (isub IntKind.i64 h 1) s) w)))] []) := by
  kernel_rfl
set_option maxRecDepth 100000 in
theorem lplv_vc (w h s n : Int) (l : Int → Nat → Int) (V : List QR.XV → List (List QR.CV) → Prop) : QR.evalBody Try.prog (o_pnv) (QR.noLoops) (Try.f10.body.getD .skip) Try.f10.results.toList Try.f10.ntmps [.x (.agg [.v (.int .i64 w), .v (.int .i64 h), .v (.int .i64 s), .slc 1 n (.fn fun i j => .v (.int .u16 (l i j)))])] V = (True ∧ bcond (prB w h s) (∀ (i : Int), i = n → ∀ (i_1 : Int), i_1 = ndN w h s → (prB w h s = true ∧ in64 w = true ∧ in64 h = true ∧ in64 s = true ∧ True) ∧ True ∧ V [XV.c (CV.v (Value.bool (ige i i_1)))] []) ((in64 w = true ∧ in64 h = true ∧ in64 s = true ∧ True) ∧ True ∧ V [XV.c (CV.v (Value.bool false))] [])) := by
  try delta o_pnv
  try delta s_prm
  try delta s_ndd
  generalize @in64 = in64
  generalize @ndN = ndN
  generalize @prB = prB
  kernel_rfl
set_option maxRecDepth 100000 in
theorem lpln_vc (w h s : Int) (V : List QR.XV → List (List QR.CV) → Prop) : QR.evalBody Try.prog (o_pnv) (QR.noLoops) (Try.f13.body.getD .skip) Try.f13.results.toList Try.f13.ntmps [.x (.c (.v (.int .i64 w))), .x (.c (.v (.int .i64 h))), .x (.c (.v (.int .i64 s)))] V = (True ∧ (in64 w = true ∧ in64 h = true ∧ in64 s = true ∧ True) ∧ bcond (bnot (prB w h s)) (True ∧ True ∧ V [XV.agg [CV.v (Value.int .i64 0), CV.v (Value.int .i64 0), CV.v (Value.int .i64 0), CV.v (Value.slice Option.none 0 0)], XV.c (CV.v (Value.bool false))] []) (∀ (i : Int), i = ndN w h s → (prB w h s = true ∧ True) ∧ True ∧ bcond (igt i 16777216) (True ∧ True ∧ V [XV.agg [CV.v (Value.int .i64 0), CV.v (Value.int .i64 0), CV.v (Value.int .i64 0), CV.v (Value.slice Option.none 0 0)], XV.c (CV.v (Value.bool false))] []) ((ile 0 i = true ∧ ile i i = true ∧ ile (imulZ i 2) 140737488355328 = true ∧ ile i 140737488355328 = true ∧ True) ∧ True ∧ V [XV.agg [CV.v (Value.int .i64 w), CV.v (Value.int .i64 h), CV.v (Value.int .i64 s), CV.fresh 1 i (QR.Row.zer [Value.int .u16 0])], XV.c (CV.v (Value.bool true))] []))) := by
  try delta o_pnv
  try delta s_prm
  try delta s_ndd
  generalize @in64 = in64
  generalize @ndN = ndN
  generalize @prB = prB
  kernel_rfl
set_option maxRecDepth 100000 in
theorem lplh_vc (w h s n x y : Int) (l : Int → Nat → Int) (V : List QR.XV → List (List QR.CV) → Prop) : QR.evalBody Try.prog (o_phs) (QR.noLoops) (Try.f27.body.getD .skip) Try.f27.results.toList Try.f27.ntmps [.x (.agg [.v (.int .i64 w), .v (.int .i64 h), .v (.int .i64 s), .slc 1 n (.fn fun i j => .v (.int .u16 (l i j)))]), .x (.c (.v (.int .i64 x))), .x (.c (.v (.int .i64 y)))] V = (True ∧ bcond (plB w h s n) (bcond (ile 0 x) (bcond (ilt x w) (bcond (ile 0 y) ((intRow IntKind.u16 1 n (QR.Row.fn fun (i : Int) (j : Nat) => CV.v (Value.int .u16 (l i j))) ∧ ile 0 n = true ∧ in64 w = true ∧ in64 h = true ∧ in64 s = true ∧ True) ∧ True ∧ V [XV.c (CV.v (Value.bool (ilt y h)))] []) ((intRow IntKind.u16 1 n (QR.Row.fn fun (i : Int) (j : Nat) => CV.v (Value.int .u16 (l i j))) ∧ ile 0 n = true ∧ in64 w = true ∧ in64 h = true ∧ in64 s = true ∧ True) ∧ True ∧ V [XV.c (CV.v (Value.bool false))] [])) ((intRow IntKind.u16 1 n (QR.Row.fn fun (i : Int) (j : Nat) => CV.v (Value.int .u16 (l i j))) ∧ ile 0 n = true ∧ in64 w = true ∧ in64 h = true ∧ in64 s = true ∧ True) ∧ True ∧ V [XV.c (CV.v (Value.bool false))] [])) ((intRow IntKind.u16 1 n (QR.Row.fn fun (i : Int) (j : Nat) => CV.v (Value.int .u16 (l i j))) ∧ ile 0 n = true ∧ in64 w = true ∧ in64 h = true ∧ in64 s = true ∧ True) ∧ True ∧ V [XV.c (CV.v (Value.bool false))] [])) ((intRow IntKind.u16 1 n (QR.Row.fn fun (i : Int) (j : Nat) => CV.v (Value.int .u16 (l i j))) ∧ ile 0 n = true ∧ in64 w = true ∧ in64 h = true ∧ in64 s = true ∧ True) ∧ True ∧ V [XV.c (CV.v (Value.bool false))] [])) := by
  try delta o_phs
  try delta s_plvalid
  generalize @in64 = in64
  generalize @intRow = intRow
  generalize @plB = plB
  kernel_rfl
set_option maxRecDepth 100000 in
theorem lpla_vc (w h s n x y : Int) (l : Int → Nat → Int) (V : List QR.XV → List (List QR.CV) → Prop) : QR.evalBody Try.prog (o_pat) (QR.noLoops) (Try.f18.body.getD .skip) Try.f18.results.toList Try.f18.ntmps [.x (.agg [.v (.int .i64 w), .v (.int .i64 h), .v (.int .i64 s), .slc 1 n (.fn fun i j => .v (.int .u16 (l i j)))]), .x (.c (.v (.int .i64 x))), .x (.c (.v (.int .i64 y)))] V = (True ∧ (intRow IntKind.u16 1 n (QR.Row.fn fun (i : Int) (j : Nat) => CV.v (Value.int .u16 (l i j))) ∧ ile 0 n = true ∧ in64 w = true ∧ in64 h = true ∧ in64 s = true ∧ True) ∧ bcond (bnot (inB w h s n x y)) (True ∧ True ∧ V [XV.c (CV.v (Value.int .u16 0))] []) ((ile 0 x = true ∧ ilt x w = true ∧ ile 0 (rowL s y) = true ∧ ile 0 w = true ∧ ile (addZ (rowL s y) w) n = true ∧ rowOk w s n y ∧ True) ∧ True ∧ V [XV.c (CV.v (Value.int .u16 (l (addZ x (rowL s y)) 0)))] [])) := by
  try delta o_pat
  try delta s_plin
  try delta s_prow
  generalize @in64 = in64
  generalize @inB = inB
  generalize @intRow = intRow
  generalize @rowL = rowL
  generalize @rowOk = rowOk
  kernel_rfl
set_option maxRecDepth 100000 in
theorem lplw_vc (w h s n x y v : Int) (l : Int → Nat → Int) (V : List QR.XV → List (List QR.CV) → Prop) : QR.evalBody Try.prog (o_pat) (QR.noLoops) (Try.f16.body.getD .skip) Try.f16.results.toList Try.f16.ntmps [.x (.agg [.v (.int .i64 w), .v (.int .i64 h), .v (.int .i64 s), .slc 1 n (.fn fun i j => .v (.int .u16 (l i j)))]), .x (.c (.v (.int .i64 x))), .x (.c (.v (.int .i64 y))), .x (.c (.v (.int .u16 v)))] V = (True ∧ (intRow IntKind.u16 1 n (QR.Row.fn fun (i : Int) (j : Nat) => CV.v (Value.int .u16 (l i j))) ∧ ile 0 n = true ∧ in64 w = true ∧ in64 h = true ∧ in64 s = true ∧ True) ∧ bcond (bnot (inB w h s n x y)) (True ∧ True ∧ V [XV.agg [CV.v (Value.int .i64 0), CV.v (Value.int .i64 0), CV.v (Value.int .i64 0), CV.v (Value.slice Option.none 0 0)], XV.c (CV.v (Value.bool false))] []) (∀ (i : Int), i = n → (ile 0 i = true ∧ ile i i = true ∧ ile (imulZ i 2) 140737488355328 = true ∧ ile i 140737488355328 = true ∧ True) ∧ ∀ (i_1 : Int), i_1 = iimin i n → True ∧ True ∧ (ile 0 x = true ∧ ilt x w = true ∧ ile 0 (rowL s y) = true ∧ ile 0 w = true ∧ ile (addZ (rowL s y) w) i = true ∧ rowOk w s i y ∧ True) ∧ True ∧ True ∧ V [XV.agg [CV.v (Value.int .i64 w), CV.v (Value.int .i64 h), CV.v (Value.int .i64 s), CV.fresh 1 i (QR.Row.upd (QR.Row.app (QR.Row.app (QR.Row.zer [Value.int .u16 0]) 0 (QR.Row.fn fun (i : Int) (j : Nat) => CV.v (Value.int .u16 (l i j)))) (addZ 0 (iimin i n)) (QR.Row.sub (QR.Row.zer [Value.int .u16 0]) (addZ 0 (iimin i n)))) (addZ (rowL s y) x) 0 (CV.v (Value.int .u16 v)))], XV.c (CV.v (Value.bool true))] [])) := by
  try delta o_pat
  try delta s_plin
  try delta s_prow
  generalize @in64 = in64
  generalize @inB = inB
  generalize @intRow = intRow
  generalize @rowL = rowL
  generalize @rowOk = rowOk
  kernel_rfl
def seGood (n : Int) (l k : Int → Nat → Int) (i : Int) : Prop := (0 ≤ i ∧ i ≤ n) ∧ ∀ p : Nat, (p : Int) < i → l p 0 = k p 0
def seMu (n i : Int) : Nat := (n - i).toNat
noncomputable def o_inv_lsle (n : Int) (l : Int → Nat → Int) (n2 : Int) (k : Int → Nat → Int) : QR.Inv where
  ι := Int
  good i := seGood n l k i
  slots i := QR.slotsOf Try.f30.ntmps [(0, .x (.c (.slc 1 n (.fn fun i j => .v (.int .u16 (l i j)))))), (1, .x (.c (.slc 1 n2 (.fn fun i j => .v (.int .u16 (k i j)))))), (4, .x (.c (.v (.bool false)))), (12, .x (.c (.v (.int .i64 n)))), (13, .x (.c (.v (.int .i64 i))))]
  blocks i := []
  μ i := seMu n i
set_option maxRecDepth 100000 in
theorem lsle_vc (n : Int) (l : Int → Nat → Int) (n2 : Int) (k : Int → Nat → Int) (V : List QR.XV → List (List QR.CV) → Prop) : QR.evalBody Try.prog (QR.orc []) (fun q => bif Nat.beq q 4 then some (.inv (o_inv_lsle n l n2 k)) else none) (Try.f30.body.getD .skip) Try.f30.results.toList Try.f30.ntmps [.x (.c (.slc 1 n (.fn fun i j => .v (.int .u16 (l i j))))), .x (.c (.slc 1 n2 (.fn fun i j => .v (.int .u16 (k i j)))))] V = (True ∧ ∀ (i : Int), i = n → ∀ (i_1 : Int), i_1 = n2 → True ∧ bcond (ine i i_1) (True ∧ True ∧ V [XV.c (CV.v (Value.bool false))] []) (∀ (i : Int), i = n → True ∧ (∃ (i_2 : Int), seGood n l k i_2 ∧ True ∧ true = true ∧ ((true = true ∧ 1 = 1 ∧ n = n ∧ True ∧ ∀ (i : Nat), ilt (Int.ofNat i) n = true → IntKind.u16 = IntKind.u16 ∧ l (Int.ofNat i) 0 = l (Int.ofNat i) 0) ∧ (true = true ∧ 1 = 1 ∧ n2 = n2 ∧ True ∧ ∀ (i : Nat), ilt (Int.ofNat i) n2 = true → IntKind.u16 = IntKind.u16 ∧ k (Int.ofNat i) 0 = k (Int.ofNat i) 0) ∧ (true = true ∧ false = false) ∧ (true = true ∧ IntKind.i64 = IntKind.i64 ∧ i = n) ∧ (true = true ∧ IntKind.i64 = IntKind.i64 ∧ (0 : Int) = i_2) ∧ True) ∧ True) ∧ ∀ (i : Int), seGood n l k i → True ∧ bcond (ilt i n) (True ∧ (ile 0 i = true ∧ ilt i n2 = true ∧ ile 0 i = true ∧ ilt i n = true ∧ True) ∧ bcond (ine (l i 0) (k i 0)) (True ∧ True ∧ V [XV.c (CV.v (Value.bool false))] []) (True ∧ ∃ (j : Int), seGood n l k j ∧ (True ∧ true = true ∧ ((true = true ∧ 1 = 1 ∧ n = n ∧ True ∧ ∀ (i : Nat), ilt (Int.ofNat i) n = true → IntKind.u16 = IntKind.u16 ∧ l (Int.ofNat i) 0 = l (Int.ofNat i) 0) ∧ (true = true ∧ 1 = 1 ∧ n2 = n2 ∧ True ∧ ∀ (i : Nat), ilt (Int.ofNat i) n2 = true → IntKind.u16 = IntKind.u16 ∧ k (Int.ofNat i) 0 = k (Int.ofNat i) 0) ∧ (true = true ∧ false = false) ∧ (true = true ∧ IntKind.i64 = IntKind.i64 ∧ n = n) ∧ (true = true ∧ IntKind.i64 = IntKind.i64 ∧ iadd IntKind.i64 i 1 = j) ∧ True) ∧ True) ∧ Nat.le (Nat.succ (seMu n j)) (seMu n i))) (True ∧ True ∧ V [XV.c (CV.v (Value.bool true))] []))) := by
  generalize @seGood = seGood
  generalize @seMu = seMu
  kernel_rfl
/-- what the list of a compact plane holds when y rows are done: zeros behind -/
def ccV (w s : Int) (l : Int → Nat → Int) (y i : Int) : Int := bif ilt i (rowL w y) then cpV w s (.fn fun i j => .v (.int .u16 (l i j))) i else 0
def ccGood (h y : Int) : Prop := 0 ≤ y ∧ y ≤ h
def ccMu (h y : Int) : Nat := (h - y).toNat
def mulP (w h : Int) : Int := w * h
noncomputable def o_inv_lcc (w h s n : Int) (l : Int → Nat → Int) : QR.Inv where
  ι := Int
  good i := ccGood h i
  slots i := QR.slotsOf Try.f20.ntmps [(1, .x (.c (.ptr 1000000000000000 0))), (2, .x (.c (.ptr 1000000000000001 0))), (3, .x (.c (.v (.bool false)))), (4, .x (.c (.ptr 1000000000000002 0))), (24, .x (.c (.v (.int .i64 h)))), (25, .x (.c (.v (.int .i64 i))))]
  blocks i := [(1000000000000000, .cells [.v (.int .i64 w), .v (.int .i64 h), .v (.int .i64 s), .slc 1 n (.fn fun i j => .v (.int .u16 (l i j)))]), (1000000000000001, .cells [.v (.int .i64 0), .v (.int .i64 0), .v (.int .i64 0), .v (.slice none 0 0)]), (1000000000000002, .cells [.v (.int .i64 w), .v (.int .i64 h), .v (.int .i64 w), .own 1000000000000009 (mulP w h)]), (1000000000000009, .row 1 (mulP w h) (.fn fun a _ => .v (.int .u16 (ccV w s l i a))))]
  μ i := ccMu h i
set_option maxRecDepth 100000 in
theorem lplc_vc (w h s n : Int) (l : Int → Nat → Int) (V : List QR.XV → List (List QR.CV) → Prop) : QR.evalBody Try.prog (o_pcc) (fun q => bif Nat.beq q 5 then some (.inv (o_inv_lcc w h s n l)) else none) (Try.f20.body.getD .skip) Try.f20.results.toList Try.f20.ntmps [.x (.agg [.v (.int .i64 w), .v (.int .i64 h), .v (.int .i64 s), .slc 1 n (.fn fun i j => .v (.int .u16 (l i j)))])] V = (True ∧ (intRow IntKind.u16 1 n (QR.Row.fn fun (i : Int) (j : Nat) => CV.v (Value.int .u16 (l i j))) ∧ ile 0 n = true ∧ in64 w = true ∧ in64 h = true ∧ in64 s = true ∧ True) ∧ bcond (bnot (plB w h s n)) (True ∧ True ∧ V [XV.agg [CV.v (Value.int .i64 0), CV.v (Value.int .i64 0), CV.v (Value.int .i64 0), CV.v (Value.slice Option.none 0 0)], XV.c (CV.v (Value.bool false))] []) ((ile 0 (imul IntKind.i64 w h) = true ∧ ile (imul IntKind.i64 w h) (imul IntKind.i64 w h) = true ∧ ile (imulZ (imul IntKind.i64 w h) 2) 140737488355328 = true ∧ ile (imul IntKind.i64 w h) 140737488355328 = true ∧ True) ∧ True ∧ (∃ (i : Int), ccGood h i ∧ True ∧ true = true ∧ ((true = true ∧ 0 = 0 ∧ 0 = 0) ∧ (true = true ∧ 1 = 1 ∧ 0 = 0) ∧ (true = true ∧ false = false) ∧ (true = true ∧ 3085 = 3085 ∧ 0 = 0) ∧ (true = true ∧ IntKind.i64 = IntKind.i64 ∧ h = h) ∧ (true = true ∧ IntKind.i64 = IntKind.i64 ∧ (0 : Int) = i) ∧ True) ∧ ((IntKind.i64 = IntKind.i64 ∧ w = w) ∧ (IntKind.i64 = IntKind.i64 ∧ h = h) ∧ (IntKind.i64 = IntKind.i64 ∧ s = s) ∧ (1 = 1 ∧ n = n ∧ True ∧ ∀ (i : Nat), ilt (Int.ofNat i) n = true → IntKind.u16 = IntKind.u16 ∧ l (Int.ofNat i) 0 = l (Int.ofNat i) 0) ∧ True) ∧ ((IntKind.i64 = IntKind.i64 ∧ (0 : Int) = 0) ∧ (IntKind.i64 = IntKind.i64 ∧ (0 : Int) = 0) ∧ (IntKind.i64 = IntKind.i64 ∧ (0 : Int) = 0) ∧ Value.slice Option.none 0 0 = Value.slice Option.none 0 0 ∧ True) ∧ ((IntKind.i64 = IntKind.i64 ∧ w = w) ∧ (IntKind.i64 = IntKind.i64 ∧ h = h) ∧ (IntKind.i64 = IntKind.i64 ∧ w = w) ∧ (3083 = 3083 ∧ imul IntKind.i64 w h = mulP w h) ∧ True) ∧ (1 = 1 ∧ imul IntKind.i64 w h = mulP w h ∧ True ∧ ∀ (i_1 : Nat), ilt (Int.ofNat i_1) (imul IntKind.i64 w h) = true → IntKind.u16 = IntKind.u16 ∧ (0 : Int) = ccV w s l i (Int.ofNat i_1)) ∧ True) ∧ ∀ (i : Int), ccGood h i → True ∧ bcond (ilt i h) (True ∧ ∀ (i_1 : Int), i_1 = iimin w w → (ile 0 (rowL s i) = true ∧ ile 0 w = true ∧ ile (addZ (rowL s i) w) n = true ∧ rowOk w s n i ∧ ile 0 (rowL w i) = true ∧ ile 0 w = true ∧ ile (addZ (rowL w i) w) (mulP w h) = true ∧ rowOk w w (mulP w h) i ∧ True) ∧ True ∧ ∃ (j : Int), ccGood h j ∧ (True ∧ true = true ∧ ((true = true ∧ 1000000000000000 = 1000000000000000 ∧ 0 = 0) ∧ (true = true ∧ 1000000000000001 = 1000000000000001 ∧ 0 = 0) ∧ (true = true ∧ false = false) ∧ (true = true ∧ 1000000000000002 = 1000000000000002 ∧ 0 = 0) ∧ (true = true ∧ IntKind.i64 = IntKind.i64 ∧ h = h) ∧ (true = true ∧ IntKind.i64 = IntKind.i64 ∧ iadd IntKind.i64 i 1 = j) ∧ True) ∧ ((IntKind.i64 = IntKind.i64 ∧ w = w) ∧ (IntKind.i64 = IntKind.i64 ∧ h = h) ∧ (IntKind.i64 = IntKind.i64 ∧ s = s) ∧ (1 = 1 ∧ n = n ∧ True ∧ ∀ (i : Nat), ilt (Int.ofNat i) n = true → IntKind.u16 = IntKind.u16 ∧ l (Int.ofNat i) 0 = l (Int.ofNat i) 0) ∧ True) ∧ ((IntKind.i64 = IntKind.i64 ∧ (0 : Int) = 0) ∧ (IntKind.i64 = IntKind.i64 ∧ (0 : Int) = 0) ∧ (IntKind.i64 = IntKind.i64 ∧ (0 : Int) = 0) ∧ Value.slice Option.none 0 0 = Value.slice Option.none 0 0 ∧ True) ∧ ((IntKind.i64 = IntKind.i64 ∧ w = w) ∧ (IntKind.i64 = IntKind.i64 ∧ h = h) ∧ (IntKind.i64 = IntKind.i64 ∧ w = w) ∧ (1000000000000009 = 1000000000000009 ∧ mulP w h = mulP w h) ∧ True) ∧ (1 = 1 ∧ mulP w h = mulP w h ∧ True ∧ ∀ (i_2 : Nat), ilt (Int.ofNat i_2) (mulP w h) = true → IntKind.u16 = IntKind.u16 ∧ isel (ilt (Int.ofNat i_2) (addZ (rowL w i) (iimin w w))) (isel (ilt (Int.ofNat i_2) (rowL w i)) (ccV w s l i (Int.ofNat i_2)) (l (addZ (subZ (Int.ofNat i_2) (rowL w i)) (rowL s i)) 0)) (ccV w s l i (addZ (subZ (Int.ofNat i_2) (addZ (rowL w i) (iimin w w))) (addZ (rowL w i) (iimin w w)))) = ccV w s l j (Int.ofNat i_2)) ∧ True) ∧ Nat.le (Nat.succ (ccMu h j)) (ccMu h i)) (True ∧ True ∧ V [XV.agg [CV.v (Value.int .i64 w), CV.v (Value.int .i64 h), CV.v (Value.int .i64 w), CV.fresh 1 (mulP w h) (QR.Row.fn fun (a : Int) (x : Nat) => CV.v (Value.int .u16 (ccV w s l i a)))], XV.c (CV.v (Value.bool true))] []))) := by
  try delta o_pcc
  try delta s_plvalid
  try delta s_prow
  generalize @ccGood = ccGood
  generalize @ccMu = ccMu
  generalize @ccV = ccV
  generalize @in64 = in64
  generalize @intRow = intRow
  generalize @mulP = mulP
  generalize @plB = plB
  generalize @rowL = rowL
  generalize @rowOk = rowOk
  kernel_rfl
/-- the first y rows of both are the same -/
def plGood (w h s : Int) (l : Int → Nat → Int) (s2 : Int) (k : Int → Nat → Int) (y : Int) : Prop := (0 ≤ y ∧ y ≤ h) ∧ ∀ a b : Int, 0 ≤ a → a < w → 0 ≤ b → b < y → l (patI s a b) 0 = k (patI s2 a b) 0
def plMu (h y : Int) : Nat := (h - y).toNat
noncomputable def o_inv_lpe (w h s n : Int) (l : Int → Nat → Int) (w2 h2 s2 n2 : Int) (k : Int → Nat → Int) : QR.Inv where
  ι := Int
  good i := plGood w h s l s2 k i
  slots i := QR.slotsOf Try.f22.ntmps [(2, .x (.c (.ptr 1000000000000000 0))), (3, .x (.c (.ptr 1000000000000001 0))), (4, .x (.c (.v (.bool false)))), (29, .x (.c (.v (.int .i64 h)))), (30, .x (.c (.v (.int .i64 i))))]
  blocks i := [(1000000000000000, .cells [.v (.int .i64 w), .v (.int .i64 h), .v (.int .i64 s), .slc 1 n (.fn fun i j => .v (.int .u16 (l i j)))]), (1000000000000001, .cells [.v (.int .i64 w2), .v (.int .i64 h2), .v (.int .i64 s2), .slc 1 n2 (.fn fun i j => .v (.int .u16 (k i j)))])]
  μ i := plMu h i
set_option maxRecDepth 100000 in
theorem lple_vc (w h s n : Int) (l : Int → Nat → Int) (w2 h2 s2 n2 : Int) (k : Int → Nat → Int) (V : List QR.XV → List (List QR.CV) → Prop) : QR.evalBody Try.prog (o_peq) (fun q => bif Nat.beq q 4 then some (.inv (o_inv_lpe w h s n l w2 h2 s2 n2 k)) else none) (Try.f22.body.getD .skip) Try.f22.results.toList Try.f22.ntmps [.x (.agg [.v (.int .i64 w), .v (.int .i64 h), .v (.int .i64 s), .slc 1 n (.fn fun i j => .v (.int .u16 (l i j)))]), .x (.agg [.v (.int .i64 w2), .v (.int .i64 h2), .v (.int .i64 s2), .slc 1 n2 (.fn fun i j => .v (.int .u16 (k i j)))])] V = (True ∧ bcond (bnot (plB w h s n)) ((intRow IntKind.u16 1 n (QR.Row.fn fun (i : Int) (j : Nat) => CV.v (Value.int .u16 (l i j))) ∧ ile 0 n = true ∧ in64 w = true ∧ in64 h = true ∧ in64 s = true ∧ True) ∧ True ∧ True ∧ V [XV.c (CV.v (Value.bool false))] []) (bcond (bnot (plB w2 h2 s2 n2)) ((intRow IntKind.u16 1 n2 (QR.Row.fn fun (i : Int) (j : Nat) => CV.v (Value.int .u16 (k i j))) ∧ ile 0 n2 = true ∧ in64 w2 = true ∧ in64 h2 = true ∧ in64 s2 = true ∧ intRow IntKind.u16 1 n (QR.Row.fn fun (i : Int) (j : Nat) => CV.v (Value.int .u16 (l i j))) ∧ ile 0 n = true ∧ in64 w = true ∧ in64 h = true ∧ in64 s = true ∧ True) ∧ True ∧ True ∧ V [XV.c (CV.v (Value.bool false))] []) (bcond (ine w w2) ((intRow IntKind.u16 1 n2 (QR.Row.fn fun (i : Int) (j : Nat) => CV.v (Value.int .u16 (k i j))) ∧ ile 0 n2 = true ∧ in64 w2 = true ∧ in64 h2 = true ∧ in64 s2 = true ∧ intRow IntKind.u16 1 n (QR.Row.fn fun (i : Int) (j : Nat) => CV.v (Value.int .u16 (l i j))) ∧ ile 0 n = true ∧ in64 w = true ∧ in64 h = true ∧ in64 s = true ∧ True) ∧ True ∧ True ∧ V [XV.c (CV.v (Value.bool false))] []) ((intRow IntKind.u16 1 n2 (QR.Row.fn fun (i : Int) (j : Nat) => CV.v (Value.int .u16 (k i j))) ∧ ile 0 n2 = true ∧ in64 w2 = true ∧ in64 h2 = true ∧ in64 s2 = true ∧ intRow IntKind.u16 1 n (QR.Row.fn fun (i : Int) (j : Nat) => CV.v (Value.int .u16 (l i j))) ∧ ile 0 n = true ∧ in64 w = true ∧ in64 h = true ∧ in64 s = true ∧ True) ∧ bcond (ine h h2) (True ∧ True ∧ V [XV.c (CV.v (Value.bool false))] []) (True ∧ (∃ (i : Int), plGood w h s l s2 k i ∧ True ∧ true = true ∧ ((true = true ∧ 0 = 0 ∧ 0 = 0) ∧ (true = true ∧ 1 = 1 ∧ 0 = 0) ∧ (true = true ∧ false = false) ∧ (true = true ∧ IntKind.i64 = IntKind.i64 ∧ h = h) ∧ (true = true ∧ IntKind.i64 = IntKind.i64 ∧ (0 : Int) = i) ∧ True) ∧ ((IntKind.i64 = IntKind.i64 ∧ w = w) ∧ (IntKind.i64 = IntKind.i64 ∧ h = h) ∧ (IntKind.i64 = IntKind.i64 ∧ s = s) ∧ (1 = 1 ∧ n = n ∧ True ∧ ∀ (i : Nat), ilt (Int.ofNat i) n = true → IntKind.u16 = IntKind.u16 ∧ l (Int.ofNat i) 0 = l (Int.ofNat i) 0) ∧ True) ∧ ((IntKind.i64 = IntKind.i64 ∧ w2 = w2) ∧ (IntKind.i64 = IntKind.i64 ∧ h2 = h2) ∧ (IntKind.i64 = IntKind.i64 ∧ s2 = s2) ∧ (1 = 1 ∧ n2 = n2 ∧ True ∧ ∀ (i : Nat), ilt (Int.ofNat i) n2 = true → IntKind.u16 = IntKind.u16 ∧ k (Int.ofNat i) 0 = k (Int.ofNat i) 0) ∧ True) ∧ True) ∧ ∀ (i : Int), plGood w h s l s2 k i → True ∧ bcond (ilt i h) (True ∧ (intRow IntKind.u16 1 w (QR.Row.sub (QR.Row.fn fun (i : Int) (j : Nat) => CV.v (Value.int .u16 (l i j))) (rowL s i)) ∧ ile 0 w = true ∧ intRow IntKind.u16 1 w2 (QR.Row.sub (QR.Row.fn fun (i : Int) (j : Nat) => CV.v (Value.int .u16 (k i j))) (rowL s2 i)) ∧ ile 0 w2 = true ∧ ile w 1099511627776 = true ∧ ile 0 (rowL s2 i) = true ∧ ile 0 w2 = true ∧ ile (addZ (rowL s2 i) w2) n2 = true ∧ rowOk w2 s2 n2 i ∧ ile 0 (rowL s i) = true ∧ ile 0 w = true ∧ ile (addZ (rowL s i) w) n = true ∧ rowOk w s n i ∧ True) ∧ bcond (bnot (slEq w (QR.Row.sub (QR.Row.fn fun (i : Int) (j : Nat) => CV.v (Value.int .u16 (l i j))) (rowL s i)) w2 (QR.Row.sub (QR.Row.fn fun (i : Int) (j : Nat) => CV.v (Value.int .u16 (k i j))) (rowL s2 i)))) (True ∧ True ∧ V [XV.c (CV.v (Value.bool false))] []) (True ∧ ∃ (j : Int), plGood w h s l s2 k j ∧ (True ∧ true = true ∧ ((true = true ∧ 1000000000000000 = 1000000000000000 ∧ 0 = 0) ∧ (true = true ∧ 1000000000000001 = 1000000000000001 ∧ 0 = 0) ∧ (true = true ∧ false = false) ∧ (true = true ∧ IntKind.i64 = IntKind.i64 ∧ h = h) ∧ (true = true ∧ IntKind.i64 = IntKind.i64 ∧ iadd IntKind.i64 i 1 = j) ∧ True) ∧ ((IntKind.i64 = IntKind.i64 ∧ w = w) ∧ (IntKind.i64 = IntKind.i64 ∧ h = h) ∧ (IntKind.i64 = IntKind.i64 ∧ s = s) ∧ (1 = 1 ∧ n = n ∧ True ∧ ∀ (i : Nat), ilt (Int.ofNat i) n = true → IntKind.u16 = IntKind.u16 ∧ l (Int.ofNat i) 0 = l (Int.ofNat i) 0) ∧ True) ∧ ((IntKind.i64 = IntKind.i64 ∧ w2 = w2) ∧ (IntKind.i64 = IntKind.i64 ∧ h2 = h2) ∧ (IntKind.i64 = IntKind.i64 ∧ s2 = s2) ∧ (1 = 1 ∧ n2 = n2 ∧ True ∧ ∀ (i : Nat), ilt (Int.ofNat i) n2 = true → IntKind.u16 = IntKind.u16 ∧ k (Int.ofNat i) 0 = k (Int.ofNat i) 0) ∧ True) ∧ True) ∧ Nat.le (Nat.succ (plMu h j)) (plMu h i))) (True ∧ True ∧ V [XV.c (CV.v (Value.bool true))] [])))))) := by
  try delta o_peq
  try delta s_plvalid
  try delta s_prow
  try delta s_sleq
  generalize @in64 = in64
  generalize @intRow = intRow
  generalize @plB = plB
  generalize @plGood = plGood
  generalize @plMu = plMu
  generalize @rowL = rowL
  generalize @rowOk = rowOk
  generalize @slEq = slEq
  generalize @w2 = w2
  kernel_rfl
end Go.Proofs.Ytjieldpnnopljaa
