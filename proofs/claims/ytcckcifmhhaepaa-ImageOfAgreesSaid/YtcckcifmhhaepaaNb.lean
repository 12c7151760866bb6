import Derived.Test.YtcckcifmhhaepaaNa
namespace Go.Proofs.Ytcckcifmhhaepaa
open Go.RowKit PR QR
set_option linter.unusedVariables false
def s_fit : List AV → Option QR.Ans
  | [.x (.c (.v (.int .i64 w))), .x (.c (.v (.int .i64 h)))] => some ⟨[.c (.v (.bool (fitB w h)))], [], [in64 w = true, in64 h = true]⟩
  | _ => none
def s_plvalid : List AV → Option QR.Ans
  | [.x (.agg [.v (.int .i64 w), .v (.int .i64 h), .v (.int .i64 s), c])] => match slcOf 1 c with
    | some (n, r) => some ⟨[.c (.v (.bool (plB w h s n)))], [], [intRow .u16 1 n r, ile 0 n = true, in64 w = true, in64 h = true, in64 s = true]⟩
    | none => none
  | _ => none
def s_plsame : List AV → Option QR.Ans
  | [.x (.agg [.v (.int .i64 w), .v (.int .i64 h), .v (.int .i64 s), c]), .x (.agg [.v (.int .i64 w2), .v (.int .i64 h2), .v (.int .i64 s2), c2])] => match slcOf 1 c, slcOf 1 c2 with
    | some (n, r), some (n2, r2) => some ⟨[.c (.v (.bool (spB w h s n r w2 h2 s2 n2 r2)))], [], [intRow .u16 1 n r, ile 0 n = true, in64 w = true, in64 h = true, in64 s = true, intRow .u16 1 n2 r2, ile 0 n2 = true, in64 w2 = true, in64 h2 = true, in64 s2 = true, ile n 1099511627776 = true]⟩
    | _, _ => none
  | _ => none
set_option maxRecDepth 100000 in
theorem ffits_vc (w h : Int) (V : List QR.XV → List (List QR.CV) → Prop) : QR.evalBody Try.prog (QR.orc []) (QR.noLoops) (Try.f46.body.getD .skip) Try.f46.results.toList Try.f46.ntmps [.x (.c (.v (.int .i64 w))), .x (.c (.v (.int .i64 h)))] V = (True ∧ bcond (ige w 1) (bcond (ige h 1) (bcond (ile w 16777216) ((ine w 0 = true ∧ True) ∧ True ∧ V [XV.c (CV.v (Value.bool (ile h (iquo IntKind.i64 16777216 w))))] []) (True ∧ True ∧ V [XV.c (CV.v (Value.bool false))] [])) (True ∧ True ∧ V [XV.c (CV.v (Value.bool false))] [])) (True ∧ True ∧ V [XV.c (CV.v (Value.bool false))] [])) := by
  kernel_rfl
def o_fpl : QR.Oracle := QR.orc [(46, s_fit)]
set_option maxRecDepth 100000 in
theorem fplv_vc (w h s n : Int) (l : Int → Nat → Int) (V : List QR.XV → List (List QR.CV) → Prop) : QR.evalBody Try.prog (o_fpl) (QR.noLoops) (Try.f74.body.getD .skip) Try.f74.results.toList Try.f74.ntmps [.x (.agg [.v (.int .i64 w), .v (.int .i64 h), .v (.int .i64 s), .slc 1 n (.fn fun i j => .v (.int .u16 (l i j)))])] V = (True ∧ bcond (fitB w h) (bcond (ige s w) (bcond (ile s 16777216) (∀ (i : Int), i = n → (in64 w = true ∧ in64 h = true ∧ True) ∧ True ∧ V [XV.c (CV.v (Value.bool (ige i (iadd IntKind.i64 (imul IntKind.i64 (isub IntKind.i64 h 1) s) w))))] []) ((in64 w = true ∧ in64 h = true ∧ True) ∧ True ∧ V [XV.c (CV.v (Value.bool false))] [])) ((in64 w = true ∧ in64 h = true ∧ True) ∧ True ∧ V [XV.c (CV.v (Value.bool false))] [])) ((in64 w = true ∧ in64 h = true ∧ True) ∧ True ∧ V [XV.c (CV.v (Value.bool false))] [])) := by
  try delta o_fpl
  try delta s_fit
  generalize @fitB = fitB
  generalize @in64 = in64
  kernel_rfl
def o_fin : QR.Oracle := QR.orc [(74, s_plvalid)]
def smpGood (n : Int) (l k : Int → Nat → Int) (i : Int) : Prop := (0 ≤ i ∧ i ≤ n) ∧ ∀ p : Nat, (p : Int) < i → l p 0 = k p 0
def smpMu (n i : Int) : Nat := (n - i).toNat
noncomputable def o_inv_fsm (w h s n : Int) (l : Int → Nat → Int) (w2 h2 s2 n2 : Int) (k : Int → Nat → Int) : QR.Inv where
  ι := Int
  good i := smpGood n l k i
  slots i := QR.slotsOf Try.f54.ntmps [(2, .x (.c (.ptr 1000000000000000 0))), (3, .x (.c (.ptr 1000000000000001 0))), (4, .x (.c (.v (.bool false)))), (5, .x (.c (.v (.int .i64 i))))]
  blocks i := [(1000000000000000, .cells [.v (.int .i64 w), .v (.int .i64 h), .v (.int .i64 s), .slc 1 n (.fn fun i j => .v (.int .u16 (l i j)))]), (1000000000000001, .cells [.v (.int .i64 w2), .v (.int .i64 h2), .v (.int .i64 s2), .slc 1 n2 (.fn fun i j => .v (.int .u16 (k i j)))])]
  μ i := smpMu n i
set_option maxRecDepth 100000 in
theorem fpls_vc (w h s n : Int) (l : Int → Nat → Int) (w2 h2 s2 n2 : Int) (k : Int → Nat → Int) (V : List QR.XV → List (List QR.CV) → Prop) : QR.evalBody Try.prog (QR.orc []) (fun q => bif Nat.beq q 4 then some (.inv (o_inv_fsm w h s n l w2 h2 s2 n2 k)) else none) (Try.f54.body.getD .skip) Try.f54.results.toList Try.f54.ntmps [.x (.agg [.v (.int .i64 w), .v (.int .i64 h), .v (.int .i64 s), .slc 1 n (.fn fun i j => .v (.int .u16 (l i j)))]), .x (.agg [.v (.int .i64 w2), .v (.int .i64 h2), .v (.int .i64 s2), .slc 1 n2 (.fn fun i j => .v (.int .u16 (k i j)))])] V = (True ∧ bcond (ine w w2) (True ∧ True ∧ True ∧ V [XV.c (CV.v (Value.bool false))] []) (bcond (ine h h2) (True ∧ True ∧ True ∧ V [XV.c (CV.v (Value.bool false))] []) (bcond (ine s s2) (True ∧ True ∧ True ∧ V [XV.c (CV.v (Value.bool false))] []) (∀ (i : Int), i = n → ∀ (i_1 : Int), i_1 = n2 → True ∧ bcond (ine i i_1) (True ∧ True ∧ V [XV.c (CV.v (Value.bool false))] []) (True ∧ (∃ (i : Int), smpGood n l k i ∧ True ∧ true = true ∧ ((true = true ∧ 0 = 0 ∧ 0 = 0) ∧ (true = true ∧ 1 = 1 ∧ 0 = 0) ∧ (true = true ∧ false = false) ∧ (true = true ∧ IntKind.i64 = IntKind.i64 ∧ (0 : Int) = i) ∧ True) ∧ ((IntKind.i64 = IntKind.i64 ∧ w = w) ∧ (IntKind.i64 = IntKind.i64 ∧ h = h) ∧ (IntKind.i64 = IntKind.i64 ∧ s = s) ∧ (1 = 1 ∧ n = n ∧ True ∧ ∀ (i : Nat), ilt (Int.ofNat i) n = true → IntKind.u16 = IntKind.u16 ∧ l (Int.ofNat i) 0 = l (Int.ofNat i) 0) ∧ True) ∧ ((IntKind.i64 = IntKind.i64 ∧ w2 = w2) ∧ (IntKind.i64 = IntKind.i64 ∧ h2 = h2) ∧ (IntKind.i64 = IntKind.i64 ∧ s2 = s2) ∧ (1 = 1 ∧ n2 = n2 ∧ True ∧ ∀ (i : Nat), ilt (Int.ofNat i) n2 = true → IntKind.u16 = IntKind.u16 ∧ k (Int.ofNat i) 0 = k (Int.ofNat i) 0) ∧ True) ∧ True) ∧ ∀ (i : Int), smpGood n l k i → ∀ (i_2 : Int), i_2 = n → True ∧ bcond (ilt i i_2) ((ile 0 i = true ∧ ilt i n2 = true ∧ ile 0 i = true ∧ ilt i n = true ∧ True) ∧ bcond (ine (l i 0) (k i 0)) (True ∧ True ∧ V [XV.c (CV.v (Value.bool false))] []) (True ∧ ∃ (j : Int), smpGood n l k j ∧ (True ∧ true = true ∧ ((true = true ∧ 1000000000000000 = 1000000000000000 ∧ 0 = 0) ∧ (true = true ∧ 1000000000000001 = 1000000000000001 ∧ 0 = 0) ∧ (true = true ∧ false = false) ∧ (true = true ∧ IntKind.i64 = IntKind.i64 ∧ iadd IntKind.i64 i 1 = j) ∧ True) ∧ ((IntKind.i64 = IntKind.i64 ∧ w = w) ∧ (IntKind.i64 = IntKind.i64 ∧ h = h) ∧ (IntKind.i64 = IntKind.i64 ∧ s = s) ∧ (1 = 1 ∧ n = n ∧ True ∧ ∀ (i : Nat), ilt (Int.ofNat i) n = true → IntKind.u16 = IntKind.u16 ∧ l (Int.ofNat i) 0 = l (Int.ofNat i) 0) ∧ True) ∧ ((IntKind.i64 = IntKind.i64 ∧ w2 = w2) ∧ (IntKind.i64 = IntKind.i64 ∧ h2 = h2) ∧ (IntKind.i64 = IntKind.i64 ∧ s2 = s2) ∧ (1 = 1 ∧ n2 = n2 ∧ True ∧ ∀ (i : Nat), ilt (Int.ofNat i) n2 = true → IntKind.u16 = IntKind.u16 ∧ k (Int.ofNat i) 0 = k (Int.ofNat i) 0) ∧ True) ∧ True) ∧ Nat.le (Nat.succ (smpMu n j)) (smpMu n i))) (True ∧ True ∧ V [XV.c (CV.v (Value.bool true))] [])))))) := by
  generalize @smpGood = smpGood
  generalize @smpMu = smpMu
  generalize @w2 = w2
  kernel_rfl
end Go.Proofs.Ytcckcifmhhaepaa
