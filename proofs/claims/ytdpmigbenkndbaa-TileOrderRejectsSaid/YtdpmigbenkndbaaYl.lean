import Derived.Test.YtdpmigbenkndbaaYj
namespace Go.Proofs.Ytdpmigbenkndbaa
open Go.RowKit PR QR
set_option linter.unusedVariables false
set_option linter.unusedSimpArgs false
def s_sints : List AV → Option QR.Ans
  | [.x (.c (.slc z n r)), .x (.c (.slc z2 m s))] => bif Nat.beq z 1 && Nat.beq z2 1 then some ⟨[.c (.v (.bool (sameR 1 n m r s)))], [], [intRow .i64 1 n r, intRow .i64 1 m s, ile 0 n = true, ile n 1099511627776 = true]⟩ else none
  | _ => none
def siGood (n : Int) (l k : Int → Nat → Int) (i : Int) : Prop := (0 ≤ i ∧ i ≤ n) ∧ ∀ p j : Nat, (p : Int) < i → j < 1 → l p j = k p j
def siMu (n i : Int) : Nat := (n - i).toNat
noncomputable def o_inv_sints (n m : Int) (l k : Int → Nat → Int) : QR.Inv where
  ι := Int
  good i := siGood n l k i
  slots i := QR.slotsOf Try.f25.ntmps [(0, .x (.c (.slc 1 n (.fn fun a b => .v (.int .i64 (l a b)))))), (1, .x (.c (.slc 1 m (.fn fun a b => .v (.int .i64 (k a b)))))), (5, .x (.c (.v (.int .i64 i))))]
  blocks i := []
  μ i := siMu n i
set_option maxRecDepth 100000 in
theorem sints_vc (n m : Int) (l k : Int → Nat → Int) (V : List QR.XV → List (List QR.CV) → Prop) : QR.evalBody Try.prog (QR.orc []) (fun q => bif Nat.beq q 4 then some (.inv (o_inv_sints n m l k)) else none) (Try.f25.body.getD .skip) Try.f25.results.toList Try.f25.ntmps [.x (.c (.slc 1 n (.fn fun i j => .v (.int .i64 (l i j))))), .x (.c (.slc 1 m (.fn fun i j => .v (.int .i64 (k i j)))))] V = (True ∧ ∀ (i : Int), i = n → ∀ (i_1 : Int), i_1 = m → True ∧ bcond (ine i i_1) (True ∧ True ∧ V [XV.c (CV.v (Value.bool false))] []) (True ∧ (∃ (i : Int), siGood n l k i ∧ True ∧ true = true ∧ ((true = true ∧ 1 = 1 ∧ n = n ∧ True ∧ ∀ (i : Nat), ilt (Int.ofNat i) n = true → IntKind.i64 = IntKind.i64 ∧ l (Int.ofNat i) 0 = l (Int.ofNat i) 0) ∧ (true = true ∧ 1 = 1 ∧ m = m ∧ True ∧ ∀ (i : Nat), ilt (Int.ofNat i) m = true → IntKind.i64 = IntKind.i64 ∧ k (Int.ofNat i) 0 = k (Int.ofNat i) 0) ∧ (true = true ∧ IntKind.i64 = IntKind.i64 ∧ (0 : Int) = i) ∧ True) ∧ True) ∧ ∀ (i : Int), siGood n l k i → ∀ (i_2 : Int), i_2 = n → True ∧ bcond (ilt i i_2) ((ile 0 i = true ∧ ilt i m = true ∧ ile 0 i = true ∧ ilt i n = true ∧ True) ∧ bcond (ine (l i 0) (k i 0)) (True ∧ True ∧ V [XV.c (CV.v (Value.bool false))] []) (True ∧ ∃ (j : Int), siGood n l k j ∧ (True ∧ true = true ∧ ((true = true ∧ 1 = 1 ∧ n = n ∧ True ∧ ∀ (i : Nat), ilt (Int.ofNat i) n = true → IntKind.i64 = IntKind.i64 ∧ l (Int.ofNat i) 0 = l (Int.ofNat i) 0) ∧ (true = true ∧ 1 = 1 ∧ m = m ∧ True ∧ ∀ (i : Nat), ilt (Int.ofNat i) m = true → IntKind.i64 = IntKind.i64 ∧ k (Int.ofNat i) 0 = k (Int.ofNat i) 0) ∧ (true = true ∧ IntKind.i64 = IntKind.i64 ∧ iadd IntKind.i64 i 1 = j) ∧ True) ∧ True) ∧ Nat.le (Nat.succ (siMu n j)) (siMu n i))) (True ∧ True ∧ V [XV.c (CV.v (Value.bool true))] []))) := by
  generalize @siGood = siGood
  generalize @siMu = siMu
  kernel_rfl
end Go.Proofs.Ytdpmigbenkndbaa
