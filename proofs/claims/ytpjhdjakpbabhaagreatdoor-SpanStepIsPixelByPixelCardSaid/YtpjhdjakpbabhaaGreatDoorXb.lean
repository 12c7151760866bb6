import Derived.Test.YtpjhdjakpbabhaaGreatDoorZaa
import Derived.Test.YtpjhdjakpbabhaaGreatDoorZ0
import Derived.Test.YtpjhdjakpbabhaaGreatDoorXa
namespace Go.Proofs.YtpjhdjakpbabhaaGreatDoor
open Go.RowKit PR QR
set_option linter.unusedVariables false
def row16 (z : Nat) (n : Int) (q : Int → Nat → Int) : Prop := ∀ (i : Int) (k : Nat), 0 ≤ i → i < n → k < z → in16 (q i k) = true
def qOf (r : QR.Row) (i : Int) (j : Nat) : Int := intC (den r i j)
def qO1 (r : QR.Row) (i : Int) : Int := intC (den r i 0)
theorem qOf_eq (r : QR.Row) : qOf r = fun i j => intC (den r i j) := rfl
theorem qO1_eq (r : QR.Row) : qO1 r = fun i => intC (den r i 0) := rfl
theorem qOf_fn (k : IntKind) (f : Int → Nat → Int) : qOf (.fn fun i j => .v (.int k (f i j))) = f := rfl
theorem qO1_fn (k : IntKind) (f : Int → Int) : qO1 (.fn fun i j => .v (.int k (f i))) = f := rfl
def s_scls : List AV → Option QR.Ans
  | [.x (.c c), .x (.c (.v (.int .u16 t)))] => match slcOf 5 c with
    | some (n, r) => some ⟨[.c (.v (.int .i64 (clsV n (qOf r) t)))], [], [intRow .u16 5 n r, ile 0 n = true, ile n 9223372036854775807 = true]⟩
    | none => none
  | _ => none
def s_srow : List AV → Option QR.Ans
  | [.x (.c (.v (.int .i64 o))), .x (.c (.v (.int .i64 k))), .x (.c (.v (.int .u16 m))), .x (.c c), .x (.c d)] => match slcOf 5 c, slcOf 5 d with
    | some (n, r), some (n2, r2) => some ⟨[.c (.fresh 5 (rcN o k m n n2 (qOf r) (qOf r2)) (.fn fun i j => .v (.int .u16 (rcV o k m (qOf r) (qOf r2) i j)))), .c (.v (.bool (rcOk o k m n n2 (qOf r) (qOf r2))))], [],
        [intRow .u16 5 n r, intRow .u16 5 n2 r2, row16 5 n (qOf r), row16 5 n2 (qOf r2), in16 m = true, ile 0 n = true, ile n 1099511627776 = true, ile 0 n2 = true]⟩
    | _, _ => none
  | _ => none
def s_sstep : List AV → Option QR.Ans
  | [.x (.c (.v (.bool kn))), .x (.c (.v (.int .i64 o))), .x (.c (.v (.int .i64 k))), .x (.c (.v (.int .u16 m))), .x (.c c), .x (.c d), .x (.c e)] => match slcOf 5 c, slcOf 6 d, slcOf 5 e with
    | some (n, r), some (na, ra), some (nb, rb) => some ⟨[.c (.fresh 6 (rgN kn o k m n na nb (qOf r) (qOf ra) (qOf rb)) (.fn fun i j => .v (.int .u16 (rgV kn o k m (qOf r) (qOf ra) (qOf rb) i j)))), .c (.v (.bool (rgOk kn o k m n na nb (qOf r) (qOf ra) (qOf rb))))], [],
        [intRow .u16 5 n r, intRow .u16 6 na ra, intRow .u16 5 nb rb, row16 5 n (qOf r), row16 6 na (qOf ra), row16 5 nb (qOf rb), in16 m = true, ile 0 n = true, ile n 1099511627776 = true, ile 0 na = true, ile 0 nb = true]⟩
    | _, _, _ => none
  | _ => none
def s_sres : List AV → Option QR.Ans
  | [.x (.c d), .x (.c e), .x (.c (.v (.int .u16 m)))] => match slcOf 6 d, slcOf 5 e with
    | some (n, ra), some (nb, rb) => some ⟨[.c (.fresh 5 (rrN m n nb (qOf ra) (qOf rb)) (.fn fun i j => .v (.int .u16 (rrV m (qOf ra) (qOf rb) i j)))), .c (.v (.bool (rrOk m n nb (qOf ra) (qOf rb))))], [],
        [intRow .u16 6 n ra, intRow .u16 5 nb rb, row16 6 n (qOf ra), row16 5 nb (qOf rb), in16 m = true, ile 0 n = true, ile n 1099511627776 = true, ile 0 nb = true]⟩
    | _, _ => none
  | _ => none
def scGood (n i : Int) : Prop := 0 ≤ i ∧ i ≤ n
def scMu (n i : Int) : Nat := (n - i).toNat
end Go.Proofs.YtpjhdjakpbabhaaGreatDoor
