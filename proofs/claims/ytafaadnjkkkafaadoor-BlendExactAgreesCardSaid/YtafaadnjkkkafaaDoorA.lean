/-
  Contracts of round.nearest and round.Half: the integer nearest to n / d, for all words n, d below 2^64 (0 if d is 0). No condition beyond the words' ranges.
-/
import Derived.Test.YtafaadnjkkkafaaDoorRows
import Derived.WalkKit
import Derived.BigQuiet
import Derived.Deep.QuietTactic
import Derived.Deep.DeepFit
namespace Go.Proofs.YtafaadnjkkkafaaDoor
open Go.RowKit

theorem ret_u64 {a b : Int} (h : a = b) : Ending.returned (.int .u64 a) = .returned (.int .u64 b) := by rw [h]

theorem u64_div (n d : Nat) (hn : n < 18446744073709551616) : IntKind.u64.wrap ((n : Int) / d) = (n : Int) / d :=
  IntWalk.u64_in _ ⟨Int.ediv_nonneg (by omega) (by omega), Int.le_trans (Int.ediv_le_self _ (by omega)) (by omega)⟩

def half (n d : Nat) : Nat := if d = 0 then 0 else if d - n % d ≤ n % d then n / d + 1 else n / d

theorem half_lt (n d : Nat) (hd : 2 ≤ d) (hn : n < 18446744073709551616): n / d + 1 < 18446744073709551616 := by
  have : n / d ≤ n / 2 := Nat.div_le_div_left hd (by omega)
  omega

end Go.Proofs.YtafaadnjkkkafaaDoor
