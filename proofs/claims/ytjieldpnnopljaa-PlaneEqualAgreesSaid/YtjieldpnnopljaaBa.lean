/-
  Plain facts on numbers: the quotient of two words by one, digit by digit in base 2^32 and bit by bit; bit lengths.
  Contracts of round.nearest and round.Half: the integer nearest to n / d, for all words n, d below 2^64 (0 if d is 0). No condition beyond the words' ranges.
  The contract of math/bits.Div64 where the upper word is below the divisor: quotient and remainder of the two words.
  Contracts of the specification's Mul, Of and DivMod on two words: the product, the number, quotient and remainder, for all words (divisor 0 answers false).
  Contracts of the specification's Add, HalfWide and MulDiv: the sum below 2^128 or false, the nearest integer to n / d, the nearest integer to a b / d where it fits into a word.
  Contracts of the specification's Half, of round.By255, round.By65535, round.MulDiv and of the generator's Mod, for all arguments.
  The contract of round.Sqrt: the greatest integer whose square is at most n, for every word n.
  The last step of a law whose arguments hold no memory, where the call has made blocks of its own.
  The laws RoundHalfAgrees, RoundHalfIsNearest and RoundHalfIsMonotone, walked: each returns true for all arguments in their ranges.
  The laws RoundFastDivisions, RoundMulDivCancels, RoundSqrt and RoundMulDivAgrees, walked: each returns true for all arguments in their ranges.
-/
import Derived.WalkKit
import Derived.Lib.BitFns
import Derived.Lib.Hide
import Derived.Test.YtjieldpnnopljaaRows
import Derived.BigQuiet
import Derived.Deep.QuietTactic
import Derived.Deep.DeepFit
import Derived.Test.YtjieldpnnopljaaShelf
import Derived.Deep.DeepCutAuto
import Derived.Deep.CutBlock
import Derived.Laws.Externs
import Derived.Deep.RegionWith
import Derived.ProofKit
import Derived.OpenShut
/- Plain facts on numbers: the quotient of two words by one, digit by digit (base 2^32). -/
namespace Go.Proofs.Ytjieldpnnopljaa
namespace Num

theorem dstep_gt {A c B y1 y0 q r : Nat} (hA : A < y1 * B + y0) (hc : c < B) (inv : q * y1 + r = A) (t : B ≤ q ∨ B * r + c < q * y0) :
    (A * B + c) / (y1 * B + y0) < q := by
  have hpos : 0 < y1 * B + y0 := by omega
  rw [Nat.div_lt_iff_lt_mul hpos]
  rcases t with t | t
  · have h1 : B * (y1 * B + y0) ≤ q * (y1 * B + y0) := Nat.mul_le_mul_right _ t
    have h2 : B * (A + 1) ≤ B * (y1 * B + y0) := Nat.mul_le_mul_left _ hA
    have h3 : B * (A + 1) = A * B + B := by rw [Nat.mul_add, Nat.mul_one, Nat.mul_comm]
    omega
  · have h1 : q * (y1 * B + y0) = q * y1 * B + q * y0 := by rw [Nat.mul_add, Nat.mul_assoc]
    have h2 : A * B = q * y1 * B + B * r := by rw [← inv, Nat.add_mul, Nat.mul_comm r B]
    omega

theorem dstep_le {A c B y1 y0 q r : Nat} (hA : A < y1 * B + y0) (inv : q * y1 + r = A) (t : q * y0 ≤ B * r + c) :
    q ≤ (A * B + c) / (y1 * B + y0) := by
  have hpos : 0 < y1 * B + y0 := by omega
  rw [Nat.le_div_iff_mul_le hpos]
  have h1 : q * (y1 * B + y0) = q * y1 * B + q * y0 := by rw [Nat.mul_add, Nat.mul_assoc]
  have h2 : A * B = q * y1 * B + B * r := by rw [← inv, Nat.add_mul, Nat.mul_comm r B]
  omega

theorem dstep_brk {A c B y1 y0 q r : Nat} (hA : A < y1 * B + y0) (hy0 : y0 < B) (inv : q * y1 + r = A) (hr : B ≤ r) :
    q ≤ (A * B + c) / (y1 * B + y0) := by
  refine dstep_le hA inv ?_
  have hq : q ≤ B := by
    by_cases h : q ≤ B
    · exact h
    · exfalso
      have h1 : (B + 1) * y1 ≤ q * y1 := Nat.mul_le_mul_right _ (by omega)
      have h2 : (B + 1) * y1 = y1 * B + y1 := by rw [Nat.add_mul, Nat.one_mul, Nat.mul_comm]
      omega
  have h1 : q * y0 ≤ B * B := Nat.mul_le_mul hq (by omega)
  have h2 : B * B ≤ B * r := Nat.mul_le_mul_left _ hr
  omega

/-- what is left of the dividend behind a digit -/
theorem rest_lt {A c B y : Nat} (hA : A < y) : A * B + c - (A * B + c) / y * y = (A * B + c) % y ∧ (A * B + c) % y < y ∧ (A * B + c) / y * y ≤ A * B + c := by
  have h := Nat.div_add_mod (A * B + c) y
  have h' : (A * B + c) / y * y = y * ((A * B + c) / y) := Nat.mul_comm _ _
  exact ⟨by omega, Nat.mod_lt _ (by omega), Nat.div_mul_le_self _ _⟩

theorem digit_lt {A c B y : Nat} (hA : A < y) (hc : c < B) : (A * B + c) / y < B := by
  rw [Nat.div_lt_iff_lt_mul (by omega)]
  have h2 : B * (A + 1) ≤ B * y := Nat.mul_le_mul_left _ hA
  have h3 : B * (A + 1) = A * B + B := by rw [Nat.mul_add, Nat.mul_one, Nat.mul_comm]
  omega

/-- two digits -/
theorem two_digits {A a b B y : Nat} (hy : 0 < y) :
    (A * B + a) / y * B + ((A * B + a) % y * B + b) / y = ((A * B + a) * B + b) / y ∧ ((A * B + a) % y * B + b) % y = ((A * B + a) * B + b) % y := by
  have e : (A * B + a) * B + b = y * ((A * B + a) / y * B) + ((A * B + a) % y * B + b) := by
    have h := Nat.div_add_mod (A * B + a) y
    have h1 : y * ((A * B + a) / y * B) = y * ((A * B + a) / y) * B := (Nat.mul_assoc _ _ _).symm
    have h2 : (A * B + a) * B = y * ((A * B + a) / y) * B + (A * B + a) % y * B := by rw [← Nat.add_mul, h]
    omega
  rw [e]
  exact ⟨by rw [Nat.mul_add_div hy], by rw [Nat.mul_add_mod]⟩

/-- the digit that the two loops find -/
def dq (A c y1 y0 : Nat) : Nat := (A * 4294967296 + c) / (y1 * 4294967296 + y0)

theorem dq_gt {A c y1 y0 q r : Nat} (hA : A < y1 * 4294967296 + y0) (hc : c < 4294967296) (inv : q * y1 + r = A) (t : 4294967296 ≤ q ∨ 4294967296 * r + c < q * y0) : dq A c y1 y0 ≤ q - 1 := by
  have := dstep_gt hA hc inv t
  unfold dq
  omega
theorem dq_le {A c y1 y0 q r : Nat} (hA : A < y1 * 4294967296 + y0) (inv : q * y1 + r = A) (t : q * y0 ≤ 4294967296 * r + c) (h : dq A c y1 y0 ≤ q) : q = dq A c y1 y0 := by
  have := dstep_le hA inv t
  unfold dq at *
  omega
theorem dq_brk {A c y1 y0 q r : Nat} (hA : A < y1 * 4294967296 + y0) (hy0 : y0 < 4294967296) (inv : q * y1 + r = A) (t : 4294967296 ≤ r) (h : dq A c y1 y0 ≤ q) : q = dq A c y1 y0 := by
  have := dstep_brk (c := c) hA hy0 inv t
  unfold dq at *
  omega
theorem dq_lt {A c y1 y0 : Nat} (hA : A < y1 * 4294967296 + y0) (hc : c < 4294967296) : dq A c y1 y0 < 4294967296 := digit_lt hA hc
theorem dq_start {A c y1 y0 : Nat} (hc : c < 4294967296) (hy : 0 < y1) : dq A c y1 y0 ≤ A / y1 := by
  unfold dq
  rw [Nat.le_div_iff_mul_le hy]
  have h1 := Nat.div_mul_le_self (A * 4294967296 + c) (y1 * 4294967296 + y0)
  generalize (A * 4294967296 + c) / (y1 * 4294967296 + y0) = q at h1 ⊢
  have h2 : q * (y1 * 4294967296 + y0) = q * y1 * 4294967296 + q * y0 := by rw [Nat.mul_add, Nat.mul_assoc]
  have h3 : q * y1 * 4294967296 < (A + 1) * 4294967296 := by omega
  have := Nat.lt_of_mul_lt_mul_right h3
  omega
theorem start_le {A y1 y0 : Nat} (hA : A < y1 * 4294967296 + y0) (hy0 : y0 < 4294967296) (hy1 : 2147483648 ≤ y1) : A / y1 ≤ 8589934592 := by
  refine Nat.le_of_lt_succ ((Nat.div_lt_iff_lt_mul (by omega)).2 ?_)
  omega
theorem pred_inv {A q y1 r : Nat} (h : 0 < q) (inv : q * y1 + r = A) : (q - 1) * y1 + (r + y1) = A := by
  have : q * y1 = (q - 1) * y1 + y1 := by rw [← Nat.succ_mul]; congr; omega
  omega
theorem start_inv (A y1 : Nat) : A / y1 * y1 + A % y1 = A := Nat.div_add_mod' A y1

theorem bitLenAux_spec : ∀ (f x : Nat), x < 2 ^ f → x < 2 ^ Lib.bitLenAux f x ∧ (x ≠ 0 → 2 ^ (Lib.bitLenAux f x - 1) ≤ x) ∧ Lib.bitLenAux f x ≤ f ∧ (x ≠ 0 → 1 ≤ Lib.bitLenAux f x)
  | 0, x, h => by
    have : x = 0 := by simpa using h
    subst this
    exact ⟨by simp [Lib.bitLenAux], fun h => absurd rfl h, by simp [Lib.bitLenAux], fun h => absurd rfl h⟩
  | f + 1, x, h => by
    unfold Lib.bitLenAux
    by_cases h0 : x = 0
    · subst h0; simp
    · rw [if_neg h0]
      have ⟨a, b, c, d⟩ := bitLenAux_spec f (x / 2) (by rw [Nat.pow_succ] at h; omega)
      refine ⟨?_, fun _ => ?_, by omega, fun _ => by omega⟩
      · rw [Nat.add_comm, Nat.pow_succ]; omega
      · rw [Nat.add_sub_cancel_left]
        by_cases h1 : x / 2 = 0
        · have e : Lib.bitLenAux f (x / 2) = 0 := by rw [h1]; cases f <;> simp [Lib.bitLenAux]
          rw [e]; simp; omega
        · have b' := b h1
          have d' := d h1
          have e : 2 ^ Lib.bitLenAux f (x / 2) = 2 ^ (Lib.bitLenAux f (x / 2) - 1) * 2 := by rw [← Nat.pow_succ]; congr; omega
          rw [e]; omega

/-- the divisor is moved up until its highest bit is set -/
theorem norm {y bl : Nat} (h1 : y < 2 ^ bl) (h2 : 2 ^ (bl - 1) ≤ y) (hbl : 1 ≤ bl) (hbl' : bl ≤ 64) : 9223372036854775808 ≤ y * 2 ^ (64 - bl) ∧ y * 2 ^ (64 - bl) < 18446744073709551616 := by
  have e1 : 2 ^ (bl - 1) * 2 ^ (64 - bl) = 9223372036854775808 := by rw [← Nat.pow_add, (by omega : bl - 1 + (64 - bl) = 63)]
  have e2 : 2 ^ bl * 2 ^ (64 - bl) = 18446744073709551616 := by rw [← Nat.pow_add, (by omega : bl + (64 - bl) = 64)]
  constructor
  · rw [← e1]; exact Nat.mul_le_mul_right _ h2
  · rw [← e2]; exact Nat.mul_lt_mul_of_pos_right h1 (Nat.two_pow_pos _)

/-- the dividend is moved up with it: its upper word, and its lower one -/
theorem up {hi lo y s Y A L : Nat} (hs : s ≤ 63) (hlt : hi < y) (hlo : lo < 18446744073709551616) (hY : Y = y * 2 ^ s) (hA : A = hi * 2 ^ s + lo / 2 ^ (64 - s)) (hL : L = lo * 2 ^ s % 18446744073709551616) :
    (hi * 18446744073709551616 + lo) * 2 ^ s = A * 18446744073709551616 + L ∧ A < Y := by
  have e : 2 ^ (64 - s) * 2 ^ s = 18446744073709551616 := by rw [← Nat.pow_add, (by omega : 64 - s + s = 64)]
  have e1 : lo / 2 ^ (64 - s) = lo * 2 ^ s / 18446744073709551616 := by rw [← e, Nat.mul_div_mul_right _ _ (Nat.two_pow_pos s)]
  have h1 : (hi * 18446744073709551616 + lo) * 2 ^ s = hi * 2 ^ s * 18446744073709551616 + lo * 2 ^ s := by rw [Nat.add_mul, Nat.mul_right_comm]
  have h2 : (hi + 1) * 2 ^ s ≤ y * 2 ^ s := Nat.mul_le_mul_right _ hlt
  have h3 : (hi + 1) * 2 ^ s = hi * 2 ^ s + 2 ^ s := by rw [Nat.add_mul, Nat.one_mul]
  have h4 : lo * 2 ^ s < 18446744073709551616 * 2 ^ s := Nat.mul_lt_mul_of_pos_right hlo (Nat.two_pow_pos s)
  generalize 2 ^ s = p at *
  generalize hi * p = a at *
  generalize lo * p = b at *
  subst hA hL hY
  rw [h1, e1]
  constructor
  · omega
  · have : b / 18446744073709551616 < p := by rw [Nat.div_lt_iff_lt_mul (by omega)]; omega
    omega

theorem end_quo {hi lo y s Y A u1 u0 : Nat} (hy : 0 < y) (hY : Y = y * 2 ^ s) (hU : (hi * 18446744073709551616 + lo) * 2 ^ s = (A * 4294967296 + u1) * 4294967296 + u0) :
    (A * 4294967296 + u1) / Y * 4294967296 + ((A * 4294967296 + u1) % Y * 4294967296 + u0) / Y = (hi * 18446744073709551616 + lo) / y ∧
    ((A * 4294967296 + u1) % Y * 4294967296 + u0) % Y / 2 ^ s = (hi * 18446744073709551616 + lo) % y := by
  have hp : 0 < 2 ^ s := Nat.two_pow_pos s
  have hY0 : 0 < Y := by rw [hY]; exact Nat.mul_pos hy hp
  have ⟨a, b⟩ := two_digits (A := A) (a := u1) (b := u0) (B := 4294967296) hY0
  rw [a, b, ← hU, hY, Nat.mul_div_mul_right _ _ hp, Nat.mul_mod_mul_right, Nat.mul_div_cancel _ hp]
  exact ⟨rfl, rfl⟩

theorem digit_rest {A c y1 y0 Y : Nat} (hY : Y = y1 * 4294967296 + y0) (hA : A < Y) : A * 4294967296 + c = dq A c y1 y0 * Y + (A * 4294967296 + c) % Y ∧ (A * 4294967296 + c) % Y < Y := by
  have h := Nat.div_add_mod (A * 4294967296 + c) Y
  rw [Nat.mul_comm] at h
  refine ⟨?_, Nat.mod_lt _ (by omega)⟩
  unfold dq
  rw [← hY]
  omega

theorem wrap_rest {A c P R : Nat} (h : A * 4294967296 + c = P + R) (hR : R < 18446744073709551616) :
    IntKind.u64.wrap (IntKind.u64.wrap (IntKind.u64.wrap ((A : Int) * 4294967296) + c) - IntKind.u64.wrap P) = R := by
  simp only [IntKind.wrap_u64]
  omega

end Num
end Go.Proofs.Ytjieldpnnopljaa
namespace Go.Proofs.Ytjieldpnnopljaa.Num

/-- one more bit of the dividend -/
theorem bit_step {n d i r Q : Nat} (hd : 0 < d) (hr : r = n / 2 ^ (i + 1) % d) (hQ : Q = n / 2 ^ (i + 1) / d) :
    (d ≤ 2 * r + n / 2 ^ i % 2 → n / 2 ^ i % d = 2 * r + n / 2 ^ i % 2 - d ∧ n / 2 ^ i / d = 2 * Q + 1) ∧
    (2 * r + n / 2 ^ i % 2 < d → n / 2 ^ i % d = 2 * r + n / 2 ^ i % 2 ∧ n / 2 ^ i / d = 2 * Q) := by
  have e : n / 2 ^ (i + 1) = n / 2 ^ i / 2 := by rw [Nat.pow_succ, Nat.div_div_eq_div_mul]
  have hlt : r < d := by rw [hr]; exact Nat.mod_lt _ hd
  rw [e] at hr hQ
  have hm := Nat.div_add_mod (n / 2 ^ i / 2) d
  rw [← hr, ← hQ] at hm
  generalize n / 2 ^ i = m at *
  have hm2 : m = 2 * (m / 2) + m % 2 := by omega
  have hm3 : m = d * (2 * Q) + (2 * r + m % 2) := by
    have : d * (2 * Q) = 2 * (d * Q) := by rw [Nat.mul_left_comm]
    omega
  generalize m % 2 = b at *
  constructor
  · intro h
    have e1 : m = d * (2 * Q + 1) + (2 * r + b - d) := by
      have : d * (2 * Q + 1) = d * (2 * Q) + d := by rw [Nat.mul_add, Nat.mul_one]
      omega
    have hx : 2 * r + b - d < d := by omega
    constructor
    · rw [e1, Nat.mul_add_mod, Nat.mod_eq_of_lt hx]
    · rw [e1, Nat.mul_add_div hd, Nat.div_eq_of_lt hx, Nat.add_zero]
  · intro h
    constructor
    · rw [hm3, Nat.mul_add_mod, Nat.mod_eq_of_lt h]
    · rw [hm3, Nat.mul_add_div hd, Nat.div_eq_of_lt h, Nat.add_zero]

/-- a bit of the upper and of the lower word -/
theorem bit_hi {hi lo i : Nat} (hlo : lo < 18446744073709551616) (h : 64 ≤ i) : (hi * 18446744073709551616 + lo) / 2 ^ i = hi / 2 ^ (i - 64) := by
  have e : (2 : Nat) ^ i = 18446744073709551616 * 2 ^ (i - 64) := by
    rw [(by rfl : (18446744073709551616 : Nat) = 2 ^ 64), ← Nat.pow_add, (by omega : 64 + (i - 64) = i)]
  rw [e, ← Nat.div_div_eq_div_mul, (by omega : (hi * 18446744073709551616 + lo) / 18446744073709551616 = hi)]
theorem bit_lo {hi lo i : Nat} (h : i < 64) : (hi * 18446744073709551616 + lo) / 2 ^ i % 2 = lo / 2 ^ i % 2 := by
  have e : (18446744073709551616 : Nat) = 2 ^ i * (2 * 2 ^ (63 - i)) := by
    rw [← Nat.pow_succ', ← Nat.pow_add, (by omega : i + (63 - i + 1) = 64)]
  rw [e, Nat.mul_left_comm hi, Nat.mul_left_comm hi 2, Nat.mul_add_div (Nat.two_pow_pos i), Nat.mul_add_mod]

/-- the quotient's next bit, put into the upper word -/
theorem put_hi {Q qh ql i : Nat} (h : 64 ≤ i) (hql : ql < 18446744073709551616) (e : qh * 18446744073709551616 + ql = Q * 2 ^ (i + 1)) :
    qh % 2 ^ (i - 63) = 0 ∧ (qh + 2 ^ (i - 64)) * 18446744073709551616 + ql = (2 * Q + 1) * 2 ^ i := by
  have e1 : (2 : Nat) ^ (i + 1) = 18446744073709551616 * 2 ^ (i - 63) := by
    rw [(by rfl : (18446744073709551616 : Nat) = 2 ^ 64), ← Nat.pow_add, (by omega : 64 + (i - 63) = i + 1)]
  have e2 : (2 : Nat) ^ i = 18446744073709551616 * 2 ^ (i - 64) := by
    rw [(by rfl : (18446744073709551616 : Nat) = 2 ^ 64), ← Nat.pow_add, (by omega : 64 + (i - 64) = i)]
  have e3 : Q * 2 ^ (i + 1) = Q * 2 ^ (i - 63) * 18446744073709551616 := by rw [e1, ← Nat.mul_assoc, Nat.mul_right_comm]
  have e4 : (2 * Q + 1) * 2 ^ i = Q * 2 ^ (i + 1) + 2 ^ i := by rw [Nat.pow_succ, Nat.add_mul, Nat.one_mul, Nat.mul_comm 2 Q, Nat.mul_assoc, Nat.mul_comm 2]
  rw [e3] at e
  have : qh = Q * 2 ^ (i - 63) := by
    generalize Q * 2 ^ (i - 63) = p at e
    omega
  constructor
  · rw [this]; exact Nat.mul_mod_left _ _
  · rw [e4, e3, e2, ← e, Nat.add_mul, Nat.mul_comm 18446744073709551616]
    exact Nat.add_right_comm _ _ _
/-- .. and into the lower one -/
theorem put_lo {Q qh ql i : Nat} (h : i < 64) (hql : ql < 18446744073709551616) (e : qh * 18446744073709551616 + ql = Q * 2 ^ (i + 1)) :
    ql % 2 ^ (i + 1) = 0 ∧ ql + 2 ^ i < 18446744073709551616 ∧ qh * 18446744073709551616 + (ql + 2 ^ i) = (2 * Q + 1) * 2 ^ i := by
  have e1 : (18446744073709551616 : Nat) = 2 ^ (i + 1) * 2 ^ (63 - i) := by
    rw [← Nat.pow_add, (by omega : i + 1 + (63 - i) = 64)]
  have e4 : (2 * Q + 1) * 2 ^ i = Q * 2 ^ (i + 1) + 2 ^ i := by rw [Nat.pow_succ, Nat.add_mul, Nat.one_mul, Nat.mul_comm 2 Q, Nat.mul_assoc, Nat.mul_comm 2]
  have hm : ql % 2 ^ (i + 1) = 0 := by
    have : (qh * 18446744073709551616 + ql) % 2 ^ (i + 1) = 0 := by rw [e]; exact Nat.mul_mod_left _ _
    rwa [e1, ← Nat.mul_assoc, Nat.mul_right_comm, Nat.mul_comm, Nat.mul_add_mod] at this
  refine ⟨hm, ?_, by rw [e4]; omega⟩
  have hd := Nat.div_add_mod ql (2 ^ (i + 1))
  rw [hm, Nat.add_zero] at hd
  have hlt : ql / 2 ^ (i + 1) < 2 ^ (63 - i) := by
    rw [Nat.div_lt_iff_lt_mul (Nat.two_pow_pos _), Nat.mul_comm, ← e1]; exact hql
  have hle : 2 ^ (i + 1) * (ql / 2 ^ (i + 1) + 1) ≤ 2 ^ (i + 1) * 2 ^ (63 - i) := Nat.mul_le_mul_left _ hlt
  rw [← e1, Nat.mul_add, Nat.mul_one, hd, Nat.pow_succ] at hle
  have := Nat.two_pow_pos i
  omega
theorem zero_bit {Q i : Nat} : 2 * Q * 2 ^ i = Q * 2 ^ (i + 1) := by rw [Nat.pow_succ, Nat.mul_comm 2 Q, Nat.mul_assoc, Nat.mul_comm 2]
theorem quo_le (n d i : Nat) : n / 2 ^ i / d * 2 ^ i ≤ n :=
  Nat.le_trans (Nat.mul_le_mul_right _ (Nat.div_le_self _ _)) (Nat.div_mul_le_self _ _)
end Go.Proofs.Ytjieldpnnopljaa.Num
namespace Go.Proofs.Ytjieldpnnopljaa
open Go.RowKit

theorem ret_u64 {a b : Int} (h : a = b) : Ending.returned (.int .u64 a) = .returned (.int .u64 b) := by rw [h]

theorem u64_div (n d : Nat) (hn : n < 18446744073709551616) : IntKind.u64.wrap ((n : Int) / d) = (n : Int) / d :=
  IntWalk.u64_in _ ⟨Int.ediv_nonneg (by omega) (by omega), Int.le_trans (Int.ediv_le_self _ (by omega)) (by omega)⟩

def half (n d : Nat) : Nat := if d = 0 then 0 else if d - n % d ≤ n % d then n / d + 1 else n / d

theorem half_lt (n d : Nat) (hd : 2 ≤ d) (hn : n < 18446744073709551616): n / d + 1 < 18446744073709551616 := by
  have : n / d ≤ n / 2 := Nat.div_le_div_left hd (by omega)
  omega

end Go.Proofs.Ytjieldpnnopljaa
namespace Go.Proofs.Ytjieldpnnopljaa
open Go.RowKit
set_option linter.unusedVariables false
theorem ret2 {k k' : IntKind} {a b a' b' : Int} (h : a = a') (h' : b = b') : Ending.returned (.tuple #[.int k a, .int k' b]) = .returned (.tuple #[.int k a', .int k' b']) := by rw [h, h']
theorem bits_shl (x s M : Nat) (h : x * 2 ^ s < 18446744073709551616) (hM : M = x * 2 ^ s) : Value.int IntKind.u64 (IntKind.u64.wrap ((x : Int) * 2 ^ s)) = .int .u64 M := by
  subst hM
  rw [IntKind.wrap_u64]
  have e : ((x * 2 ^ s : Nat) : Int) = (x : Int) * 2 ^ s := by simp
  rw [← e, Int.emod_eq_of_lt (by omega) (by omega)]

theorem shl_mod (x s : Nat) : IntKind.u64.wrap ((x : Int) * 2 ^ s) = ((x * 2 ^ s % 18446744073709551616 : Nat) : Int) := by
  rw [IntKind.wrap_u64]
  simp
theorem and32 (L : Nat) (h : L < 18446744073709551616) : bits .and .u64 (L : Int) 4294967295 = ((L % 4294967296 : Nat) : Int) := Mul64.maskN L h
theorem shr32 (L : Nat) : (L : Int) / 4294967296 = ((L / 4294967296 : Nat) : Int) := by omega

/-- two parts that share no bit -/
theorem or_add (a b s : Nat) (ha : a < 18446744073709551616) (hb : b < 2 ^ s) (hd : a % 2 ^ s = 0) (h : a + b < 18446744073709551616) :
    bits .or .u64 (a : Int) (b : Int) = ((a + b : Nat) : Int) := by
  have hb' : b < 18446744073709551616 := by omega
  rw [bits_or_u64_nat a b ha hb']
  congr 1
  obtain ⟨q, rfl⟩ : ∃ q, a = 2 ^ s * q := ⟨a / 2 ^ s, by have := Nat.div_add_mod a (2 ^ s); omega⟩
  rw [Nat.two_pow_add_eq_or_of_lt hb]

end Go.Proofs.Ytjieldpnnopljaa
namespace Go.Proofs.Ytjieldpnnopljaa
open Go.RowKit
set_option linter.unusedVariables false

/-- the two words of a number -/
def Word2 (n : Nat) (hi lo : Nat) : Prop := hi * 18446744073709551616 + lo = n ∧ lo < 18446744073709551616 ∧ hi < 18446744073709551616

theorem and1 (x : Nat) (h : x < 18446744073709551616) : bits .and .u64 (x : Int) 1 = ((x % 2 : Nat) : Int) := by
  have e := bits_and_u64_nat x 1 h (by omega)
  rw [Nat.and_one_is_mod] at e
  exact e
theorem shl_or (r b : Nat) (hb : b ≤ 1) : bits .or .u64 (IntKind.u64.wrap ((r : Int) * 2)) (b : Int) = (((2 * r + b) % 18446744073709551616 : Nat) : Int) := by
  have e : IntKind.u64.wrap ((r : Int) * 2) = ((2 * r % 18446744073709551616 : Nat) : Int) := by rw [IntKind.wrap_u64]; omega
  rw [e, or_add _ _ 1 (by omega) (by omega) (by omega) (by omega)]
  omega
theorem or_bit (q j : Nat) (hj : j ≤ 63) (hm : q % 2 ^ (j + 1) = 0) (h : q + 2 ^ j < 18446744073709551616) : bits .or .u64 (q : Int) (IntKind.u64.wrap (2 ^ j)) = ((q + 2 ^ j : Nat) : Int) := by
  have e : (2 : Int) ^ j = ((2 ^ j : Nat) : Int) := by simp
  rw [e, IntKind.wrap_u64, Int.emod_eq_of_lt (by omega) (by omega)]
  exact or_add q (2 ^ j) (j + 1) (by omega) (by rw [Nat.pow_succ]; have := Nat.two_pow_pos j; omega) hm h

end Go.Proofs.Ytjieldpnnopljaa
namespace Go.Proofs.Ytjieldpnnopljaa
open Go.RowKit
set_option linter.unusedVariables false

theorem bcell {W w1 : World} (hb : Below W.heap.size W w1) : (∀ b o, b < W.heap.size → w1.cell? ⟨b, o, none⟩ = W.cell? ⟨b, o, none⟩) ∧ (∀ b o, b < W.heap.size → w1.frozen? ⟨b, o, none⟩ = W.frozen? ⟨b, o, none⟩) :=
  ⟨fun b o h => hb.cell (p := ⟨b, o, none⟩) h, fun b o h => hb.frozen (p := ⟨b, o, none⟩) h⟩

theorem half_up {n d r : Nat} (h0 : 0 < d) (hr : r = n % d) (h : d - r ≤ r) : half n d = n / d + 1 := by
  unfold half
  rw [if_neg (by omega), if_pos (by rw [← hr]; exact h)]
theorem half_down {n d r : Nat} (h0 : 0 < d) (hr : r = n % d) (h : ¬ d - r ≤ r) : half n d = n / d := by
  unfold half
  rw [if_neg (by omega), if_neg (by rw [← hr]; exact h)]
theorem half_up_lt {n d r : Nat} (hlt : r < d) (h : d - r ≤ r) (hn : n < 340282366920938463463374607431768211456) : n / d + 1 < 340282366920938463463374607431768211456 := by
  have : n / d ≤ n / 2 := Nat.div_le_div_left (by omega) (by omega)
  generalize n / d = x at *
  omega

/-- the nearest integer of a product's quotient, where it fits into a word; else 0 -/
def mdv (a b d : Nat) : Nat := if d ≠ 0 ∧ half (a * b) d < 18446744073709551616 then half (a * b) d else 0
def mdo (a b d : Nat) : Bool := decide (d ≠ 0 ∧ half (a * b) d < 18446744073709551616)

theorem mdv_no {a b d : Nat} (h : ¬ (d ≠ 0 ∧ half (a * b) d < 18446744073709551616)) : mdv a b d = 0 ∧ mdo a b d = false := by
  unfold mdv mdo; rw [if_neg h]; simp only [h, decide_false, and_self]
theorem mdv_yes {a b d : Nat} (h : d ≠ 0 ∧ half (a * b) d < 18446744073709551616) : mdv a b d = half (a * b) d ∧ mdo a b d = true := by
  unfold mdv mdo; rw [if_pos h]; simp only [h, and_self, ne_eq, not_false_eq_true, decide_true]

end Go.Proofs.Ytjieldpnnopljaa
namespace Go.Proofs.Ytjieldpnnopljaa
open Go.RowKit
set_option linter.unusedVariables false

theorem half_up_lt' (n d : Nat) (hlt : n % d < d) (h : d - n % d ≤ n % d) (hn : n < 18446744073709551616) : (n : Int) / (d : Int) + 1 ≤ 18446744073709551615 := by
  have h1 : n / d ≤ n / 2 := Nat.div_le_div_left (by omega) (by omega)
  have e1 : (n : Int) / (d : Int) = ((n / d : Nat) : Int) := by simp
  rw [e1]
  generalize n / d = x at *
  omega
theorem half255 (n : Nat) : half n 255 = (n + 127) / 255 := by
  unfold half
  rw [if_neg (by decide)]
  split <;> omega
theorem half65535 (n : Nat) : half n 65535 = (n + 32767) / 65535 := by
  unfold half
  rw [if_neg (by decide)]
  split <;> omega
theorem fast255 (n : Nat) (hn : n < 4294967296) : (n + 128 + (n + 128 + (n + 128 + (n + 128 + (n + 128) / 256) / 256) / 256) / 256) / 256 = (n + 127) / 255 := by
  omega
theorem fast65535 (h l : Nat) (hh : h < 281474976710656) (hl : l < 65536) : h + (h + l + 32768 + (h + l + 32768 + (h + l + 32768 + (h + l + 32768) / 65536) / 65536) / 65536) / 65536 = (h * 65536 + l + 32767) / 65535 := by
  omega
theorem ret_u32 {a b : Int} (h : a = b) : Ending.returned (.int .u32 a) = .returned (.int .u32 b) := by rw [h]

theorem mod_arith (n k : Int) (hk : 1 ≤ k) (hk' : k ≤ 4611686018427387904) : (wrap64 (n.tmod k + k)).tmod k = n % k := by
  have h1 : -k < n.tmod k := by
    by_cases h : 0 ≤ n
    · have := Int.tmod_nonneg k h; omega
    · have h1 := Int.tmod_lt_of_pos (-n) (by omega : 0 < k)
      rw [Int.neg_tmod] at h1
      omega
  have h2 : n.tmod k < k := Int.tmod_lt_of_pos n (by omega)
  rw [IntWalk.wrap64_in _ ⟨by omega, by omega⟩, Int.tmod_eq_emod_of_nonneg (by omega), Int.add_emod_right]
  have h3 := Int.mul_tdiv_add_tmod n k
  have h4 : n % k = (k * n.tdiv k + n.tmod k) % k := by rw [h3]
  rw [h4, Int.mul_add_emod_self_left]

theorem mod_any (n k : Int) (hk : 1 ≤ k) (hk' : k ≤ 4611686018427387904) (w : World) :
    Calls Try.prog 12 #[.int .i64 n, .int .i64 k] w fun e w' => e = .returned (.int .i64 (n % k)) ∧ w = w' := by
  have h := Lib.hid (mod_arith n k hk hk')
  go_enter Try.func12, Try.ntmps12
  go_wp2
  go_ret
  refine ⟨?_, rfl⟩
  rw [← h.out]
  rfl

end Go.Proofs.Ytjieldpnnopljaa
namespace Go.Proofs.Ytjieldpnnopljaa
open Go.RowKit
set_option linter.unusedVariables false

/-- s is the greatest integer whose square is at most n -/
def IsRoot (n s : Nat) : Prop := s * s ≤ n ∧ n < (s + 1) * (s + 1)

theorem root_ex : ∀ n : Nat, ∃ s, IsRoot n s
  | 0 => ⟨0, by unfold IsRoot; omega⟩
  | n + 1 => by
    obtain ⟨s, h1, h2⟩ := root_ex n
    by_cases h : n + 1 < (s + 1) * (s + 1)
    · exact ⟨s, by omega, h⟩
    · refine ⟨s + 1, by omega, ?_⟩
      have : (s + 1 + 1) * (s + 1 + 1) = (s + 1) * (s + 1) + (2 * s + 3) := by
        simp only [Nat.add_mul, Nat.mul_add, Nat.mul_one, Nat.one_mul]; omega
      omega

theorem root_unique {n s t : Nat} (h : IsRoot n s) (k : IsRoot n t) : s = t := by
  obtain ⟨h1, h2⟩ := h
  obtain ⟨k1, k2⟩ := k
  rcases Nat.lt_trichotomy s t with h | h | h
  · have : (s + 1) * (s + 1) ≤ t * t := Nat.mul_le_mul h h
    omega
  · exact h
  · have : (t + 1) * (t + 1) ≤ s * s := Nat.mul_le_mul h h
    omega

theorem newton_ge {n s x : Nat} (h : IsRoot n s) (hx : 0 < x) : s ≤ (x + n / x) / 2 := by
  have h1 : 2 * s ≤ x + n / x := by
    by_cases hs : 2 * s ≤ x
    · exact Nat.le_trans hs (Nat.le_add_right _ _)
    · have h2 : 2 * s - x ≤ n / x := by
        rw [Nat.le_div_iff_mul_le hx]
        refine Nat.le_trans ?_ h.1
        -- (2s - x) x <= s s
        obtain ⟨k, hk⟩ : ∃ k, 2 * s = x + k := ⟨2 * s - x, by omega⟩
        have e : 2 * s - x = k := by omega
        rw [e]
        have h4 : 4 * (k * x) ≤ (x + k) * (x + k) := by
          rcases Nat.le_total k x with hl | hl
          · obtain ⟨j, rfl⟩ := Nat.exists_eq_add_of_le hl
            have : (k + j + k) * (k + j + k) = 4 * (k * (k + j)) + j * j := by simp only [Nat.add_mul, Nat.mul_add, Nat.mul_comm j k]; omega
            omega
          · obtain ⟨j, rfl⟩ := Nat.exists_eq_add_of_le hl
            have : (x + (x + j)) * (x + (x + j)) = 4 * ((x + j) * x) + j * j := by simp only [Nat.add_mul, Nat.mul_add, Nat.mul_comm j x]; omega
            omega
        have h5 : (x + k) * (x + k) = 4 * (s * s) := by rw [← hk, Nat.mul_mul_mul_comm]
        omega
      generalize n / x = z at *
      omega
  omega

theorem newton_end {n s x : Nat} (h : IsRoot n s) (hx : 0 < x) (hs : s ≤ x) (he : x ≤ (x + n / x) / 2) : x = s := by
  have h1 : x ≤ n / x := by omega
  have h2 := (Nat.le_div_iff_mul_le hx).1 h1
  by_cases hlt : s < x
  · have := Nat.mul_le_mul (Nat.succ_le_of_lt hlt) (Nat.succ_le_of_lt hlt)
    have := h.2
    exact absurd this (by simp only [Nat.succ_eq_add_one] at *; omega)
  · omega

theorem newton_small {n s x : Nat} (h : IsRoot n s) (hs : s ≤ x) (hs0 : 0 < s) : n / x ≤ s + 2 := by
  have h1 : n / x ≤ n / s := Nat.div_le_div_left hs hs0
  have h2 : n / s < s + 3 := by
    rw [Nat.div_lt_iff_lt_mul hs0]
    have h3 := h.2
    have e1 : (s + 1) * (s + 1) = s * s + 2 * s + 1 := by simp only [Nat.add_mul, Nat.mul_add, Nat.mul_one, Nat.one_mul]; omega
    have e2 : (s + 3) * s = s * s + 3 * s := by rw [Nat.add_mul]
    omega
  omega

theorem root_start {n s b : Nat} (h : IsRoot n s) (hb : n < 2 ^ b) : s ≤ 2 ^ ((b + 1) / 2) := by
  have h1 : 2 ^ b ≤ 2 ^ ((b + 1) / 2) * 2 ^ ((b + 1) / 2) := by
    rw [← Nat.pow_add]; exact Nat.pow_le_pow_right (by decide) (by omega)
  by_cases hl : s ≤ 2 ^ ((b + 1) / 2)
  · exact hl
  · have hl' : 2 ^ ((b + 1) / 2) ≤ s := by omega
    have h2 := Nat.mul_le_mul hl' hl'
    have := h.1
    omega
theorem root_pos {n s : Nat} (h : IsRoot n s) (hn : 0 < n) : 0 < s := by
  rcases Nat.eq_zero_or_pos s with e | e
  · subst e; have := h.2; omega
  · exact e
theorem root_lt {n s : Nat} (h : IsRoot n s) (hn : n < 18446744073709551616) : s < 4294967296 := by
  by_cases hl : s < 4294967296
  · exact hl
  · have h2 := Nat.mul_le_mul (by omega : 4294967296 ≤ s) (by omega : 4294967296 ≤ s)
    have := h.1
    omega

end Go.Proofs.Ytjieldpnnopljaa
/- The last step of a law whose arguments hold no memory, where the call has made blocks of its own. -/
namespace Go.Proofs.Ytjieldpnnopljaa
open Go.ChangeShapes Go.WideShapes Go.ChangeAt Go.RowKit
set_option linter.unusedVariables false

theorem Law.post {H : Type} {enc : TypeId × Value → H} {P : Program} {f : Func} {s : ChangeSpec} {apart fresh handsOn again : Bool} {W W' : World} {args : Array Value} {v : Value} {ds gs : List (DataW H)}
    (hW : DataW.Whole enc P f.params.toList s.vars apart W args.toList ds gs [])
    (hres : ∀ (b : Nat) (sp : Nat → Bool) (hd : Bool), DataW.TrodAll enc P W' b sp hd f.resultTypes.toList (v.resultList f.resultTypes.size) (s.fn H (ds ++ gs)).results [])
    (hargs : ∀ sp : Nat → Bool, DataW.TrodAll enc P W' 0 sp true f.params.toList args.toList (s.fn H (ds ++ gs)).args [])
    (hvars : ∀ sp : Nat → Bool, DataW.TrodVars enc P W' sp s.vars (s.fn H (ds ++ gs)).vars [])
    (hb : Below W.heap.size W W')
    (hok : ∀ (j : Nat) (t : TypeId) (r : Value), f.resultTypes[j]? = some t → (v.resultList f.resultTypes.size)[j]? = some r → Value.okWide P W' .any 0 t r) :
    s.post enc P f apart fresh handsOn again W args v W' :=
  ⟨ds, gs, [], [], [], [], hW, hres _ _ _, hargs _, hvars _, World.keptBut_mono (fun _ h => absurd h (by simp)) (hb.frame (fun _ => False)), fun _ =>
    ⟨hok, _, _, [], ⟨[], [], trodAll_append (hargs _) (hres _ _ _), hvars _, rfl, fun _ _ h => absurd h (by simp), fun _ => by simp⟩, fun _ h => absurd h (by simp)⟩⟩
end Go.Proofs.Ytjieldpnnopljaa
namespace Go.Proofs.Ytjieldpnnopljaa
open Go.RowKit
set_option linter.unusedVariables false

/-- an unsigned argument as a natural number -/
theorem u64_nat {a : Int} (h : (Lit.int .u64 a).wf = true) : ∃ n : Nat, a = n ∧ n < 18446744073709551616 := by
  have hx : 0 ≤ a ∧ a ≤ 18446744073709551615 := by simpa [Lit.wf, IntKind.min, IntKind.max, IntKind.signed, IntKind.bits] using h
  exact ⟨a.toNat, by omega, by omega⟩
theorem u32_nat {a : Int} (h : (Lit.int .u32 a).wf = true) : ∃ n : Nat, a = n ∧ n < 4294967296 := by
  have hx : 0 ≤ a ∧ a ≤ 4294967295 := by simpa [Lit.wf, IntKind.min, IntKind.max, IntKind.signed, IntKind.bits] using h
  exact ⟨a.toNat, by omega, by omega⟩
theorem u16_nat {a : Int} (h : (Lit.int .u16 a).wf = true) : ∃ n : Nat, a = n ∧ n < 65536 := by
  have hx : 0 ≤ a ∧ a ≤ 65535 := by simpa [Lit.wf, IntKind.min, IntKind.max, IntKind.signed, IntKind.bits] using h
  exact ⟨a.toNat, by omega, by omega⟩
theorem i64_rng {a : Int} (h : (Lit.int .i64 a).wf = true) : -9223372036854775808 ≤ a ∧ a ≤ 9223372036854775807 := by
  simpa [Lit.wf, IntKind.min, IntKind.max, IntKind.signed, IntKind.bits] using h

theorem below_drewN (w : World) (n : Nat) : Below w.heap.size w (w.drewN n) := ⟨rfl, rfl, rfl, Nat.le_refl _, fun _ _ => rfl⟩

theorem half_mono (n d : Nat) : half n d ≤ half (n + 1) d ∧ half (n + 1) d ≤ half n d + 1 := by
  by_cases h0 : d = 0
  · subst h0; unfold half; rw [if_pos rfl, if_pos rfl]; omega
  · have hp : 0 < d := by omega
    have m1 := Nat.div_add_mod n d
    have l1 := Nat.mod_lt n hp
    have m2 := Nat.div_add_mod (n + 1) d
    have l2 := Nat.mod_lt (n + 1) hp
    by_cases hl : n % d + 1 = d
    · have e1 : n + 1 = d * (n / d + 1) := by rw [Nat.mul_add, Nat.mul_one]; omega
      have e2 : (n + 1) / d = n / d + 1 := by rw [e1, Nat.mul_div_cancel_left _ hp]
      have e3 : (n + 1) % d = 0 := by rw [e1, Nat.mul_mod_right]
      have e4 : half (n + 1) d = n / d + 1 := by rw [half_down hp rfl (by rw [e3]; omega), e2]
      rw [e4]
      by_cases hh : d - n % d ≤ n % d
      · rw [half_up hp rfl hh]; omega
      · rw [half_down hp rfl hh]; omega
    · have hlt : n % d + 1 < d := by omega
      have e1 : n + 1 = d * (n / d) + (n % d + 1) := by omega
      have e2 : (n + 1) / d = n / d := by rw [e1, Nat.mul_add_div hp, Nat.div_eq_of_lt hlt, Nat.add_zero]
      have e3 : (n + 1) % d = n % d + 1 := by rw [e1, Nat.mul_add_mod, Nat.mod_eq_of_lt hlt]
      by_cases hh : d - n % d ≤ n % d
      · rw [half_up hp rfl hh, half_up hp rfl (by rw [e3]; omega), e2]; omega
      · rw [half_down hp rfl hh]
        by_cases hk : d - (n + 1) % d ≤ (n + 1) % d
        · rw [half_up hp rfl hk, e2]; omega
        · rw [half_down hp rfl hk, e2]; omega
theorem half_le (n d : Nat) : half n d ≤ n := by
  by_cases h0 : d = 0
  · subst h0; unfold half; rw [if_pos rfl]; omega
  · have hp : 0 < d := by omega
    by_cases hh : d - n % d ≤ n % d
    · rw [half_up hp rfl hh]
      have l1 := Nat.mod_lt n hp
      have h2 : n / d < n := Nat.div_lt_self (by
        rcases Nat.eq_zero_or_pos n with h | h
        · subst h; simp at hh; omega
        · exact h) (by omega)
      exact h2
    · rw [half_down hp rfl hh]; exact Nat.div_le_self _ _

end Go.Proofs.Ytjieldpnnopljaa
namespace Go.Proofs.Ytjieldpnnopljaa
open Go.RowKit
set_option linter.unusedVariables false

theorem and255 (a : Nat) (ha : a < 65536) : bits .and .u16 (a : Int) 255 = ((a % 256 : Nat) : Int) := by
  have h := u16_and_nat a 255 ha (by omega)
  have e : a &&& 255 = a % 256 := Nat.and_two_pow_sub_one_eq_mod a 8
  rw [e] at h
  exact h

theorem half_cancel (a d : Nat) (h : 0 < d) : half (a * d) d = a := by
  rw [half_down h rfl (by rw [Nat.mul_mod_left]; omega), Nat.mul_div_cancel _ h]

theorem below_then {w a b : World} (h : Below w.heap.size w a) (k : Below a.heap.size a b) : Below w.heap.size w b := h.trans (k.mono h.size)
theorem below_of_drew {w w' : World} {m : Nat} (h : w' = w.drewN m) : Below w.heap.size w w' := by subst h; exact below_drewN _ _

end Go.Proofs.Ytjieldpnnopljaa
