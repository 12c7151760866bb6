/-
  Plain facts on numbers: the quotient of two words by one, digit by digit in base 2^32 and bit by bit; bit lengths.
-/
import Derived.WalkKit
import Derived.Lib.BitFns
import Derived.Lib.Hide
/- Plain facts on numbers: the quotient of two words by one, digit by digit (base 2^32). -/
namespace Go.Proofs.YtafaadnjkkkafaaDoor
namespace Num

theorem dstep_gt {A c B y1 y0 q r : Nat} (hA : A < y1 * B + y0) (hc : c < B) (inv : q * y1 + r = A) (t : B ≤ q ∨ B * r + c < q * y0) :
    (A * B + c) / (y1 * B + y0) < q := by
  have hpos : 0 < y1 * B + y0 := by omega
  rw [Nat.div_lt_iff_lt_mul hpos]
  rcases t with t | t
  · have h1 : B * (y1 * B + y0) ≤ q * (y1 * B + y0) := Nat.mul_le_mul_right _ t
    have h2 : B * (A + 1) ≤ B * (y1 * B + y0) := Nat.mul_le_mul_left _ hA
    have h3 : B * (A + 1) = A * B + B := by rw [Nat.mul_add, Nat.mul_one, Nat.mul_comm]
    omega
  · have h1 : q * (y1 * B + y0) = q * y1 * B + q * y0 := by rw [Nat.mul_add, Nat.mul_assoc]
    have h2 : A * B = q * y1 * B + B * r := by rw [← inv, Nat.add_mul, Nat.mul_comm r B]
    omega

theorem dstep_le {A c B y1 y0 q r : Nat} (hA : A < y1 * B + y0) (inv : q * y1 + r = A) (t : q * y0 ≤ B * r + c) :
    q ≤ (A * B + c) / (y1 * B + y0) := by
  have hpos : 0 < y1 * B + y0 := by omega
  rw [Nat.le_div_iff_mul_le hpos]
  have h1 : q * (y1 * B + y0) = q * y1 * B + q * y0 := by rw [Nat.mul_add, Nat.mul_assoc]
  have h2 : A * B = q * y1 * B + B * r := by rw [← inv, Nat.add_mul, Nat.mul_comm r B]
  omega

theorem dstep_brk {A c B y1 y0 q r : Nat} (hA : A < y1 * B + y0) (hy0 : y0 < B) (inv : q * y1 + r = A) (hr : B ≤ r) :
    q ≤ (A * B + c) / (y1 * B + y0) := by
  refine dstep_le hA inv ?_
  have hq : q ≤ B := by
    by_cases h : q ≤ B
    · exact h
    · exfalso
      have h1 : (B + 1) * y1 ≤ q * y1 := Nat.mul_le_mul_right _ (by omega)
      have h2 : (B + 1) * y1 = y1 * B + y1 := by rw [Nat.add_mul, Nat.one_mul, Nat.mul_comm]
      omega
  have h1 : q * y0 ≤ B * B := Nat.mul_le_mul hq (by omega)
  have h2 : B * B ≤ B * r := Nat.mul_le_mul_left _ hr
  omega

/-- what is left of the dividend behind a digit -/
theorem rest_lt {A c B y : Nat} (hA : A < y) : A * B + c - (A * B + c) / y * y = (A * B + c) % y ∧ (A * B + c) % y < y ∧ (A * B + c) / y * y ≤ A * B + c := by
  have h := Nat.div_add_mod (A * B + c) y
  have h' : (A * B + c) / y * y = y * ((A * B + c) / y) := Nat.mul_comm _ _
  exact ⟨by omega, Nat.mod_lt _ (by omega), Nat.div_mul_le_self _ _⟩

theorem digit_lt {A c B y : Nat} (hA : A < y) (hc : c < B) : (A * B + c) / y < B := by
  rw [Nat.div_lt_iff_lt_mul (by omega)]
  have h2 : B * (A + 1) ≤ B * y := Nat.mul_le_mul_left _ hA
  have h3 : B * (A + 1) = A * B + B := by rw [Nat.mul_add, Nat.mul_one, Nat.mul_comm]
  omega

/-- two digits -/
theorem two_digits {A a b B y : Nat} (hy : 0 < y) :
    (A * B + a) / y * B + ((A * B + a) % y * B + b) / y = ((A * B + a) * B + b) / y ∧ ((A * B + a) % y * B + b) % y = ((A * B + a) * B + b) % y := by
  have e : (A * B + a) * B + b = y * ((A * B + a) / y * B) + ((A * B + a) % y * B + b) := by
    have h := Nat.div_add_mod (A * B + a) y
    have h1 : y * ((A * B + a) / y * B) = y * ((A * B + a) / y) * B := (Nat.mul_assoc _ _ _).symm
    have h2 : (A * B + a) * B = y * ((A * B + a) / y) * B + (A * B + a) % y * B := by rw [← Nat.add_mul, h]
    omega
  rw [e]
  exact ⟨by rw [Nat.mul_add_div hy], by rw [Nat.mul_add_mod]⟩

/-- the digit that the two loops find -/
def dq (A c y1 y0 : Nat) : Nat := (A * 4294967296 + c) / (y1 * 4294967296 + y0)

theorem dq_gt {A c y1 y0 q r : Nat} (hA : A < y1 * 4294967296 + y0) (hc : c < 4294967296) (inv : q * y1 + r = A) (t : 4294967296 ≤ q ∨ 4294967296 * r + c < q * y0) : dq A c y1 y0 ≤ q - 1 := by
  have := dstep_gt hA hc inv t
  unfold dq
  omega
theorem dq_le {A c y1 y0 q r : Nat} (hA : A < y1 * 4294967296 + y0) (inv : q * y1 + r = A) (t : q * y0 ≤ 4294967296 * r + c) (h : dq A c y1 y0 ≤ q) : q = dq A c y1 y0 := by
  have := dstep_le hA inv t
  unfold dq at *
  omega
theorem dq_brk {A c y1 y0 q r : Nat} (hA : A < y1 * 4294967296 + y0) (hy0 : y0 < 4294967296) (inv : q * y1 + r = A) (t : 4294967296 ≤ r) (h : dq A c y1 y0 ≤ q) : q = dq A c y1 y0 := by
  have := dstep_brk (c := c) hA hy0 inv t
  unfold dq at *
  omega
theorem dq_lt {A c y1 y0 : Nat} (hA : A < y1 * 4294967296 + y0) (hc : c < 4294967296) : dq A c y1 y0 < 4294967296 := digit_lt hA hc
theorem dq_start {A c y1 y0 : Nat} (hc : c < 4294967296) (hy : 0 < y1) : dq A c y1 y0 ≤ A / y1 := by
  unfold dq
  rw [Nat.le_div_iff_mul_le hy]
  have h1 := Nat.div_mul_le_self (A * 4294967296 + c) (y1 * 4294967296 + y0)
  generalize (A * 4294967296 + c) / (y1 * 4294967296 + y0) = q at h1 ⊢
  have h2 : q * (y1 * 4294967296 + y0) = q * y1 * 4294967296 + q * y0 := by rw [Nat.mul_add, Nat.mul_assoc]
  have h3 : q * y1 * 4294967296 < (A + 1) * 4294967296 := by omega
  have := Nat.lt_of_mul_lt_mul_right h3
  omega
theorem start_le {A y1 y0 : Nat} (hA : A < y1 * 4294967296 + y0) (hy0 : y0 < 4294967296) (hy1 : 2147483648 ≤ y1) : A / y1 ≤ 8589934592 := by
  refine Nat.le_of_lt_succ ((Nat.div_lt_iff_lt_mul (by omega)).2 ?_)
  omega
theorem pred_inv {A q y1 r : Nat} (h : 0 < q) (inv : q * y1 + r = A) : (q - 1) * y1 + (r + y1) = A := by
  have : q * y1 = (q - 1) * y1 + y1 := by rw [← Nat.succ_mul]; congr; omega
  omega
theorem start_inv (A y1 : Nat) : A / y1 * y1 + A % y1 = A := Nat.div_add_mod' A y1

theorem bitLenAux_spec : ∀ (f x : Nat), x < 2 ^ f → x < 2 ^ Lib.bitLenAux f x ∧ (x ≠ 0 → 2 ^ (Lib.bitLenAux f x - 1) ≤ x) ∧ Lib.bitLenAux f x ≤ f ∧ (x ≠ 0 → 1 ≤ Lib.bitLenAux f x)
  | 0, x, h => by
    have : x = 0 := by simpa using h
    subst this
    exact ⟨by simp [Lib.bitLenAux], fun h => absurd rfl h, by simp [Lib.bitLenAux], fun h => absurd rfl h⟩
  | f + 1, x, h => by
    unfold Lib.bitLenAux
    by_cases h0 : x = 0
    · subst h0; simp
    · rw [if_neg h0]
      have ⟨a, b, c, d⟩ := bitLenAux_spec f (x / 2) (by rw [Nat.pow_succ] at h; omega)
      refine ⟨?_, fun _ => ?_, by omega, fun _ => by omega⟩
      · rw [Nat.add_comm, Nat.pow_succ]; omega
      · rw [Nat.add_sub_cancel_left]
        by_cases h1 : x / 2 = 0
        · have e : Lib.bitLenAux f (x / 2) = 0 := by rw [h1]; cases f <;> simp [Lib.bitLenAux]
          rw [e]; simp; omega
        · have b' := b h1
          have d' := d h1
          have e : 2 ^ Lib.bitLenAux f (x / 2) = 2 ^ (Lib.bitLenAux f (x / 2) - 1) * 2 := by rw [← Nat.pow_succ]; congr; omega
          rw [e]; omega

/-- the divisor is moved up until its highest bit is set -/
theorem norm {y bl : Nat} (h1 : y < 2 ^ bl) (h2 : 2 ^ (bl - 1) ≤ y) (hbl : 1 ≤ bl) (hbl' : bl ≤ 64) : 9223372036854775808 ≤ y * 2 ^ (64 - bl) ∧ y * 2 ^ (64 - bl) < 18446744073709551616 := by
  have e1 : 2 ^ (bl - 1) * 2 ^ (64 - bl) = 9223372036854775808 := by rw [← Nat.pow_add, (by omega : bl - 1 + (64 - bl) = 63)]
  have e2 : 2 ^ bl * 2 ^ (64 - bl) = 18446744073709551616 := by rw [← Nat.pow_add, (by omega : bl + (64 - bl) = 64)]
  constructor
  · rw [← e1]; exact Nat.mul_le_mul_right _ h2
  · rw [← e2]; exact Nat.mul_lt_mul_of_pos_right h1 (Nat.two_pow_pos _)

/-- the dividend is moved up with it: its upper word, and its lower one -/
theorem up {hi lo y s Y A L : Nat} (hs : s ≤ 63) (hlt : hi < y) (hlo : lo < 18446744073709551616) (hY : Y = y * 2 ^ s) (hA : A = hi * 2 ^ s + lo / 2 ^ (64 - s)) (hL : L = lo * 2 ^ s % 18446744073709551616) :
    (hi * 18446744073709551616 + lo) * 2 ^ s = A * 18446744073709551616 + L ∧ A < Y := by
  have e : 2 ^ (64 - s) * 2 ^ s = 18446744073709551616 := by rw [← Nat.pow_add, (by omega : 64 - s + s = 64)]
  have e1 : lo / 2 ^ (64 - s) = lo * 2 ^ s / 18446744073709551616 := by rw [← e, Nat.mul_div_mul_right _ _ (Nat.two_pow_pos s)]
  have h1 : (hi * 18446744073709551616 + lo) * 2 ^ s = hi * 2 ^ s * 18446744073709551616 + lo * 2 ^ s := by rw [Nat.add_mul, Nat.mul_right_comm]
  have h2 : (hi + 1) * 2 ^ s ≤ y * 2 ^ s := Nat.mul_le_mul_right _ hlt
  have h3 : (hi + 1) * 2 ^ s = hi * 2 ^ s + 2 ^ s := by rw [Nat.add_mul, Nat.one_mul]
  have h4 : lo * 2 ^ s < 18446744073709551616 * 2 ^ s := Nat.mul_lt_mul_of_pos_right hlo (Nat.two_pow_pos s)
  generalize 2 ^ s = p at *
  generalize hi * p = a at *
  generalize lo * p = b at *
  subst hA hL hY
  rw [h1, e1]
  constructor
  · omega
  · have : b / 18446744073709551616 < p := by rw [Nat.div_lt_iff_lt_mul (by omega)]; omega
    omega

theorem end_quo {hi lo y s Y A u1 u0 : Nat} (hy : 0 < y) (hY : Y = y * 2 ^ s) (hU : (hi * 18446744073709551616 + lo) * 2 ^ s = (A * 4294967296 + u1) * 4294967296 + u0) :
    (A * 4294967296 + u1) / Y * 4294967296 + ((A * 4294967296 + u1) % Y * 4294967296 + u0) / Y = (hi * 18446744073709551616 + lo) / y ∧
    ((A * 4294967296 + u1) % Y * 4294967296 + u0) % Y / 2 ^ s = (hi * 18446744073709551616 + lo) % y := by
  have hp : 0 < 2 ^ s := Nat.two_pow_pos s
  have hY0 : 0 < Y := by rw [hY]; exact Nat.mul_pos hy hp
  have ⟨a, b⟩ := two_digits (A := A) (a := u1) (b := u0) (B := 4294967296) hY0
  rw [a, b, ← hU, hY, Nat.mul_div_mul_right _ _ hp, Nat.mul_mod_mul_right, Nat.mul_div_cancel _ hp]
  exact ⟨rfl, rfl⟩

theorem digit_rest {A c y1 y0 Y : Nat} (hY : Y = y1 * 4294967296 + y0) (hA : A < Y) : A * 4294967296 + c = dq A c y1 y0 * Y + (A * 4294967296 + c) % Y ∧ (A * 4294967296 + c) % Y < Y := by
  have h := Nat.div_add_mod (A * 4294967296 + c) Y
  rw [Nat.mul_comm] at h
  refine ⟨?_, Nat.mod_lt _ (by omega)⟩
  unfold dq
  rw [← hY]
  omega

theorem wrap_rest {A c P R : Nat} (h : A * 4294967296 + c = P + R) (hR : R < 18446744073709551616) :
    IntKind.u64.wrap (IntKind.u64.wrap (IntKind.u64.wrap ((A : Int) * 4294967296) + c) - IntKind.u64.wrap P) = R := by
  simp only [IntKind.wrap_u64]
  omega

end Num
end Go.Proofs.YtafaadnjkkkafaaDoor
namespace Go.Proofs.YtafaadnjkkkafaaDoor.Num

/-- one more bit of the dividend -/
theorem bit_step {n d i r Q : Nat} (hd : 0 < d) (hr : r = n / 2 ^ (i + 1) % d) (hQ : Q = n / 2 ^ (i + 1) / d) :
    (d ≤ 2 * r + n / 2 ^ i % 2 → n / 2 ^ i % d = 2 * r + n / 2 ^ i % 2 - d ∧ n / 2 ^ i / d = 2 * Q + 1) ∧
    (2 * r + n / 2 ^ i % 2 < d → n / 2 ^ i % d = 2 * r + n / 2 ^ i % 2 ∧ n / 2 ^ i / d = 2 * Q) := by
  have e : n / 2 ^ (i + 1) = n / 2 ^ i / 2 := by rw [Nat.pow_succ, Nat.div_div_eq_div_mul]
  have hlt : r < d := by rw [hr]; exact Nat.mod_lt _ hd
  rw [e] at hr hQ
  have hm := Nat.div_add_mod (n / 2 ^ i / 2) d
  rw [← hr, ← hQ] at hm
  generalize n / 2 ^ i = m at *
  have hm2 : m = 2 * (m / 2) + m % 2 := by omega
  have hm3 : m = d * (2 * Q) + (2 * r + m % 2) := by
    have : d * (2 * Q) = 2 * (d * Q) := by rw [Nat.mul_left_comm]
    omega
  generalize m % 2 = b at *
  constructor
  · intro h
    have e1 : m = d * (2 * Q + 1) + (2 * r + b - d) := by
      have : d * (2 * Q + 1) = d * (2 * Q) + d := by rw [Nat.mul_add, Nat.mul_one]
      omega
    have hx : 2 * r + b - d < d := by omega
    constructor
    · rw [e1, Nat.mul_add_mod, Nat.mod_eq_of_lt hx]
    · rw [e1, Nat.mul_add_div hd, Nat.div_eq_of_lt hx, Nat.add_zero]
  · intro h
    constructor
    · rw [hm3, Nat.mul_add_mod, Nat.mod_eq_of_lt h]
    · rw [hm3, Nat.mul_add_div hd, Nat.div_eq_of_lt h, Nat.add_zero]

/-- a bit of the upper and of the lower word -/
theorem bit_hi {hi lo i : Nat} (hlo : lo < 18446744073709551616) (h : 64 ≤ i) : (hi * 18446744073709551616 + lo) / 2 ^ i = hi / 2 ^ (i - 64) := by
  have e : (2 : Nat) ^ i = 18446744073709551616 * 2 ^ (i - 64) := by
    rw [(by rfl : (18446744073709551616 : Nat) = 2 ^ 64), ← Nat.pow_add, (by omega : 64 + (i - 64) = i)]
  rw [e, ← Nat.div_div_eq_div_mul, (by omega : (hi * 18446744073709551616 + lo) / 18446744073709551616 = hi)]
theorem bit_lo {hi lo i : Nat} (h : i < 64) : (hi * 18446744073709551616 + lo) / 2 ^ i % 2 = lo / 2 ^ i % 2 := by
  have e : (18446744073709551616 : Nat) = 2 ^ i * (2 * 2 ^ (63 - i)) := by
    rw [← Nat.pow_succ', ← Nat.pow_add, (by omega : i + (63 - i + 1) = 64)]
  rw [e, Nat.mul_left_comm hi, Nat.mul_left_comm hi 2, Nat.mul_add_div (Nat.two_pow_pos i), Nat.mul_add_mod]

/-- the quotient's next bit, put into the upper word -/
theorem put_hi {Q qh ql i : Nat} (h : 64 ≤ i) (hql : ql < 18446744073709551616) (e : qh * 18446744073709551616 + ql = Q * 2 ^ (i + 1)) :
    qh % 2 ^ (i - 63) = 0 ∧ (qh + 2 ^ (i - 64)) * 18446744073709551616 + ql = (2 * Q + 1) * 2 ^ i := by
  have e1 : (2 : Nat) ^ (i + 1) = 18446744073709551616 * 2 ^ (i - 63) := by
    rw [(by rfl : (18446744073709551616 : Nat) = 2 ^ 64), ← Nat.pow_add, (by omega : 64 + (i - 63) = i + 1)]
  have e2 : (2 : Nat) ^ i = 18446744073709551616 * 2 ^ (i - 64) := by
    rw [(by rfl : (18446744073709551616 : Nat) = 2 ^ 64), ← Nat.pow_add, (by omega : 64 + (i - 64) = i)]
  have e3 : Q * 2 ^ (i + 1) = Q * 2 ^ (i - 63) * 18446744073709551616 := by rw [e1, ← Nat.mul_assoc, Nat.mul_right_comm]
  have e4 : (2 * Q + 1) * 2 ^ i = Q * 2 ^ (i + 1) + 2 ^ i := by rw [Nat.pow_succ, Nat.add_mul, Nat.one_mul, Nat.mul_comm 2 Q, Nat.mul_assoc, Nat.mul_comm 2]
  rw [e3] at e
  have : qh = Q * 2 ^ (i - 63) := by
    generalize Q * 2 ^ (i - 63) = p at e
    omega
  constructor
  · rw [this]; exact Nat.mul_mod_left _ _
  · rw [e4, e3, e2, ← e, Nat.add_mul, Nat.mul_comm 18446744073709551616]
    exact Nat.add_right_comm _ _ _
/-- .. and into the lower one -/
theorem put_lo {Q qh ql i : Nat} (h : i < 64) (hql : ql < 18446744073709551616) (e : qh * 18446744073709551616 + ql = Q * 2 ^ (i + 1)) :
    ql % 2 ^ (i + 1) = 0 ∧ ql + 2 ^ i < 18446744073709551616 ∧ qh * 18446744073709551616 + (ql + 2 ^ i) = (2 * Q + 1) * 2 ^ i := by
  have e1 : (18446744073709551616 : Nat) = 2 ^ (i + 1) * 2 ^ (63 - i) := by
    rw [← Nat.pow_add, (by omega : i + 1 + (63 - i) = 64)]
  have e4 : (2 * Q + 1) * 2 ^ i = Q * 2 ^ (i + 1) + 2 ^ i := by rw [Nat.pow_succ, Nat.add_mul, Nat.one_mul, Nat.mul_comm 2 Q, Nat.mul_assoc, Nat.mul_comm 2]
  have hm : ql % 2 ^ (i + 1) = 0 := by
    have : (qh * 18446744073709551616 + ql) % 2 ^ (i + 1) = 0 := by rw [e]; exact Nat.mul_mod_left _ _
    rwa [e1, ← Nat.mul_assoc, Nat.mul_right_comm, Nat.mul_comm, Nat.mul_add_mod] at this
  refine ⟨hm, ?_, by rw [e4]; omega⟩
  have hd := Nat.div_add_mod ql (2 ^ (i + 1))
  rw [hm, Nat.add_zero] at hd
  have hlt : ql / 2 ^ (i + 1) < 2 ^ (63 - i) := by
    rw [Nat.div_lt_iff_lt_mul (Nat.two_pow_pos _), Nat.mul_comm, ← e1]; exact hql
  have hle : 2 ^ (i + 1) * (ql / 2 ^ (i + 1) + 1) ≤ 2 ^ (i + 1) * 2 ^ (63 - i) := Nat.mul_le_mul_left _ hlt
  rw [← e1, Nat.mul_add, Nat.mul_one, hd, Nat.pow_succ] at hle
  have := Nat.two_pow_pos i
  omega
theorem zero_bit {Q i : Nat} : 2 * Q * 2 ^ i = Q * 2 ^ (i + 1) := by rw [Nat.pow_succ, Nat.mul_comm 2 Q, Nat.mul_assoc, Nat.mul_comm 2]
theorem quo_le (n d i : Nat) : n / 2 ^ i / d * 2 ^ i ≤ n :=
  Nat.le_trans (Nat.mul_le_mul_right _ (Nat.div_le_self _ _)) (Nat.div_mul_le_self _ _)
end Go.Proofs.YtafaadnjkkkafaaDoor.Num
