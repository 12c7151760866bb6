import Derived.WalkKit
import Derived.Lib.BitFns
import Derived.Lib.Hide
import Derived.Test.YtpjhdjakpbabhaaGreatDoorRows
import Derived.BigQuiet
import Derived.Deep.QuietTactic
import Derived.Deep.DeepFit
import Derived.Test.YtpjhdjakpbabhaaGreatDoorShelf
import Derived.Deep.DeepCutAuto
import Derived.Deep.CutBlock
import Derived.Laws.Externs
import Derived.Deep.RegionWith
import Derived.ProofKit
import Derived.OpenShut
namespace Go.Proofs.YtpjhdjakpbabhaaGreatDoor
namespace Num
theorem dstep_gt {A c B y1 y0 q r : Nat} (hA : A < y1 * B + y0) (hc : c < B) (inv : q * y1 + r = A) (t : B ≤ q ∨ B * r + c < q * y0) :
    (A * B + c) / (y1 * B + y0) < q := by
  have hpos : 0 < y1 * B + y0 := by omega
  rw [Nat.div_lt_iff_lt_mul hpos]
  rcases t with t | t
  · have h1 : B * (y1 * B + y0) ≤ q * (y1 * B + y0) := Nat.mul_le_mul_right _ t
    have h2 : B * (A + 1) ≤ B * (y1 * B + y0) := Nat.mul_le_mul_left _ hA
    have h3 : B * (A + 1) = A * B + B := by rw [Nat.mul_add, Nat.mul_one, Nat.mul_comm]
    omega
  · have h1 : q * (y1 * B + y0) = q * y1 * B + q * y0 := by rw [Nat.mul_add, Nat.mul_assoc]
    have h2 : A * B = q * y1 * B + B * r := by rw [← inv, Nat.add_mul, Nat.mul_comm r B]
    omega
theorem dstep_le {A c B y1 y0 q r : Nat} (hA : A < y1 * B + y0) (inv : q * y1 + r = A) (t : q * y0 ≤ B * r + c) :
    q ≤ (A * B + c) / (y1 * B + y0) := by
  have hpos : 0 < y1 * B + y0 := by omega
  rw [Nat.le_div_iff_mul_le hpos]
  have h1 : q * (y1 * B + y0) = q * y1 * B + q * y0 := by rw [Nat.mul_add, Nat.mul_assoc]
  have h2 : A * B = q * y1 * B + B * r := by rw [← inv, Nat.add_mul, Nat.mul_comm r B]
  omega
theorem dstep_brk {A c B y1 y0 q r : Nat} (hA : A < y1 * B + y0) (hy0 : y0 < B) (inv : q * y1 + r = A) (hr : B ≤ r) :
    q ≤ (A * B + c) / (y1 * B + y0) := by
  refine dstep_le hA inv ?_
  have hq : q ≤ B := by
    by_cases h : q ≤ B
    · exact h
    · exfalso
      have h1 : (B + 1) * y1 ≤ q * y1 := Nat.mul_le_mul_right _ (by omega)
      have h2 : (B + 1) * y1 = y1 * B + y1 := by rw [Nat.add_mul, Nat.one_mul, Nat.mul_comm]
      omega
  have h1 : q * y0 ≤ B * B := Nat.mul_le_mul hq (by omega)
  have h2 : B * B ≤ B * r := Nat.mul_le_mul_left _ hr
  omega
theorem digit_lt {A c B y : Nat} (hA : A < y) (hc : c < B) : (A * B + c) / y < B := by
  rw [Nat.div_lt_iff_lt_mul (by omega)]
  have h2 : B * (A + 1) ≤ B * y := Nat.mul_le_mul_left _ hA
  have h3 : B * (A + 1) = A * B + B := by rw [Nat.mul_add, Nat.mul_one, Nat.mul_comm]
  omega
theorem two_digits {A a b B y : Nat} (hy : 0 < y) :
    (A * B + a) / y * B + ((A * B + a) % y * B + b) / y = ((A * B + a) * B + b) / y ∧ ((A * B + a) % y * B + b) % y = ((A * B + a) * B + b) % y := by
  have e : (A * B + a) * B + b = y * ((A * B + a) / y * B) + ((A * B + a) % y * B + b) := by
    have h := Nat.div_add_mod (A * B + a) y
    have h1 : y * ((A * B + a) / y * B) = y * ((A * B + a) / y) * B := (Nat.mul_assoc _ _ _).symm
    have h2 : (A * B + a) * B = y * ((A * B + a) / y) * B + (A * B + a) % y * B := by rw [← Nat.add_mul, h]
    omega
  rw [e]
  exact ⟨by rw [Nat.mul_add_div hy], by rw [Nat.mul_add_mod]⟩
def dq (A c y1 y0 : Nat) : Nat := (A * 4294967296 + c) / (y1 * 4294967296 + y0)
theorem dq_gt {A c y1 y0 q r : Nat} (hA : A < y1 * 4294967296 + y0) (hc : c < 4294967296) (inv : q * y1 + r = A) (t : 4294967296 ≤ q ∨ 4294967296 * r + c < q * y0) : dq A c y1 y0 ≤ q - 1 := by
  have := dstep_gt hA hc inv t
  unfold dq
  omega
theorem dq_le {A c y1 y0 q r : Nat} (hA : A < y1 * 4294967296 + y0) (inv : q * y1 + r = A) (t : q * y0 ≤ 4294967296 * r + c) (h : dq A c y1 y0 ≤ q) : q = dq A c y1 y0 := by
  have := dstep_le hA inv t
  unfold dq at *
  omega
theorem dq_brk {A c y1 y0 q r : Nat} (hA : A < y1 * 4294967296 + y0) (hy0 : y0 < 4294967296) (inv : q * y1 + r = A) (t : 4294967296 ≤ r) (h : dq A c y1 y0 ≤ q) : q = dq A c y1 y0 := by
  have := dstep_brk (c := c) hA hy0 inv t
  unfold dq at *
  omega
theorem dq_lt {A c y1 y0 : Nat} (hA : A < y1 * 4294967296 + y0) (hc : c < 4294967296) : dq A c y1 y0 < 4294967296 := digit_lt hA hc
theorem dq_start {A c y1 y0 : Nat} (hc : c < 4294967296) (hy : 0 < y1) : dq A c y1 y0 ≤ A / y1 := by
  unfold dq
  rw [Nat.le_div_iff_mul_le hy]
  have h1 := Nat.div_mul_le_self (A * 4294967296 + c) (y1 * 4294967296 + y0)
  generalize (A * 4294967296 + c) / (y1 * 4294967296 + y0) = q at h1 ⊢
  have h2 : q * (y1 * 4294967296 + y0) = q * y1 * 4294967296 + q * y0 := by rw [Nat.mul_add, Nat.mul_assoc]
  have h3 : q * y1 * 4294967296 < (A + 1) * 4294967296 := by omega
  have := Nat.lt_of_mul_lt_mul_right h3
  omega
theorem start_le {A y1 y0 : Nat} (hA : A < y1 * 4294967296 + y0) (hy0 : y0 < 4294967296) (hy1 : 2147483648 ≤ y1) : A / y1 ≤ 8589934592 := by
  refine Nat.le_of_lt_succ ((Nat.div_lt_iff_lt_mul (by omega)).2 ?_)
  omega
theorem pred_inv {A q y1 r : Nat} (h : 0 < q) (inv : q * y1 + r = A) : (q - 1) * y1 + (r + y1) = A := by
  have : q * y1 = (q - 1) * y1 + y1 := by rw [← Nat.succ_mul]; congr; omega
  omega
theorem start_inv (A y1 : Nat) : A / y1 * y1 + A % y1 = A := Nat.div_add_mod' A y1
theorem bitLenAux_spec : ∀ (f x : Nat), x < 2 ^ f → x < 2 ^ Lib.bitLenAux f x ∧ (x ≠ 0 → 2 ^ (Lib.bitLenAux f x - 1) ≤ x) ∧ Lib.bitLenAux f x ≤ f ∧ (x ≠ 0 → 1 ≤ Lib.bitLenAux f x)
  | 0, x, h => by
    have : x = 0 := by simpa using h
    subst this
    exact ⟨by simp [Lib.bitLenAux], fun h => absurd rfl h, by simp [Lib.bitLenAux], fun h => absurd rfl h⟩
  | f + 1, x, h => by
    unfold Lib.bitLenAux
    by_cases h0 : x = 0
    · subst h0; simp
    · rw [if_neg h0]
      have ⟨a, b, c, d⟩ := bitLenAux_spec f (x / 2) (by rw [Nat.pow_succ] at h; omega)
      refine ⟨?_, fun _ => ?_, by omega, fun _ => by omega⟩
      · rw [Nat.add_comm, Nat.pow_succ]; omega
      · rw [Nat.add_sub_cancel_left]
        by_cases h1 : x / 2 = 0
        · have e : Lib.bitLenAux f (x / 2) = 0 := by rw [h1]; cases f <;> simp [Lib.bitLenAux]
          rw [e]; simp; omega
        · have b' := b h1
          have d' := d h1
          have e : 2 ^ Lib.bitLenAux f (x / 2) = 2 ^ (Lib.bitLenAux f (x / 2) - 1) * 2 := by rw [← Nat.pow_succ]; congr; omega
          rw [e]; omega
theorem norm {y bl : Nat} (h1 : y < 2 ^ bl) (h2 : 2 ^ (bl - 1) ≤ y) (hbl : 1 ≤ bl) (hbl' : bl ≤ 64) : 9223372036854775808 ≤ y * 2 ^ (64 - bl) ∧ y * 2 ^ (64 - bl) < 18446744073709551616 := by
  have e1 : 2 ^ (bl - 1) * 2 ^ (64 - bl) = 9223372036854775808 := by rw [← Nat.pow_add, (by omega : bl - 1 + (64 - bl) = 63)]
  have e2 : 2 ^ bl * 2 ^ (64 - bl) = 18446744073709551616 := by rw [← Nat.pow_add, (by omega : bl + (64 - bl) = 64)]
  constructor
  · rw [← e1]; exact Nat.mul_le_mul_right _ h2
  · rw [← e2]; exact Nat.mul_lt_mul_of_pos_right h1 (Nat.two_pow_pos _)
theorem up {hi lo y s Y A L : Nat} (hs : s ≤ 63) (hlt : hi < y) (hlo : lo < 18446744073709551616) (hY : Y = y * 2 ^ s) (hA : A = hi * 2 ^ s + lo / 2 ^ (64 - s)) (hL : L = lo * 2 ^ s % 18446744073709551616) :
    (hi * 18446744073709551616 + lo) * 2 ^ s = A * 18446744073709551616 + L ∧ A < Y := by
  have e : 2 ^ (64 - s) * 2 ^ s = 18446744073709551616 := by rw [← Nat.pow_add, (by omega : 64 - s + s = 64)]
  have e1 : lo / 2 ^ (64 - s) = lo * 2 ^ s / 18446744073709551616 := by rw [← e, Nat.mul_div_mul_right _ _ (Nat.two_pow_pos s)]
  have h1 : (hi * 18446744073709551616 + lo) * 2 ^ s = hi * 2 ^ s * 18446744073709551616 + lo * 2 ^ s := by rw [Nat.add_mul, Nat.mul_right_comm]
  have h2 : (hi + 1) * 2 ^ s ≤ y * 2 ^ s := Nat.mul_le_mul_right _ hlt
  have h3 : (hi + 1) * 2 ^ s = hi * 2 ^ s + 2 ^ s := by rw [Nat.add_mul, Nat.one_mul]
  have h4 : lo * 2 ^ s < 18446744073709551616 * 2 ^ s := Nat.mul_lt_mul_of_pos_right hlo (Nat.two_pow_pos s)
  generalize 2 ^ s = p at *
  generalize hi * p = a at *
  generalize lo * p = b at *
  subst hA hL hY
  rw [h1, e1]
  constructor
  · omega
  · have : b / 18446744073709551616 < p := by rw [Nat.div_lt_iff_lt_mul (by omega)]; omega
    omega
theorem end_quo {hi lo y s Y A u1 u0 : Nat} (hy : 0 < y) (hY : Y = y * 2 ^ s) (hU : (hi * 18446744073709551616 + lo) * 2 ^ s = (A * 4294967296 + u1) * 4294967296 + u0) :
    (A * 4294967296 + u1) / Y * 4294967296 + ((A * 4294967296 + u1) % Y * 4294967296 + u0) / Y = (hi * 18446744073709551616 + lo) / y ∧
    ((A * 4294967296 + u1) % Y * 4294967296 + u0) % Y / 2 ^ s = (hi * 18446744073709551616 + lo) % y := by
  have hp : 0 < 2 ^ s := Nat.two_pow_pos s
  have hY0 : 0 < Y := by rw [hY]; exact Nat.mul_pos hy hp
  have ⟨a, b⟩ := two_digits (A := A) (a := u1) (b := u0) (B := 4294967296) hY0
  rw [a, b, ← hU, hY, Nat.mul_div_mul_right _ _ hp, Nat.mul_mod_mul_right, Nat.mul_div_cancel _ hp]
  exact ⟨rfl, rfl⟩
theorem digit_rest {A c y1 y0 Y : Nat} (hY : Y = y1 * 4294967296 + y0) (hA : A < Y) : A * 4294967296 + c = dq A c y1 y0 * Y + (A * 4294967296 + c) % Y ∧ (A * 4294967296 + c) % Y < Y := by
  have h := Nat.div_add_mod (A * 4294967296 + c) Y
  rw [Nat.mul_comm] at h
  refine ⟨?_, Nat.mod_lt _ (by omega)⟩
  unfold dq
  rw [← hY]
  omega
theorem wrap_rest {A c P R : Nat} (h : A * 4294967296 + c = P + R) (hR : R < 18446744073709551616) :
    IntKind.u64.wrap (IntKind.u64.wrap (IntKind.u64.wrap ((A : Int) * 4294967296) + c) - IntKind.u64.wrap P) = R := by
  simp only [IntKind.wrap_u64]
  omega
end Num
end Go.Proofs.YtpjhdjakpbabhaaGreatDoor
namespace Go.Proofs.YtpjhdjakpbabhaaGreatDoor.Num
end Go.Proofs.YtpjhdjakpbabhaaGreatDoor.Num
namespace Go.Proofs.YtpjhdjakpbabhaaGreatDoor
open Go.RowKit
theorem u64_div (n d : Nat) (hn : n < 18446744073709551616) : IntKind.u64.wrap ((n : Int) / d) = (n : Int) / d :=
  IntWalk.u64_in _ ⟨Int.ediv_nonneg (by omega) (by omega), Int.le_trans (Int.ediv_le_self _ (by omega)) (by omega)⟩
theorem nearest_up (q r d : Nat) (hr : r < d) (hd : d < 18446744073709551616) (h : d - r ≤ r) (hz : q + 1 < 18446744073709551616) (w : World) :
    Calls Tryz.prog 113 #[.int .u64 q, .int .u64 r, .int .u64 d] w fun e w' => e = .returned (.int .u64 ((q + 1 : Nat) : Int)) ∧ w' = w := by
  have h1 : (d : Int) - r ≤ r := by omega
  go_enter Tryz.func113, Tryz.ntmps113
  go_wp2
  go_ret
  exact ⟨rfl, rfl⟩
theorem nearest_down (q r d : Nat) (hr : r < d) (hd : d < 18446744073709551616) (h : ¬ d - r ≤ r) (w : World) :
    Calls Tryz.prog 113 #[.int .u64 q, .int .u64 r, .int .u64 d] w fun e w' => e = .returned (.int .u64 (q : Int)) ∧ w' = w := by
  have h1 : ¬ (d : Int) - r ≤ r := by omega
  go_enter Tryz.func113, Tryz.ntmps113
  go_wp2
  go_ret
  exact ⟨rfl, rfl⟩
def half (n d : Nat) : Nat := if d = 0 then 0 else if d - n % d ≤ n % d then n / d + 1 else n / d
theorem half_lt (n d : Nat) (hd : 2 ≤ d) (hn : n < 18446744073709551616): n / d + 1 < 18446744073709551616 := by
  have : n / d ≤ n / 2 := Nat.div_le_div_left hd (by omega)
  omega
theorem half_any (n d : Nat) (hn : n < 18446744073709551616) (hd : d < 18446744073709551616) (w : World) :
    Calls Tryz.prog 93 #[.int .u64 n, .int .u64 d] w fun e w' => e = .returned (.int .u64 (half n d)) ∧ ∃ m, w' = w.drewN m := by
  by_cases h0 : d = 0
  · subst h0
    go_enter Tryz.func93, Tryz.ntmps93
    go_wp2
    go_ret
    exact ⟨rfl, 0, rfl⟩
  · have hp : 0 < d := by omega
    have hp1 : 1 ≤ (d : Int) := by omega
    have hp2 : ((d : Int) == 0) = false := by simpa using h0
    have hw := u64_div n d hn
    by_cases h : d - n % d ≤ n % d
    · have hr := Nat.mod_lt n hp
      have e : half n d = n / d + 1 := by unfold half; rw [if_neg h0, if_pos h]
      have hz : n / d + 1 < 18446744073709551616 := by
        by_cases hd1 : d = 1
        · subst hd1; omega
        · exact half_lt n d (by omega) hn
      rw [e]
      have c := nearest_up (n / d) (n % d) d hr hd h hz
      rw [Int.natCast_ediv, Int.natCast_emod] at c
      clear h e hr hz
      go_enter Tryz.func93, Tryz.ntmps93
      go_wp2
      go_quiet ((go_at_call 113; exact Calls.quiet_of_same (c _)))
      go_wp2
      go_ret
      exact ⟨rfl, _, rfl⟩
    · have hr := Nat.mod_lt n hp
      have e : half n d = n / d := by unfold half; rw [if_neg h0, if_neg h]
      rw [e]
      have c := nearest_down (n / d) (n % d) d hr hd h
      rw [Int.natCast_ediv, Int.natCast_emod] at c
      clear h e hr
      go_enter Tryz.func93, Tryz.ntmps93
      go_wp2
      go_quiet ((go_at_call 113; exact Calls.quiet_of_same (c _)))
      go_wp2
      go_ret
      exact ⟨rfl, _, rfl⟩
end Go.Proofs.YtpjhdjakpbabhaaGreatDoor
namespace Go.Proofs.YtpjhdjakpbabhaaGreatDoor
open Go.RowKit
set_option linter.unusedVariables false
theorem ret2 {k k' : IntKind} {a b a' b' : Int} (h : a = a') (h' : b = b') : Ending.returned (.tuple #[.int k a, .int k' b]) = .returned (.tuple #[.int k a', .int k' b']) := by rw [h, h']
theorem div64_small (lo y : Nat) (hlo : lo < 18446744073709551616) (hy : y < 18446744073709551616) (h : 0 < y) (w : World) :
    Calls Tryz.prog 147 #[.int .u64 0, .int .u64 lo, .int .u64 y] w fun e w' => e = .returned (.tuple #[.int .u64 ((lo / y : Nat) : Int), .int .u64 ((lo % y : Nat) : Int)]) ∧ ∃ m, w' = w.drewN m := by
  have h1 : ((y : Int) == 0) = false := by simpa using (by omega : y ≠ 0)
  have h2 : ¬ ((y : Int) ≤ 0) := by omega
  have hw := u64_div lo y hlo
  go_enter Tryz.func147, Tryz.ntmps147
  go_wp2
  go_quiet (fail)
  go_wp2
  go_ret2
  exact ⟨rfl, _, rfl⟩
theorem shl_mod (x s : Nat) : IntKind.u64.wrap ((x : Int) * 2 ^ s) = ((x * 2 ^ s % 18446744073709551616 : Nat) : Int) := by
  rw [IntKind.wrap_u64]
  simp
theorem and32 (L : Nat) (h : L < 18446744073709551616) : bits .and .u64 (L : Int) 4294967295 = ((L % 4294967296 : Nat) : Int) := Mul64.maskN L h
theorem shr32 (L : Nat) : (L : Int) / 4294967296 = ((L / 4294967296 : Nat) : Int) := by omega
theorem or_add (a b s : Nat) (ha : a < 18446744073709551616) (hb : b < 2 ^ s) (hd : a % 2 ^ s = 0) (h : a + b < 18446744073709551616) :
    bits .or .u64 (a : Int) (b : Int) = ((a + b : Nat) : Int) := by
  have hb' : b < 18446744073709551616 := by omega
  rw [bits_or_u64_nat a b ha hb']
  congr 1
  obtain ⟨q, rfl⟩ : ∃ q, a = 2 ^ s * q := ⟨a / 2 ^ s, by have := Nat.div_add_mod a (2 ^ s); omega⟩
  rw [Nat.two_pow_add_eq_or_of_lt hb]
set_option maxRecDepth 100000 in
theorem div64_big (hi lo y s Y A L y1 y0 u1 u0 q1 R1 q0 R0 : Nat) (hhi : 0 < hi) (hlt : hi < y) (hlo : lo < 18446744073709551616) (hy : y < 18446744073709551616) (hs : s ≤ 63)
    (hY : Hid (Y = y * 2 ^ s)) (hYA : Hid (A = hi * 2 ^ s + lo / 2 ^ (64 - s))) (hL : Hid (L = lo * 2 ^ s % 18446744073709551616)) (hYl : Y < 18446744073709551616)
    (ey1 : Hid (y1 = Y / 4294967296)) (ey0 : Hid (y0 = Y % 4294967296)) (eu1 : Hid (u1 = L / 4294967296)) (eu0 : Hid (u0 = L % 4294967296))
    (hA : A < y1 * 4294967296 + y0) (hy0 : y0 < 4294967296) (hy1 : 2147483648 ≤ y1) (hy1' : y1 < 4294967296) (hu1 : u1 < 4294967296) (hu0 : u0 < 4294967296)
    (eq1 : Hid (q1 = Num.dq A u1 y1 y0)) (eR1 : Hid (A * 4294967296 + u1 = q1 * Y + R1)) (hR1 : R1 < y1 * 4294967296 + y0) (hq1 : q1 < 4294967296)
    (eq0 : Hid (q0 = Num.dq R1 u0 y1 y0)) (eR0 : Hid (R1 * 4294967296 + u0 = q0 * Y + R0)) (hR0 : R0 < y1 * 4294967296 + y0) (hq0 : q0 < 4294967296)
    (w : World) (c : ∀ w : World, Calls Tryz.prog 148 #[.int .u64 y] w fun e w' => e = .returned (.int .i64 s) ∧ w = w') :
    Calls Tryz.prog 147 #[.int .u64 hi, .int .u64 lo, .int .u64 y] w fun e w' => e = .returned (.tuple #[.int .u64 ((q1 * 4294967296 + q0 : Nat) : Int), .int .u64 ((R0 / 2 ^ s : Nat) : Int)]) ∧ w = w' := by
  have h1 : ((y : Int) == 0) = false := by simpa using (by omega : y ≠ 0)
  have h2 : ¬ ((y : Int) ≤ hi) := by omega
  have h3 : ((hi : Int) == 0) = false := by simpa using (by omega : hi ≠ 0)
  go_enter Tryz.func147, Tryz.ntmps147
  go_upto_region 14 with (go_at_call 148; refine (c _).mono ?_; rintro e w' ⟨rfl, rfl⟩)
  go_cut [2, 8, 9, 10, 11, 13, 14] (fun yy ss z1 z0 uu v1 v0 wx => yy = .int .u64 Y ∧ ss = .int .u64 s ∧ z1 = .int .u64 y1 ∧ z0 = .int .u64 y0 ∧ uu = .int .u64 A ∧ v1 = .int .u64 u1 ∧ v0 = .int .u64 u0 ∧ w = wx)
  case first =>
    go_wp2
    go_meet
    have hY' := hY.out
    have hL' := hL.out
    have eY : IntKind.u64.wrap ((y : Int) * 2 ^ s) = (Y : Int) := by rw [shl_mod, ← hY', Nat.mod_eq_of_lt hYl]
    have eL : IntKind.u64.wrap ((lo : Int) * 2 ^ s) = (L : Int) := by rw [shl_mod, ← hL']
    have hLl : L < 18446744073709551616 := by rw [hL']; exact Nat.mod_lt _ (by decide)
    rw [eY, eL, and32 Y hYl, and32 L hLl, shr32, shr32, ← ey1.out, ← ey0.out, ← eu1.out, ← eu0.out]
    refine ⟨rfl, rfl, rfl, rfl, ?_, rfl, rfl, rfl⟩
    have hh : hi * 2 ^ s + lo / 2 ^ (64 - s) < 18446744073709551616 := by rw [← hYA.out]; omega
    have hh1 : lo / 2 ^ (64 - s) < 2 ^ s := by
      rw [Nat.div_lt_iff_lt_mul (Nat.two_pow_pos _), ← Nat.pow_add, (by omega : s + (64 - s) = 64)]
      exact hlo
    have e2 : (lo : Int) / 2 ^ (64 - s) = ((lo / 2 ^ (64 - s) : Nat) : Int) := by simp
    rw [shl_mod, Nat.mod_eq_of_lt (Nat.lt_of_le_of_lt (Nat.le_add_right _ _) hh), e2, or_add _ _ s (Nat.lt_of_le_of_lt (Nat.le_add_right _ _) hh) hh1 (Nat.mul_mod_left _ _) hh, ← hYA.out]
  case rest =>
    obtain ⟨rfl, rfl, rfl, rfl, rfl, rfl, rfl, rfl⟩ := hcut
    clear h1 h2 h3 c
    go_upto_block 0 with fail
    go_cut [15] (fun q wx => q = .int .u64 q1 ∧ w = wx)
    case first =>
      have hst := Num.start_le hA hy0 hy1
      have hst' := Num.dq_start (A := A) (y1 := y1) (y0 := y0) hu1 (by omega)
      go_wp2
      go_loop [15, 16] (fun q r => ∃ qh rh : Nat, q = .int .u64 qh ∧ r = .int .u64 rh ∧ Hid (qh * y1 + rh = A) ∧ rh < 4294967296 ∧ Num.dq A u1 y1 y0 ≤ qh ∧ qh ≤ 8589934592) (fun q _ => (intOf q).toNat)
      case atStart =>
        have e := u64_div A y1 (by omega)
        have e1 : (A : Int) / (y1 : Int) = ((A / y1 : Nat) : Int) := by simp
        have e3 := Num.start_inv A y1
        have e4 : A % y1 < y1 := Nat.mod_lt _ (by omega)
        have e5 : IntKind.u64.wrap ((A : Int) - IntKind.u64.wrap (((A / y1 : Nat) : Int) * y1)) = ((A % y1 : Nat) : Int) := by
          rw [← Int.natCast_mul, IntKind.wrap_u64, IntKind.wrap_u64]
          omega
        rw [e, e1, e5]
        exact ⟨A / y1, A % y1, rfl, rfl, Lib.hid e3, Nat.lt_trans e4 hy1', hst', hst⟩
      case round =>
        obtain ⟨qh, rh, rfl, rfl, inv, hr, hq, hq'⟩ := hrel
        clear hst hst'
        by_cases t1 : 4294967296 ≤ qh
        · have hq1 := Num.dq_gt hA hu1 inv.out (.inl t1)
          have I := Lib.hid (Num.pred_inv (by omega) inv.out)
          have t1' : (4294967296 : Int) ≤ (qh : Int) := by omega
          by_cases t3 : 4294967296 ≤ rh + y1
          · have t3' : (4294967296 : Int) ≤ (rh : Int) + (y1 : Int) := by omega
            have R := Lib.hid (Num.dq_brk hA hy0 I.out t3 hq1)
            go_wp2
            go_meet
            exact ⟨by rw [eq1.out, ← R.out]; go_num, rfl⟩
          · have t3' : ¬ (4294967296 : Int) ≤ (rh : Int) + (y1 : Int) := by omega
            go_wp2
            go_round
            case rel => exact ⟨qh - 1, rh + y1, by go_num, by go_num, I, by omega, hq1, by omega⟩
            case measure => simp [intOf]; omega
        · have t1' : ¬ (4294967296 : Int) ≤ (qh : Int) := by omega
          have p0 : (0 : Int) ≤ (qh : Int) * (y0 : Int) := Int.mul_nonneg (by omega) (by omega)
          have p1 : (qh : Int) * (y0 : Int) ≤ 18446744073709551615 := by
            have : qh * y0 ≤ 4294967295 * 4294967295 := Nat.mul_le_mul (by omega) (by omega)
            have e : ((qh * y0 : Nat) : Int) = (qh : Int) * (y0 : Int) := Int.natCast_mul _ _
            omega
          by_cases t2 : 4294967296 * rh + u1 < qh * y0
          · have hq1 := Num.dq_gt hA hu1 inv.out (.inr t2)
            have hpos : 0 < qh := by
              rcases Nat.eq_zero_or_pos qh with h | h
              · subst h; omega
              · exact h
            have I := Lib.hid (Num.pred_inv hpos inv.out)
            have t2' : (4294967296 : Int) * (rh : Int) + (u1 : Int) < (qh : Int) * (y0 : Int) := by
              have e : ((qh * y0 : Nat) : Int) = (qh : Int) * (y0 : Int) := Int.natCast_mul _ _
              omega
            clear t2
            by_cases t3 : 4294967296 ≤ rh + y1
            · have t3' : (4294967296 : Int) ≤ (rh : Int) + (y1 : Int) := by omega
              have R := Lib.hid (Num.dq_brk hA hy0 I.out t3 hq1)
              go_wp2
              go_meet
              exact ⟨by rw [eq1.out, ← R.out]; go_num, rfl⟩
            · have t3' : ¬ (4294967296 : Int) ≤ (rh : Int) + (y1 : Int) := by omega
              go_wp2
              go_round
              case rel => exact ⟨qh - 1, rh + y1, by go_num, by go_num, I, by omega, hq1, by omega⟩
              case measure => simp [intOf]; omega
          · have t2' : ¬ (4294967296 : Int) * (rh : Int) + (u1 : Int) < (qh : Int) * (y0 : Int) := by
              have e : ((qh * y0 : Nat) : Int) = (qh : Int) * (y0 : Int) := Int.natCast_mul _ _
              omega
            have R := Lib.hid (Num.dq_le hA inv.out (by omega) hq)
            clear t2
            go_wp2
            go_meet
            exact ⟨by rw [eq1.out, ← R.out], rfl⟩
    case rest =>
      obtain ⟨rfl, rfl⟩ := hcut
      go_upto_region 21 with fail
      go_cut [17] (fun t wx => t = .int .u64 R1 ∧ w = wx)
      case first =>
        go_wp2
        go_meet
        refine ⟨?_, rfl⟩
        have e := Num.wrap_rest eR1.out (by omega)
        rw [Int.natCast_mul] at e
        rw [e]
      case rest =>
        obtain ⟨rfl, rfl⟩ := hcut
        go_upto_block 2 with fail
        go_cut [18] (fun q wx => q = .int .u64 q0 ∧ w = wx)
        case first =>
          have hst := Num.start_le hR1 hy0 hy1
          have hst' := Num.dq_start (A := R1) (y1 := y1) (y0 := y0) hu0 (by omega)
          go_wp2
          go_loop [18, 16] (fun q r => ∃ qh rh : Nat, q = .int .u64 qh ∧ r = .int .u64 rh ∧ Hid (qh * y1 + rh = R1) ∧ rh < 4294967296 ∧ Num.dq R1 u0 y1 y0 ≤ qh ∧ qh ≤ 8589934592) (fun q _ => (intOf q).toNat)
          case atStart =>
            have e := u64_div R1 y1 (by omega)
            have e1 : (R1 : Int) / (y1 : Int) = ((R1 / y1 : Nat) : Int) := by simp
            have e3 := Num.start_inv R1 y1
            have e4 : R1 % y1 < y1 := Nat.mod_lt _ (by omega)
            have e5 : IntKind.u64.wrap ((R1 : Int) - IntKind.u64.wrap (((R1 / y1 : Nat) : Int) * y1)) = ((R1 % y1 : Nat) : Int) := by
              rw [← Int.natCast_mul, IntKind.wrap_u64, IntKind.wrap_u64]
              omega
            rw [e, e1, e5]
            exact ⟨R1 / y1, R1 % y1, rfl, rfl, Lib.hid e3, Nat.lt_trans e4 hy1', hst', hst⟩
          case round =>
            obtain ⟨qh, rh, rfl, rfl, inv, hr, hq, hq'⟩ := hrel
            clear hst hst'
            by_cases t1 : 4294967296 ≤ qh
            · have hq1 := Num.dq_gt hR1 hu0 inv.out (.inl t1)
              have I := Lib.hid (Num.pred_inv (by omega) inv.out)
              have t1' : (4294967296 : Int) ≤ (qh : Int) := by omega
              by_cases t3 : 4294967296 ≤ rh + y1
              · have t3' : (4294967296 : Int) ≤ (rh : Int) + (y1 : Int) := by omega
                have R := Lib.hid (Num.dq_brk hR1 hy0 I.out t3 hq1)
                go_wp2
                go_meet
                exact ⟨by rw [eq0.out, ← R.out]; go_num, rfl⟩
              · have t3' : ¬ (4294967296 : Int) ≤ (rh : Int) + (y1 : Int) := by omega
                go_wp2
                go_round
                case rel => exact ⟨qh - 1, rh + y1, by go_num, by go_num, I, by omega, hq1, by omega⟩
                case measure => simp [intOf]; omega
            · have t1' : ¬ (4294967296 : Int) ≤ (qh : Int) := by omega
              have p0 : (0 : Int) ≤ (qh : Int) * (y0 : Int) := Int.mul_nonneg (by omega) (by omega)
              have p1 : (qh : Int) * (y0 : Int) ≤ 18446744073709551615 := by
                have : qh * y0 ≤ 4294967295 * 4294967295 := Nat.mul_le_mul (by omega) (by omega)
                have e : ((qh * y0 : Nat) : Int) = (qh : Int) * (y0 : Int) := Int.natCast_mul _ _
                omega
              by_cases t2 : 4294967296 * rh + u0 < qh * y0
              · have hq1 := Num.dq_gt hR1 hu0 inv.out (.inr t2)
                have hpos : 0 < qh := by
                  rcases Nat.eq_zero_or_pos qh with h | h
                  · subst h; omega
                  · exact h
                have I := Lib.hid (Num.pred_inv hpos inv.out)
                have t2' : (4294967296 : Int) * (rh : Int) + (u0 : Int) < (qh : Int) * (y0 : Int) := by
                  have e : ((qh * y0 : Nat) : Int) = (qh : Int) * (y0 : Int) := Int.natCast_mul _ _
                  omega
                clear t2
                by_cases t3 : 4294967296 ≤ rh + y1
                · have t3' : (4294967296 : Int) ≤ (rh : Int) + (y1 : Int) := by omega
                  have R := Lib.hid (Num.dq_brk hR1 hy0 I.out t3 hq1)
                  go_wp2
                  go_meet
                  exact ⟨by rw [eq0.out, ← R.out]; go_num, rfl⟩
                · have t3' : ¬ (4294967296 : Int) ≤ (rh : Int) + (y1 : Int) := by omega
                  go_wp2
                  go_round
                  case rel => exact ⟨qh - 1, rh + y1, by go_num, by go_num, I, by omega, hq1, by omega⟩
                  case measure => simp [intOf]; omega
              · have t2' : ¬ (4294967296 : Int) * (rh : Int) + (u0 : Int) < (qh : Int) * (y0 : Int) := by
                  have e : ((qh * y0 : Nat) : Int) = (qh : Int) * (y0 : Int) := Int.natCast_mul _ _
                  omega
                have R := Lib.hid (Num.dq_le hR1 inv.out (by omega) hq)
                clear t2
                go_wp2
                go_meet
                exact ⟨by rw [eq0.out, ← R.out], rfl⟩
        case rest =>
          obtain ⟨rfl, rfl⟩ := hcut
          go_wp2
          go_ret2
          have e := Num.wrap_rest eR0.out (by omega)
          rw [Int.natCast_mul] at e
          have e1 : (R0 : Int) / 2 ^ s = ((R0 / 2 ^ s : Nat) : Int) := by simp
          have e2 : (q1 : Int) * 4294967296 + (q0 : Int) = ((q1 * 4294967296 + q0 : Nat) : Int) := by omega
          refine ⟨ret2 ?_ ?_, rfl⟩
          · exact e2
          · exact (congrArg (· / (2 : Int) ^ s) e).trans e1
theorem div64_any (hi lo y : Nat) (hlt : hi < y) (hlo : lo < 18446744073709551616) (hy : y < 18446744073709551616) (w : World) :
    Calls Tryz.prog 147 #[.int .u64 hi, .int .u64 lo, .int .u64 y] w fun e w' => e = .returned (.tuple #[.int .u64 (((hi * 18446744073709551616 + lo) / y : Nat) : Int), .int .u64 (((hi * 18446744073709551616 + lo) % y : Nat) : Int)]) ∧ ∃ m, w' = w.drewN m := by
  rcases Nat.eq_zero_or_pos hi with h0 | h0
  · subst h0
    have c := div64_small lo y hlo hy hlt w
    rw [(by omega : 0 * 18446744073709551616 + lo = lo)]
    exact c
  · have ⟨a, b, c, d⟩ := Num.bitLenAux_spec 64 y hy
    have d' := d (by omega)
    have b' := b (by omega)
    have ⟨n1, n2⟩ := Num.norm a b' d' c
    have cc : ∀ w : World, Calls Tryz.prog 148 #[.int .u64 y] w fun e w' => e = .returned (.int .i64 ((64 - Lib.bitLenAux 64 y : Nat) : Int)) ∧ w = w' := fun w =>
      (Tryz.bits_LeadingZeros64 (y : Int) w (by omega) (by omega)).mono fun e w' ⟨he, hw⟩ => ⟨by
        rw [he]
        show Ending.returned (.int .i64 (64 - ((Lib.bitLenAux 64 y : Nat) : Int))) = _
        congr 2
        omega, hw.symm⟩
    have ⟨u1, u2⟩ := Num.up (hi := hi) (lo := lo) (y := y) (s := 64 - Lib.bitLenAux 64 y) (by omega) hlt hlo rfl rfl rfl
    generalize hs : 64 - Lib.bitLenAux 64 y = s at *
    have hs' : s ≤ 63 := by omega
    generalize hY : y * 2 ^ s = Y at *
    generalize hA : hi * 2 ^ s + lo / 2 ^ (64 - s) = A at *
    have hL1 : lo * 2 ^ s % 18446744073709551616 < 18446744073709551616 := Nat.mod_lt _ (by decide)
    generalize hL : lo * 2 ^ s % 18446744073709551616 = L at *
    clear a b c d b' d'
    have eY : Y = Y / 4294967296 * 4294967296 + Y % 4294967296 := by omega
    have hA' : A < Y / 4294967296 * 4294967296 + Y % 4294967296 := by omega
    have hU : (hi * 18446744073709551616 + lo) * 2 ^ s = (A * 4294967296 + L / 4294967296) * 4294967296 + L % 4294967296 := by rw [u1]; omega
    have g1 : Y % 4294967296 < 4294967296 := by omega
    have g2 : 2147483648 ≤ Y / 4294967296 := by omega
    have g3 : Y / 4294967296 < 4294967296 := by omega
    have l1 : L / 4294967296 < 4294967296 := by omega
    have l0 : L % 4294967296 < 4294967296 := by omega
    have ⟨r1, r2⟩ := Num.digit_rest (c := L / 4294967296) eY u2
    have ⟨r3, r4⟩ := Num.digit_rest (c := L % 4294967296) eY r2
    have k1 := Num.dq_lt hA' l1
    have k0 := Num.dq_lt (A := (A * 4294967296 + L / 4294967296) % Y) (y1 := Y / 4294967296) (y0 := Y % 4294967296) (c := L % 4294967296) (by rw [← eY]; exact r2) l0
    have fin := Num.end_quo (s := s) (Y := Y) (A := A) (u1 := L / 4294967296) (u0 := L % 4294967296) (hi := hi) (lo := lo) (y := y) (Nat.lt_of_le_of_lt (Nat.zero_le _) hlt) hY.symm hU
    refine (div64_big hi lo y s Y A L (Y / 4294967296) (Y % 4294967296) (L / 4294967296) (L % 4294967296) _ _ _ _ h0 hlt hlo hy hs'
      (Lib.hid hY.symm) (Lib.hid hA.symm) (Lib.hid hL.symm) n2 (Lib.hid rfl) (Lib.hid rfl) (Lib.hid rfl) (Lib.hid rfl) hA' g1 g2 g3 l1 l0
      (Lib.hid rfl) (Lib.hid r1) (by rw [← eY]; exact r2) k1 (Lib.hid rfl) (Lib.hid r3) (by rw [← eY]; exact r4) k0 w cc).mono fun e w' ⟨he, hw⟩ => ⟨?_, 0, hw.symm⟩
    rw [he, ← fin.1, ← fin.2]
    unfold Num.dq
    rw [← eY]
end Go.Proofs.YtpjhdjakpbabhaaGreatDoor
namespace Go.Proofs.YtpjhdjakpbabhaaGreatDoor
open Go.RowKit
set_option linter.unusedVariables false
def Word2 (n : Nat) (hi lo : Nat) : Prop := hi * 18446744073709551616 + lo = n ∧ lo < 18446744073709551616 ∧ hi < 18446744073709551616
theorem mul64 (a b : Nat) (ha : a < 18446744073709551616) (hb : b < 18446744073709551616) (w : World) :
    Calls Tryz.prog 120 #[.int .u64 a, .int .u64 b] w fun e w' => ∃ hi lo : Nat, e = .returned (.tuple #[.int .u64 hi, .int .u64 lo]) ∧ Word2 (a * b) hi lo ∧ w = w' :=
  (Tryz.bits_Mul64 a b ha hb w).mono fun e w' ⟨he, hw⟩ => ⟨_, _, he, ⟨by omega, by omega, by
    have : a * b ≤ 18446744073709551615 * 18446744073709551615 := Nat.mul_le_mul (by omega) (by omega)
    omega⟩, hw.symm⟩
end Go.Proofs.YtpjhdjakpbabhaaGreatDoor
namespace Go.Proofs.YtpjhdjakpbabhaaGreatDoor
open Go.RowKit
set_option linter.unusedVariables false
theorem bcell {W w1 : World} (hb : Below W.heap.size W w1) : (∀ b o, b < W.heap.size → w1.cell? ⟨b, o, none⟩ = W.cell? ⟨b, o, none⟩) ∧ (∀ b o, b < W.heap.size → w1.frozen? ⟨b, o, none⟩ = W.frozen? ⟨b, o, none⟩) :=
  ⟨fun b o h => hb.cell (p := ⟨b, o, none⟩) h, fun b o h => hb.frozen (p := ⟨b, o, none⟩) h⟩
theorem add64_run (x y c s t : Nat) (hx : x < 18446744073709551616) (hy : y < 18446744073709551616) (hc : c ≤ 1) (h : x + y + c = t * 18446744073709551616 + s) (hs : s < 18446744073709551616) (w : World) :
    (callFunc 121 #[.int .u64 (x : Int), .int .u64 (y : Int), .int .u64 (c : Int)]).run Tryz.prog w = .ok (.value (.tuple #[.int .u64 (s : Int), .int .u64 (t : Int)])) w := by
  rw [run_callFunc_extern Tryz.func121 (by kernel_rfl) (by kernel_rfl) (by kernel_rfl) (e := add64Entry) (by kernel_rfl), run_add64 x y c (by omega) (by omega) (by omega) (by omega)]
  have e1 : ((x : Int) + y + c) % 18446744073709551616 = s := by omega
  have e2 : ((x : Int) + y + c) / 18446744073709551616 = t := by omega
  rw [e1, e2]
  simp only [Result.andThen]
end Go.Proofs.YtpjhdjakpbabhaaGreatDoor
namespace Go.Proofs.YtpjhdjakpbabhaaGreatDoor
open Go.RowKit
set_option linter.unusedVariables false
theorem mod_arith (n k : Int) (hk : 1 ≤ k) (hk' : k ≤ 4611686018427387904) : (wrap64 (n.tmod k + k)).tmod k = n % k := by
  have h1 : -k < n.tmod k := by
    by_cases h : 0 ≤ n
    · have := Int.tmod_nonneg k h; omega
    · have h1 := Int.tmod_lt_of_pos (-n) (by omega : 0 < k)
      rw [Int.neg_tmod] at h1
      omega
  have h2 : n.tmod k < k := Int.tmod_lt_of_pos n (by omega)
  rw [IntWalk.wrap64_in _ ⟨by omega, by omega⟩, Int.tmod_eq_emod_of_nonneg (by omega), Int.add_emod_right]
  have h3 := Int.mul_tdiv_add_tmod n k
  have h4 : n % k = (k * n.tdiv k + n.tmod k) % k := by rw [h3]
  rw [h4, Int.mul_add_emod_self_left]
theorem mod_any (n k : Int) (hk : 1 ≤ k) (hk' : k ≤ 4611686018427387904) (w : World) :
    Calls Tryz.prog 8 #[.int .i64 n, .int .i64 k] w fun e w' => e = .returned (.int .i64 (n % k)) ∧ w = w' := by
  have h := Lib.hid (mod_arith n k hk hk')
  go_enter Tryz.func8, Tryz.ntmps8
  go_wp2
  go_ret
  refine ⟨?_, rfl⟩
  rw [← h.out]
  rfl
end Go.Proofs.YtpjhdjakpbabhaaGreatDoor
namespace Go.Proofs.YtpjhdjakpbabhaaGreatDoor
open Go.RowKit
set_option linter.unusedVariables false
end Go.Proofs.YtpjhdjakpbabhaaGreatDoor
namespace Go.Proofs.YtpjhdjakpbabhaaGreatDoor
open Go.ChangeShapes Go.WideShapes Go.ChangeAt Go.RowKit
set_option linter.unusedVariables false
theorem Law.post {H : Type} {enc : TypeId × Value → H} {P : Program} {f : Func} {s : ChangeSpec} {apart fresh handsOn again : Bool} {W W' : World} {args : Array Value} {v : Value} {ds gs : List (DataW H)}
    (hW : DataW.Whole enc P f.params.toList s.vars apart W args.toList ds gs [])
    (hres : ∀ (b : Nat) (sp : Nat → Bool) (hd : Bool), DataW.TrodAll enc P W' b sp hd f.resultTypes.toList (v.resultList f.resultTypes.size) (s.fn H (ds ++ gs)).results [])
    (hargs : ∀ sp : Nat → Bool, DataW.TrodAll enc P W' 0 sp true f.params.toList args.toList (s.fn H (ds ++ gs)).args [])
    (hvars : ∀ sp : Nat → Bool, DataW.TrodVars enc P W' sp s.vars (s.fn H (ds ++ gs)).vars [])
    (hb : Below W.heap.size W W')
    (hok : ∀ (j : Nat) (t : TypeId) (r : Value), f.resultTypes[j]? = some t → (v.resultList f.resultTypes.size)[j]? = some r → Value.okWide P W' .any 0 t r) :
    s.post enc P f apart fresh handsOn again W args v W' :=
  ⟨ds, gs, [], [], [], [], hW, hres _ _ _, hargs _, hvars _, World.keptBut_mono (fun _ h => absurd h (by simp)) (hb.frame (fun _ => False)), fun _ =>
    ⟨hok, _, _, [], ⟨[], [], trodAll_append (hargs _) (hres _ _ _), hvars _, rfl, fun _ _ h => absurd h (by simp), fun _ => by simp⟩, fun _ h => absurd h (by simp)⟩⟩
end Go.Proofs.YtpjhdjakpbabhaaGreatDoor
namespace Go.Proofs.YtpjhdjakpbabhaaGreatDoor
open Go.RowKit
set_option linter.unusedVariables false
theorem below_drewN (w : World) (n : Nat) : Below w.heap.size w (w.drewN n) := ⟨rfl, rfl, rfl, Nat.le_refl _, fun _ _ => rfl⟩
end Go.Proofs.YtpjhdjakpbabhaaGreatDoor
namespace Go.Proofs.YtpjhdjakpbabhaaGreatDoor
open Go.RowKit
set_option linter.unusedVariables false
end Go.Proofs.YtpjhdjakpbabhaaGreatDoor
