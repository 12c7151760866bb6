/-
  Contracts of wide.DivMod, Half and Sqrt on two words: quotient and remainder, the nearest integer, the greatest integer whose square is at most the number.
-/
import Derived.Test.YtafaadnjkkkafaaDoorM
import Derived.Test.YtafaadnjkkkafaaDoorF
namespace Go.Proofs.YtafaadnjkkkafaaDoor
open Go.RowKit
set_option linter.unusedVariables false

theorem Box2.drew {w : World} {b : Nat} {x y : Value} (h : Box2 w b x y) : Box2 w.drew b x y := h
theorem Box2.alloc {w : World} {b : Nat} {x y : Value} (h : Box2 w b x y) (hlt : b < w.heap.size) (o : Obj) : Box2 (w.alloc o) b x y :=
  h.keep ((Below.refl _ _).alloc (Nat.le_refl _) o) hlt

theorem wide_divmod_zero (hi lo : Nat) (w : World) :
    Calls Tryd.prog 70 #[.agg #[.int .u64 hi, .int .u64 lo], .int .u64 0] w fun e w' => e = .returned (.tuple #[.agg #[.int .u64 0, .int .u64 0], .int .u64 0, .bool false]) ∧ Below w.heap.size w w' := by
  go_enter Tryd.func70, Tryd.ntmps70
  go_wp2
  refine bodyPost_ret (v := .tuple #[.agg #[.int .u64 0, .int .u64 0], .int .u64 0, .bool false]) (by simp [results, Tryd.results70, go_sem]) rfl ⟨rfl, ?_⟩
  repeat (first | exact Below.refl _ _ | refine below_alloc ?_ _ | refine below_set ?_ (by simp <;> omega) _)

theorem two_div (hi lo d : Nat) (hd : 0 < d) :
    (hi * 18446744073709551616 + lo) / d = hi / d * 18446744073709551616 + (hi % d * 18446744073709551616 + lo) / d ∧ (hi * 18446744073709551616 + lo) % d = (hi % d * 18446744073709551616 + lo) % d := by
  have e : hi * 18446744073709551616 + lo = (hi % d * 18446744073709551616 + lo) + hi / d * 18446744073709551616 * d := by
    have h1 := Nat.div_add_mod hi d
    have h2 : hi * 18446744073709551616 = (d * (hi / d) + hi % d) * 18446744073709551616 := by rw [h1]
    rw [Nat.add_mul, Nat.mul_comm d, Nat.mul_right_comm] at h2
    rw [h2, Nat.add_right_comm, Nat.add_comm]
    generalize hi / d * 18446744073709551616 * d = a
    generalize hi % d * 18446744073709551616 = b
    omega
  constructor
  · rw [e, Nat.add_mul_div_right _ _ hd]; omega
  · rw [e, Nat.add_mul_mod_self_right]

theorem wide_divmod (hi lo d n : Nat) (hn : Word2 n hi lo) (hd : d < 18446744073709551616) (h0 : 0 < d) (w : World) :
    Calls Tryd.prog 70 #[.agg #[.int .u64 hi, .int .u64 lo], .int .u64 d] w fun e w' => ∃ qh ql : Nat, e = .returned (.tuple #[.agg #[.int .u64 qh, .int .u64 ql], .int .u64 (n % d : Nat), .bool true]) ∧ Word2 (n / d) qh ql ∧ Below w.heap.size w w' := by
  have h1 : ((d : Int) == 0) = false := by simpa using (by omega : d ≠ 0)
  have hr := Nat.mod_lt hi h0
  obtain ⟨hn1, hn2, hn3⟩ := hn
  have c1 := div64_any 0 hi d h0 hn3 hd
  have c2 := div64_any (hi % d) lo d hr hn2 hd
  have ⟨t1, t2⟩ := two_div hi lo d h0
  rw [hn1] at t1 t2
  have hq : (hi % d * 18446744073709551616 + lo) / d < 18446744073709551616 := by
    rw [Nat.div_lt_iff_lt_mul h0, Nat.mul_comm]
    have := Nat.mul_le_mul_right 18446744073709551616 (Nat.succ_le_of_lt hr)
    rw [Nat.succ_eq_add_one, Nat.add_mul] at this
    omega
  have hq1 : hi / d < 18446744073709551616 := Nat.lt_of_le_of_lt (Nat.div_le_self _ _) hn3
  have K : Word2 (n / d) (hi / d) ((hi % d * 18446744073709551616 + lo) / d) := ⟨t1.symm, hq, hq1⟩
  rw [Nat.zero_mul, Nat.zero_add] at c1
  rw [t2]
  generalize (hi % d * 18446744073709551616 + lo) / d = q0 at *
  generalize (hi % d * 18446744073709551616 + lo) % d = r0 at *
  generalize hi / d = q1 at *
  generalize hi % d = r1 at *
  clear t1 t2 hn1
  go_enter Tryd.func70, Tryd.ntmps70
  go_wp2_with fail
  refine (c1 _).mono ?_
  rintro e w1 ⟨rfl, m1, rfl⟩
  go_wp2_with fail
  refine (c2 _).mono ?_
  rintro e w1 ⟨rfl, m2, rfl⟩
  go_wp2
  refine bodyPost_ret (v := .tuple #[.agg #[.int .u64 q1, .int .u64 q0], .int .u64 r0, .bool true]) (by simp [results, Tryd.results70, go_sem]) rfl ⟨q1, q0, rfl, K, ?_⟩
  repeat (first | exact Below.refl _ _ | refine below_alloc ?_ _ | refine below_set ?_ (by simp <;> omega) _ | refine below_drewn ?_ _)

theorem wroot_lt {n s : Nat} (h : IsRoot n s) (hn : n < 340282366920938463463374607431768211456) : s < 18446744073709551616 := by
  by_cases hl : s < 18446744073709551616
  · exact hl
  · have h2 := Nat.mul_le_mul (by omega : 18446744073709551616 ≤ s) (by omega : 18446744073709551616 ≤ s)
    have := h.1
    omega
theorem wroot_start {n s b : Nat} (h : IsRoot n s) (hb : n < 2 ^ b) : s < 2 ^ ((b + 1) / 2) := by
  have h1 : 2 ^ b ≤ 2 ^ ((b + 1) / 2) * 2 ^ ((b + 1) / 2) := by
    rw [← Nat.pow_add]; exact Nat.pow_le_pow_right (by decide) (by omega)
  by_cases hl : s < 2 ^ ((b + 1) / 2)
  · exact hl
  · have h2 := Nat.mul_le_mul (by omega : 2 ^ ((b + 1) / 2) ≤ s) (by omega : 2 ^ ((b + 1) / 2) ≤ s)
    have := h.1
    omega
theorem root_ge {n s x : Nat} (h : IsRoot n s) (hx : x * x ≤ n) : x ≤ s := by
  by_cases hl : x ≤ s
  · exact hl
  · have h2 := Nat.mul_le_mul (by omega : s + 1 ≤ x) (by omega : s + 1 ≤ x)
    have := h.2
    omega

theorem shl_one (k : Nat) (hk : k ≤ 64) : IntKind.u64.wrap (IntKind.u64.wrap ((2 : Int) ^ k) - 1) = ((2 ^ k - 1 : Nat) : Int) := by
  have e : (2 : Int) ^ k = ((2 ^ k : Nat) : Int) := by simp
  have h1 : 2 ^ k ≤ 18446744073709551616 := Nat.pow_le_pow_right (n := 2) (j := 64) (by decide) hk
  have h2 := Nat.two_pow_pos k
  rw [e]
  generalize 2 ^ k = z at *
  rw [IntKind.wrap_u64, IntKind.wrap_u64]
  omega

end Go.Proofs.YtafaadnjkkkafaaDoor
