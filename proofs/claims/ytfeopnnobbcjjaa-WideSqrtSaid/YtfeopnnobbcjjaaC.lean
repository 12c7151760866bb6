/-
  Contracts of the specification's Mul, Of and DivMod on two words: the product, the number, quotient and remainder, for all words (divisor 0 answers false).
-/
import Derived.Test.YtfeopnnobbcjjaaB
namespace Go.Proofs.Ytfeopnnobbcjjaa
open Go.RowKit
set_option linter.unusedVariables false

/-- the two words of a number -/
def Word2 (n : Nat) (hi lo : Nat) : Prop := hi * 18446744073709551616 + lo = n ∧ lo < 18446744073709551616 ∧ hi < 18446744073709551616

theorem mul64 (a b : Nat) (ha : a < 18446744073709551616) (hb : b < 18446744073709551616) (w : World) :
    Calls Try.prog 44 #[.int .u64 a, .int .u64 b] w fun e w' => ∃ hi lo : Nat, e = .returned (.tuple #[.int .u64 hi, .int .u64 lo]) ∧ Word2 (a * b) hi lo ∧ w = w' :=
  (Try.bits_Mul64 a b ha hb w).mono fun e w' ⟨he, hw⟩ => ⟨_, _, he, ⟨by omega, by omega, by
    have : a * b ≤ 18446744073709551615 * 18446744073709551615 := Nat.mul_le_mul (by omega) (by omega)
    omega⟩, hw.symm⟩

theorem ref_mul (a b : Nat) (ha : a < 18446744073709551616) (hb : b < 18446744073709551616) (w : World) :
    Calls Try.prog 34 #[.int .u64 a, .int .u64 b] w fun e w' => ∃ hi lo : Nat, e = .returned (.agg #[.int .u64 hi, .int .u64 lo]) ∧ Word2 (a * b) hi lo ∧ Below w.heap.size w w' := by
  go_enter Try.func34, Try.ntmps34
  go_wp2_with (go_at_call 44; refine (mul64 a b ha hb _).mono ?_; rintro e w' ⟨hi, lo, rfl, H, rfl⟩)
  exact bodyPost_ret (v := .agg #[.int .u64 hi, .int .u64 lo]) (by simp [results, Try.results34, go_sem]) rfl ⟨hi, lo, rfl, H, (Below.refl _ _).alloc (Nat.le_refl _) _⟩

theorem ref_of (n : Nat) (w : World) :
    Calls Try.prog 39 #[.int .u64 n] w fun e w' => e = .returned (.agg #[.int .u64 0, .int .u64 n]) ∧ Below w.heap.size w w' := by
  go_enter Try.func39, Try.ntmps39
  go_wp2
  exact bodyPost_ret (v := .agg #[.int .u64 0, .int .u64 n]) (by simp [results, Try.results39, go_sem]) rfl ⟨rfl, (Below.refl _ _).alloc (Nat.le_refl _) _⟩

theorem ref_divmod_zero (hi lo : Nat) (w : World) :
    Calls Try.prog 50 #[.agg #[.int .u64 hi, .int .u64 lo], .int .u64 0] w fun e w' => e = .returned (.tuple #[.agg #[.int .u64 0, .int .u64 0], .int .u64 0, .bool false]) ∧ Below w.heap.size w w' := by
  go_enter Try.func50, Try.ntmps50
  go_wp2
  exact bodyPost_ret (v := .tuple #[.agg #[.int .u64 0, .int .u64 0], .int .u64 0, .bool false]) (by simp [results, Try.results50, go_sem]) rfl ⟨rfl, ((Below.refl _ _).alloc (Nat.le_refl _) _).alloc (by simp) _⟩

theorem and1 (x : Nat) (h : x < 18446744073709551616) : bits .and .u64 (x : Int) 1 = ((x % 2 : Nat) : Int) := by
  have e := bits_and_u64_nat x 1 h (by omega)
  rw [Nat.and_one_is_mod] at e
  exact e
theorem shl_or (r b : Nat) (hb : b ≤ 1) : bits .or .u64 (IntKind.u64.wrap ((r : Int) * 2)) (b : Int) = (((2 * r + b) % 18446744073709551616 : Nat) : Int) := by
  have e : IntKind.u64.wrap ((r : Int) * 2) = ((2 * r % 18446744073709551616 : Nat) : Int) := by rw [IntKind.wrap_u64]; omega
  rw [e, or_add _ _ 1 (by omega) (by omega) (by omega) (by omega)]
  omega
theorem or_bit (q j : Nat) (hj : j ≤ 63) (hm : q % 2 ^ (j + 1) = 0) (h : q + 2 ^ j < 18446744073709551616) : bits .or .u64 (q : Int) (IntKind.u64.wrap (2 ^ j)) = ((q + 2 ^ j : Nat) : Int) := by
  have e : (2 : Int) ^ j = ((2 ^ j : Nat) : Int) := by simp
  rw [e, IntKind.wrap_u64, Int.emod_eq_of_lt (by omega) (by omega)]
  exact or_add q (2 ^ j) (j + 1) (by omega) (by rw [Nat.pow_succ]; have := Nat.two_pow_pos j; omega) hm h

set_option maxRecDepth 100000 in
set_option maxHeartbeats 1000000 in
theorem ref_divmod (hi lo d n : Nat) (hn : Word2 n hi lo) (hd : d < 18446744073709551616) (h0 : 0 < d) (w : World) :
    Calls Try.prog 50 #[.agg #[.int .u64 hi, .int .u64 lo], .int .u64 d] w fun e w' => ∃ qh ql : Nat, e = .returned (.tuple #[.agg #[.int .u64 qh, .int .u64 ql], .int .u64 (n % d : Nat), .bool true]) ∧ Word2 (n / d) qh ql ∧ Below w.heap.size w w' := by
  have h1 : ((d : Int) == 0) = false := by simpa using (by omega : d ≠ 0)
  have hn2 : n < 340282366920938463463374607431768211456 := by obtain ⟨a, b, c⟩ := hn; omega
  have Hn2 := Lib.hid hn2
  clear hn2
  go_enter Try.func50, Try.ntmps50
  go_wp2
  go_loopw [8, 9] (fun r i wr => ∃ (k rr Q qh ql : Nat) (c : Int), r = .int .u64 rr ∧ i = .int .i64 c ∧ c = (k : Int) - 1 ∧ k ≤ 128 ∧ Hid (rr = n / 2 ^ k % d) ∧ Hid (Q = n / 2 ^ k / d) ∧ rr < d ∧ Hid (qh * 18446744073709551616 + ql = Q * 2 ^ k) ∧ ql < 18446744073709551616 ∧
    wr = ((w.alloc (.cells #[.int .u64 hi, .int .u64 lo] 41)).alloc (.cells #[.int .u64 0, .int .u64 0] 41)).alloc (.cells #[.int .u64 qh, .int .u64 ql] 41)) (fun _ i _ => (intOf i + 1).toNat)
  case atStart =>
    have e : n / 2 ^ 128 = 0 := Nat.div_eq_of_lt Hn2.out
    exact ⟨128, 0, 0, 0, 0, 127, rfl, rfl, rfl, Nat.le_refl _, Lib.hid (by rw [e, Nat.zero_mod]), Lib.hid (by rw [e, Nat.zero_div]), h0, Lib.hid (by simp), by omega, rfl⟩
  case round =>
    obtain ⟨k, rr, Q, qh, ql, c, rfl, rfl, hc, hk, hrr, hQ, hlt, hq, hql, rfl⟩ := hrel
    cases k with
    | zero =>
      obtain rfl : c = -1 := by omega
      clear hc
      go_wp2
      refine bodyPost_ret (v := .tuple #[.agg #[.int .u64 qh, .int .u64 ql], .int .u64 rr, .bool true]) (by simp [results, Try.results50, go_sem]) rfl ⟨qh, ql, ?_, ?_, ?_⟩
      · rw [hrr.out, Nat.pow_zero, Nat.div_one]
      · have e := hq.out
        have e2 := hQ.out
        rw [Nat.pow_zero, Nat.mul_one] at e
        rw [Nat.pow_zero, Nat.div_one] at e2
        have e3 : n / d ≤ n := Nat.div_le_self n d
        have e4 := Hn2.out
        rw [e2] at e
        generalize n / d = x at *
        exact ⟨e, hql, by omega⟩
      · exact (((Below.refl _ _).alloc (Nat.le_refl _) _).alloc (by simp) _).alloc (by simp; omega) _
    | succ i =>
      obtain rfl : c = (i : Int) := by omega
      clear hc
      obtain ⟨b, hb, hb1⟩ : ∃ b, Hid (b = n / 2 ^ i % 2) ∧ b ≤ 1 := ⟨_, Lib.hid rfl, by have := Nat.mod_lt (n / 2 ^ i) (y := 2) (by decide); omega⟩
      obtain ⟨R, hR, hRl⟩ : ∃ R, Hid (R = (2 * rr + b) % 18446744073709551616) ∧ R < 18446744073709551616 := ⟨_, Lib.hid rfl, Nat.mod_lt _ (by decide)⟩
      by_cases h64 : 64 ≤ i
      · have h64' : (64 : Int) ≤ (i : Int) := by omega
        go_upto_if 26 with fail
        go_cut [10] (fun bb wx => bb = .int .u64 b ∧ wx = ((w.alloc (.cells #[.int .u64 hi, .int .u64 lo] 41)).alloc (.cells #[.int .u64 0, .int .u64 0] 41)).alloc (.cells #[.int .u64 qh, .int .u64 ql] 41))
        case first =>
          go_wp2
          go_meet
          refine ⟨?_, rfl⟩
          have e : (hi : Int) / 2 ^ (i - 64) = ((hi / 2 ^ (i - 64) : Nat) : Int) := by simp
          rw [e, and1 _ (Nat.lt_of_le_of_lt (Nat.div_le_self _ _) hn.2.2), hb.out, ← hn.1, Num.bit_hi hn.2.1 h64]
        case rest =>
          obtain ⟨rfl, rfl⟩ := hcut
          go_upto_region 12 with fail
          go_cut [8] (fun r wx => r = .int .u64 R ∧ wx = ((w.alloc (.cells #[.int .u64 hi, .int .u64 lo] 41)).alloc (.cells #[.int .u64 0, .int .u64 0] 41)).alloc (.cells #[.int .u64 qh, .int .u64 ql] 41))
          case first =>
            go_wp2
            go_meet
            refine ⟨?_, rfl⟩
            rw [shl_or rr b hb1, ← hR.out]
          case rest =>
            obtain ⟨rfl, rfl⟩ := hcut
            by_cases hdig : d ≤ 2 * rr + b
            · have H := Lib.hid ((Num.bit_step h0 hrr.out hQ.out).1 (by rw [← hb.out]; exact hdig))
              have hr' : Hid (IntKind.u64.wrap ((R : Int) - d) = ((2 * rr + b - d : Nat) : Int)) := Lib.hid (by rw [hR.out, IntKind.wrap_u64]; omega)
              have hlt' : 2 * rr + b - d < d := by omega
              by_cases ht : 9223372036854775808 ≤ rr
              · have t1 : ((rr : Int) / 9223372036854775808 == 1) = true := by rw [beq_iff_eq]; omega
                have P := Lib.hid (Num.put_hi h64 hql hq.out)
                go_wp2
                go_roundw
                case rel =>
                  refine ⟨i, 2 * rr + b - d, 2 * Q + 1, qh + 2 ^ (i - 64), ql, (i : Int) - 1, by first | rw [hr'.out] | (congr 1; have := hR.out; omega), rfl, rfl, by omega, Lib.hid (by rw [H.out.1, hb.out]), Lib.hid H.out.2.symm, hlt', Lib.hid P.out.2, hql, ?_⟩
                  rw [or_bit qh (i - 64) (by omega) (by rw [(by omega : i - 64 + 1 = i - 63)]; exact P.out.1) (by have := Num.quo_le n d i; rw [H.out.2, ← P.out.2] at this; have := Hn2.out; omega)]
                case measure => first | (simp [intOf]; done) | (simp [intOf]; omega)
              · have t1 : ((rr : Int) / 9223372036854775808 == 1) = false := by rw [beq_eq_false_iff_ne]; omega
                have t2 : (d : Int) ≤ (R : Int) := by have := hR.out; omega
                have P := Lib.hid (Num.put_hi h64 hql hq.out)
                go_wp2
                go_roundw
                case rel =>
                  refine ⟨i, 2 * rr + b - d, 2 * Q + 1, qh + 2 ^ (i - 64), ql, (i : Int) - 1, by first | rw [hr'.out] | (congr 1; have := hR.out; omega), rfl, rfl, by omega, Lib.hid (by rw [H.out.1, hb.out]), Lib.hid H.out.2.symm, hlt', Lib.hid P.out.2, hql, ?_⟩
                  rw [or_bit qh (i - 64) (by omega) (by rw [(by omega : i - 64 + 1 = i - 63)]; exact P.out.1) (by have := Num.quo_le n d i; rw [H.out.2, ← P.out.2] at this; have := Hn2.out; omega)]
                case measure => first | (simp [intOf]; done) | (simp [intOf]; omega)
            · have H := Lib.hid ((Num.bit_step h0 hrr.out hQ.out).2 (by rw [← hb.out]; omega))
              have t1 : ((rr : Int) / 9223372036854775808 == 1) = false := by rw [beq_eq_false_iff_ne]; omega
              have t2 : ¬ (d : Int) ≤ (R : Int) := by have := hR.out; omega
              have er : R = 2 * rr + b := by have := hR.out; omega
              have Er := Lib.hid er
              clear er
              go_wp2
              go_roundw
              case rel => exact ⟨i, R, 2 * Q, qh, ql, (i : Int) - 1, rfl, rfl, rfl, by omega, Lib.hid (by rw [H.out.1, Er.out, hb.out]), Lib.hid H.out.2.symm, by have := Er.out; omega, Lib.hid (by rw [Num.zero_bit]; exact hq.out), hql, rfl⟩
              case measure => first | (simp [intOf]; done) | (simp [intOf]; omega)
      · have h64' : ¬ (64 : Int) ≤ (i : Int) := by omega
        go_upto_if 26 with fail
        go_cut [10] (fun bb wx => bb = .int .u64 b ∧ wx = ((w.alloc (.cells #[.int .u64 hi, .int .u64 lo] 41)).alloc (.cells #[.int .u64 0, .int .u64 0] 41)).alloc (.cells #[.int .u64 qh, .int .u64 ql] 41))
        case first =>
          go_wp2
          go_meet
          refine ⟨?_, rfl⟩
          have e : (lo : Int) / 2 ^ i = ((lo / 2 ^ i : Nat) : Int) := by simp
          rw [e, and1 _ (Nat.lt_of_le_of_lt (Nat.div_le_self _ _) hn.2.1), hb.out, ← hn.1, Num.bit_lo (by omega)]
        case rest =>
          obtain ⟨rfl, rfl⟩ := hcut
          go_upto_region 12 with fail
          go_cut [8] (fun r wx => r = .int .u64 R ∧ wx = ((w.alloc (.cells #[.int .u64 hi, .int .u64 lo] 41)).alloc (.cells #[.int .u64 0, .int .u64 0] 41)).alloc (.cells #[.int .u64 qh, .int .u64 ql] 41))
          case first =>
            go_wp2
            go_meet
            refine ⟨?_, rfl⟩
            rw [shl_or rr b hb1, ← hR.out]
          case rest =>
            obtain ⟨rfl, rfl⟩ := hcut
            by_cases hdig : d ≤ 2 * rr + b
            · have H := Lib.hid ((Num.bit_step h0 hrr.out hQ.out).1 (by rw [← hb.out]; exact hdig))
              have hr' : Hid (IntKind.u64.wrap ((R : Int) - d) = ((2 * rr + b - d : Nat) : Int)) := Lib.hid (by rw [hR.out, IntKind.wrap_u64]; omega)
              have hlt' : 2 * rr + b - d < d := by omega
              by_cases ht : 9223372036854775808 ≤ rr
              · have t1 : ((rr : Int) / 9223372036854775808 == 1) = true := by rw [beq_iff_eq]; omega
                have P := Lib.hid (Num.put_lo (by omega) hql hq.out)
                go_wp2
                go_roundw
                case rel =>
                  refine ⟨i, 2 * rr + b - d, 2 * Q + 1, qh, ql + 2 ^ i, (i : Int) - 1, by first | rw [hr'.out] | (congr 1; have := hR.out; omega), rfl, rfl, by omega, Lib.hid (by rw [H.out.1, hb.out]), Lib.hid H.out.2.symm, hlt', Lib.hid P.out.2.2, P.out.2.1, ?_⟩
                  rw [or_bit ql i (by omega) P.out.1 P.out.2.1]
                case measure => first | (simp [intOf]; done) | (simp [intOf]; omega)
              · have t1 : ((rr : Int) / 9223372036854775808 == 1) = false := by rw [beq_eq_false_iff_ne]; omega
                have t2 : (d : Int) ≤ (R : Int) := by have := hR.out; omega
                have P := Lib.hid (Num.put_lo (by omega) hql hq.out)
                go_wp2
                go_roundw
                case rel =>
                  refine ⟨i, 2 * rr + b - d, 2 * Q + 1, qh, ql + 2 ^ i, (i : Int) - 1, by first | rw [hr'.out] | (congr 1; have := hR.out; omega), rfl, rfl, by omega, Lib.hid (by rw [H.out.1, hb.out]), Lib.hid H.out.2.symm, hlt', Lib.hid P.out.2.2, P.out.2.1, ?_⟩
                  rw [or_bit ql i (by omega) P.out.1 P.out.2.1]
                case measure => first | (simp [intOf]; done) | (simp [intOf]; omega)
            · have H := Lib.hid ((Num.bit_step h0 hrr.out hQ.out).2 (by rw [← hb.out]; omega))
              have t1 : ((rr : Int) / 9223372036854775808 == 1) = false := by rw [beq_eq_false_iff_ne]; omega
              have t2 : ¬ (d : Int) ≤ (R : Int) := by have := hR.out; omega
              have er : R = 2 * rr + b := by have := hR.out; omega
              have Er := Lib.hid er
              clear er
              go_wp2
              go_roundw
              case rel => exact ⟨i, R, 2 * Q, qh, ql, (i : Int) - 1, rfl, rfl, rfl, by omega, Lib.hid (by rw [H.out.1, Er.out, hb.out]), Lib.hid H.out.2.symm, by have := Er.out; omega, Lib.hid (by rw [Num.zero_bit]; exact hq.out), hql, rfl⟩
              case measure => first | (simp [intOf]; done) | (simp [intOf]; omega)

end Go.Proofs.Ytfeopnnobbcjjaa
