/-
  The contract of math/bits.Div64 where the upper word is below the divisor: quotient and remainder of the two words.
-/
import Derived.Test.YtafaadnjkkkafaaDoorShelf
import Derived.WalkKit
import Derived.Lib.Hide
import Derived.Test.YtafaadnjkkkafaaDoorA
import Derived.Test.YtafaadnjkkkafaaDoorMath
import Derived.BigQuiet
import Derived.Deep.QuietTactic
import Derived.Deep.DeepFit
import Derived.Deep.DeepCutAuto
import Derived.Deep.CutBlock
namespace Go.Proofs.YtafaadnjkkkafaaDoor
open Go.RowKit
set_option linter.unusedVariables false
theorem ret2 {k k' : IntKind} {a b a' b' : Int} (h : a = a') (h' : b = b') : Ending.returned (.tuple #[.int k a, .int k' b]) = .returned (.tuple #[.int k a', .int k' b']) := by rw [h, h']
theorem div64_small (lo y : Nat) (hlo : lo < 18446744073709551616) (hy : y < 18446744073709551616) (h : 0 < y) (w : World) :
    Calls Tryd.prog 72 #[.int .u64 0, .int .u64 lo, .int .u64 y] w fun e w' => e = .returned (.tuple #[.int .u64 ((lo / y : Nat) : Int), .int .u64 ((lo % y : Nat) : Int)]) ∧ ∃ m, w' = w.drewN m := by
  have h1 : ((y : Int) == 0) = false := by simpa using (by omega : y ≠ 0)
  have h2 : ¬ ((y : Int) ≤ 0) := by omega
  have hw := u64_div lo y hlo
  go_enter Tryd.func72, Tryd.ntmps72
  go_wp2
  go_quiet (fail)
  go_wp2
  go_ret2
  exact ⟨rfl, _, rfl⟩
theorem bits_shl (x s M : Nat) (h : x * 2 ^ s < 18446744073709551616) (hM : M = x * 2 ^ s) : Value.int IntKind.u64 (IntKind.u64.wrap ((x : Int) * 2 ^ s)) = .int .u64 M := by
  subst hM
  rw [IntKind.wrap_u64]
  have e : ((x * 2 ^ s : Nat) : Int) = (x : Int) * 2 ^ s := by simp
  rw [← e, Int.emod_eq_of_lt (by omega) (by omega)]

theorem shl_mod (x s : Nat) : IntKind.u64.wrap ((x : Int) * 2 ^ s) = ((x * 2 ^ s % 18446744073709551616 : Nat) : Int) := by
  rw [IntKind.wrap_u64]
  simp
theorem and32 (L : Nat) (h : L < 18446744073709551616) : bits .and .u64 (L : Int) 4294967295 = ((L % 4294967296 : Nat) : Int) := Mul64.maskN L h
theorem shr32 (L : Nat) : (L : Int) / 4294967296 = ((L / 4294967296 : Nat) : Int) := by omega

/-- two parts that share no bit -/
theorem or_add (a b s : Nat) (ha : a < 18446744073709551616) (hb : b < 2 ^ s) (hd : a % 2 ^ s = 0) (h : a + b < 18446744073709551616) :
    bits .or .u64 (a : Int) (b : Int) = ((a + b : Nat) : Int) := by
  have hb' : b < 18446744073709551616 := by omega
  rw [bits_or_u64_nat a b ha hb']
  congr 1
  obtain ⟨q, rfl⟩ : ∃ q, a = 2 ^ s * q := ⟨a / 2 ^ s, by have := Nat.div_add_mod a (2 ^ s); omega⟩
  rw [Nat.two_pow_add_eq_or_of_lt hb]

set_option maxRecDepth 100000 in
theorem div64_big (hi lo y s Y A L y1 y0 u1 u0 q1 R1 q0 R0 : Nat) (hhi : 0 < hi) (hlt : hi < y) (hlo : lo < 18446744073709551616) (hy : y < 18446744073709551616) (hs : s ≤ 63)
    (hY : Hid (Y = y * 2 ^ s)) (hYA : Hid (A = hi * 2 ^ s + lo / 2 ^ (64 - s))) (hL : Hid (L = lo * 2 ^ s % 18446744073709551616)) (hYl : Y < 18446744073709551616)
    (ey1 : Hid (y1 = Y / 4294967296)) (ey0 : Hid (y0 = Y % 4294967296)) (eu1 : Hid (u1 = L / 4294967296)) (eu0 : Hid (u0 = L % 4294967296))
    (hA : A < y1 * 4294967296 + y0) (hy0 : y0 < 4294967296) (hy1 : 2147483648 ≤ y1) (hy1' : y1 < 4294967296) (hu1 : u1 < 4294967296) (hu0 : u0 < 4294967296)
    (eq1 : Hid (q1 = Num.dq A u1 y1 y0)) (eR1 : Hid (A * 4294967296 + u1 = q1 * Y + R1)) (hR1 : R1 < y1 * 4294967296 + y0) (hq1 : q1 < 4294967296)
    (eq0 : Hid (q0 = Num.dq R1 u0 y1 y0)) (eR0 : Hid (R1 * 4294967296 + u0 = q0 * Y + R0)) (hR0 : R0 < y1 * 4294967296 + y0) (hq0 : q0 < 4294967296)
    (w : World) (c : ∀ w : World, Calls Tryd.prog 73 #[.int .u64 y] w fun e w' => e = .returned (.int .i64 s) ∧ w = w') :
    Calls Tryd.prog 72 #[.int .u64 hi, .int .u64 lo, .int .u64 y] w fun e w' => e = .returned (.tuple #[.int .u64 ((q1 * 4294967296 + q0 : Nat) : Int), .int .u64 ((R0 / 2 ^ s : Nat) : Int)]) ∧ w = w' := by
  have h1 : ((y : Int) == 0) = false := by simpa using (by omega : y ≠ 0)
  have h2 : ¬ ((y : Int) ≤ hi) := by omega
  have h3 : ((hi : Int) == 0) = false := by simpa using (by omega : hi ≠ 0)
  go_enter Tryd.func72, Tryd.ntmps72
  go_upto_region 14 with (go_at_call 73; refine (c _).mono ?_; rintro e w' ⟨rfl, rfl⟩)
  go_cut [2, 8, 9, 10, 11, 13, 14] (fun yy ss z1 z0 uu v1 v0 wx => yy = .int .u64 Y ∧ ss = .int .u64 s ∧ z1 = .int .u64 y1 ∧ z0 = .int .u64 y0 ∧ uu = .int .u64 A ∧ v1 = .int .u64 u1 ∧ v0 = .int .u64 u0 ∧ w = wx)
  case first =>
    go_wp2
    go_meet
    have hY' := hY.out
    have hL' := hL.out
    have eY : IntKind.u64.wrap ((y : Int) * 2 ^ s) = (Y : Int) := by rw [shl_mod, ← hY', Nat.mod_eq_of_lt hYl]
    have eL : IntKind.u64.wrap ((lo : Int) * 2 ^ s) = (L : Int) := by rw [shl_mod, ← hL']
    have hLl : L < 18446744073709551616 := by rw [hL']; exact Nat.mod_lt _ (by decide)
    rw [eY, eL, and32 Y hYl, and32 L hLl, shr32, shr32, ← ey1.out, ← ey0.out, ← eu1.out, ← eu0.out]
    refine ⟨rfl, rfl, rfl, rfl, ?_, rfl, rfl, rfl⟩
    have hh : hi * 2 ^ s + lo / 2 ^ (64 - s) < 18446744073709551616 := by rw [← hYA.out]; omega
    have hh1 : lo / 2 ^ (64 - s) < 2 ^ s := by
      rw [Nat.div_lt_iff_lt_mul (Nat.two_pow_pos _), ← Nat.pow_add, (by omega : s + (64 - s) = 64)]
      exact hlo
    have e2 : (lo : Int) / 2 ^ (64 - s) = ((lo / 2 ^ (64 - s) : Nat) : Int) := by simp
    rw [shl_mod, Nat.mod_eq_of_lt (Nat.lt_of_le_of_lt (Nat.le_add_right _ _) hh), e2, or_add _ _ s (Nat.lt_of_le_of_lt (Nat.le_add_right _ _) hh) hh1 (Nat.mul_mod_left _ _) hh, ← hYA.out]
  case rest =>
    obtain ⟨rfl, rfl, rfl, rfl, rfl, rfl, rfl, rfl⟩ := hcut
    clear h1 h2 h3 c
    go_upto_block 0 with fail
    go_cut [15] (fun q wx => q = .int .u64 q1 ∧ w = wx)
    case first =>
      have hst := Num.start_le hA hy0 hy1
      have hst' := Num.dq_start (A := A) (y1 := y1) (y0 := y0) hu1 (by omega)
      go_wp2
      go_loop [15, 16] (fun q r => ∃ qh rh : Nat, q = .int .u64 qh ∧ r = .int .u64 rh ∧ Hid (qh * y1 + rh = A) ∧ rh < 4294967296 ∧ Num.dq A u1 y1 y0 ≤ qh ∧ qh ≤ 8589934592) (fun q _ => (intOf q).toNat)
      case atStart =>
        have e := u64_div A y1 (by omega)
        have e1 : (A : Int) / (y1 : Int) = ((A / y1 : Nat) : Int) := by simp
        have e3 := Num.start_inv A y1
        have e4 : A % y1 < y1 := Nat.mod_lt _ (by omega)
        have e5 : IntKind.u64.wrap ((A : Int) - IntKind.u64.wrap (((A / y1 : Nat) : Int) * y1)) = ((A % y1 : Nat) : Int) := by
          rw [← Int.natCast_mul, IntKind.wrap_u64, IntKind.wrap_u64]
          omega
        rw [e, e1, e5]
        exact ⟨A / y1, A % y1, rfl, rfl, Lib.hid e3, Nat.lt_trans e4 hy1', hst', hst⟩
      case round =>
        obtain ⟨qh, rh, rfl, rfl, inv, hr, hq, hq'⟩ := hrel
        clear hst hst'
        by_cases t1 : 4294967296 ≤ qh
        · have hq1 := Num.dq_gt hA hu1 inv.out (.inl t1)
          have I := Lib.hid (Num.pred_inv (by omega) inv.out)
          have t1' : (4294967296 : Int) ≤ (qh : Int) := by omega
          by_cases t3 : 4294967296 ≤ rh + y1
          · have t3' : (4294967296 : Int) ≤ (rh : Int) + (y1 : Int) := by omega
            have R := Lib.hid (Num.dq_brk hA hy0 I.out t3 hq1)
            go_wp2
            go_meet
            exact ⟨by rw [eq1.out, ← R.out]; go_num, rfl⟩
          · have t3' : ¬ (4294967296 : Int) ≤ (rh : Int) + (y1 : Int) := by omega
            go_wp2
            go_round
            case rel => exact ⟨qh - 1, rh + y1, by go_num, by go_num, I, by omega, hq1, by omega⟩
            case measure => simp [intOf]; omega
        · have t1' : ¬ (4294967296 : Int) ≤ (qh : Int) := by omega
          have p0 : (0 : Int) ≤ (qh : Int) * (y0 : Int) := Int.mul_nonneg (by omega) (by omega)
          have p1 : (qh : Int) * (y0 : Int) ≤ 18446744073709551615 := by
            have : qh * y0 ≤ 4294967295 * 4294967295 := Nat.mul_le_mul (by omega) (by omega)
            have e : ((qh * y0 : Nat) : Int) = (qh : Int) * (y0 : Int) := Int.natCast_mul _ _
            omega
          by_cases t2 : 4294967296 * rh + u1 < qh * y0
          · have hq1 := Num.dq_gt hA hu1 inv.out (.inr t2)
            have hpos : 0 < qh := by
              rcases Nat.eq_zero_or_pos qh with h | h
              · subst h; omega
              · exact h
            have I := Lib.hid (Num.pred_inv hpos inv.out)
            have t2' : (4294967296 : Int) * (rh : Int) + (u1 : Int) < (qh : Int) * (y0 : Int) := by
              have e : ((qh * y0 : Nat) : Int) = (qh : Int) * (y0 : Int) := Int.natCast_mul _ _
              omega
            clear t2
            by_cases t3 : 4294967296 ≤ rh + y1
            · have t3' : (4294967296 : Int) ≤ (rh : Int) + (y1 : Int) := by omega
              have R := Lib.hid (Num.dq_brk hA hy0 I.out t3 hq1)
              go_wp2
              go_meet
              exact ⟨by rw [eq1.out, ← R.out]; go_num, rfl⟩
            · have t3' : ¬ (4294967296 : Int) ≤ (rh : Int) + (y1 : Int) := by omega
              go_wp2
              go_round
              case rel => exact ⟨qh - 1, rh + y1, by go_num, by go_num, I, by omega, hq1, by omega⟩
              case measure => simp [intOf]; omega
          · have t2' : ¬ (4294967296 : Int) * (rh : Int) + (u1 : Int) < (qh : Int) * (y0 : Int) := by
              have e : ((qh * y0 : Nat) : Int) = (qh : Int) * (y0 : Int) := Int.natCast_mul _ _
              omega
            have R := Lib.hid (Num.dq_le hA inv.out (by omega) hq)
            clear t2
            go_wp2
            go_meet
            exact ⟨by rw [eq1.out, ← R.out], rfl⟩
    case rest =>
      obtain ⟨rfl, rfl⟩ := hcut
      go_upto_region 21 with fail
      go_cut [17] (fun t wx => t = .int .u64 R1 ∧ w = wx)
      case first =>
        go_wp2
        go_meet
        refine ⟨?_, rfl⟩
        have e := Num.wrap_rest eR1.out (by omega)
        rw [Int.natCast_mul] at e
        rw [e]
      case rest =>
        obtain ⟨rfl, rfl⟩ := hcut
        go_upto_block 2 with fail
        go_cut [18] (fun q wx => q = .int .u64 q0 ∧ w = wx)
        case first =>
          have hst := Num.start_le hR1 hy0 hy1
          have hst' := Num.dq_start (A := R1) (y1 := y1) (y0 := y0) hu0 (by omega)
          go_wp2
          go_loop [18, 16] (fun q r => ∃ qh rh : Nat, q = .int .u64 qh ∧ r = .int .u64 rh ∧ Hid (qh * y1 + rh = R1) ∧ rh < 4294967296 ∧ Num.dq R1 u0 y1 y0 ≤ qh ∧ qh ≤ 8589934592) (fun q _ => (intOf q).toNat)
          case atStart =>
            have e := u64_div R1 y1 (by omega)
            have e1 : (R1 : Int) / (y1 : Int) = ((R1 / y1 : Nat) : Int) := by simp
            have e3 := Num.start_inv R1 y1
            have e4 : R1 % y1 < y1 := Nat.mod_lt _ (by omega)
            have e5 : IntKind.u64.wrap ((R1 : Int) - IntKind.u64.wrap (((R1 / y1 : Nat) : Int) * y1)) = ((R1 % y1 : Nat) : Int) := by
              rw [← Int.natCast_mul, IntKind.wrap_u64, IntKind.wrap_u64]
              omega
            rw [e, e1, e5]
            exact ⟨R1 / y1, R1 % y1, rfl, rfl, Lib.hid e3, Nat.lt_trans e4 hy1', hst', hst⟩
          case round =>
            obtain ⟨qh, rh, rfl, rfl, inv, hr, hq, hq'⟩ := hrel
            clear hst hst'
            by_cases t1 : 4294967296 ≤ qh
            · have hq1 := Num.dq_gt hR1 hu0 inv.out (.inl t1)
              have I := Lib.hid (Num.pred_inv (by omega) inv.out)
              have t1' : (4294967296 : Int) ≤ (qh : Int) := by omega
              by_cases t3 : 4294967296 ≤ rh + y1
              · have t3' : (4294967296 : Int) ≤ (rh : Int) + (y1 : Int) := by omega
                have R := Lib.hid (Num.dq_brk hR1 hy0 I.out t3 hq1)
                go_wp2
                go_meet
                exact ⟨by rw [eq0.out, ← R.out]; go_num, rfl⟩
              · have t3' : ¬ (4294967296 : Int) ≤ (rh : Int) + (y1 : Int) := by omega
                go_wp2
                go_round
                case rel => exact ⟨qh - 1, rh + y1, by go_num, by go_num, I, by omega, hq1, by omega⟩
                case measure => simp [intOf]; omega
            · have t1' : ¬ (4294967296 : Int) ≤ (qh : Int) := by omega
              have p0 : (0 : Int) ≤ (qh : Int) * (y0 : Int) := Int.mul_nonneg (by omega) (by omega)
              have p1 : (qh : Int) * (y0 : Int) ≤ 18446744073709551615 := by
                have : qh * y0 ≤ 4294967295 * 4294967295 := Nat.mul_le_mul (by omega) (by omega)
                have e : ((qh * y0 : Nat) : Int) = (qh : Int) * (y0 : Int) := Int.natCast_mul _ _
                omega
              by_cases t2 : 4294967296 * rh + u0 < qh * y0
              · have hq1 := Num.dq_gt hR1 hu0 inv.out (.inr t2)
                have hpos : 0 < qh := by
                  rcases Nat.eq_zero_or_pos qh with h | h
                  · subst h; omega
                  · exact h
                have I := Lib.hid (Num.pred_inv hpos inv.out)
                have t2' : (4294967296 : Int) * (rh : Int) + (u0 : Int) < (qh : Int) * (y0 : Int) := by
                  have e : ((qh * y0 : Nat) : Int) = (qh : Int) * (y0 : Int) := Int.natCast_mul _ _
                  omega
                clear t2
                by_cases t3 : 4294967296 ≤ rh + y1
                · have t3' : (4294967296 : Int) ≤ (rh : Int) + (y1 : Int) := by omega
                  have R := Lib.hid (Num.dq_brk hR1 hy0 I.out t3 hq1)
                  go_wp2
                  go_meet
                  exact ⟨by rw [eq0.out, ← R.out]; go_num, rfl⟩
                · have t3' : ¬ (4294967296 : Int) ≤ (rh : Int) + (y1 : Int) := by omega
                  go_wp2
                  go_round
                  case rel => exact ⟨qh - 1, rh + y1, by go_num, by go_num, I, by omega, hq1, by omega⟩
                  case measure => simp [intOf]; omega
              · have t2' : ¬ (4294967296 : Int) * (rh : Int) + (u0 : Int) < (qh : Int) * (y0 : Int) := by
                  have e : ((qh * y0 : Nat) : Int) = (qh : Int) * (y0 : Int) := Int.natCast_mul _ _
                  omega
                have R := Lib.hid (Num.dq_le hR1 inv.out (by omega) hq)
                clear t2
                go_wp2
                go_meet
                exact ⟨by rw [eq0.out, ← R.out], rfl⟩
        case rest =>
          obtain ⟨rfl, rfl⟩ := hcut
          go_wp2
          go_ret2
          have e := Num.wrap_rest eR0.out (by omega)
          rw [Int.natCast_mul] at e
          have e1 : (R0 : Int) / 2 ^ s = ((R0 / 2 ^ s : Nat) : Int) := by simp
          have e2 : (q1 : Int) * 4294967296 + (q0 : Int) = ((q1 * 4294967296 + q0 : Nat) : Int) := by omega
          refine ⟨ret2 ?_ ?_, rfl⟩
          · exact e2
          · exact (congrArg (· / (2 : Int) ^ s) e).trans e1

/-- math/bits.Div64 where the upper word is below the divisor: quotient and remainder of the two words. -/
theorem div64_any (hi lo y : Nat) (hlt : hi < y) (hlo : lo < 18446744073709551616) (hy : y < 18446744073709551616) (w : World) :
    Calls Tryd.prog 72 #[.int .u64 hi, .int .u64 lo, .int .u64 y] w fun e w' => e = .returned (.tuple #[.int .u64 (((hi * 18446744073709551616 + lo) / y : Nat) : Int), .int .u64 (((hi * 18446744073709551616 + lo) % y : Nat) : Int)]) ∧ ∃ m, w' = w.drewN m := by
  rcases Nat.eq_zero_or_pos hi with h0 | h0
  · subst h0
    have c := div64_small lo y hlo hy hlt w
    rw [(by omega : 0 * 18446744073709551616 + lo = lo)]
    exact c
  · have ⟨a, b, c, d⟩ := Num.bitLenAux_spec 64 y hy
    have d' := d (by omega)
    have b' := b (by omega)
    have ⟨n1, n2⟩ := Num.norm a b' d' c
    have cc : ∀ w : World, Calls Tryd.prog 73 #[.int .u64 y] w fun e w' => e = .returned (.int .i64 ((64 - Lib.bitLenAux 64 y : Nat) : Int)) ∧ w = w' := fun w =>
      (Tryd.bits_LeadingZeros64 (y : Int) w (by omega) (by omega)).mono fun e w' ⟨he, hw⟩ => ⟨by
        rw [he]
        show Ending.returned (.int .i64 (64 - ((Lib.bitLenAux 64 y : Nat) : Int))) = _
        congr 2
        omega, hw.symm⟩
    have ⟨u1, u2⟩ := Num.up (hi := hi) (lo := lo) (y := y) (s := 64 - Lib.bitLenAux 64 y) (by omega) hlt hlo rfl rfl rfl
    generalize hs : 64 - Lib.bitLenAux 64 y = s at *
    have hs' : s ≤ 63 := by omega
    generalize hY : y * 2 ^ s = Y at *
    generalize hA : hi * 2 ^ s + lo / 2 ^ (64 - s) = A at *
    have hL1 : lo * 2 ^ s % 18446744073709551616 < 18446744073709551616 := Nat.mod_lt _ (by decide)
    generalize hL : lo * 2 ^ s % 18446744073709551616 = L at *
    clear a b c d b' d'
    have eY : Y = Y / 4294967296 * 4294967296 + Y % 4294967296 := by omega
    have hA' : A < Y / 4294967296 * 4294967296 + Y % 4294967296 := by omega
    have hU : (hi * 18446744073709551616 + lo) * 2 ^ s = (A * 4294967296 + L / 4294967296) * 4294967296 + L % 4294967296 := by rw [u1]; omega
    have g1 : Y % 4294967296 < 4294967296 := by omega
    have g2 : 2147483648 ≤ Y / 4294967296 := by omega
    have g3 : Y / 4294967296 < 4294967296 := by omega
    have l1 : L / 4294967296 < 4294967296 := by omega
    have l0 : L % 4294967296 < 4294967296 := by omega
    have ⟨r1, r2⟩ := Num.digit_rest (c := L / 4294967296) eY u2
    have ⟨r3, r4⟩ := Num.digit_rest (c := L % 4294967296) eY r2
    have k1 := Num.dq_lt hA' l1
    have k0 := Num.dq_lt (A := (A * 4294967296 + L / 4294967296) % Y) (y1 := Y / 4294967296) (y0 := Y % 4294967296) (c := L % 4294967296) (by rw [← eY]; exact r2) l0
    have fin := Num.end_quo (s := s) (Y := Y) (A := A) (u1 := L / 4294967296) (u0 := L % 4294967296) (hi := hi) (lo := lo) (y := y) (Nat.lt_of_le_of_lt (Nat.zero_le _) hlt) hY.symm hU
    refine (div64_big hi lo y s Y A L (Y / 4294967296) (Y % 4294967296) (L / 4294967296) (L % 4294967296) _ _ _ _ h0 hlt hlo hy hs'
      (Lib.hid hY.symm) (Lib.hid hA.symm) (Lib.hid hL.symm) n2 (Lib.hid rfl) (Lib.hid rfl) (Lib.hid rfl) (Lib.hid rfl) hA' g1 g2 g3 l1 l0
      (Lib.hid rfl) (Lib.hid r1) (by rw [← eY]; exact r2) k1 (Lib.hid rfl) (Lib.hid r3) (by rw [← eY]; exact r4) k0 w cc).mono fun e w' ⟨he, hw⟩ => ⟨?_, 0, hw.symm⟩
    rw [he, ← fin.1, ← fin.2]
    unfold Num.dq
    rw [← eY]
end Go.Proofs.YtafaadnjkkkafaaDoor
