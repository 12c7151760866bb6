/-
  The laws RoundFastDivisions, RoundMulDivCancels, RoundSqrt and RoundMulDivAgrees, walked: each returns true for all arguments in their ranges.
-/
import Derived.Test.YtfeopnnobbcjjaaH
import Derived.Deep.DeepCutAuto
namespace Go.Proofs.Ytfeopnnobbcjjaa
open Go.RowKit
set_option linter.unusedVariables false

theorem and255 (a : Nat) (ha : a < 65536) : bits .and .u16 (a : Int) 255 = ((a % 256 : Nat) : Int) := by
  have h := u16_and_nat a 255 ha (by omega)
  have e : a &&& 255 = a % 256 := Nat.and_two_pow_sub_one_eq_mod a 8
  rw [e] at h
  exact h

theorem RoundFastDivisions_core (a0 a1 a2 a3 : Int) (w0 : (Lit.int .u32 a0).wf = true) (w1 : (Lit.int .u64 a1).wf = true) (w2 : (Lit.int .u16 a2).wf = true) (w3 : (Lit.int .u16 a3).wf = true) (w : World) :
    Calls Try.prog 6 #[.int .u32 a0, .int .u64 a1, .int .u16 a2, .int .u16 a3] w fun e w' => e = .returned (.bool true) ∧ Below w.heap.size w w' := by
  obtain ⟨n, rfl, hn⟩ := u32_nat w0
  obtain ⟨m, rfl, hm⟩ := u64_nat w1
  obtain ⟨a, rfl, ha⟩ := u16_nat w2
  obtain ⟨b, rfl, hb⟩ := u16_nat w3
  clear w0 w1 w2 w3
  have ea := and255 a ha
  have eb := and255 b hb
  obtain ⟨x, hx, hxl⟩ : ∃ x, a % 256 = x ∧ x < 256 := ⟨_, rfl, Nat.mod_lt _ (by decide)⟩
  obtain ⟨y, hy, hyl⟩ : ∃ y, b % 256 = y ∧ y < 256 := ⟨_, rfl, Nat.mod_lt _ (by decide)⟩
  rw [hx] at ea
  rw [hy] at eb
  clear hx hy
  have hp : x * y ≤ 255 * 255 := Nat.mul_le_mul (by omega) (by omega)
  have hq : a * b ≤ 65535 * 65535 := Nat.mul_le_mul (by omega) (by omega)
  have ep : ((x * y : Nat) : Int) = (x : Int) * (y : Int) := Int.natCast_mul _ _
  have eq : ((a * b : Nat) : Int) = (a : Int) * (b : Int) := Int.natCast_mul _ _
  have p0 : (0 : Int) ≤ (x : Int) * (y : Int) := by omega
  have p1 : (x : Int) * (y : Int) ≤ 65025 := by omega
  have q0 : (0 : Int) ≤ (a : Int) * (b : Int) := by omega
  have q1 : (a : Int) * (b : Int) ≤ 4294836225 := by omega
  have c1 := by255_any n hn
  have c2 : ∀ w : World, Calls Try.prog 19 #[.int .u64 (n : Int), .int .u64 255] w fun e w' => e = .returned (.int .u64 (half n 255 : Nat)) ∧ ∃ m, w' = w.drewN m := ref_half n 255 (by omega) (by decide)
  have c3 := by65535_any m hm
  have c4 : ∀ w : World, Calls Try.prog 19 #[.int .u64 (m : Int), .int .u64 65535] w fun e w' => e = .returned (.int .u64 (half m 65535 : Nat)) ∧ ∃ m, w' = w.drewN m := ref_half m 65535 hm (by decide)
  have c5 := by255_any (x * y) (by omega)
  have c6 : ∀ w : World, Calls Try.prog 19 #[.int .u64 ((x * y : Nat) : Int), .int .u64 255] w fun e w' => e = .returned (.int .u64 (half (x * y) 255 : Nat)) ∧ ∃ m, w' = w.drewN m := ref_half (x * y) 255 (by omega) (by decide)
  have c7 := by65535_any (a * b) (by omega)
  have c8 : ∀ w : World, Calls Try.prog 19 #[.int .u64 ((a * b : Nat) : Int), .int .u64 65535] w fun e w' => e = .returned (.int .u64 (half (a * b) 65535 : Nat)) ∧ ∃ m, w' = w.drewN m := ref_half (a * b) 65535 (by omega) (by decide)
  rw [ep] at c5 c6
  rw [eq] at c7 c8
  have k1 := half_le n 255
  have k2 := half_le (x * y) 255
  generalize half n 255 = h1 at *
  generalize half m 65535 = h2 at *
  generalize half (x * y) 255 = h3 at *
  generalize half (a * b) 65535 = h4 at *
  have k3 : h1 < 4294967296 := by omega
  have k4 : h3 < 4294967296 := by omega
  clear ep eq k1 k2 hp hq
  go_enter Try.func6, Try.ntmps6
  go_wp2_with (first
    | (go_at_call 17; refine (awake1 _).mono ?_; rintro e w1 ⟨rfl, m1, rfl⟩)
    | (go_at_call 20; (with_reducible refine (c1 _).mono ?_); rintro e w1 ⟨rfl, rfl⟩)
    | (go_at_call 19; (with_reducible refine (c2 _).mono ?_); rintro e w1 ⟨rfl, m2, rfl⟩)
    | (go_at_call 21; (with_reducible refine (c3 _).mono ?_); rintro e w1 ⟨rfl, rfl⟩)
    | (go_at_call 19; (with_reducible refine (c4 _).mono ?_); rintro e w1 ⟨rfl, m3, rfl⟩)
    | (go_at_call 20; (with_reducible refine (c5 _).mono ?_); rintro e w1 ⟨rfl, rfl⟩)
    | (go_at_call 19; (with_reducible refine (c6 _).mono ?_); rintro e w1 ⟨rfl, m4, rfl⟩)
    | (go_at_call 21; (with_reducible refine (c7 _).mono ?_); rintro e w1 ⟨rfl, rfl⟩)
    | (go_at_call 19; (with_reducible refine (c8 _).mono ?_); rintro e w1 ⟨rfl, m5, rfl⟩))
  go_ret
  exact ⟨rfl, below_drewN _ _⟩

theorem half_cancel (a d : Nat) (h : 0 < d) : half (a * d) d = a := by
  rw [half_down h rfl (by rw [Nat.mul_mod_left]; omega), Nat.mul_div_cancel _ h]

theorem RoundMulDivCancels_core (a0 a1 a2 : Int) (w0 : (Lit.int .u64 a0).wf = true) (w1 : (Lit.int .u64 a1).wf = true) (w2 : (Lit.int .u64 a2).wf = true) (w : World) :
    Calls Try.prog 8 #[.int .u64 a0, .int .u64 a1, .int .u64 a2] w fun e w' => e = .returned (.bool true) ∧ Below w.heap.size w w' := by
  obtain ⟨a, rfl, ha⟩ := u64_nat w0
  obtain ⟨b, rfl, hb⟩ := u64_nat w1
  obtain ⟨d, rfl, hd⟩ := u64_nat w2
  clear w0 w1 w2
  have c1 := muldiv_any a b d ha hb hd
  have c2 := muldiv_any b a d hb ha hd
  have c3 := muldiv_any a d d ha hd hd
  have e1 : mdv b a d = mdv a b d := by unfold mdv; rw [Nat.mul_comm]
  have e2 : mdo b a d = mdo a b d := by unfold mdo; rw [Nat.mul_comm]
  rw [e1, e2] at c2
  by_cases h0 : d = 0
  · subst h0
    have e3 := mdv_no (a := a) (b := 0) (d := 0) (by omega)
    have e4 := mdv_no (a := a) (b := b) (d := 0) (by omega)
    rw [e3.1, e3.2] at c3
    rw [e4.1, e4.2] at c1 c2
    have d1 : ∀ w : World, Calls Try.prog 22 #[.int .u64 (a : Int), .int .u64 (b : Int), .int .u64 0] w fun e w' => e = .returned (.tuple #[.int .u64 0, .bool false]) ∧ ∃ m, w' = w.drewN m := c1
    have d2 : ∀ w : World, Calls Try.prog 22 #[.int .u64 (b : Int), .int .u64 (a : Int), .int .u64 0] w fun e w' => e = .returned (.tuple #[.int .u64 0, .bool false]) ∧ ∃ m, w' = w.drewN m := c2
    have d3 : ∀ w : World, Calls Try.prog 22 #[.int .u64 (a : Int), .int .u64 0, .int .u64 0] w fun e w' => e = .returned (.tuple #[.int .u64 0, .bool false]) ∧ ∃ m, w' = w.drewN m := c3
    clear c1 c2 c3
    clear e1 e2 e3 e4
    go_enter Try.func8, Try.ntmps8
    go_wp2_with (first
      | (go_at_call 17; refine (awake1 _).mono ?_; rintro e w1 ⟨rfl, m1, rfl⟩)
      | (go_at_call 22; (with_reducible refine (d1 _).mono ?_); rintro e w1 ⟨rfl, m2, rfl⟩)
      | (go_at_call 22; (with_reducible refine (d2 _).mono ?_); rintro e w1 ⟨rfl, m3, rfl⟩)
      | (go_at_call 22; (with_reducible refine (d3 _).mono ?_); rintro e w1 ⟨rfl, m4, rfl⟩))
    go_ret
    exact ⟨rfl, below_drewN _ _⟩
  · have e5 := half_cancel a d (by omega)
    have e3 := mdv_yes (a := a) (b := d) (d := d) ⟨h0, by rw [e5]; exact ha⟩
    rw [e3.1, e3.2, e5] at c3
    have hp : 0 < (d : Int) := by omega
    have hp2 : ((d : Int) == 0) = false := by rw [beq_eq_false_iff_ne]; omega
    generalize mdv a b d = v at *
    generalize mdo a b d = o at *
    clear e1 e2 e3 e5
    cases o
    all_goals
      go_enter Try.func8, Try.ntmps8
      go_wp2_with (first
        | (go_at_call 17; refine (awake1 _).mono ?_; rintro e w1 ⟨rfl, m1, rfl⟩)
        | (go_at_call 22; (with_reducible refine (c1 _).mono ?_); rintro e w1 ⟨rfl, m2, rfl⟩)
        | (go_at_call 22; (with_reducible refine (c2 _).mono ?_); rintro e w1 ⟨rfl, m3, rfl⟩)
        | (go_at_call 22; (with_reducible refine (c3 _).mono ?_); rintro e w1 ⟨rfl, m4, rfl⟩))
      go_ret
      exact ⟨rfl, below_drewN _ _⟩

set_option maxRecDepth 100000 in
theorem RoundSqrt_core (a0 a1 : Int) (w0 : (Lit.int .u64 a0).wf = true) (w1 : (Lit.int .u32 a1).wf = true) (w : World) :
    Calls Try.prog 9 #[.int .u64 a0, .int .u32 a1] w fun e w' => e = .returned (.bool true) ∧ Below w.heap.size w w' := by
  obtain ⟨n, rfl, hn⟩ := u64_nat w0
  obtain ⟨k, rfl, hk⟩ := u32_nat w1
  clear w0 w1
  obtain ⟨s, hs⟩ := root_ex n
  have c1 := sqrt_any n s hs hn
  have sl := root_lt hs hn
  have es : ((s * s : Nat) : Int) = (s : Int) * (s : Int) := Int.natCast_mul _ _
  have es1 : (((s + 1) * (s + 1) : Nat) : Int) = ((s : Int) + 1) * ((s : Int) + 1) := by rw [Int.natCast_mul]; rfl
  have s1 : (s : Int) * (s : Int) ≤ (n : Int) := by have := hs.1; omega
  have s0 : (0 : Int) ≤ (s : Int) * (s : Int) := by omega
  have s2 : (n : Int) < ((s : Int) + 1) * ((s : Int) + 1) := by have := hs.2; omega
  have hkk : k * k ≤ 4294967295 * 4294967295 := Nat.mul_le_mul (by omega) (by omega)
  have ek : ((k * k : Nat) : Int) = (k : Int) * (k : Int) := Int.natCast_mul _ _
  have k0 : (0 : Int) ≤ (k : Int) * (k : Int) := by omega
  have k1 : (k : Int) * (k : Int) ≤ 18446744065119617025 := by omega
  have c2 := sqrt_any (k * k) k ⟨Nat.le_refl _, Nat.mul_lt_mul'' (by omega) (by omega)⟩ (by omega)
  rw [ek] at c2
  have q1 : decide ((4294967295 : Int) < (s : Int)) = false := by rw [decide_eq_false_iff_not]; omega
  have q3 : decide ((n : Int) < (s : Int) * (s : Int)) = false := by rw [decide_eq_false_iff_not]; omega
  have q4 : decide (((s : Int) + 1) * ((s : Int) + 1) ≤ (n : Int)) = false := by rw [decide_eq_false_iff_not]; omega
  have w1 : IntKind.u64.wrap ((s : Int) * (s : Int)) = (s : Int) * (s : Int) := IntWalk.u64_in _ (by omega)
  have w2 : s < 4294967295 → IntKind.u64.wrap (((s : Int) + 1) * ((s : Int) + 1)) = ((s : Int) + 1) * ((s : Int) + 1) := fun h => IntWalk.u64_in _ (by
    have : (s + 1) * (s + 1) ≤ 4294967295 * 4294967295 := Nat.mul_le_mul (by omega) (by omega)
    omega)
  clear es es1 hs s0 s1 s2
  by_cases h0 : k = 0
  · subst h0
    have d2 : ∀ w : World, Calls Try.prog 24 #[.int .u64 0] w fun e w' => e = .returned (.int .u64 0) ∧ w = w' := c2
    clear ek hkk k0 k1 c2
    by_cases hl : s < 4294967295
    · have q2 : decide ((s : Int) < 4294967295) = true := by rw [decide_eq_true_iff]; omega
      have w3 := w2 hl
      clear w2 hl
      go_enter Try.func9, Try.ntmps9
      go_wp2_with (first
        | (go_at_call 17; refine (awake1 _).mono ?_; rintro e w1 ⟨rfl, m1, rfl⟩)
        | (go_at_call 24; (with_reducible refine (c1 _).mono ?_); rintro e w1 ⟨rfl, rfl⟩)
        | (go_at_call 24; (with_reducible refine (d2 _).mono ?_); rintro e w1 ⟨rfl, rfl⟩))
      go_ret
      exact ⟨rfl, below_drewN _ _⟩
    · have q2 : decide ((s : Int) < 4294967295) = false := by rw [decide_eq_false_iff_not]; omega
      have q5 : ((s : Int) ≤ 4294967295) := by omega
      have q6 : (4294967295 : Int) ≤ (s : Int) := by omega
      clear w2 hl sl q4
      go_enter Try.func9, Try.ntmps9
      go_wp2_with (first
        | (go_at_call 17; refine (awake1 _).mono ?_; rintro e w1 ⟨rfl, m1, rfl⟩)
        | (go_at_call 24; (with_reducible refine (c1 _).mono ?_); rintro e w1 ⟨rfl, rfl⟩)
        | (go_at_call 24; (with_reducible refine (d2 _).mono ?_); rintro e w1 ⟨rfl, rfl⟩))
      go_ret
      exact ⟨rfl, below_drewN _ _⟩
  · have kp : 1 ≤ k := by omega
    have e1 : (k - 1 + 1) * (k - 1 + 1) = k * k := by rw [Nat.sub_add_cancel kp]
    have e2 : (k - 1) * (k - 1) ≤ k * k - 1 := by
      have : (k - 1) * (k - 1) ≤ (k - 1) * k := Nat.mul_le_mul_left _ (by omega)
      have : (k - 1) * k = k * k - k := by rw [Nat.sub_mul, Nat.one_mul]
      omega
    have hk1 : 1 ≤ k * k := Nat.mul_le_mul kp kp
    have d3 : ∀ w : World, Calls Try.prog 24 #[.int .u64 ((k : Int) * (k : Int) - 1)] w fun e w' => e = .returned (.int .u64 ((k : Int) - 1)) ∧ w = w' := fun w => by
      have c := sqrt_any (k * k - 1) (k - 1) ⟨e2, by rw [e1]; omega⟩ (by omega) w
      rw [(by omega : ((k * k - 1 : Nat) : Int) = (k : Int) * (k : Int) - 1), (by omega : ((k - 1 : Nat) : Int) = (k : Int) - 1)] at c
      exact c
    have kz : ((k : Int) == 0) = false := by rw [beq_eq_false_iff_ne]; omega
    have k2 : (1 : Int) ≤ (k : Int) * (k : Int) := by omega
    clear e1 e2 ek hkk hk1 k0
    by_cases hl : s < 4294967295
    · have q2 : decide ((s : Int) < 4294967295) = true := by rw [decide_eq_true_iff]; omega
      have w3 := w2 hl
      clear w2 hl
      go_enter Try.func9, Try.ntmps9
      go_wp2_with (first
        | (go_at_call 17; refine (awake1 _).mono ?_; rintro e w1 ⟨rfl, m1, rfl⟩)
        | (go_at_call 24; (with_reducible refine (c1 _).mono ?_); rintro e w1 ⟨rfl, rfl⟩)
        | (go_at_call 24; (with_reducible refine (c2 _).mono ?_); rintro e w1 ⟨rfl, rfl⟩)
        | (go_at_call 24; (with_reducible refine (d3 _).mono ?_); rintro e w1 ⟨rfl, rfl⟩))
      go_ret
      exact ⟨rfl, below_drewN _ _⟩
    · have q2 : decide ((s : Int) < 4294967295) = false := by rw [decide_eq_false_iff_not]; omega
      have q5 : ((s : Int) ≤ 4294967295) := by omega
      have q6 : (4294967295 : Int) ≤ (s : Int) := by omega
      clear w2 hl sl q4
      go_enter Try.func9, Try.ntmps9
      go_wp2_with (first
        | (go_at_call 17; refine (awake1 _).mono ?_; rintro e w1 ⟨rfl, m1, rfl⟩)
        | (go_at_call 24; (with_reducible refine (c1 _).mono ?_); rintro e w1 ⟨rfl, rfl⟩)
        | (go_at_call 24; (with_reducible refine (c2 _).mono ?_); rintro e w1 ⟨rfl, rfl⟩)
        | (go_at_call 24; (with_reducible refine (d3 _).mono ?_); rintro e w1 ⟨rfl, rfl⟩))
      go_ret
      exact ⟨rfl, below_drewN _ _⟩

theorem below_then {w a b : World} (h : Below w.heap.size w a) (k : Below a.heap.size a b) : Below w.heap.size w b := h.trans (k.mono h.size)
theorem below_of_drew {w w' : World} {m : Nat} (h : w' = w.drewN m) : Below w.heap.size w w' := by subst h; exact below_drewN _ _

theorem RoundMulDivAgrees_core (a0 a1 a2 a3 : Int) (w0 : (Lit.int .u64 a0).wf = true) (w1 : (Lit.int .u64 a1).wf = true) (w2 : (Lit.int .u64 a2).wf = true) (w3 : (Lit.int .i64 a3).wf = true) (w : World) :
    Calls Try.prog 7 #[.int .u64 a0, .int .u64 a1, .int .u64 a2, .int .i64 a3] w fun e w' => e = .returned (.bool true) ∧ Below w.heap.size w w' := by
  obtain ⟨a, rfl, ha⟩ := u64_nat w0
  obtain ⟨b, rfl, hb⟩ := u64_nat w1
  obtain ⟨d, rfl, hd⟩ := u64_nat w2
  clear w0 w1 w2
  obtain ⟨m, hm, hml⟩ : ∃ m : Nat, a3 % 64 = (m : Int) ∧ m < 64 := ⟨(a3 % 64).toNat, by omega, by omega⟩
  have cm : ∀ w : World, Calls Try.prog 16 #[.int .i64 a3, .int .i64 64] w fun r w' => r = .returned (.int .i64 (m : Int)) ∧ w = w' := fun w => by
    have c := mod_any a3 64 (by omega) (by omega) w
    rw [hm] at c
    exact c
  have c1 := muldiv_any a b d ha hb hd
  have c2 := ref_muldiv a b d ha hb hd
  generalize mdv a b d = v at *
  generalize mdo a b d = o at *
  clear hm w3
  go_enter Try.func7, Try.ntmps7
  go_upto_region 3 with (first
    | (go_at_call 22; (with_reducible refine (c1 _).mono ?_); rintro e w1 ⟨rfl, m1, rfl⟩)
    | (go_at_call 23; (with_reducible refine (c2 _).mono ?_); rintro e w1 ⟨rfl, hb1⟩))
  go_cut [13] (fun t wx => ∃ e : Nat, t = .int .u64 e ∧ e < 18446744073709551616 ∧ Below w.heap.size w wx)
  case first =>
    go_wp2_with (go_at_call 16; refine (cm _).mono ?_; rintro e w1 ⟨rfl, rfl⟩)
    go_meet
    refine ⟨(a / 2 ^ m + 1) % 18446744073709551616, ?_, Nat.mod_lt _ (by decide), below_then (below_drewN w _) hb1⟩
    congr 1
  case rest =>
    obtain ⟨e, rfl, hel, hb2⟩ := hcut
    have d1 := muldiv_any a b e ha hb hel
    have d2 := ref_muldiv a b e ha hb hel
    generalize mdv a b e = v2 at *
    generalize mdo a b e = o2 at *
    cases o
    all_goals cases o2
    all_goals
      go_wp2_with (first
        | (go_at_call 17; refine (awake1 _).mono ?_; rintro e w1 ⟨rfl, m1, rfl⟩)
        | (go_at_call 22; (with_reducible refine (d1 _).mono ?_); rintro e w1 ⟨rfl, m2, rfl⟩)
        | (go_at_call 23; (with_reducible refine (d2 _).mono ?_); rintro e w1 ⟨rfl, hb3⟩))
      go_ret
      refine ⟨rfl, ?_⟩
      exact below_then (below_then (below_then hb2 (below_drewN _ _)) hb3) (below_drewN _ _)
end Go.Proofs.Ytfeopnnobbcjjaa
