/-
  Layer 4 (unit) and its specification: what each call answers.
-/
import Derived.Test.YtljjffcjoohgfaaUc
namespace Go.Proofs.Ytljjffcjoohgfaa
open Go.RowKit PR
set_option linter.unusedVariables false

theorem a_f64bits : Answers 11 s_f64bits := by
  intro args v bs h hok
  unfold s_f64bits at h
  split at h <;> try (simp at h; done)
  rename_i x
  simp only [Option.some.injEq, Prod.mk.injEq] at h
  obtain ⟨rfl, rfl⟩ := h
  intro w
  exact Or.inl ⟨w, run_callFunc_extern Try.func11 (by kernel_rfl) (by kernel_rfl) (by kernel_rfl) (e := Extern.MathFloatBits.float64bits) (by kernel_rfl) _ w, Below.refl _ _⟩
theorem a_frombits : Answers 10 s_frombits := by
  intro args v bs h hok
  unfold s_frombits at h
  split at h <;> try (simp at h; done)
  rename_i x
  simp only [Option.some.injEq, Prod.mk.injEq] at h
  obtain ⟨rfl, rfl⟩ := h
  intro w
  exact Or.inl ⟨w, run_callFunc_extern Try.func10 (by kernel_rfl) (by kernel_rfl) (by kernel_rfl) (e := Extern.MathFloatBits.float64frombits) (by kernel_rfl) _ w, Below.refl _ _⟩
theorem a_isnan : Answers 19 s_isnan := by
  intro args v bs h hok
  unfold s_isnan at h
  split at h <;> try (simp at h; done)
  rename_i x
  simp only [Option.some.injEq, Prod.mk.injEq] at h
  obtain ⟨rfl, rfl⟩ := h
  refine does_of_eval (O := (orc [])) orc_nil mixed (noLoops) Try.func19 (by kernel_rfl) (by kernel_rfl) rfl ?_
  rw [isnan_vc]
  exact ⟨trivial, rfl⟩
theorem a_nan : Answers 25 s_nan := by
  intro args v bs h hok
  unfold s_nan at h
  split at h <;> try (simp at h; done)
  skip
  simp only [Option.some.injEq, Prod.mk.injEq] at h
  obtain ⟨rfl, rfl⟩ := h
  refine does_of_eval (O := o_bits) (orc_cons a_f64bits (orc_cons a_frombits orc_nil)) mixed (noLoops) Try.func25 (by kernel_rfl) (by kernel_rfl) rfl ?_
  rw [nan_vc]
  exact ⟨trivial, rfl⟩
theorem a_inf : Answers 15 s_inf := by
  intro args v bs h hok
  unfold s_inf at h
  split at h <;> try (simp at h; done)
  rename_i n
  simp only [Option.some.injEq, Prod.mk.injEq] at h
  obtain ⟨rfl, rfl⟩ := h
  refine does_of_eval (O := o_bits) (orc_cons a_f64bits (orc_cons a_frombits orc_nil)) mixed (noLoops) Try.func15 (by kernel_rfl) (by kernel_rfl) rfl ?_
  rw [inf_vc]
  rw [bcond_iff]
  unfold infB
  refine ⟨fun h => ⟨trivial, ?_⟩, fun h => ⟨trivial, ?_⟩⟩ <;> rw [h] <;> rfl
theorem a_copysign : Answers 16 s_copysign := by
  intro args v bs h hok
  unfold s_copysign at h
  split at h <;> try (simp at h; done)
  rename_i x y
  simp only [Option.some.injEq, Prod.mk.injEq] at h
  obtain ⟨rfl, rfl⟩ := h
  refine does_of_eval (O := o_bits) (orc_cons a_f64bits (orc_cons a_frombits orc_nil)) mixed (noLoops) Try.func16 (by kernel_rfl) (by kernel_rfl) rfl ?_
  rw [copysign_vc]
  obtain ⟨h1, h2, _⟩ := hok
  obtain rfl := Nat.eq_of_beq_eq_true h1
  obtain rfl := Nat.eq_of_beq_eq_true h2
  refine ⟨trivial, ?_⟩
  kernel_rfl

theorem bits_and_nat (a b : Nat) (ha : a < 18446744073709551616) (hb : b < 18446744073709551616) : iand .u64 (a : Int) (b : Int) = ((a &&& b : Nat) : Int) := by
  unfold iand bits
  have e1 : (BitVec.ofInt IntKind.u64.bits (a : Int)).toNat = a := by rw [BitVec.ofInt_natCast, BitVec.toNat_ofNat]; exact Nat.mod_eq_of_lt ha
  have e2 : (BitVec.ofInt IntKind.u64.bits (b : Int)).toNat = b := by rw [BitVec.ofInt_natCast, BitVec.toNat_ofNat]; exact Nat.mod_eq_of_lt hb
  simp only [BitVec.toNat_and, e1, e2]
  have := Nat.and_le_left (n := a) (m := b)
  rw [IntKind.wrap_u64]
  omega
theorem and52 (x : Nat) (h : x < 18446744073709551616) : iand .u64 (x : Int) 4503599627370495 = ((x % 4503599627370496 : Nat) : Int) := by
  rw [show (4503599627370495 : Int) = ((4503599627370495 : Nat) : Int) from rfl, bits_and_nat _ _ h (by omega)]
  exact congrArg _ (Nat.and_two_pow_sub_one_eq_mod x 52)
theorem or_comm' (a b : Int) : ior .u64 a b = ior .u64 b a := by
  unfold ior bits
  simp only [BitVec.or_comm]
theorem or52 (x : Nat) (h : x < 4503599627370496) : ior .u64 (x : Int) 4503599627370496 = ((4503599627370496 + x : Nat) : Int) := by
  rw [or_comm']
  exact or_add 4503599627370496 x 52 (by omega) h (by omega) (by omega)
theorem shr_nat (x n : Nat) (h : n ≤ 64) : ishr .u64 (x : Int) (n : Int) = ((x / 2 ^ n : Nat) : Int) := by
  unfold ishr
  rw [Int.toNat_natCast, show min n IntKind.u64.bits = n from Nat.min_eq_left h]
  rw [Int.fdiv_eq_ediv_of_nonneg _ (by exact Int.pow_nonneg (by decide))]
  rw [show (2 : Int) ^ n = ((2 ^ n : Nat) : Int) by simp]
  rfl
theorem shr_big (x : Nat) (n : Nat) (hx : x < 18446744073709551616) : ishr .u64 (x : Int) (n : Int) = ((x / 2 ^ n : Nat) : Int) := by
  by_cases h : n ≤ 64
  · exact shr_nat x n h
  · unfold ishr
    rw [Int.toNat_natCast, show min n IntKind.u64.bits = 64 from Nat.min_eq_right (show 64 ≤ n by omega)]
    rw [Int.fdiv_eq_ediv_of_nonneg _ (by decide), show (2 : Int) ^ 64 = 18446744073709551616 by decide]
    have h64 : (2 : Nat) ^ 64 ≤ 2 ^ n := Nat.pow_le_pow_right (by omega) (by omega)
    have e64 : (2 : Nat) ^ 64 = 18446744073709551616 := by decide
    have : x / 2 ^ n = 0 := Nat.div_eq_of_lt (by omega)
    rw [this]
    clear h64 e64 this
    omega

theorem a_parts : Answers 20 s_parts := by
  intro args v bs h hok
  unfold s_parts at h
  split at h <;> try (simp at h; done)
  rename_i x
  simp only [Option.some.injEq, Prod.mk.injEq] at h
  obtain ⟨rfl, rfl⟩ := h
  refine does_of_eval (O := o_bits) (orc_cons a_f64bits (orc_cons a_frombits orc_nil)) mixed (noLoops) Try.func20 (by kernel_rfl) (by kernel_rfl) rfl ?_
  rw [parts_vc]
  obtain ⟨h1, _⟩ := hok
  have h1 : x < 4607182418800017408 := of_decide_eq_true h1
  have e1 : ishr .u64 (b64 x) 52 = ((x / 4503599627370496 : Nat) : Int) := shr_nat x 52 (by omega)
  have e2 : iand .u64 (b64 x) 4503599627370495 = ((x % 4503599627370496 : Nat) : Int) := and52 x (by omega)
  rw [e1, e2, or52 _ (by omega)]
  rw [bcond_iff]
  simp only [ieq, beq_iff_eq, beq_eq_false_iff_ne, ne_eq, true_and]
  unfold ptS ptD ptE
  refine ⟨fun h => ?_, fun h => ?_⟩
  · have : x < 4503599627370496 := by omega
    rw [if_pos this, if_pos this, show x % 4503599627370496 = x by omega]
    rfl
  · have : ¬ x < 4503599627370496 := by omega
    rw [if_neg this, if_neg this]
    have : isub .u64 1022 ((x / 4503599627370496 : Nat) : Int) = 1022 - ((x / 4503599627370496 : Nat) : Int) := by
      unfold isub; rw [IntKind.wrap_u64]; omega
    rw [this]

theorem pt_facts {x : Nat} (h : x < 4607182418800017408) : ∃ s e : Nat, ptS x = s ∧ ptE x = e ∧ s < 9007199254740992 ∧ 1 ≤ e ∧ e ≤ 1022 ∧ rnV x = s * 2 ^ (e - 1) := by
  unfold ptS ptE rnV
  by_cases h1 : x < 4503599627370496
  · simp only [h1, if_true]
    exact ⟨x, 1, rfl, rfl, by omega, by omega, by omega, by simp⟩
  · simp only [h1, if_false]
    exact ⟨_, _, rfl, rfl, by omega, by omega, by omega, rfl⟩

theorem half_floor (y : Nat) (k : Nat) : (y / 2 ^ k + 1) / 2 = (y + 2 ^ k) / 2 ^ (k + 1) := by
  rw [Nat.pow_succ, ← Nat.div_div_eq_div_mul, Nat.add_div_right _ (Nat.two_pow_pos k)]

/-- the result of FromFloat by the parts of the number -/
theorem ffC_parts {x m : Nat} {s e : Nat} (he1 : 1 ≤ e) (he2 : e ≤ 1022) (hr : rnV x = s * 2 ^ (e - 1)) : ffC x (m : Int) = (((s * m + 2 ^ (1074 - e)) / 2 ^ (1074 - e + 1) : Nat) : Int) := by
  unfold ffC
  have a1 : (2 * (rnV x : Int) * m + 2 ^ 1074) = (((s * m + 2 ^ (1074 - e)) * 2 ^ e : Nat) : Int) := by
    have b1 : ((2 ^ 1074 : Nat) : Int) = 2 ^ 1074 := p1074n
    rw [← b1, hr]
    have b2 : (2 : Nat) ^ 1074 = 2 ^ (1074 - e) * 2 ^ e := by rw [← Nat.pow_add, show 1074 - e + e = 1074 by omega]
    have b3 : (2 : Nat) ^ e = 2 * 2 ^ (e - 1) := by rw [← Nat.pow_succ', show (e - 1).succ = e by omega]
    rw [b2]
    rw [Nat.add_mul]
    have b4 : s * m * 2 ^ e = 2 * (s * 2 ^ (e - 1)) * m := by
      rw [b3]; simp only [Nat.mul_assoc, Nat.mul_comm, Nat.mul_left_comm]
    rw [b4]
    simp only [Int.natCast_add, Int.natCast_mul]
    rfl
  have a2 : ((2 : Int) ^ 1075) = ((2 ^ (1074 - e + 1) * 2 ^ e : Nat) : Int) := by
    rw [← Nat.pow_add, show 1074 - e + 1 + e = 1075 by omega]
    decide +kernel
  rw [a1, a2, ← Int.natCast_ediv, Nat.mul_div_mul_right _ _ (Nat.two_pow_pos e)]

theorem ff_mid {x : Nat} (hx : inF x = true) (h1 : fne .f64 x x = false) (h2 : fle .f64 x 0 = false) (h3 : fge .f64 x 4607182418800017408 = false) : x < 4607182418800017408 := by
  have hx : x < 18446744073709551616 := of_decide_eq_true hx
  have hn : ¬ fNan x := fun h => by rw [(fne_spec x).2 h] at h1; simp at h1
  have a2 : ¬ fKey x ≤ 0 := fun h => by rw [(fle_spec x 0 hn nan_zero).2 h] at h2; simp at h2
  have a3 : ¬ 4607182418800017408 ≤ fKey x := fun h => by rw [(fge_spec x _ hn nan_one).2 h] at h3; simp at h3
  have := key_pos hx (by omega)
  omega
theorem conv_u64 {m : Int} (h : in16 m = true) : iconv .u64 m = m := by
  have := of_decide_eq_true h
  unfold iconv; rw [IntKind.wrap_u64]; omega
theorem in16_nat {m : Int} (h : in16 m = true) : ∃ n : Nat, m = n ∧ n < 65536 := by
  have := of_decide_eq_true h
  exact ⟨m.toNat, by omega, by omega⟩

theorem a_from : Answers 12 s_from := by
  intro args v bs h hok
  unfold s_from at h
  split at h <;> try (simp at h; done)
  rename_i x m
  simp only [Option.some.injEq, Prod.mk.injEq] at h
  obtain ⟨rfl, rfl⟩ := h
  refine does_of_eval (O := o_from) (orc_cons a_isnan (orc_cons a_parts (orc_cons a_mul (orc_cons a_divmod orc_nil)))) mixed (noLoops) Try.func12 (by kernel_rfl) (by kernel_rfl) rfl ?_
  rw [from_vc]
  obtain ⟨hx, hm, _⟩ := hok
  obtain ⟨m, rfl, hm'⟩ := in16_nat hm
  rw [conv_u64 hm]
  simp only [bcond_iff, true_and]
  unfold ffV ffOk
  refine ⟨fun h1 => by rw [h1]; rfl, fun h1 => ⟨fun h2 => by rw [h1, h2]; rfl, fun h2 => ⟨fun h3 => by rw [h1, h2, h3]; rfl, fun h3 => ?_⟩⟩⟩
  have hlt := ff_mid hx h1 h2 h3
  rw [h1, h2, h3]
  obtain ⟨s, e, hs, he, s1, e1, e2, hr⟩ := pt_facts hlt
  have hd : ptD x = ((1022 - e : Nat) : Int) := by unfold ptD; rw [he]; omega
  rw [hs, hd]
  have iS : inU (s : Int) = true := inU_iff.2 (by omega)
  have iM : inU (m : Int) = true := inU_iff.2 (by omega)
  obtain ⟨m1, m2, m3⟩ := wm_spec iS iM
  have hp : s * m < 590295810358705651712 := by
    have := Nat.mul_le_mul (by omega : s ≤ 9007199254740991) (by omega : m ≤ 65535)
    omega
  have hq : wqL (wmH (s : Int) m) (wmL (s : Int) m) 4503599627370496 = ((s * m / 4503599627370496 : Nat) : Int) := by
    unfold wqL lo64
    rw [m3]
    have : (s : Int) * m = ((s * m : Nat) : Int) := by simp
    rw [this]
    generalize s * m = z at *
    omega
  rw [hq]
  have hz : s * m / 4503599627370496 < 18446744073709551616 := by omega
  rw [shr_big _ _ hz, Nat.div_div_eq_div_mul, show (4503599627370496 : Nat) = 2 ^ 52 from rfl, ← Nat.pow_add, show 52 + (1022 - e) = 1074 - e by omega]
  refine ⟨⟨by simp [ige], m1, m2, rfl, iS, iM, decide_eq_true hlt, trivial⟩, ?_⟩
  have hf := ffC_parts (m := m) e1 e2 hr
  rw [← half_floor] at hf
  have hy : s * m / 2 ^ (1074 - e) ≤ 131071 := by
    have c1 : s * m / 2 ^ (1074 - e) ≤ s * m / 2 ^ 52 := Nat.div_le_div_left (Nat.pow_le_pow_right (by omega) (by omega)) (Nat.two_pow_pos _)
    have c2 : s * m / 2 ^ 52 < 131072 := by
      rw [show (2 : Nat) ^ 52 = 4503599627370496 from rfl]
      omega
    omega
  have hw : iconv .u16 (iquo .u64 (iadd .u64 ((s * m / 2 ^ (1074 - e) : Nat) : Int) 1) 2) = (((s * m / 2 ^ (1074 - e) + 1) / 2 : Nat) : Int) := by
    have hl := ffC_le (x := x) (m := (m : Int)) (by omega) hlt
    rw [hf] at hl
    clear hf hr hz hq hd
    generalize s * m / 2 ^ (1074 - e) = z at *
    unfold iconv iquo iadd
    rw [show IntKind.u64.wrap ((z : Int) + 1) = ((z + 1 : Nat) : Int) by rw [IntKind.wrap_u64]; omega, Int.tdiv_eq_ediv_of_nonneg (by omega),
      show IntKind.u64.wrap (((z + 1 : Nat) : Int) / 2) = (((z + 1) / 2 : Nat) : Int) by rw [IntKind.wrap_u64]; omega]
    rw [IntKind.wrap_u16]
    omega
  rw [hw]
  simp only [cond_false, bnot, Bool.not_false]
  rw [hf]

theorem a_tofloat : Answers 17 s_tofloat := by
  intro args v bs h hok
  unfold s_tofloat at h
  split at h <;> try (simp at h; done)
  rename_i v m
  simp only [Option.some.injEq, Prod.mk.injEq] at h
  obtain ⟨rfl, rfl⟩ := h
  refine does_of_eval (O := (orc [])) orc_nil mixed (noLoops) Try.func17 (by kernel_rfl) (by kernel_rfl) rfl ?_
  rw [tofloat_vc]
  obtain ⟨hv, hm, _⟩ := hok
  have m0 := of_decide_eq_true hm
  simp only [bcond_iff, ieq, igt, beq_iff_eq, beq_eq_false_iff_ne, ne_eq, decide_eq_true_eq, decide_eq_false_iff_not]
  unfold tfV tfOk
  refine ⟨fun h => ⟨trivial, ?_⟩, fun h => ⟨fun h2 => ⟨trivial, ?_⟩, fun h2 => ⟨⟨quo16_ok hv hm h, trivial⟩, ?_⟩⟩⟩
  · rw [decide_eq_false (by omega)]; rfl
  · rw [decide_eq_false (by omega)]; rfl
  · rw [decide_eq_true (by omega)]; rfl
theorem a_rtofloat : Answers 18 s_tofloat := by
  intro args v bs h hok
  unfold s_tofloat at h
  split at h <;> try (simp at h; done)
  rename_i v m
  simp only [Option.some.injEq, Prod.mk.injEq] at h
  obtain ⟨rfl, rfl⟩ := h
  refine does_of_eval (O := (orc [])) orc_nil mixed (noLoops) Try.func18 (by kernel_rfl) (by kernel_rfl) rfl ?_
  rw [rtofloat_vc]
  obtain ⟨hv, hm, _⟩ := hok
  have m0 := of_decide_eq_true hm
  simp only [bcond_iff, ieq, igt, beq_iff_eq, beq_eq_false_iff_ne, ne_eq, decide_eq_true_eq, decide_eq_false_iff_not]
  unfold tfV tfOk
  refine ⟨fun h => ⟨trivial, ?_⟩, fun h => ⟨fun h2 => ⟨trivial, ?_⟩, fun h2 => ⟨⟨quo16_ok hv hm h, trivial⟩, ?_⟩⟩⟩
  · rw [decide_eq_false (by omega)]; rfl
  · rw [decide_eq_false (by omega)]; rfl
  · rw [decide_eq_true (by omega)]; rfl
theorem a_gmax : Answers 8 s_gmax := by
  intro args v bs h hok
  unfold s_gmax at h
  split at h <;> try (simp at h; done)
  rename_i n
  simp only [Option.some.injEq, Prod.mk.injEq] at h
  obtain ⟨rfl, rfl⟩ := h
  refine does_of_eval (O := o_gmax) (orc_cons a_mod orc_nil) mixed (noLoops) Try.func8 (by kernel_rfl) (by kernel_rfl) rfl ?_
  rw [gmax_vc]
  simp only [bcond_iff, ieq, gmod, beq_iff_eq, beq_eq_false_iff_ne, ne_eq, true_and]
  unfold gxMax
  refine ⟨fun h => by rw [if_pos h], fun h => by rw [if_neg h]⟩

theorem pow_half (i : Nat) (h : i < 100) : inU (hi64 (2 ^ i)) = true ∧ inU (lo64 (2 ^ i)) = true ∧ w2 (hi64 (2 ^ i)) (lo64 (2 ^ i)) = 2 ^ i ∧ (2 : Int) ^ i ≤ 2 ^ 99 ∧ (0 : Int) < 2 ^ i := by
  have p1 : (2 : Int) ^ i = ((2 ^ i : Nat) : Int) := by simp
  have p2 : (2 : Nat) ^ i ≤ 2 ^ 99 := Nat.pow_le_pow_right (by omega) (by omega)
  have p3 := Nat.two_pow_pos i
  have e : (2 : Nat) ^ 99 = 633825300114114700748351602688 := by decide
  have e' : (2 : Int) ^ 99 = 633825300114114700748351602688 := by decide
  rw [p1, e']
  rw [e] at p2
  obtain ⟨a, b, c⟩ := hilo_range ((2 ^ i : Nat) : Int) (by omega) (by omega)
  exact ⟨a, b, c, by omega, by omega⟩

theorem ffC_zero {x m s e : Nat} (hm : m < 65536) (hs : s < 9007199254740992) (he1 : 1 ≤ e) (he2 : e ≤ 975) (hr : rnV x = s * 2 ^ (e - 1)) : ffC x (m : Int) = 0 := by
  rw [ffC_parts he1 (by omega) hr]
  have h1 := Nat.mul_le_mul (by omega : s ≤ 9007199254740991) (by omega : m ≤ 65535)
  have h2 : (2 : Nat) ^ 99 ≤ 2 ^ (1074 - e) := Nat.pow_le_pow_right (by omega) (by omega)
  have e99 : (2 : Nat) ^ 99 = 633825300114114700748351602688 := by decide
  rw [Nat.pow_succ]
  rw [e99] at h2
  clear hr e99
  generalize 2 ^ (1074 - e) = p at *
  generalize s * m = z at *
  rw [Nat.div_eq_of_lt (by omega)]
  rfl

theorem hi_half {n : Int} (h : 0 ≤ n) (k : n < 340282366920938463463374607431768211456) : ishr .u64 (hi64 n) 1 = hi64 (n / 2) ∧ ior .u64 (ishr .u64 (lo64 n) 1) (ishl .u64 (hi64 n) 63) = lo64 (n / 2) := by
  obtain ⟨n, rfl⟩ : ∃ a : Nat, n = a := ⟨n.toNat, by omega⟩
  have a1 : hi64 (n : Int) = ((n / 18446744073709551616 : Nat) : Int) := by unfold hi64; omega
  have a2 : lo64 (n : Int) = ((n % 18446744073709551616 : Nat) : Int) := by unfold lo64; omega
  have a3 : hi64 ((n : Int) / 2) = ((n / 2 / 18446744073709551616 : Nat) : Int) := by unfold hi64; omega
  have a4 : lo64 ((n : Int) / 2) = ((n / 2 % 18446744073709551616 : Nat) : Int) := by unfold lo64; omega
  rw [a1, a2, a3, a4]
  have s1 := shr_nat (n / 18446744073709551616) 1 (by omega)
  have s2 := shr_nat (n % 18446744073709551616) 1 (by omega)
  have s3 : ishl .u64 ((n / 18446744073709551616 : Nat) : Int) 63 = ((n / 18446744073709551616 % 2 * 9223372036854775808 : Nat) : Int) := by
    unfold ishl
    rw [IntKind.wrap_u64, show (2 : Int) ^ (min (63 : Int).toNat IntKind.u64.bits) = 9223372036854775808 from rfl]
    omega
  rw [show ishr .u64 ((n / 18446744073709551616 : Nat) : Int) 1 = _ from s1, show ishr .u64 ((n % 18446744073709551616 : Nat) : Int) 1 = _ from s2, s3, or_comm']
  refine ⟨by omega, ?_⟩
  unfold ior
  rw [or_add _ _ 63 (by omega) (by omega) (by omega) (by omega)]
  omega

theorem conv16_lo {z : Int} (h0 : 0 ≤ z) (h1 : z < 65536) : iconv .u16 (lo64 z) = z := by
  unfold iconv lo64; rw [IntKind.wrap_u16]; omega

theorem rf_end (z k : Nat) : (((2 * z : Nat) : Int) + 2 ^ (k + 1)) / 2 ^ (k + 1 + 1) = (((z + 2 ^ k) / 2 ^ (k + 1) : Nat) : Int) := by
  have p1 : (2 : Int) ^ (k + 1) = ((2 ^ (k + 1) : Nat) : Int) := by simp
  have p2 : (2 : Int) ^ (k + 1 + 1) = ((2 ^ (k + 1 + 1) : Nat) : Int) := by simp
  have p3 : (2 : Nat) ^ (k + 1) = 2 * 2 ^ k := Nat.pow_succ'
  have p4 : (2 : Nat) ^ (k + 1 + 1) = 2 * 2 ^ (k + 1) := Nat.pow_succ'
  rw [p1, p2, ← Int.natCast_add, ← Int.natCast_ediv, p4, Nat.mul_comm 2 (2 ^ (k + 1)), ← Nat.div_div_eq_div_mul]
  rw [Nat.div_div_eq_div_mul, Nat.mul_comm (2 ^ (k + 1)) 2, p3, ← Nat.mul_add, Nat.mul_div_mul_left _ _ (by omega)]

theorem rfN_step (x : Nat) (m : Int) (n : Nat) : rfN x m ((n : Int) + 1) = rfN x m n / 2 := by
  unfold rfN rfP
  rw [show ((n : Int) + 1).toNat = n + 1 by omega, Int.toNat_natCast, Int.pow_succ, ← Int.ediv_ediv_of_nonneg (Int.pow_nonneg (by decide))]

theorem a_rfrom : Answers 13 s_from := by
  intro args v bs h hok
  unfold s_from at h
  split at h <;> try (simp at h; done)
  rename_i x m
  simp only [Option.some.injEq, Prod.mk.injEq] at h
  obtain ⟨rfl, rfl⟩ := h
  refine does_of_eval (O := o_rfrom) (orc_cons a_f64bits (orc_cons a_rmul (orc_cons a_radd orc_nil))) mixed ((fun n => bif Nat.beq n 19 then some (.inv (o_inv_rf1 x m)) else bif Nat.beq n 24 then some (.inv (o_inv_rf2 x m)) else none)) Try.func13 (by kernel_rfl) (by kernel_rfl) rfl ?_
  rw [rfrom_vc]
  obtain ⟨hx, hm, _⟩ := hok
  obtain ⟨m, rfl, hm'⟩ := in16_nat hm
  simp only [bcond_iff, true_and]
  unfold ffV ffOk
  refine ⟨fun h1 => by rw [h1]; rfl, fun h1 => ⟨fun h2 => by rw [h1, h2]; rfl, fun h2 => ⟨fun h3 => by rw [h1, h2, h3]; rfl, fun h3 => ?_⟩⟩⟩
  have hlt := ff_mid hx h1 h2 h3
  rw [h1, h2, h3]
  obtain ⟨s, e, hs, he, s1, e1, e2, hr⟩ := pt_facts hlt
  have b1 : ishr .u64 (b64 x) 52 = ((x / 4503599627370496 : Nat) : Int) := shr_nat x 52 (by omega)
  have b2 : iand .u64 (b64 x) 4503599627370495 = ((x % 4503599627370496 : Nat) : Int) := and52 x (by omega)
  have b3 : iconv .i64 ((x / 4503599627370496 : Nat) : Int) = ((x / 4503599627370496 : Nat) : Int) := by
    unfold iconv; rw [IntWalk.i64_in _ (by omega)]
  rw [b1, b2, or52 _ (by omega), b3, conv_u64 hm]
  simp only [cond_false, bnot, Bool.not_false]
  refine ⟨fun hp => ⟨fun hbig => ?_, fun hsm => ?_⟩, fun hp => ⟨fun _ => ?_, fun hc => by simp at hc⟩⟩
  · have hp := of_decide_eq_true hp
    have e0 : e = x / 4503599627370496 := by rw [← he]; unfold ptE; rw [if_neg (by omega)]
    have hbig := of_decide_eq_true hbig
    have : isub .i64 1075 ((x / 4503599627370496 : Nat) : Int) = 1075 - ((x / 4503599627370496 : Nat) : Int) := by unfold isub; rw [IntWalk.i64_in _ (by omega)]
    rw [ffC_zero hm' s1 e1 (by omega) hr]
  · have hp := of_decide_eq_true hp
    have hsm := of_decide_eq_false hsm
    have e0 : e = x / 4503599627370496 := by rw [← he]; unfold ptE; rw [if_neg (by omega)]
    have s0 : ((4503599627370496 + x % 4503599627370496 : Nat) : Int) = s := by rw [← hs]; unfold ptS; rw [if_neg (by omega)]
    have hsub : isub .i64 1075 ((x / 4503599627370496 : Nat) : Int) = 1075 - ((x / 4503599627370496 : Nat) : Int) := by unfold isub; rw [IntWalk.i64_in _ (by omega)]
    rw [hsub] at hsm
    rw [hsub, s0]
    obtain ⟨k, hk, hk2⟩ : ∃ k : Nat, rfS x = k ∧ k = 1075 - e := ⟨1075 - e, by unfold rfS; rw [he]; omega, rfl⟩
    have hM : rfM x m = ((2 * (s * m) : Nat) : Int) := by unfold rfM; rw [hs, Int.mul_assoc]; simp
    have i2 : imul .u64 2 (s : Int) = ((2 * s : Nat) : Int) := by unfold imul; rw [IntKind.wrap_u64]; omega
    have hmul : ((2 * s : Nat) : Int) * (m : Int) = ((2 * (s * m) : Nat) : Int) := by rw [← Int.natCast_mul, Nat.mul_assoc]
    have hsmul : s * m < 590295810358705651712 := by
      have := Nat.mul_le_mul (by omega : s ≤ 9007199254740991) (by omega : m ≤ 65535)
      omega
    rw [i2]
    refine ⟨⟨0, ⟨by omega, by omega, by omega⟩, ?_⟩, fun i hi => ?_⟩
    · have hk' : (1075 : Int) - ((x / 4503599627370496 : Nat) : Int) = rfS x := by rw [hk]; omega
      have eW : some [Value.int .u64 (wmH ((2 * s : Nat) : Int) m), Value.int .u64 (wmL ((2 * s : Nat) : Int) m)] = some [Value.int .u64 (hi64 (rfM x m)), Value.int .u64 (lo64 (rfM x m))] := by rw [hM, ← hmul]; rfl
      have eP : some [Value.int .u64 0, Value.int .u64 1] = some [Value.int .u64 (hi64 (rfP 0)), Value.int .u64 (lo64 (rfP 0))] := rfl
      simp only [hk', eW, eP, inU_iff.2 (show 0 ≤ ((2 * s : Nat) : Int) ∧ _ by omega), inU_iff.2 (show 0 ≤ (m : Int) ∧ _ by omega), and_self]
    obtain ⟨g1, g2, g3⟩ := hi
    obtain ⟨n, rfl⟩ : ∃ n : Nat, i = n := ⟨i.toNat, by omega⟩
    rw [hk] at g2 g3
    have hP : rfP (n : Int) = 2 ^ n := by unfold rfP; rw [Int.toNat_natCast]
    obtain ⟨q1, q2, q3, q4, q5⟩ := pow_half n (by omega)
    have e99 : (2 : Int) ^ 99 = 633825300114114700748351602688 := by decide
    rw [e99] at q4
    refine ⟨fun hlt' => ?_, fun hge => ?_⟩
    · have hlt' := of_decide_eq_true hlt'
      rw [hk] at hlt'
      refine ⟨(n : Int) + 1, ⟨by omega, by omega, by omega⟩, ?_, ?_⟩
      · have e1 : iadd .i64 (n : Int) 1 = (n : Int) + 1 := by unfold iadd; rw [IntWalk.i64_in _ (by omega)]
        have hP' : rfP ((n : Int) + 1) = 2 ^ n + 2 ^ n := by
          unfold rfP; rw [show ((n : Int) + 1).toNat = n + 1 by omega, Int.pow_succ]; omega
        have ok : waOk (hi64 (2 ^ n)) (lo64 (2 ^ n)) (hi64 (2 ^ n)) (lo64 (2 ^ n)) = true := by
          unfold waOk; rw [q3]; exact decide_eq_true (by omega)
        have eW : some [Value.int .u64 (waH (hi64 (2 ^ n)) (lo64 (2 ^ n)) (hi64 (2 ^ n)) (lo64 (2 ^ n))), Value.int .u64 (waL (hi64 (2 ^ n)) (lo64 (2 ^ n)) (hi64 (2 ^ n)) (lo64 (2 ^ n)))] = some [Value.int .u64 (hi64 (rfP ((n : Int) + 1))), Value.int .u64 (lo64 (rfP ((n : Int) + 1)))] := by
          unfold waH waL
          rw [ok, q3, hP']
          rfl
        simp only [hP, q1, q2, e1, eW, and_self]
      · show rfMu x ((n : Int) + 1) + 1 ≤ rfMu x n
        unfold rfMu
        rw [hk]; omega
    · have hge := of_decide_eq_false hge
      rw [hk] at hge
      obtain rfl : n = k := by omega
      have hMi := hilo_range (((2 * (s * m) : Nat) : Int)) (by omega) (by omega)
      have hN0 : rfN x m 0 = ((2 * (s * m) : Nat) : Int) + 2 ^ n := by
        unfold rfN
        rw [hM, hk, hP, show rfP 0 = 1 from rfl, Int.ediv_one]
      refine ⟨⟨0, ⟨by omega, by omega, by omega⟩, ?_⟩, fun i hi => ?_⟩
      · have ok : waOk (hi64 ((2 * (s * m) : Nat) : Int)) (lo64 ((2 * (s * m) : Nat) : Int)) (hi64 (2 ^ n)) (lo64 (2 ^ n)) = true := by
          unfold waOk; rw [q3, hMi.2.2]; exact decide_eq_true (by omega)
        have eW : some [Value.int .u64 (waH (hi64 ((2 * (s * m) : Nat) : Int)) (lo64 ((2 * (s * m) : Nat) : Int)) (hi64 (2 ^ n)) (lo64 (2 ^ n))), Value.int .u64 (waL (hi64 ((2 * (s * m) : Nat) : Int)) (lo64 ((2 * (s * m) : Nat) : Int)) (hi64 (2 ^ n)) (lo64 (2 ^ n)))] = some [Value.int .u64 (hi64 (rfN x m 0)), Value.int .u64 (lo64 (rfN x m 0))] := by
          unfold waH waL
          rw [ok, q3, hMi.2.2, hN0]
          rfl
        simp only [hP, hM, q1, q2, hMi.1, hMi.2.1, eW, and_self]
      · obtain ⟨f1, f2, f3⟩ := hi
        obtain ⟨j, rfl⟩ : ∃ j : Nat, i = j := ⟨i.toNat, by omega⟩
        rw [hk] at f2 f3
        have hNj : 0 ≤ rfN x m j ∧ rfN x m j < 340282366920938463463374607431768211456 := by
          have a0 : 0 ≤ ((2 * (s * m) : Nat) : Int) + 2 ^ n := by omega
          unfold rfN
          rw [hM, hk, hP]
          unfold rfP
          rw [Int.toNat_natCast]
          have p0 : (0 : Int) < 2 ^ j := Int.pow_pos (by decide)
          refine ⟨Int.ediv_nonneg a0 (by omega), ?_⟩
          have := Int.ediv_le_self ((2 : Int) ^ j) a0
          omega
        refine ⟨fun hle => ?_, fun hgt => ?_⟩
        · have hle := of_decide_eq_true hle
          rw [hk] at hle
          obtain ⟨c1, c2⟩ := hi_half hNj.1 hNj.2
          refine ⟨(j : Int) + 1, ⟨by omega, by omega, by omega⟩, ?_, ?_⟩
          · have e1 : iadd .i64 (j : Int) 1 = (j : Int) + 1 := by unfold iadd; rw [IntWalk.i64_in _ (by omega)]
            simp only [e1, rfN_step, c1, c2, and_self]
          · show rfMu x ((j : Int) + 1) + 1 ≤ rfMu x j
            unfold rfMu
            rw [hk]; omega
        · have hgt := of_decide_eq_false hgt
          rw [hk] at hgt
          obtain rfl : j = n + 1 := by omega
          have hv := ffC_parts (m := m) e1 e2 hr
          have hl := ffC_le (x := x) (m := (m : Int)) (by omega) hlt
          have hend : rfN x m ((n + 1 : Nat) : Int) = ffC x (m : Int) := by
            rw [hv]
            unfold rfN
            rw [hM, hk, hP]
            unfold rfP
            rw [Int.toNat_natCast, show n = 1074 - e + 1 by omega]
            exact rf_end (s * m) (1074 - e)
          rw [hend]
          have h0 := hNj.1
          rw [hend] at h0
          rw [conv16_lo h0 (by clear hend hv hM hmul hN0 hNj hMi q1 q2 q3 q4 q5 e99 hP i2 hr; omega)]
  · have hp := of_decide_eq_false hp
    have e0 : e = 1 := by rw [← he]; unfold ptE; rw [if_pos (by omega)]
    rw [ffC_zero hm' s1 e1 (by omega) hr]
end Go.Proofs.Ytljjffcjoohgfaa
