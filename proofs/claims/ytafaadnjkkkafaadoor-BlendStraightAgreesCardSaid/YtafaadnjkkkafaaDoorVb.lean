/-
  Layer 5 (sample), its specification and the generator's pixels: what each call answers.
-/
import Derived.Test.YtafaadnjkkkafaaDoorVa
namespace Go.Proofs.YtafaadnjkkkafaaDoor
open Go.RowKit PR
set_option linter.unusedVariables false

theorem in16_iff {a : Int} : in16 a = true ↔ 0 ≤ a ∧ a < 65536 := by simp [in16]
theorem u16_id {a : Int} (h : 0 ≤ a) (k : a < 65536) : iconv .u16 a = a := by unfold iconv; rw [IntKind.wrap_u16]; omega
theorem u64_id {a : Int} (h : 0 ≤ a) (k : a < 18446744073709551616) : iconv .u64 a = a := by unfold iconv; rw [IntKind.wrap_u64]; omega
theorem i64_id {a : Int} (h : 0 ≤ a) (k : a < 9223372036854775808) : iconv .i64 a = a := by unfold iconv; exact IntWalk.i64_in _ (by omega)
theorem inU_mul (a b : Int) : inU (imul .u64 a b) = true := by rw [inU_iff]; unfold imul; rw [IntKind.wrap_u64]; omega
theorem inU_conv (a : Int) : inU (iconv .u64 a) = true := by rw [inU_iff]; unfold iconv; rw [IntKind.wrap_u64]; omega
theorem inU_lit {a : Int} (h : 0 ≤ a) (k : a < 18446744073709551616) : inU a = true := by rw [inU_iff]; exact ⟨h, k⟩
theorem in16_conv (a : Int) : in16 (iconv .u16 a) = true := by rw [in16_iff]; unfold iconv; rw [IntKind.wrap_u16]; omega
theorem mul16 {a b : Int} (h1 : 0 ≤ a) (h2 : a < 65536) (h3 : 0 ≤ b) (h4 : b < 65536) : 0 ≤ a * b ∧ a * b ≤ 4294836225 := by
  have := Int.mul_le_mul (by omega : a ≤ 65535) (by omega : b ≤ 65535) h3 (by decide)
  exact ⟨Int.mul_nonneg h1 h3, by omega⟩
theorem imul16 {a b : Int} (h1 : 0 ≤ a) (h2 : a < 65536) (h3 : 0 ≤ b) (h4 : b < 65536) : imul .u64 (iconv .u64 a) (iconv .u64 b) = a * b := by
  have := mul16 h1 h2 h3 h4
  rw [u64_id h1 (by omega), u64_id h3 (by omega)]
  unfold imul; rw [IntKind.wrap_u64]; omega

/-- the nearest integer, in closed form -/
theorem half_div (n d : Nat) (h : 0 < d) : half n d = (2 * n + d) / (2 * d) := by
  have e := Nat.div_add_mod n d
  have l := Nat.mod_lt n h
  symm
  unfold half
  rw [if_neg (by omega)]
  generalize n / d = q at *
  generalize n % d = r at *
  have a1 : q * (2 * d) = 2 * (d * q) := by rw [Nat.mul_comm d q, ← Nat.mul_assoc, Nat.mul_comm q 2, Nat.mul_assoc]
  split
  · apply Nat.div_eq_of_lt_le
    · simp only [Nat.add_mul, a1]; omega
    · simp only [Nat.add_mul, a1]; omega
  · apply Nat.div_eq_of_lt_le
    · rw [a1]; omega
    · show 2 * n + d < (q + 1) * (2 * d)
      rw [Nat.add_mul, a1]; omega
theorem hlf_div {n d : Int} (hn : 0 ≤ n) (hd : 0 < d) : hlf n d = (2 * n + d) / (2 * d) := by
  unfold hlf
  rw [half_div _ _ (by omega)]
  simp only [Int.natCast_ediv, Int.natCast_add, Int.natCast_mul]
  rw [Int.toNat_of_nonneg hn, Int.toNat_of_nonneg (by omega)]
  rfl
theorem hlf_zero (n : Int) : hlf n 0 = 0 := by unfold hlf half; simp

theorem smax_eq (b : Int) : (b = 8 ∧ smV b = 255 ∧ smOk b = true) ∨ (b = 16 ∧ smV b = 65535 ∧ smOk b = true) ∨ (b ≠ 8 ∧ b ≠ 16 ∧ smV b = 0 ∧ smOk b = false) := by
  by_cases h : b = 8
  · subst h; exact Or.inl ⟨rfl, rfl, rfl⟩
  · by_cases k : b = 16
    · subst k; exact Or.inr (Or.inl ⟨rfl, rfl, rfl⟩)
    · exact Or.inr (Or.inr ⟨h, k, by unfold smV; rw [if_neg h, if_neg k], decide_eq_false (by omega)⟩)
theorem boolV {a b : Bool} (h : a = b) : Value.bool a = Value.bool b := by rw [h]
theorem intV {k : IntKind} {a b : Int} (h : a = b) : Value.int k a = Value.int k b := by rw [h]
theorem t8_hlf {v : Int} (h : in16 v = true) : iconv .u16 (hlf (imul .u64 (iconv .u64 v) 255) 65535) = t8 v := by
  rw [in16_iff] at h
  have e : imul .u64 (iconv .u64 v) 255 = v * 255 := by rw [u64_id h.1 (by omega)]; unfold imul; rw [IntKind.wrap_u64]; omega
  rw [e, hlf_div (by omega) (by decide)]
  unfold t8
  rw [u16_id (by omega) (by omega)]
  omega
theorem gmod_range (n : Int) {k : Int} (h : 0 < k) : 0 ≤ gmod n k ∧ gmod n k < k := by
  unfold gmod; exact ⟨Int.emod_nonneg _ (by omega), Int.emod_lt_of_pos _ h⟩
theorem gsV_range (n : Int) {m : Int} (h : in16 m = true) : 0 ≤ gsV n m ∧ gsV n m ≤ m := by
  rw [in16_iff] at h
  have em : iconv .i64 m = m := i64_id h.1 (by omega)
  unfold gsV
  simp only [Bool.cond_eq_ite]
  split
  · omega
  split
  · omega
  split
  · omega
  split
  · have g := gmod_range (iquo .i64 n 8) (k := 2) (by decide)
    generalize gmod (iquo .i64 n 8) 2 = z at *
    have e1 : iadd .i64 (iconv .i64 m) z = m + z := by
      rw [em]; unfold iadd; exact IntWalk.i64_in _ (by omega)
    have e2 : iquo .i64 (m + z) 2 = (m + z) / 2 := by
      unfold iquo; rw [Int.tdiv_eq_ediv_of_nonneg (by omega)]; exact IntWalk.i64_in _ (by omega)
    rw [e1, e2, u16_id (by omega) (by omega)]
    omega
  split
  · have g := gmod_range (iquo .i64 n 8) (k := 4) (by decide)
    have e1 : 0 ≤ iimin m (gmod (iquo .i64 n 8) 4) ∧ iimin m (gmod (iquo .i64 n 8) 4) ≤ m := by unfold iimin; split <;> omega
    rw [em, u16_id (by omega) (by omega)]
    omega
  · have e1 : iadd .i64 (iconv .i64 m) 1 = m + 1 := by
      rw [em]; unfold iadd; exact IntWalk.i64_in _ (by omega)
    have g := gmod_range (iquo .i64 n 8) (k := m + 1) (by omega)
    rw [e1, u16_id (by omega) (by omega)]
    omega
theorem gsV_in16 (n : Int) {m : Int} (h : in16 m = true) : in16 (gsV n m) = true := by
  have := gsV_range n h
  rw [in16_iff] at *
  omega
theorem modOk_lit {k : Int} (h : 1 ≤ k) (h' : k ≤ 65536) : modOk k = true := decide_eq_true (by omega)
theorem a_gsample : Answers 29 s_gsample := by
  intro args v bs h hok
  unfold s_gsample at h
  split at h <;> try (simp at h; done)
  rename_i n m
  simp only [Option.some.injEq, Prod.mk.injEq] at h
  obtain ⟨rfl, rfl⟩ := h
  refine does_of_eval (O := o_gmax) (orc_cons a_mod orc_nil) mixed (named) Tryd.func29 (by kernel_rfl) (by kernel_rfl) rfl ?_
  rw [gsample_vc]
  obtain ⟨h1, _⟩ := hok
  rw [in16_iff] at h1
  have e1 : iadd .i64 (iconv .i64 m) 1 = m + 1 := by
    rw [i64_id h1.1 (by omega)]; unfold iadd; exact IntWalk.i64_in _ (by omega)
  have k : modOk (iadd .i64 (iconv .i64 m) 1) = true := by rw [e1]; exact modOk_lit (by omega) (by omega)
  have k2 : modOk 2 = true := rfl
  have k4 : modOk 4 = true := rfl
  have k8 : modOk 8 = true := rfl
  unfold gsV
  simp only [true_and, and_true, forall_eq, k, k2, k4, k8, bcond_iff]
  refine ⟨fun h => ?_, fun h => ⟨fun h' => ⟨fun _ => ?_, fun h'' => ?_⟩, fun h' => ⟨fun h'' => ?_, fun h'' => ⟨fun h3 => ?_, fun h3 => ⟨fun h4 => ?_, fun h4 => ?_⟩⟩⟩⟩⟩
  · rw [h]; rfl
  · rw [h, h']; rfl
  · rw [h'] at h''; simp at h''
  · rw [h, h', h'']; rfl
  · rw [h, h', h'', h3]; rfl
  · rw [h, h', h'', h3, h4]; rfl
  · rw [h, h', h'', h3, h4]; rfl
theorem a_galpha : Answers 19 s_galpha := by
  intro args v bs h hok
  unfold s_galpha at h
  split at h <;> try (simp at h; done)
  rename_i c a m
  simp only [Option.some.injEq, Prod.mk.injEq] at h
  obtain ⟨rfl, rfl⟩ := h
  refine does_of_eval (O := o_galpha) (orc_cons a_gsample orc_nil) mixed (named) Tryd.func19 (by kernel_rfl) (by kernel_rfl) rfl ?_
  rw [galpha_vc]
  obtain ⟨h1, _⟩ := hok
  simp [h1, gsV_in16]
theorem gpF_in16 (n4 : Int) {m : Int} (h : in16 m = true) : in16 (gpF n4 m) = true := gsV_in16 _ h
theorem gpA_range (n3 n4 : Int) {m : Int} (h : in16 m = true) : 0 ≤ gpA n3 n4 m ∧ gpA n3 n4 m ≤ gpF n4 m := by
  have k := gpF_in16 n4 h
  unfold gpA
  simp only [Bool.cond_eq_ite]
  split
  · exact gsV_range _ k
  · rw [in16_iff] at k; omega
theorem gpA_in16 (n3 n4 : Int) {m : Int} (h : in16 m = true) : in16 (gpA n3 n4 m) = true := by
  have := gpA_range n3 n4 h
  have k := gpF_in16 n4 h
  rw [in16_iff] at *
  omega
theorem gpC_range (n n3 n4 : Int) {m : Int} (h : in16 m = true) : 0 ≤ gpC n n3 n4 m ∧ gpC n n3 n4 m ≤ gpA n3 n4 m := gsV_range _ (gpA_in16 n3 n4 h)
theorem gpC_in16 (n n3 n4 : Int) {m : Int} (h : in16 m = true) : in16 (gpC n n3 n4 m) = true := gsV_in16 _ (gpA_in16 n3 n4 h)
/-- the generator's pixels are valid -/
theorem gp_valid (n0 n1 n2 n3 n4 : Int) {m : Int} (h : in16 m = true) : pvB (gpC n0 n3 n4 m) (gpC n1 n3 n4 m) (gpC n2 n3 n4 m) (gpA n3 n4 m) (gpF n4 m) m = true := by
  have a0 := gpC_range n0 n3 n4 h
  have a1 := gpC_range n1 n3 n4 h
  have a2 := gpC_range n2 n3 n4 h
  have a3 := gpA_range n3 n4 h
  have a4 : 0 ≤ gpF n4 m ∧ gpF n4 m ≤ m := gsV_range n4 h
  exact decide_eq_true (by omega)
end Go.Proofs.YtafaadnjkkkafaaDoor
