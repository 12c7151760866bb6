import Derived.Test.YtcckcifmhhaepaaBb
import Derived.Test.YtcckcifmhhaepaaBc
namespace Go.Proofs.Ytcckcifmhhaepaa
open Go.RowKit PR
set_option linter.unusedVariables false
def inU (a : Int) : Bool := decide (0 ≤ a ∧ a < 18446744073709551616)
def w2 (h l : Int) : Int := h * 18446744073709551616 + l
def hlf (n d : Int) : Int := ((half n.toNat d.toNat : Nat) : Int)
def gmod (n k : Int) : Int := n % k
def modOk (k : Int) : Bool := decide (1 ≤ k ∧ k ≤ 4611686018427387904)
def s_mod : List Value → Option (Value × List Bool)
  | [.int .i64 n, .int .i64 k] => some (.int .i64 (gmod n k), [modOk k])
  | _ => none
def Answers (f : Nat) (s : List Value → Option (Value × List Bool)) : Prop := AnswersP Try.prog f s
theorem inU_iff {a : Int} : inU a = true ↔ 0 ≤ a ∧ a < 18446744073709551616 := by simp [inU]
theorem inU_nat {a : Int} (h : inU a = true) : ∃ n : Nat, a = n ∧ n < 18446744073709551616 := by
  have := inU_iff.1 h
  exact ⟨a.toNat, by omega, by omega⟩
theorem mixed : Try.prog.follows .mixedOrders = true := by kernel_rfl
theorem a_mod : Answers 17 s_mod := by
  intro args v bs h hok
  unfold s_mod at h
  split at h <;> try (simp at h; done)
  simp only [Option.some.injEq, Prod.mk.injEq] at h
  obtain ⟨rfl, rfl⟩ := h
  obtain ⟨h3, _⟩ := hok
  obtain ⟨h1, h2⟩ := of_decide_eq_true h3
  refine does_of_calls Try.func17 (by kernel_rfl) (by kernel_rfl) fun w => (mod_any _ _ h1 h2 w).mono ?_
  rintro e w' ⟨rfl, rfl⟩
  exact ⟨rfl, Below.refl _ _⟩
end Go.Proofs.Ytcckcifmhhaepaa
namespace Go.Proofs.Ytcckcifmhhaepaa
open Go.RowKit PR
set_option linter.unusedVariables false
def in16 (a : Int) : Bool := decide (0 ≤ a ∧ a < 65536)
def gxMax (n : Int) : Int := if n % 3 = 2 then 65535 else 255
theorem ieq_rfl' (a : Int) : ieq a a = true := by simp [ieq]
theorem wf16 {a : Int} (h : (Lit.int .u16 a).wf = true) : in16 a = true := by
  simp only [Lit.wf, Bool.and_eq_true, decide_eq_true_eq] at h
  have h1 : IntKind.u16.min = 0 := rfl
  have h2 : IntKind.u16.max = 65535 := rfl
  unfold in16; rw [decide_eq_true_eq]; omega
theorem gxMax_cases (n : Int) : gxMax n = 255 ∨ gxMax n = 65535 := by unfold gxMax; split <;> simp
end Go.Proofs.Ytcckcifmhhaepaa
namespace Go.Proofs.Ytcckcifmhhaepaa
open Go.RowKit PR
set_option linter.unusedVariables false
end Go.Proofs.Ytcckcifmhhaepaa
namespace Go.Proofs.Ytcckcifmhhaepaa
open Go.RowKit PR
set_option linter.unusedVariables false
end Go.Proofs.Ytcckcifmhhaepaa
namespace Go.Proofs.Ytcckcifmhhaepaa
open Go.RowKit PR
set_option linter.unusedVariables false
end Go.Proofs.Ytcckcifmhhaepaa
namespace Go.Proofs.Ytcckcifmhhaepaa
open Go.RowKit PR
set_option linter.unusedVariables false
end Go.Proofs.Ytcckcifmhhaepaa
namespace Go.Proofs.Ytcckcifmhhaepaa
open Go.RowKit PR
set_option linter.unusedVariables false
def smV (b : Int) : Int := if b = 8 then 255 else if b = 16 then 65535 else 0
def smOk (b : Int) : Bool := decide (b = 8 ∨ b = 16)
def pvB (c0 c1 c2 a f m : Int) : Bool := decide (c0 ≤ a ∧ c1 ≤ a ∧ c2 ≤ a ∧ a ≤ f ∧ f ≤ m)
def t16 (v : Int) : Int := if v ≤ 255 then 257 * v else 65535
def t8 (v : Int) : Int := (510 * v + 65535) / 131070
def gsV (n m : Int) : Int :=
  bif ieq (gmod n 8) 0 then 0 else bif ieq (gmod n 8) 1 then m else bif ieq (gmod n 8) 2 then m
  else bif ieq (gmod n 8) 3 then iconv .u16 (iquo .i64 (iadd .i64 (iconv .i64 m) (gmod (iquo .i64 n 8) 2)) 2)
  else bif ieq (gmod n 8) 4 then iconv .u16 (iimin (iconv .i64 m) (gmod (iquo .i64 n 8) 4))
  else iconv .u16 (gmod (iquo .i64 n 8) (iadd .i64 (iconv .i64 m) 1))
def gpF (n4 m : Int) : Int := gsV n4 m
def gpA (n3 n4 m : Int) : Int := bif igt (gmod n3 3) 0 then gsV (iquo .i64 n3 3) (gpF n4 m) else gpF n4 m
def gpC (n n3 n4 m : Int) : Int := gsV n (gpA n3 n4 m)
def s_by65535 : List Value → Option (Value × List Bool)
  | [.int .u64 n] => some (.int .u64 (hlf n 65535), [inU n])
  | _ => none
end Go.Proofs.Ytcckcifmhhaepaa
namespace Go.Proofs.Ytcckcifmhhaepaa
open Go.RowKit PR
set_option linter.unusedVariables false
theorem in16_iff {a : Int} : in16 a = true ↔ 0 ≤ a ∧ a < 65536 := by simp [in16]
theorem u16_id {a : Int} (h : 0 ≤ a) (k : a < 65536) : iconv .u16 a = a := by unfold iconv; rw [IntKind.wrap_u16]; omega
theorem u64_id {a : Int} (h : 0 ≤ a) (k : a < 18446744073709551616) : iconv .u64 a = a := by unfold iconv; rw [IntKind.wrap_u64]; omega
theorem i64_id {a : Int} (h : 0 ≤ a) (k : a < 9223372036854775808) : iconv .i64 a = a := by unfold iconv; exact IntWalk.i64_in _ (by omega)
theorem inU_mul (a b : Int) : inU (imul .u64 a b) = true := by rw [inU_iff]; unfold imul; rw [IntKind.wrap_u64]; omega
theorem in16_conv (a : Int) : in16 (iconv .u16 a) = true := by rw [in16_iff]; unfold iconv; rw [IntKind.wrap_u16]; omega
theorem half_div (n d : Nat) (h : 0 < d) : half n d = (2 * n + d) / (2 * d) := by
  have e := Nat.div_add_mod n d
  have l := Nat.mod_lt n h
  symm
  unfold half
  rw [if_neg (by omega)]
  generalize n / d = q at *
  generalize n % d = r at *
  have a1 : q * (2 * d) = 2 * (d * q) := by rw [Nat.mul_comm d q, ← Nat.mul_assoc, Nat.mul_comm q 2, Nat.mul_assoc]
  split
  · apply Nat.div_eq_of_lt_le
    · simp only [Nat.add_mul, a1]; omega
    · simp only [Nat.add_mul, a1]; omega
  · apply Nat.div_eq_of_lt_le
    · rw [a1]; omega
    · show 2 * n + d < (q + 1) * (2 * d)
      rw [Nat.add_mul, a1]; omega
theorem hlf_div {n d : Int} (hn : 0 ≤ n) (hd : 0 < d) : hlf n d = (2 * n + d) / (2 * d) := by
  unfold hlf
  rw [half_div _ _ (by omega)]
  simp only [Int.natCast_ediv, Int.natCast_add, Int.natCast_mul]
  rw [Int.toNat_of_nonneg hn, Int.toNat_of_nonneg (by omega)]
  rfl
theorem a_by65535 : Answers 94 s_by65535 := by
  intro args v bs h hok
  unfold s_by65535 at h
  split at h <;> try (simp at h; done)
  simp only [Option.some.injEq, Prod.mk.injEq] at h
  obtain ⟨rfl, rfl⟩ := h
  obtain ⟨h1, _⟩ := hok
  obtain ⟨a, rfl, ha⟩ := inU_nat h1
  refine does_of_calls Try.func94 (by kernel_rfl) (by kernel_rfl) fun w => (by65535_any a ha w).mono ?_
  rintro e w' ⟨rfl, rfl⟩
  exact ⟨rfl, Below.refl _ _⟩
theorem smax_eq (b : Int) : (b = 8 ∧ smV b = 255 ∧ smOk b = true) ∨ (b = 16 ∧ smV b = 65535 ∧ smOk b = true) ∨ (b ≠ 8 ∧ b ≠ 16 ∧ smV b = 0 ∧ smOk b = false) := by
  by_cases h : b = 8
  · subst h; exact Or.inl ⟨rfl, rfl, rfl⟩
  · by_cases k : b = 16
    · subst k; exact Or.inr (Or.inl ⟨rfl, rfl, rfl⟩)
    · exact Or.inr (Or.inr ⟨h, k, by unfold smV; rw [if_neg h, if_neg k], decide_eq_false (by omega)⟩)
theorem t8_hlf {v : Int} (h : in16 v = true) : iconv .u16 (hlf (imul .u64 (iconv .u64 v) 255) 65535) = t8 v := by
  rw [in16_iff] at h
  have e : imul .u64 (iconv .u64 v) 255 = v * 255 := by rw [u64_id h.1 (by omega)]; unfold imul; rw [IntKind.wrap_u64]; omega
  rw [e, hlf_div (by omega) (by decide)]
  unfold t8
  rw [u16_id (by omega) (by omega)]
  omega
theorem gmod_range (n : Int) {k : Int} (h : 0 < k) : 0 ≤ gmod n k ∧ gmod n k < k := by
  unfold gmod; exact ⟨Int.emod_nonneg _ (by omega), Int.emod_lt_of_pos _ h⟩
theorem gsV_range (n : Int) {m : Int} (h : in16 m = true) : 0 ≤ gsV n m ∧ gsV n m ≤ m := by
  rw [in16_iff] at h
  have em : iconv .i64 m = m := i64_id h.1 (by omega)
  unfold gsV
  simp only [Bool.cond_eq_ite]
  split
  · omega
  split
  · omega
  split
  · omega
  split
  · have g := gmod_range (iquo .i64 n 8) (k := 2) (by decide)
    generalize gmod (iquo .i64 n 8) 2 = z at *
    have e1 : iadd .i64 (iconv .i64 m) z = m + z := by
      rw [em]; unfold iadd; exact IntWalk.i64_in _ (by omega)
    have e2 : iquo .i64 (m + z) 2 = (m + z) / 2 := by
      unfold iquo; rw [Int.tdiv_eq_ediv_of_nonneg (by omega)]; exact IntWalk.i64_in _ (by omega)
    rw [e1, e2, u16_id (by omega) (by omega)]
    omega
  split
  · have g := gmod_range (iquo .i64 n 8) (k := 4) (by decide)
    have e1 : 0 ≤ iimin m (gmod (iquo .i64 n 8) 4) ∧ iimin m (gmod (iquo .i64 n 8) 4) ≤ m := by unfold iimin; split <;> omega
    rw [em, u16_id (by omega) (by omega)]
    omega
  · have e1 : iadd .i64 (iconv .i64 m) 1 = m + 1 := by
      rw [em]; unfold iadd; exact IntWalk.i64_in _ (by omega)
    have g := gmod_range (iquo .i64 n 8) (k := m + 1) (by omega)
    rw [e1, u16_id (by omega) (by omega)]
    omega
theorem gsV_in16 (n : Int) {m : Int} (h : in16 m = true) : in16 (gsV n m) = true := by
  have := gsV_range n h
  rw [in16_iff] at *
  omega
theorem modOk_lit {k : Int} (h : 1 ≤ k) (h' : k ≤ 65536) : modOk k = true := decide_eq_true (by omega)
theorem gpF_in16 (n4 : Int) {m : Int} (h : in16 m = true) : in16 (gpF n4 m) = true := gsV_in16 _ h
theorem gpA_range (n3 n4 : Int) {m : Int} (h : in16 m = true) : 0 ≤ gpA n3 n4 m ∧ gpA n3 n4 m ≤ gpF n4 m := by
  have k := gpF_in16 n4 h
  unfold gpA
  simp only [Bool.cond_eq_ite]
  split
  · exact gsV_range _ k
  · rw [in16_iff] at k; omega
theorem gpA_in16 (n3 n4 : Int) {m : Int} (h : in16 m = true) : in16 (gpA n3 n4 m) = true := by
  have := gpA_range n3 n4 h
  have k := gpF_in16 n4 h
  rw [in16_iff] at *
  omega
theorem gpC_range (n n3 n4 : Int) {m : Int} (h : in16 m = true) : 0 ≤ gpC n n3 n4 m ∧ gpC n n3 n4 m ≤ gpA n3 n4 m := gsV_range _ (gpA_in16 n3 n4 h)
theorem gp_valid (n0 n1 n2 n3 n4 : Int) {m : Int} (h : in16 m = true) : pvB (gpC n0 n3 n4 m) (gpC n1 n3 n4 m) (gpC n2 n3 n4 m) (gpA n3 n4 m) (gpF n4 m) m = true := by
  have a0 := gpC_range n0 n3 n4 h
  have a1 := gpC_range n1 n3 n4 h
  have a2 := gpC_range n2 n3 n4 h
  have a3 := gpA_range n3 n4 h
  have a4 : 0 ≤ gpF n4 m ∧ gpF n4 m ≤ m := gsV_range n4 h
  exact decide_eq_true (by omega)
end Go.Proofs.Ytcckcifmhhaepaa
