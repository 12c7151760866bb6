import Derived.Test.YtpjhdjakpbabhaaDoorBj
namespace Go.Proofs.YtpjhdjakpbabhaaDoor
open Go.RowKit PR QR
set_option linter.unusedVariables false
set_option linter.unusedSimpArgs false
def scN (x k m : Int) : Int := hlf (x * k) m
def scOk (c0 c1 c2 a f k m : Int) : Bool := (pvB c0 c1 c2 a f m && decide (k ≤ m)) && fullB m
def scV (c0 c1 c2 a f x k m : Int) : Int := bif scOk c0 c1 c2 a f k m then iconv .u16 (scN x k m) else 0
def sbOk (c0 c1 c2 a f k o m : Int) : Bool := scOk c0 c1 c2 a f k m && decide (o ≤ m)
def sbV (c0 c1 c2 a f x k o m : Int) : Int := bif sbOk c0 c1 c2 a f k o m then iconv .u16 (scN (scN x k m) o m) else 0
section
variable {c0 c1 c2 a f x y k o m u v : Int}
theorem pv_iff : pvB c0 c1 c2 a f m = true ↔ c0 ≤ a ∧ c1 ≤ a ∧ c2 ≤ a ∧ a ≤ f ∧ f ≤ m := by unfold pvB; rw [decide_eq_true_eq]
theorem sc_iff : scOk c0 c1 c2 a f k m = true ↔ (c0 ≤ a ∧ c1 ≤ a ∧ c2 ≤ a ∧ a ≤ f ∧ f ≤ m) ∧ k ≤ m ∧ (m = 255 ∨ m = 65535) := by
  unfold scOk fullB
  rw [Bool.and_eq_true, Bool.and_eq_true, pv_iff, decide_eq_true_eq, decide_eq_true_eq, and_assoc]
theorem sb_iff : sbOk c0 c1 c2 a f k o m = true ↔ (c0 ≤ a ∧ c1 ≤ a ∧ c2 ≤ a ∧ a ≤ f ∧ f ≤ m) ∧ k ≤ m ∧ (m = 255 ∨ m = 65535) ∧ o ≤ m := by
  unfold sbOk
  rw [Bool.and_eq_true, sc_iff, decide_eq_true_eq]
  simp only [and_assoc]
theorem sc_range (x0 : 0 ≤ x) (k0 : 0 ≤ k) (k1 : k ≤ m) (hm : 0 < m) : 0 ≤ scN x k m ∧ scN x k m ≤ x := by
  unfold scN
  refine ⟨hlf_nonneg _ _, hlf_le (Int.mul_nonneg x0 k0) x0 ?_ hm⟩
  have := Int.mul_le_mul_of_nonneg_left k1 x0
  rw [Int.mul_comm m x]; exact this
theorem sc_mono (x0 : 0 ≤ x) (h : x ≤ y) (k0 : 0 ≤ k) (hm : 0 < m) : scN x k m ≤ scN y k m :=
  hlf_mono (Int.mul_nonneg x0 k0) (Int.mul_le_mul_of_nonneg_right h k0) hm
theorem sc_full (x0 : 0 ≤ x) (hm : 0 < m) : scN x m m = x := by unfold scN; rw [Int.mul_comm]; exact hlf_exact x0 hm
theorem sc_order (h : c0 ≤ a ∧ c1 ≤ a ∧ c2 ≤ a ∧ a ≤ f ∧ f ≤ m) (z0 : 0 ≤ c0) (z1 : 0 ≤ c1) (z2 : 0 ≤ c2) (z3 : 0 ≤ a) (z4 : 0 ≤ f) (k0 : 0 ≤ k) (k1 : k ≤ m) (hm : 0 < m) :
    (scN c0 k m ≤ scN a k m ∧ scN c1 k m ≤ scN a k m ∧ scN c2 k m ≤ scN a k m ∧ scN a k m ≤ scN f k m ∧ scN f k m ≤ m) ∧ 0 ≤ scN c0 k m ∧ 0 ≤ scN c1 k m ∧ 0 ≤ scN c2 k m ∧ 0 ≤ scN a k m ∧ 0 ≤ scN f k m := by
  refine ⟨⟨sc_mono z0 h.1 k0 hm, sc_mono z1 h.2.1 k0 hm, sc_mono z2 h.2.2.1 k0 hm, sc_mono z3 h.2.2.2.1 k0 hm, Int.le_trans (sc_range z4 k0 k1 hm).2 h.2.2.2.2⟩, hlf_nonneg _ _, hlf_nonneg _ _, hlf_nonneg _ _, hlf_nonneg _ _, hlf_nonneg _ _⟩
theorem sc_at (ok : scOk c0 c1 c2 a f k m = true) (x0 : 0 ≤ x) (x1 : x ≤ 65535) (k0 : 0 ≤ k) : scV c0 c1 c2 a f x k m = scN x k m ∧ in16 (scN x k m) = true := by
  obtain ⟨_, h1, h2⟩ := sc_iff.1 ok
  have r := sc_range (m := m) x0 k0 h1 (by omega)
  refine ⟨?_, in16_iff.2 (by omega)⟩
  unfold scV; rw [ok]; exact u16_id r.1 (by omega)
theorem sb_at (ok : sbOk c0 c1 c2 a f k o m = true) (x0 : 0 ≤ x) (x1 : x ≤ 65535) (k0 : 0 ≤ k) (o0 : 0 ≤ o) : sbV c0 c1 c2 a f x k o m = scN (scN x k m) o m ∧ 0 ≤ scN (scN x k m) o m ∧ scN (scN x k m) o m ≤ scN x k m ∧ scN x k m ≤ x ∧ 0 ≤ scN x k m := by
  obtain ⟨_, h1, h2, h3⟩ := sb_iff.1 ok
  have r := sc_range (m := m) x0 k0 h1 (by omega)
  have r2 := sc_range (x := scN x k m) (m := m) r.1 o0 h3 (by omega)
  refine ⟨?_, r2.1, r2.2, r.2, r.1⟩
  unfold sbV; rw [ok]; exact u16_id r2.1 (by omega)
end
end Go.Proofs.YtpjhdjakpbabhaaDoor
