/-
  Layer 11 (scale): what each call answers.
-/
import Derived.Test.YtfjpilehoeendaaDoorKb
import Derived.Test.YtfjpilehoeendaaDoorJc
namespace Go.Proofs.YtfjpilehoeendaaDoor
open Go.RowKit PR QR
set_option linter.unusedVariables false
set_option linter.unusedSimpArgs false

theorem sc_no {c0 c1 c2 a f x k m : Int} (h : scOk c0 c1 c2 a f k m = false) : scV c0 c1 c2 a f x k m = 0 := by unfold scV; rw [h]; rfl
theorem sc_split (c0 c1 c2 a f k m : Int) : scOk c0 c1 c2 a f k m = ((pvB c0 c1 c2 a f m && decide (k ≤ m)) && fullB m) := rfl
theorem igt_le (a b : Int) : igt a b = !(decide (a ≤ b)) := by
  unfold igt; rw [Bool.eq_iff_iff]; simp only [Bool.not_eq_true', decide_eq_true_eq, decide_eq_false_iff_not]; omega
theorem full_ne (m : Int) : (bnot (fullB m)) = band (ine m 255) (ine m 65535) := by
  unfold fullB bnot band ine
  by_cases h : m = 255
  · simp [h]
  · by_cases h' : m = 65535 <;> simp [h, h']
/-- a sample's scaling -/
theorem sc_way {x k m : Int} (hx : in16 x = true) (hk : in16 k = true) (hm : in16 m = true) :
    inU (imul .u64 (iconv .u64 x) (iconv .u64 k)) = true ∧ inU (iconv .u64 m) = true ∧ hlf (imul .u64 (iconv .u64 x) (iconv .u64 k)) (iconv .u64 m) = scN x k m := by
  obtain ⟨a, b, c⟩ := mulI16 hx hk
  rw [(conv64 hx).1, (conv64 hk).1, (conv64 hm).1, c]
  exact ⟨inU_iff.2 (by omega), inU_iff.2 (by have := in16_iff.1 hm; omega), rfl⟩
/-- scaled twice -/
theorem sb_two {c0 c1 c2 a f k o m : Int} (g0 : in16 c0 = true) (g1 : in16 c1 = true) (g2 : in16 c2 = true) (g3 : in16 a = true) (g4 : in16 f = true) (hk : in16 k = true) (ho : in16 o = true) (ok : scOk c0 c1 c2 a f k m = true) :
    scOk (scN c0 k m) (scN c1 k m) (scN c2 k m) (scN a k m) (scN f k m) o m = sbOk c0 c1 c2 a f k o m ∧ (in16 (scN c0 k m) = true ∧ in16 (scN c1 k m) = true ∧ in16 (scN c2 k m) = true ∧ in16 (scN a k m) = true ∧ in16 (scN f k m) = true) ∧
    (scV c0 c1 c2 a f c0 k m = scN c0 k m ∧ scV c0 c1 c2 a f c1 k m = scN c1 k m ∧ scV c0 c1 c2 a f c2 k m = scN c2 k m ∧ scV c0 c1 c2 a f a k m = scN a k m ∧ scV c0 c1 c2 a f f k m = scN f k m) ∧
    ∀ x, scV (scN c0 k m) (scN c1 k m) (scN c2 k m) (scN a k m) (scN f k m) (scN x k m) o m = sbV c0 c1 c2 a f x k o m := by
  obtain ⟨h, h1, h2⟩ := sc_iff.1 ok
  rw [in16_iff] at g0 g1 g2 g3 g4 hk
  obtain ⟨o1, n0, n1, n2, n3⟩ := sc_order (k := k) h g0.1 g1.1 g2.1 g3.1 g4.1 hk.1 h1 (by omega)
  have e : scOk (scN c0 k m) (scN c1 k m) (scN c2 k m) (scN a k m) (scN f k m) o m = sbOk c0 c1 c2 a f k o m := by
    rw [Bool.eq_iff_iff, sc_iff, sb_iff]
    exact ⟨fun q => ⟨h, h1, h2, q.2.1⟩, fun q => ⟨o1, q.2.2.2, h2⟩⟩
  have s0 := sc_at ok g0.1 (by omega) hk.1
  have s1 := sc_at ok g1.1 (by omega) hk.1
  have s2 := sc_at ok g2.1 (by omega) hk.1
  have s3 := sc_at ok g3.1 (by omega) hk.1
  have s4 := sc_at ok g4.1 (by omega) hk.1
  refine ⟨e, ⟨s0.2, s1.2, s2.2, s3.2, s4.2⟩, ⟨s0.1, s1.1, s2.1, s3.1, s4.1⟩, fun x => ?_⟩
  unfold scV sbV; rw [e]
theorem sb_no {c0 c1 c2 a f x k o m : Int} (h : scOk c0 c1 c2 a f k m = false) : sbOk c0 c1 c2 a f k o m = false ∧ sbV c0 c1 c2 a f x k o m = 0 := by
  have e : sbOk c0 c1 c2 a f k o m = false := by unfold sbOk; rw [h]; rfl
  exact ⟨e, by unfold sbV; rw [e]; rfl⟩
end Go.Proofs.YtfjpilehoeendaaDoor
