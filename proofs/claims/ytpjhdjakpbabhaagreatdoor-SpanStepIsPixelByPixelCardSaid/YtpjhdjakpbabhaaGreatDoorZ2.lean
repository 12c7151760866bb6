import Derived.Test.YtpjhdjakpbabhaaGreatDoorZh
namespace Go.Proofs.YtpjhdjakpbabhaaGreatDoor
open Go.RowKit PR QR
set_option linter.unusedVariables false
set_option linter.unusedSimpArgs false
set_option maxRecDepth 20000
theorem gp16 (n0 n3 n4 : Int) {t : Int} (h : in16 t = true) : 0 ≤ gpC n0 n3 n4 t ∧ 0 ≤ gpA n3 n4 t ∧ 0 ≤ gpF n4 t :=
  ⟨(gpC_range n0 n3 n4 h).1, (gpA_range n3 n4 h).1, (gsV_range n4 h).1⟩
theorem pv_iff' {c0 c1 c2 a f m : Int} : pvB c0 c1 c2 a f m = true ↔ c0 ≤ a ∧ c1 ≤ a ∧ c2 ≤ a ∧ a ≤ f ∧ f ≤ m := by unfold pvB; rw [decide_eq_true_eq]
theorem gpx_valid (md n : Int) (q : Int → Nat → Int) {t : Int} (h : in16 t = true) (i : Int) : pvB (gpxV md n q t i 0) (gpxV md n q t i 1) (gpxV md n q t i 2) (gpxV md n q t i 3) (gpxV md n q t i 4) t = true := by
  have ht := in16_iff.1 h
  have v : ∀ i, pvB (grPx n q t i 0) (grPx n q t i 1) (grPx n q t i 2) (grPx n q t i 3) (grPx n q t i 4) t = true := fun i => gp_valid _ _ _ _ _ h
  by_cases h0 : gmod md 6 = 0
  · rw [← gpx_z h0, ← gpx_z h0, ← gpx_z h0, ← gpx_z h0, ← gpx_z h0]
    exact pv_iff'.2 (by omega)
  by_cases h1 : gmod md 6 = 1
  · rw [← gpx_1 h1 (by omega), ← gpx_1 h1 (by omega), ← gpx_1 h1 (by omega), ← gpx_1t h1 (by omega), ← gpx_1t h1 (by omega)]
    have := pv_iff'.1 (v i)
    exact pv_iff'.2 (by omega)
  by_cases h2 : gmod md 6 = 2
  · rw [← gpx_2 h2 (i := i) 0, ← gpx_2 h2 (i := i) 1, ← gpx_2 h2 (i := i) 2, ← gpx_2 h2 (i := i) 3, ← gpx_2 h2 (i := i) 4, ← gpx_20 h2 rfl 0, ← gpx_20 h2 rfl 1, ← gpx_20 h2 rfl 2, ← gpx_20 h2 rfl 3, ← gpx_20 h2 rfl 4]
    exact v 0
  · rw [← gpx_3 h0 h1 h2, ← gpx_3 h0 h1 h2, ← gpx_3 h0 h1 h2, ← gpx_3 h0 h1 h2, ← gpx_3 h0 h1 h2]
    exact v i
theorem gpx_nn (md n : Int) (q : Int → Nat → Int) {t : Int} (h : in16 t = true) (i : Int) (k : Nat) : 0 ≤ gpxV md n q t i k := by
  have ht := in16_iff.1 h
  have v : ∀ i, 0 ≤ grPx n q t i k := fun i => by
    unfold grPx
    split
    · exact (gp16 _ _ _ h).1
    · exact (gp16 _ _ _ h).1
    · exact (gp16 _ _ _ h).1
    · exact (gp16 0 _ _ h).2.1
    · exact (gp16 0 0 _ h).2.2
  unfold gpxV
  split
  · omega
  split
  · split
    · omega
    · exact v i
  split
  · exact v 0
  · exact v i
theorem gpx16 (md n : Int) (q : Int → Nat → Int) {t : Int} (h : in16 t = true) (i : Int) {k : Nat} (hk : k < 5) : in16 (gpxV md n q t i k) = true := by
  have ht := in16_iff.1 h
  have v := pv_iff'.1 (gpx_valid md n q h i)
  have nn := gpx_nn md n q h i
  refine in16_iff.2 ⟨nn k, ?_⟩
  have hk' : k = 0 ∨ k = 1 ∨ k = 2 ∨ k = 3 ∨ k = 4 := by omega
  rcases hk' with rfl | rfl | rfl | rfl | rfl <;> omega
end Go.Proofs.YtpjhdjakpbabhaaGreatDoor
