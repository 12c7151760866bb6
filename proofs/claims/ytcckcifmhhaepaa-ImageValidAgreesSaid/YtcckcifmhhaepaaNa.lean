import Derived.Test.YtcckcifmhhaepaaRs
namespace Go.Proofs.Ytcckcifmhhaepaa
open Go.RowKit PR QR
set_option linter.unusedVariables false
set_option linter.unusedSimpArgs false
def fitB (w h : Int) : Bool := decide (1 ≤ w ∧ 1 ≤ h ∧ w * h ≤ 16777216)
def plB (w h s n : Int) : Bool := decide (fitB w h = true ∧ w ≤ s ∧ s ≤ 16777216 ∧ (h - 1) * s + w ≤ n)
def inB (w h s n x y : Int) : Bool := decide (plB w h s n = true ∧ (0 ≤ x ∧ x < w) ∧ 0 ≤ y ∧ y < h)
def patI (s x y : Int) : Int := y * s + x
theorem fit_iff {w h : Int} : fitB w h = true ↔ 1 ≤ w ∧ 1 ≤ h ∧ w * h ≤ 16777216 := by unfold fitB; rw [decide_eq_true_eq]
theorem fit_le {w h : Int} (k : fitB w h = true) : w ≤ 16777216 ∧ h ≤ 16777216 := by
  obtain ⟨h1, h2, h3⟩ := fit_iff.1 k
  have a := Int.mul_le_mul (Int.le_refl w) h2 (by decide) (by omega)
  have b := Int.mul_le_mul h1 (Int.le_refl h) (by omega) (by omega)
  omega
theorem fit_div {w h : Int} (h1 : 1 ≤ w) (h2 : 1 ≤ h) : w * h ≤ 16777216 ↔ h ≤ 16777216 / w := by
  rw [Int.le_ediv_iff_mul_le (by omega), Int.mul_comm]
theorem iquo_pos {w : Int} (h1 : 1 ≤ w) (h2 : w ≤ 9223372036854775807) : iquo .i64 16777216 w = 16777216 / w := by
  unfold iquo
  rw [Int.tdiv_eq_ediv_of_nonneg (by decide)]
  have := Int.ediv_nonneg (show (0 : Int) ≤ 16777216 by decide) (show 0 ≤ w by omega)
  have := Int.ediv_le_self w (show (0 : Int) ≤ 16777216 by decide)
  exact IntWalk.i64_in _ (by omega)
theorem pl_iff {w h s n : Int} : plB w h s n = true ↔ fitB w h = true ∧ w ≤ s ∧ s ≤ 16777216 ∧ (h - 1) * s + w ≤ n := by unfold plB; rw [decide_eq_true_eq]
theorem in_iff {w h s n x y : Int} : inB w h s n x y = true ↔ plB w h s n = true ∧ (0 ≤ x ∧ x < w) ∧ 0 ≤ y ∧ y < h := by unfold inB; rw [decide_eq_true_eq]
theorem size_in {h s w : Int} (h1 : 1 ≤ h) (h2 : h ≤ 16777216) (s0 : 0 ≤ s) (s1 : s ≤ 16777216) (w0 : 0 ≤ w) (w1 : w ≤ 16777216) :
    isub .i64 h 1 = h - 1 ∧ imul .i64 (h - 1) s = (h - 1) * s ∧ iadd .i64 ((h - 1) * s) w = (h - 1) * s + w ∧ 0 ≤ (h - 1) * s ∧ (h - 1) * s ≤ 281474976710656 := by
  have p0 := Int.mul_nonneg (show 0 ≤ h - 1 by omega) s0
  have p1 := Int.mul_le_mul (show h - 1 ≤ 16777216 by omega) s1 s0 (by decide)
  refine ⟨IntWalk.i64_in _ (by omega), IntWalk.i64_in _ (by omega), IntWalk.i64_in _ (by omega), p0, by omega⟩
theorem at_in {s x y : Int} (y0 : 0 ≤ y) (y1 : y ≤ 16777216) (s0 : 0 ≤ s) (s1 : s ≤ 16777216) (x0 : 0 ≤ x) (x1 : x ≤ 16777216) : imul .i64 y s = y * s ∧ iadd .i64 (y * s) x = patI s x y ∧ 0 ≤ patI s x y := by
  have p0 := Int.mul_nonneg y0 s0
  have p1 := Int.mul_le_mul y1 s1 s0 (by decide)
  exact ⟨IntWalk.i64_in _ (by omega), IntWalk.i64_in _ (by omega), by unfold patI; omega⟩
theorem at_lt {w h s n x y : Int} (k : inB w h s n x y = true) : 0 ≤ patI s x y ∧ patI s x y < n ∧ y ≤ 16777216 ∧ s ≤ 16777216 ∧ x ≤ 16777216 ∧ 0 ≤ s := by
  obtain ⟨hp, ⟨x0, x1⟩, y0, y1⟩ := in_iff.1 k
  obtain ⟨hf, s1, s2, s3⟩ := pl_iff.1 hp
  obtain ⟨f1, f2⟩ := fit_le hf
  have f3 := fit_iff.1 hf
  have := Int.mul_nonneg y0 (show 0 ≤ s by omega)
  have q := Int.mul_le_mul_of_nonneg_right (show y ≤ h - 1 by omega) (show 0 ≤ s by omega)
  unfold patI
  exact ⟨by omega, by omega, by omega, s2, by omega, by omega⟩
end Go.Proofs.Ytcckcifmhhaepaa
