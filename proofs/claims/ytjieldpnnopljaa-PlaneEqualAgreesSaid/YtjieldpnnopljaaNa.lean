/-
  Layer 14 (plane): planes on integers and rows, and what the laws ask of them.
-/
import Derived.Test.YtjieldpnnopljaaRs
namespace Go.Proofs.Ytjieldpnnopljaa
open Go.RowKit PR QR
set_option linter.unusedVariables false
set_option linter.unusedSimpArgs false

-- SPEC intRow fitB plB pnB inB pz patV patI cpV peB spB mkV mkN
def fitB (w h : Int) : Bool := decide (1 ≤ w ∧ 1 ≤ h ∧ w * h ≤ 16777216)
def plB (w h s n : Int) : Bool := decide (fitB w h = true ∧ w ≤ s ∧ s ≤ 16777216 ∧ (h - 1) * s + w ≤ n)
def pnB (w h s : Int) : Bool := decide (fitB w h = true ∧ w ≤ s ∧ s ≤ 16777216 ∧ (h - 1) * s + w ≤ 16777216)
def inB (w h s n x y : Int) : Bool := decide (plB w h s n = true ∧ (0 ≤ x ∧ x < w) ∧ 0 ≤ y ∧ y < h)
def pz (ok : Bool) (x : Int) : Int := bif ok then x else 0
def patI (s x y : Int) : Int := y * s + x
def patV (w h s n : Int) (r : QR.Row) (x y : Int) : Int := bif inB w h s n x y then intC (den r (patI s x y) 0) else 0
def cpV (w s : Int) (r : QR.Row) (i : Int) : Int := intC (den r (i / w * s + i % w) 0)
def cellsEq (w h s : Int) (r : QR.Row) (s' : Int) (r' : QR.Row) : Bool := (List.range h.toNat).all fun y => (List.range w.toNat).all fun x => intC (den r (patI s x y) 0) == intC (den r' (patI s' x y) 0)
def peB (w h s n : Int) (r : QR.Row) (w' h' s' n' : Int) (r' : QR.Row) : Bool := plB w h s n && plB w' h' s' n' && w == w' && h == h' && cellsEq w h s r s' r'
def spB (w h s n : Int) (r : QR.Row) (w' h' s' n' : Int) (r' : QR.Row) : Bool := w == w' && h == h' && s == s' && sameR 1 n n' r r'
def mkV (n : Int) (r : QR.Row) (i : Int) : Int := if i < n then intC (den r i 0) else iconv .u16 i
def mkN (w h s t : Int) : Int := (h - 1) * s + w + t
theorem spB_iff {w h s n : Int} {r : QR.Row} {w' h' s' n' : Int} {r' : QR.Row} : spB w h s n r w' h' s' n' r' = true ↔ w = w' ∧ h = h' ∧ s = s' ∧ sameP 1 n n' r r' := by
  unfold spB; simp only [Bool.and_eq_true, beq_iff_eq, sameR_iff, and_assoc]
theorem spB_rfl (w h s n : Int) (r : QR.Row) : spB w h s n r w h s n r = true := spB_iff.2 ⟨rfl, rfl, rfl, rfl, fun _ _ _ _ => rfl⟩
theorem fit_iff {w h : Int} : fitB w h = true ↔ 1 ≤ w ∧ 1 ≤ h ∧ w * h ≤ 16777216 := by unfold fitB; rw [decide_eq_true_eq]
theorem fit_le {w h : Int} (k : fitB w h = true) : w ≤ 16777216 ∧ h ≤ 16777216 := by
  obtain ⟨h1, h2, h3⟩ := fit_iff.1 k
  have a := Int.mul_le_mul (Int.le_refl w) h2 (by decide) (by omega)
  have b := Int.mul_le_mul h1 (Int.le_refl h) (by omega) (by omega)
  omega
/-- both ways of dividing -/
theorem fit_div {w h : Int} (h1 : 1 ≤ w) (h2 : 1 ≤ h) : w * h ≤ 16777216 ↔ h ≤ 16777216 / w := by
  rw [Int.le_ediv_iff_mul_le (by omega), Int.mul_comm]
theorem iquo_pos {w : Int} (h1 : 1 ≤ w) (h2 : w ≤ 9223372036854775807) : iquo .i64 16777216 w = 16777216 / w := by
  unfold iquo
  rw [Int.tdiv_eq_ediv_of_nonneg (by decide)]
  have := Int.ediv_nonneg (show (0 : Int) ≤ 16777216 by decide) (show 0 ≤ w by omega)
  have := Int.ediv_le_self w (show (0 : Int) ≤ 16777216 by decide)
  exact IntWalk.i64_in _ (by omega)
theorem pl_iff {w h s n : Int} : plB w h s n = true ↔ fitB w h = true ∧ w ≤ s ∧ s ≤ 16777216 ∧ (h - 1) * s + w ≤ n := by unfold plB; rw [decide_eq_true_eq]
theorem pn_iff {w h s : Int} : pnB w h s = true ↔ fitB w h = true ∧ w ≤ s ∧ s ≤ 16777216 ∧ (h - 1) * s + w ≤ 16777216 := by unfold pnB; rw [decide_eq_true_eq]
theorem in_iff {w h s n x y : Int} : inB w h s n x y = true ↔ plB w h s n = true ∧ (0 ≤ x ∧ x < w) ∧ 0 ≤ y ∧ y < h := by unfold inB; rw [decide_eq_true_eq]
/-- how far a plane reaches -/
theorem size_in {h s w : Int} (h1 : 1 ≤ h) (h2 : h ≤ 16777216) (s0 : 0 ≤ s) (s1 : s ≤ 16777216) (w0 : 0 ≤ w) (w1 : w ≤ 16777216) :
    isub .i64 h 1 = h - 1 ∧ imul .i64 (h - 1) s = (h - 1) * s ∧ iadd .i64 ((h - 1) * s) w = (h - 1) * s + w ∧ 0 ≤ (h - 1) * s ∧ (h - 1) * s ≤ 281474976710656 := by
  have p0 := Int.mul_nonneg (show 0 ≤ h - 1 by omega) s0
  have p1 := Int.mul_le_mul (show h - 1 ≤ 16777216 by omega) s1 s0 (by decide)
  refine ⟨IntWalk.i64_in _ (by omega), IntWalk.i64_in _ (by omega), IntWalk.i64_in _ (by omega), p0, by omega⟩
theorem at_in {s x y : Int} (y0 : 0 ≤ y) (y1 : y ≤ 16777216) (s0 : 0 ≤ s) (s1 : s ≤ 16777216) (x0 : 0 ≤ x) (x1 : x ≤ 16777216) : imul .i64 y s = y * s ∧ iadd .i64 (y * s) x = patI s x y ∧ 0 ≤ patI s x y := by
  have p0 := Int.mul_nonneg y0 s0
  have p1 := Int.mul_le_mul y1 s1 s0 (by decide)
  exact ⟨IntWalk.i64_in _ (by omega), IntWalk.i64_in _ (by omega), by unfold patI; omega⟩
/-- a sample of a plane lies in its list -/
theorem at_lt {w h s n x y : Int} (k : inB w h s n x y = true) : 0 ≤ patI s x y ∧ patI s x y < n ∧ y ≤ 16777216 ∧ s ≤ 16777216 ∧ x ≤ 16777216 ∧ 0 ≤ s := by
  obtain ⟨hp, ⟨x0, x1⟩, y0, y1⟩ := in_iff.1 k
  obtain ⟨hf, s1, s2, s3⟩ := pl_iff.1 hp
  obtain ⟨f1, f2⟩ := fit_le hf
  have f3 := fit_iff.1 hf
  have := Int.mul_nonneg y0 (show 0 ≤ s by omega)
  have q := Int.mul_le_mul_of_nonneg_right (show y ≤ h - 1 by omega) (show 0 ≤ s by omega)
  unfold patI
  exact ⟨by omega, by omega, by omega, s2, by omega, by omega⟩
/-- a row of a compact plane -/
theorem cp_row {w s : Int} (r : QR.Row) {x y : Int} (h0 : 0 ≤ x) (h1 : x < w) : cpV w s r (y * w + x) = intC (den r (patI s x y) 0) := by
  have e1 : (y * w + x) / w = y := by rw [Int.add_comm, Int.add_mul_ediv_right _ _ (by omega), Int.ediv_eq_zero_of_lt h0 h1, Int.zero_add]
  have e2 : (y * w + x) % w = x := by rw [Int.add_comm, Int.add_mul_emod_self_right, Int.emod_eq_of_lt h0 h1]
  unfold cpV patI
  rw [e1, e2]
theorem cells_iff {w h s : Int} {r : QR.Row} {s' : Int} {r' : QR.Row} : cellsEq w h s r s' r' = true ↔ ∀ x y : Int, 0 ≤ x → x < w → 0 ≤ y → y < h → intC (den r (patI s x y) 0) = intC (den r' (patI s' x y) 0) := by
  unfold cellsEq
  rw [List.all_eq_true]
  refine ⟨fun k x y x0 x1 y0 y1 => ?_, fun k y hy => List.all_eq_true.2 fun x hx => ?_⟩
  · have := List.all_eq_true.1 (k y.toNat (List.mem_range.2 (by omega))) x.toNat (List.mem_range.2 (by omega))
    rw [Int.toNat_of_nonneg x0, Int.toNat_of_nonneg y0] at this
    exact beq_iff_eq.1 this
  · exact beq_iff_eq.2 (k x y (by omega) (by have := List.mem_range.1 hx; omega) (by omega) (by have := List.mem_range.1 hy; omega))
theorem pe_iff {w h s n : Int} {r : QR.Row} {w' h' s' n' : Int} {r' : QR.Row} : peB w h s n r w' h' s' n' r' = true ↔ plB w h s n = true ∧ plB w' h' s' n' = true ∧ w = w' ∧ h = h' ∧ cellsEq w h s r s' r' = true := by
  unfold peB; simp only [Bool.and_eq_true, beq_iff_eq, and_assoc]
end Go.Proofs.Ytjieldpnnopljaa
