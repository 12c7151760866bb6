import Derived.Test.YtpjhdjakpbabhaaGreatDoorKa
import Derived.Test.YtpjhdjakpbabhaaGreatDoorJa
namespace Go.Proofs.YtpjhdjakpbabhaaGreatDoor
open Go.RowKit PR QR
set_option linter.unusedVariables false
set_option linter.unusedSimpArgs false
def vaB (c0 c1 c2 a own f k0 k1 k2 ka kf m : Int) : Bool := decide (c0 ≤ a ∧ c1 ≤ a ∧ c2 ≤ a ∧ own ≤ a ∧ own ≤ f ∧ a ≤ m ∧ f ≤ m ∧ k0 ≤ ka ∧ k1 ≤ ka ∧ k2 ≤ ka ∧ ka = kf ∧ ka ≤ m) && fullB m
def gsOk (kn : Bool) (o k m s0 s1 s2 sa sf c0 c1 c2 a own f k0 k1 k2 ka kf : Int) : Bool := decide ((1 ≤ o ∧ o ≤ 12) ∧ (1 ≤ k ∧ k ≤ 12) ∧ (kn = true → o = 4)) && (pvB s0 s1 s2 sa sf m && vaB c0 c1 c2 a own f k0 k1 k2 ka kf m)
def gsC (kn : Bool) (o k m s sa sf c a d b : Int) : Int := bif kn then kcV k m s sa sf c d b else mcV o k m s sa c a
def gsA (kn : Bool) (o m sa sf a b : Int) : Int := bif kn then kaV m sa sf a b else alV o sa a m
def gsO (kn : Bool) (o m sa sf own : Int) : Int := bif kn then kaV m sa sf own 0 else alV o sa own m
def gsF (o m sf f : Int) : Int := shV o sf f m
def grC (c d own m : Int) : Int := if m * c ≤ (m - own) * d then 0 else iimin (hlf (m * c - (m - own) * d) m) own
def grV (ok : Bool) (c d own m : Int) : Int := bif ok then iconv .u16 (grC c d own m) else 0
section
variable {c0 c1 c2 a own f k0 k1 k2 ka kf m o k s0 s1 s2 sa sf s c d b : Int}
theorem va_iff : vaB c0 c1 c2 a own f k0 k1 k2 ka kf m = true ↔ (c0 ≤ a ∧ c1 ≤ a ∧ c2 ≤ a ∧ own ≤ a ∧ own ≤ f ∧ a ≤ m ∧ f ≤ m) ∧ (k0 ≤ ka ∧ k1 ≤ ka ∧ k2 ≤ ka ∧ ka = kf ∧ ka ≤ m) ∧ (m = 255 ∨ m = 65535) := by
  unfold vaB fullB
  rw [Bool.and_eq_true, decide_eq_true_eq, decide_eq_true_eq]
  simp only [and_assoc]
theorem gs_iff {kn : Bool} : gsOk kn o k m s0 s1 s2 sa sf c0 c1 c2 a own f k0 k1 k2 ka kf = true ↔ ((1 ≤ o ∧ o ≤ 12) ∧ (1 ≤ k ∧ k ≤ 12) ∧ (kn = true → o = 4)) ∧ (s0 ≤ sa ∧ s1 ≤ sa ∧ s2 ≤ sa ∧ sa ≤ sf ∧ sf ≤ m) ∧ vaB c0 c1 c2 a own f k0 k1 k2 ka kf m = true := by
  unfold gsOk
  rw [Bool.and_eq_true, Bool.and_eq_true, pv_iff, decide_eq_true_eq]
theorem gr_range (c0 : 0 ≤ c) (o0 : 0 ≤ own) : 0 ≤ grC c d own m ∧ grC c d own m ≤ own := by
  unfold grC
  split
  · omega
  · have := hlf_nonneg (m * c - (m - own) * d) m
    unfold iimin; split <;> omega
theorem gr_at (c0 : 0 ≤ c) (o0 : 0 ≤ own) (o1 : own ≤ 65535) : grV true c d own m = grC c d own m := u16_id (gr_range c0 o0).1 (by have := (gr_range (c := c) (d := d) (m := m) c0 o0).2; omega)
end
end Go.Proofs.YtpjhdjakpbabhaaGreatDoor
