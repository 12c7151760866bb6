import Derived.Test.YtpjhdjakpbabhaaDoorKa
import Derived.Test.YtpjhdjakpbabhaaDoorBi
namespace Go.Proofs.YtpjhdjakpbabhaaDoor
open Go.RowKit PR QR
set_option linter.unusedVariables false
set_option linter.unusedSimpArgs false
def vaB (c0 c1 c2 a own f k0 k1 k2 ka kf m : Int) : Bool := decide (c0 ≤ a ∧ c1 ≤ a ∧ c2 ≤ a ∧ own ≤ a ∧ own ≤ f ∧ a ≤ m ∧ f ≤ m ∧ k0 ≤ ka ∧ k1 ≤ ka ∧ k2 ≤ ka ∧ ka = kf ∧ ka ≤ m) && fullB m
section
variable {c0 c1 c2 a own f k0 k1 k2 ka kf m o k s0 s1 s2 sa sf s c d b : Int}
theorem va_iff : vaB c0 c1 c2 a own f k0 k1 k2 ka kf m = true ↔ (c0 ≤ a ∧ c1 ≤ a ∧ c2 ≤ a ∧ own ≤ a ∧ own ≤ f ∧ a ≤ m ∧ f ≤ m) ∧ (k0 ≤ ka ∧ k1 ≤ ka ∧ k2 ≤ ka ∧ ka = kf ∧ ka ≤ m) ∧ (m = 255 ∨ m = 65535) := by
  unfold vaB fullB
  rw [Bool.and_eq_true, decide_eq_true_eq, decide_eq_true_eq]
  simp only [and_assoc]
end
end Go.Proofs.YtpjhdjakpbabhaaDoor
