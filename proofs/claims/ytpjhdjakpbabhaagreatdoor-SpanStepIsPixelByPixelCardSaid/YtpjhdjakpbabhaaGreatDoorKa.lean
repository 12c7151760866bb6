import Derived.Test.YtpjhdjakpbabhaaGreatDoorBj
namespace Go.Proofs.YtpjhdjakpbabhaaGreatDoor
open Go.RowKit PR QR
set_option linter.unusedVariables false
set_option linter.unusedSimpArgs false
section
variable {c0 c1 c2 a f x y k o m u v : Int}
theorem pv_iff : pvB c0 c1 c2 a f m = true ↔ c0 ≤ a ∧ c1 ≤ a ∧ c2 ≤ a ∧ a ≤ f ∧ f ≤ m := by unfold pvB; rw [decide_eq_true_eq]
end
end Go.Proofs.YtpjhdjakpbabhaaGreatDoor
