import Derived.Test.YtcckcifmhhaepaaMc
namespace Go.Proofs.Ytcckcifmhhaepaa
open Go.RowKit PR QR
set_option linter.unusedVariables false
set_option linter.unusedSimpArgs false
set_option maxRecDepth 20000
theorem gm_in {x k : Int} (h : 1 ≤ k) : 0 ≤ gmod x k ∧ gmod x k < k := by unfold gmod; exact ⟨Int.emod_nonneg _ (by omega), Int.emod_lt_of_pos _ (by omega)⟩
theorem mod_ok {k : Int} (h : 1 ≤ k) (h2 : k ≤ 4294967296) : modOk k = true := by unfold modOk; rw [decide_eq_true_eq]; omega
end Go.Proofs.Ytcckcifmhhaepaa
