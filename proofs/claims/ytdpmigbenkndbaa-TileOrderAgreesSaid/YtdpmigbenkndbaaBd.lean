import Derived.Test.YtdpmigbenkndbaaBb
import Derived.Test.YtdpmigbenkndbaaBc
namespace Go.Proofs.Ytdpmigbenkndbaa
open Go.RowKit PR
set_option linter.unusedVariables false
def inU (a : Int) : Bool := decide (0 ≤ a ∧ a < 18446744073709551616)
def w2 (h l : Int) : Int := h * 18446744073709551616 + l
def hlf (n d : Int) : Int := ((half n.toNat d.toNat : Nat) : Int)
def gmod (n k : Int) : Int := n % k
def modOk (k : Int) : Bool := decide (1 ≤ k ∧ k ≤ 4611686018427387904)
def s_mod : List Value → Option (Value × List Bool)
  | [.int .i64 n, .int .i64 k] => some (.int .i64 (gmod n k), [modOk k])
  | _ => none
def Answers (f : Nat) (s : List Value → Option (Value × List Bool)) : Prop := AnswersP Try.prog f s
theorem mixed : Try.prog.follows .mixedOrders = true := by kernel_rfl
theorem a_mod : Answers 9 s_mod := by
  intro args v bs h hok
  unfold s_mod at h
  split at h <;> try (simp at h; done)
  simp only [Option.some.injEq, Prod.mk.injEq] at h
  obtain ⟨rfl, rfl⟩ := h
  obtain ⟨h3, _⟩ := hok
  obtain ⟨h1, h2⟩ := of_decide_eq_true h3
  refine does_of_calls Try.func9 (by kernel_rfl) (by kernel_rfl) fun w => (mod_any _ _ h1 h2 w).mono ?_
  rintro e w' ⟨rfl, rfl⟩
  exact ⟨rfl, Below.refl _ _⟩
end Go.Proofs.Ytdpmigbenkndbaa
namespace Go.Proofs.Ytdpmigbenkndbaa
open Go.RowKit PR
set_option linter.unusedVariables false
def in16 (a : Int) : Bool := decide (0 ≤ a ∧ a < 65536)
def gxMax (n : Int) : Int := if n % 3 = 2 then 65535 else 255
theorem ieq_rfl' (a : Int) : ieq a a = true := by simp [ieq]
theorem beq_rfl' (a : Bool) : beq' a a = true := by simp [beq']
end Go.Proofs.Ytdpmigbenkndbaa
namespace Go.Proofs.Ytdpmigbenkndbaa
open Go.RowKit PR
set_option linter.unusedVariables false
end Go.Proofs.Ytdpmigbenkndbaa
namespace Go.Proofs.Ytdpmigbenkndbaa
open Go.RowKit PR
set_option linter.unusedVariables false
end Go.Proofs.Ytdpmigbenkndbaa
namespace Go.Proofs.Ytdpmigbenkndbaa
open Go.RowKit PR
set_option linter.unusedVariables false
end Go.Proofs.Ytdpmigbenkndbaa
namespace Go.Proofs.Ytdpmigbenkndbaa
open Go.RowKit PR
set_option linter.unusedVariables false
end Go.Proofs.Ytdpmigbenkndbaa
namespace Go.Proofs.Ytdpmigbenkndbaa
open Go.RowKit PR
set_option linter.unusedVariables false
end Go.Proofs.Ytdpmigbenkndbaa
namespace Go.Proofs.Ytdpmigbenkndbaa
open Go.RowKit PR
set_option linter.unusedVariables false
theorem gmod_range (n : Int) {k : Int} (h : 0 < k) : 0 ≤ gmod n k ∧ gmod n k < k := by
  unfold gmod; exact ⟨Int.emod_nonneg _ (by omega), Int.emod_lt_of_pos _ h⟩
end Go.Proofs.Ytdpmigbenkndbaa
