/-
  What serves every layer's laws: ranges of 16 bits, the generator's maximum, and small facts.
-/
import Derived.Test.YtafaadnjkkkafaaDoorSp
namespace Go.Proofs.YtafaadnjkkkafaaDoor
open Go.RowKit PR
set_option linter.unusedVariables false

-- SPEC in16 gxMax
def in16 (a : Int) : Bool := decide (0 ≤ a ∧ a < 65536)
def gxMax (n : Int) : Int := if n % 3 = 2 then 65535 else 255

def s_gmax : List Value → Option (Value × List Bool)
  | [.int .i64 n] => some (.int .u16 (gxMax n), [])
  | _ => none
def s_yes : List Value → Option (Value × List Bool)
  | [] => some (.bool true, [])
  | _ => none
def o_gmax : Oracle := orc [(12, s_mod)]
set_option maxRecDepth 100000 in
theorem gmax_vc (n : Int) (V : Value → Prop) : evalBody Tryd.prog (o_gmax) (noLoops) (Tryd.f18.body.getD .skip) Tryd.f18.results.toList Tryd.f18.ntmps [.int .i64 n] V = (bcond (ieq (gmod n 3) 2) ((true = true ∧ True) ∧ V (Value.int .u16 65535)) ((true = true ∧ True) ∧ V (Value.int .u16 255))) := by
  try delta o_gmax
  try delta s_mod
  generalize @gmod = gmod
  generalize @modOk = modOk
  kernel_rfl

theorem a_gmax : Answers 18 s_gmax := by
  intro args v bs h hok
  unfold s_gmax at h
  split at h <;> try (simp at h; done)
  rename_i n
  simp only [Option.some.injEq, Prod.mk.injEq] at h
  obtain ⟨rfl, rfl⟩ := h
  refine does_of_eval (O := o_gmax) (orc_cons a_mod orc_nil) mixed (noLoops) Tryd.func18 (by kernel_rfl) (by kernel_rfl) rfl ?_
  rw [gmax_vc]
  simp only [bcond_iff, ieq, gmod, beq_iff_eq, beq_eq_false_iff_ne, ne_eq, true_and]
  unfold gxMax
  refine ⟨fun h => by rw [if_pos h], fun h => by rw [if_neg h]⟩
theorem ieq_rfl' (a : Int) : ieq a a = true := by simp [ieq]
theorem beq_rfl' (a : Bool) : beq' a a = true := by simp [beq']
theorem wf16 {a : Int} (h : (Lit.int .u16 a).wf = true) : in16 a = true := by
  simp only [Lit.wf, Bool.and_eq_true, decide_eq_true_eq] at h
  have h1 : IntKind.u16.min = 0 := rfl
  have h2 : IntKind.u16.max = 65535 := rfl
  unfold in16; rw [decide_eq_true_eq]; omega
theorem gxMax_cases (n : Int) : gxMax n = 255 ∨ gxMax n = 65535 := by unfold gxMax; split <;> simp
end Go.Proofs.YtafaadnjkkkafaaDoor
