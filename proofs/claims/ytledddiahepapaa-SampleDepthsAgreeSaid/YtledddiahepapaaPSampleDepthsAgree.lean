/-
  'SampleDepthsAgree': the law returns true at every input, and its arguments read as before. No condition.
-/
import Derived.Test.YtledddiahepapaaRows
import Derived.WalkKit
import Derived.ProofKit
import Derived.OpenShut
import Derived.Laws.Cover2
import Derived.Test.YtledddiahepapaaW
import Derived.Test.YtledddiahepapaaVc
namespace Go.Proofs.Ytledddiahepapaa.sampleDepthsAgree
open Go.ChangeShapes Go.WideShapes Go.ChangeAt Go.RowKit
set_option linter.unusedVariables false

theorem own : ownKnob Try.prog.godebug = none := by kernel_rfl
theorem laidOut : laidOutB Try.prog = true := by kernel_rfl

set_option maxRecDepth 100000 in
theorem lifted (os : Os) (started : os.Started) (H : Type) (enc : TypeId × Value → H) :
    ReturnsInHanded {} Try.checked os 4 .any (Rows.sampleDepthsAgreeSpec.pre6 enc Try.prog Try.f4 Rows.sampleDepthsAgreeRow.domain false) (Rows.sampleDepthsAgreeSpec.post enc Try.prog Try.f4 false true false false) := by
  refine returnsInHanded_of_change (C := Try.checked) own started (by kernel_rfl) Try.func4
    (ChangeSpec.witness6 (enc := enc) (C := Try.checked) false ⟨#[], #[.int .u16 0, .agg #[.int .u16 0, .int .u16 0, .int .u16 0, .int .u16 0, .int .u16 0]], []⟩ 8 (by kernel_rfl) (by kernel_rfl) (by kernel_rfl) (by kernel_rfl)) ?_
  intro W base args ds gs before hval0 hW hcnd _
  have hval : ∀ (j : Nat) t v, Try.f4.params[j]? = some t → args[j]? = some v → Value.okWide Try.prog W .any base t v := hval0
  have hW' := hW
  have hlt : ∀ x ∈ before, x.block < W.heap.size := fun x hx => by simpa using hW'.lt x hx
  obtain ⟨p, q, hA0, hV, rfl, hfz, hnd⟩ := hW
  have hA : DataW.TrodAll enc Try.prog W 0 (fun _ => true) true Try.f4.params.toList args.toList ds p := hA0
  rw [Try.params4] at hA hval
  obtain ⟨rfl, rfl⟩ := trodVars_none hV
  obtain ⟨v0, vs0, d0, ds0, p0, q0, hargs, rfl, rfl, h0, r0⟩ := trodAll_cons hA
  obtain ⟨v1, vs1, d1, ds1, p1, q1, rfl, rfl, rfl, h1, r1⟩ := trodAll_cons r0
  obtain ⟨rfl, rfl, rfl⟩ := trodAll_nil r1
  obtain rfl : args = #[v0, v1] := by cases args; simp_all
  obtain ⟨a0, rfl, rfl, rfl, w0⟩ := open_int Try.underlying22 (hval 0 22 v0 rfl rfl) h0
  obtain ⟨l1, rfl, F1⟩ := open_flat (P := Try.prog) [22, 22, 22, 22, 22] (by kernel_rfl) (Or.inl ⟨_, Try.underlying25⟩) (hval 1 25 v1 rfl rfl) h1
  obtain ⟨c1_0, m1_0, rfl, L1_0, F1⟩ := All2.cons F1
  obtain ⟨c1_1, m1_1, rfl, L1_1, F1⟩ := All2.cons F1
  obtain ⟨c1_2, m1_2, rfl, L1_2, F1⟩ := All2.cons F1
  obtain ⟨c1_3, m1_3, rfl, L1_3, F1⟩ := All2.cons F1
  obtain ⟨c1_4, m1_4, rfl, L1_4, F1⟩ := All2.cons F1
  obtain rfl := All2.nil F1
  obtain ⟨a1_0, rfl, w1_0⟩ := Leaf.int L1_0 Try.underlying22
  obtain ⟨a1_1, rfl, w1_1⟩ := Leaf.int L1_1 Try.underlying22
  obtain ⟨a1_2, rfl, w1_2⟩ := Leaf.int L1_2 Try.underlying22
  obtain ⟨a1_3, rfl, w1_3⟩ := Leaf.int L1_3 Try.underlying22
  obtain ⟨a1_4, rfl, w1_4⟩ := Leaf.int L1_4 Try.underlying22
  refine (SampleDepthsAgree_core a0 a1_0 a1_1 a1_2 a1_3 a1_4 w0 w1_0 w1_1 w1_2 w1_3 w1_4 W).mono fun e W' ⟨he, hg⟩ => ?_
  subst he
  exact ⟨_, rfl, Law.keep laidOut (by rw [Try.params4]; exact of_decide_eq_true (by kernel_rfl)) rfl hW' hlt hg rfl rfl (fun _ _ _ => (trodAll_cons_mk (shut_bool Try.underlying4 _) trodAll_mk0))⟩

theorem over : Rows.sampleDepthsAgreeRow.holds Try.pinned (OpenSpec.ofChange Rows.sampleDepthsAgreeSpec) :=
  OpenClaim.holds_of_wide 4 Try.f4 rfl rfl rfl rfl rfl rfl rfl ⟨rfl, rfl, rfl, rfl, rfl⟩ rfl rfl rfl rfl rfl (by kernel_rfl) Try.func4 (by kernel_rfl)
    (of_decide_eq_true (by kernel_rfl)) (by unfold Func.isWrapper; first | (rw [if_pos (by decide +kernel)]; kernel_rfl) | (rw [if_neg (by decide +kernel)]; exact ⟨rfl, rfl⟩))
    (fun os started H enc _ => lifted os started H enc)

theorem proved : Rows.SampleDepthsAgreeSaid :=
  over
#print axioms proved
end Go.Proofs.Ytledddiahepapaa.sampleDepthsAgree
