/-
  'KnockoutColorAgrees': the law returns true at every input, and its arguments read as before. No condition.
-/
import Derived.Test.YtoofajneoefpjaaRows
import Derived.WalkKit
import Derived.ProofKit
import Derived.OpenShut
import Derived.Laws.Cover2
import Derived.Test.YtoofajneoefpjaaBb
import Derived.Test.YtoofajneoefpjaaBf
import Derived.Test.YtoofajneoefpjaaRs
import Derived.Test.YtoofajneoefpjaaBf
import Derived.Test.YtoofajneoefpjaaRs
import Derived.Test.YtoofajneoefpjaaBg
import Derived.Test.YtoofajneoefpjaaBh
import Derived.Test.YtoofajneoefpjaaBi
import Derived.Test.YtoofajneoefpjaaJa
import Derived.Test.YtoofajneoefpjaaJb
import Derived.Test.YtoofajneoefpjaaJc
import Derived.Test.YtoofajneoefpjaaJd
import Derived.Test.YtoofajneoefpjaaJe
namespace Go.Proofs.Ytoofajneoefpjaa.knockoutColorAgrees
open Go.ChangeShapes Go.WideShapes Go.ChangeAt Go.RowKit
set_option linter.unusedVariables false

theorem own : ownKnob Try.prog.godebug = none := by kernel_rfl
theorem laidOut : laidOutB Try.prog = true := by kernel_rfl

set_option maxRecDepth 100000 in
theorem lifted (os : Os) (started : os.Started) (H : Type) (enc : TypeId × Value → H) :
    ReturnsInHanded {} Try.checked os 3 .any (Rows.knockoutColorAgreesSpec.pre6 enc Try.prog Try.f3 Rows.knockoutColorAgreesRow.domain false) (Rows.knockoutColorAgreesSpec.post enc Try.prog Try.f3 false true false false) := by
  refine returnsInHanded_of_change (C := Try.checked) own started (by kernel_rfl) Try.func3
    (ChangeSpec.witness6 (enc := enc) (C := Try.checked) false ⟨#[], #[.int .i64 0, .agg #[.int .i64 0, .int .i64 0, .int .i64 0], .int .i64 0, .agg #[.int .i64 0, .int .i64 0], .int .i64 0, .agg #[.int .u16 0, .int .u16 0, .int .u16 0, .int .u16 0, .int .u16 0, .int .u16 0], .int .u16 0], []⟩ 8 (by kernel_rfl) (by kernel_rfl) (by kernel_rfl) (by kernel_rfl)) ?_
  intro W base args ds gs before hval0 hW hcnd _
  have hval : ∀ (j : Nat) t v, Try.f3.params[j]? = some t → args[j]? = some v → Value.okWide Try.prog W .any base t v := hval0
  have hW' := hW
  have hlt : ∀ x ∈ before, x.block < W.heap.size := fun x hx => by simpa using hW'.lt x hx
  obtain ⟨p, q, hA0, hV, rfl, hfz, hnd⟩ := hW
  have hA : DataW.TrodAll enc Try.prog W 0 (fun _ => true) true Try.f3.params.toList args.toList ds p := hA0
  rw [Try.params3] at hA hval
  obtain ⟨rfl, rfl⟩ := trodVars_none hV
  obtain ⟨v0, vs0, d0, ds0, p0, q0, hargs, rfl, rfl, h0, r0⟩ := trodAll_cons hA
  obtain ⟨v1, vs1, d1, ds1, p1, q1, rfl, rfl, rfl, h1, r1⟩ := trodAll_cons r0
  obtain ⟨v2, vs2, d2, ds2, p2, q2, rfl, rfl, rfl, h2, r2⟩ := trodAll_cons r1
  obtain ⟨v3, vs3, d3, ds3, p3, q3, rfl, rfl, rfl, h3, r3⟩ := trodAll_cons r2
  obtain ⟨v4, vs4, d4, ds4, p4, q4, rfl, rfl, rfl, h4, r4⟩ := trodAll_cons r3
  obtain ⟨v5, vs5, d5, ds5, p5, q5, rfl, rfl, rfl, h5, r5⟩ := trodAll_cons r4
  obtain ⟨v6, vs6, d6, ds6, p6, q6, rfl, rfl, rfl, h6, r6⟩ := trodAll_cons r5
  obtain ⟨rfl, rfl, rfl⟩ := trodAll_nil r6
  obtain rfl : args = #[v0, v1, v2, v3, v4, v5, v6] := by cases args; simp_all
  obtain ⟨a0, rfl, rfl, rfl, w0⟩ := open_int Try.underlying3 (hval 0 3 v0 rfl rfl) h0
  obtain ⟨l1, rfl, F1⟩ := open_flat (P := Try.prog) [3, 3, 3] (by kernel_rfl) (Or.inr ⟨_, _, Try.underlying22⟩) (hval 1 22 v1 rfl rfl) h1
  obtain ⟨c1_0, m1_0, rfl, L1_0, F1⟩ := All2.cons F1
  obtain ⟨c1_1, m1_1, rfl, L1_1, F1⟩ := All2.cons F1
  obtain ⟨c1_2, m1_2, rfl, L1_2, F1⟩ := All2.cons F1
  obtain rfl := All2.nil F1
  obtain ⟨a1_0, rfl, w1_0⟩ := Leaf.int L1_0 Try.underlying3
  obtain ⟨a1_1, rfl, w1_1⟩ := Leaf.int L1_1 Try.underlying3
  obtain ⟨a1_2, rfl, w1_2⟩ := Leaf.int L1_2 Try.underlying3
  obtain ⟨a2, rfl, rfl, rfl, w2⟩ := open_int Try.underlying3 (hval 2 3 v2 rfl rfl) h2
  obtain ⟨l3, rfl, F3⟩ := open_flat (P := Try.prog) [3, 3] (by kernel_rfl) (Or.inr ⟨_, _, Try.underlying23⟩) (hval 3 23 v3 rfl rfl) h3
  obtain ⟨c3_0, m3_0, rfl, L3_0, F3⟩ := All2.cons F3
  obtain ⟨c3_1, m3_1, rfl, L3_1, F3⟩ := All2.cons F3
  obtain rfl := All2.nil F3
  obtain ⟨a3_0, rfl, w3_0⟩ := Leaf.int L3_0 Try.underlying3
  obtain ⟨a3_1, rfl, w3_1⟩ := Leaf.int L3_1 Try.underlying3
  obtain ⟨a4, rfl, rfl, rfl, w4⟩ := open_int Try.underlying3 (hval 4 3 v4 rfl rfl) h4
  obtain ⟨l5, rfl, F5⟩ := open_flat (P := Try.prog) [24, 24, 24, 24, 24, 24] (by kernel_rfl) (Or.inr ⟨_, _, Try.underlying25⟩) (hval 5 25 v5 rfl rfl) h5
  obtain ⟨c5_0, m5_0, rfl, L5_0, F5⟩ := All2.cons F5
  obtain ⟨c5_1, m5_1, rfl, L5_1, F5⟩ := All2.cons F5
  obtain ⟨c5_2, m5_2, rfl, L5_2, F5⟩ := All2.cons F5
  obtain ⟨c5_3, m5_3, rfl, L5_3, F5⟩ := All2.cons F5
  obtain ⟨c5_4, m5_4, rfl, L5_4, F5⟩ := All2.cons F5
  obtain ⟨c5_5, m5_5, rfl, L5_5, F5⟩ := All2.cons F5
  obtain rfl := All2.nil F5
  obtain ⟨a5_0, rfl, w5_0⟩ := Leaf.int L5_0 Try.underlying24
  obtain ⟨a5_1, rfl, w5_1⟩ := Leaf.int L5_1 Try.underlying24
  obtain ⟨a5_2, rfl, w5_2⟩ := Leaf.int L5_2 Try.underlying24
  obtain ⟨a5_3, rfl, w5_3⟩ := Leaf.int L5_3 Try.underlying24
  obtain ⟨a5_4, rfl, w5_4⟩ := Leaf.int L5_4 Try.underlying24
  obtain ⟨a5_5, rfl, w5_5⟩ := Leaf.int L5_5 Try.underlying24
  obtain ⟨a6, rfl, rfl, rfl, w6⟩ := open_int Try.underlying24 (hval 6 24 v6 rfl rfl) h6
  obtain ⟨F, hG, hF, hFp⟩ := more_laid (w := W) (⟨_, no_tables (fun _ => rfl) W, fun _ h => h.elim⟩) hlt
  refine (KnockoutColorAgrees_core a0 a1_0 a1_1 a1_2 a2 a3_0 a3_1 a4 a5_0 a5_1 a5_2 a5_3 a5_4 a5_5 a6 w0 w1_0 w1_1 w1_2 w2 w3_0 w3_1 w4 w5_0 w5_1 w5_2 w5_3 w5_4 w5_5 w6 W hG hF).mono fun e W' ⟨he, hg⟩ => ?_
  subst he
  exact ⟨_, rfl, Law.keep laidOut (by rw [Try.params3]; exact of_decide_eq_true (by kernel_rfl)) rfl hW' hlt hg rfl rfl (fun _ _ _ => (trodAll_cons_mk (shut_bool Try.underlying4 _) trodAll_mk0))⟩

theorem over : Rows.knockoutColorAgreesRow.holds Try.pinned (OpenSpec.ofChange Rows.knockoutColorAgreesSpec) :=
  OpenClaim.holds_of_wide 3 Try.f3 rfl rfl rfl rfl rfl rfl rfl ⟨rfl, rfl, rfl, rfl, rfl⟩ rfl rfl rfl rfl rfl (by kernel_rfl) Try.func3 (by kernel_rfl)
    (of_decide_eq_true (by kernel_rfl)) (by unfold Func.isWrapper; first | (rw [if_pos (by decide +kernel)]; kernel_rfl) | (rw [if_neg (by decide +kernel)]; exact ⟨rfl, rfl⟩))
    (fun os started H enc _ => lifted os started H enc)

theorem proved : Rows.KnockoutColorAgreesSaid :=
  over
#print axioms proved
end Go.Proofs.Ytoofajneoefpjaa.knockoutColorAgrees
