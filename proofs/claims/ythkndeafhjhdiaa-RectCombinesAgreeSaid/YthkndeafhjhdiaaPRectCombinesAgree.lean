/-
  'RectCombinesAgree': the law returns true at every input, and its arguments read as before. No condition.
-/
import Derived.Test.YthkndeafhjhdiaaRows
import Derived.WalkKit
import Derived.ProofKit
import Derived.OpenShut
import Derived.Laws.Cover2
import Derived.Test.YthkndeafhjhdiaaBb
import Derived.Test.YthkndeafhjhdiaaBf
import Derived.Test.YthkndeafhjhdiaaRs
import Derived.Test.YthkndeafhjhdiaaMe
namespace Go.Proofs.Ythkndeafhjhdiaa.rectCombinesAgree
open Go.ChangeShapes Go.WideShapes Go.ChangeAt Go.RowKit
set_option linter.unusedVariables false

theorem own : ownKnob Try.prog.godebug = none := by kernel_rfl
theorem laidOut : laidOutB Try.prog = true := by kernel_rfl

set_option maxRecDepth 100000 in
theorem lifted (os : Os) (started : os.Started) (H : Type) (enc : TypeId × Value → H) :
    ReturnsInHanded {} Try.checked os 4 .any (Rows.rectCombinesAgreeSpec.pre6 enc Try.prog Try.f4 Rows.rectCombinesAgreeRow.domain false) (Rows.rectCombinesAgreeSpec.post enc Try.prog Try.f4 false true false false) := by
  refine returnsInHanded_of_change (C := Try.checked) own started (by kernel_rfl) Try.func4
    (ChangeSpec.witness6 (enc := enc) (C := Try.checked) false ⟨#[], #[.agg #[.int .i64 0, .int .i64 0, .int .i64 0, .int .i64 0], .agg #[.int .i64 0, .int .i64 0, .int .i64 0, .int .i64 0], .agg #[.int .i64 0, .int .i64 0, .int .i64 0, .int .i64 0], .agg #[.int .i64 0, .int .i64 0, .int .i64 0, .int .i64 0], .slice none 0 0, .int .i64 0, .int .i64 0], []⟩ 8 (by kernel_rfl) (by kernel_rfl) (by kernel_rfl) (by kernel_rfl)) ?_
  intro W base args ds gs before hval0 hW hcnd _
  have hval : ∀ (j : Nat) t v, Try.f4.params[j]? = some t → args[j]? = some v → Value.okWide Try.prog W .any base t v := hval0
  have hW' := hW
  have hlt : ∀ x ∈ before, x.block < W.heap.size := fun x hx => by simpa using hW'.lt x hx
  obtain ⟨p, q, hA0, hV, rfl, hfz, hnd⟩ := hW
  have hA : DataW.TrodAll enc Try.prog W 0 (fun _ => true) true Try.f4.params.toList args.toList ds p := hA0
  rw [Try.params4] at hA hval
  obtain ⟨rfl, rfl⟩ := trodVars_none hV
  obtain ⟨v0, vs0, d0, ds0, p0, q0, hargs, rfl, rfl, h0, r0⟩ := trodAll_cons hA
  obtain ⟨v1, vs1, d1, ds1, p1, q1, rfl, rfl, rfl, h1, r1⟩ := trodAll_cons r0
  obtain ⟨v2, vs2, d2, ds2, p2, q2, rfl, rfl, rfl, h2, r2⟩ := trodAll_cons r1
  obtain ⟨v3, vs3, d3, ds3, p3, q3, rfl, rfl, rfl, h3, r3⟩ := trodAll_cons r2
  obtain ⟨v4, vs4, d4, ds4, p4, q4, rfl, rfl, rfl, h4, r4⟩ := trodAll_cons r3
  obtain ⟨v5, vs5, d5, ds5, p5, q5, rfl, rfl, rfl, h5, r5⟩ := trodAll_cons r4
  obtain ⟨v6, vs6, d6, ds6, p6, q6, rfl, rfl, rfl, h6, r6⟩ := trodAll_cons r5
  obtain ⟨rfl, rfl, rfl⟩ := trodAll_nil r6
  obtain rfl : args = #[v0, v1, v2, v3, v4, v5, v6] := by cases args; simp_all
  obtain ⟨l0, rfl, F0⟩ := open_flat (P := Try.prog) [3, 3, 3, 3] (by kernel_rfl) (Or.inl ⟨_, Try.underlying23⟩) (hval 0 23 v0 rfl rfl) h0
  obtain ⟨c0_0, m0_0, rfl, L0_0, F0⟩ := All2.cons F0
  obtain ⟨c0_1, m0_1, rfl, L0_1, F0⟩ := All2.cons F0
  obtain ⟨c0_2, m0_2, rfl, L0_2, F0⟩ := All2.cons F0
  obtain ⟨c0_3, m0_3, rfl, L0_3, F0⟩ := All2.cons F0
  obtain rfl := All2.nil F0
  obtain ⟨a0_0, rfl, w0_0⟩ := Leaf.int L0_0 Try.underlying3
  obtain ⟨a0_1, rfl, w0_1⟩ := Leaf.int L0_1 Try.underlying3
  obtain ⟨a0_2, rfl, w0_2⟩ := Leaf.int L0_2 Try.underlying3
  obtain ⟨a0_3, rfl, w0_3⟩ := Leaf.int L0_3 Try.underlying3
  obtain ⟨l1, rfl, F1⟩ := open_flat (P := Try.prog) [3, 3, 3, 3] (by kernel_rfl) (Or.inl ⟨_, Try.underlying23⟩) (hval 1 23 v1 rfl rfl) h1
  obtain ⟨c1_0, m1_0, rfl, L1_0, F1⟩ := All2.cons F1
  obtain ⟨c1_1, m1_1, rfl, L1_1, F1⟩ := All2.cons F1
  obtain ⟨c1_2, m1_2, rfl, L1_2, F1⟩ := All2.cons F1
  obtain ⟨c1_3, m1_3, rfl, L1_3, F1⟩ := All2.cons F1
  obtain rfl := All2.nil F1
  obtain ⟨a1_0, rfl, w1_0⟩ := Leaf.int L1_0 Try.underlying3
  obtain ⟨a1_1, rfl, w1_1⟩ := Leaf.int L1_1 Try.underlying3
  obtain ⟨a1_2, rfl, w1_2⟩ := Leaf.int L1_2 Try.underlying3
  obtain ⟨a1_3, rfl, w1_3⟩ := Leaf.int L1_3 Try.underlying3
  obtain ⟨l2, rfl, F2⟩ := open_flat (P := Try.prog) [3, 3, 3, 3] (by kernel_rfl) (Or.inr ⟨_, _, Try.underlying24⟩) (hval 2 24 v2 rfl rfl) h2
  obtain ⟨c2_0, m2_0, rfl, L2_0, F2⟩ := All2.cons F2
  obtain ⟨c2_1, m2_1, rfl, L2_1, F2⟩ := All2.cons F2
  obtain ⟨c2_2, m2_2, rfl, L2_2, F2⟩ := All2.cons F2
  obtain ⟨c2_3, m2_3, rfl, L2_3, F2⟩ := All2.cons F2
  obtain rfl := All2.nil F2
  obtain ⟨a2_0, rfl, w2_0⟩ := Leaf.int L2_0 Try.underlying3
  obtain ⟨a2_1, rfl, w2_1⟩ := Leaf.int L2_1 Try.underlying3
  obtain ⟨a2_2, rfl, w2_2⟩ := Leaf.int L2_2 Try.underlying3
  obtain ⟨a2_3, rfl, w2_3⟩ := Leaf.int L2_3 Try.underlying3
  obtain ⟨l3, rfl, F3⟩ := open_flat (P := Try.prog) [3, 3, 3, 3] (by kernel_rfl) (Or.inr ⟨_, _, Try.underlying24⟩) (hval 3 24 v3 rfl rfl) h3
  obtain ⟨c3_0, m3_0, rfl, L3_0, F3⟩ := All2.cons F3
  obtain ⟨c3_1, m3_1, rfl, L3_1, F3⟩ := All2.cons F3
  obtain ⟨c3_2, m3_2, rfl, L3_2, F3⟩ := All2.cons F3
  obtain ⟨c3_3, m3_3, rfl, L3_3, F3⟩ := All2.cons F3
  obtain rfl := All2.nil F3
  obtain ⟨a3_0, rfl, w3_0⟩ := Leaf.int L3_0 Try.underlying3
  obtain ⟨a3_1, rfl, w3_1⟩ := Leaf.int L3_1 Try.underlying3
  obtain ⟨a3_2, rfl, w3_2⟩ := Leaf.int L3_2 Try.underlying3
  obtain ⟨a3_3, rfl, w3_3⟩ := Leaf.int L3_3 Try.underlying3
  obtain ⟨n4, l4, z4, w4, r4'⟩ := open_slc_ints [3, 3, 3, 3] Try.underlying33 (by kernel_rfl) (by kernel_rfl) (by decide) (fun u hu => by rw [show u = 3 from by simpa using hu]; exact Try.underlying3) (leaf_slice Try.underlying33 (hval 4 33 v4 rfl rfl) h4)
  obtain ⟨a5, rfl, rfl, rfl, w5⟩ := open_int Try.underlying3 (hval 5 3 v5 rfl rfl) h5
  obtain ⟨a6, rfl, rfl, rfl, w6⟩ := open_int Try.underlying3 (hval 6 3 v6 rfl rfl) h6
  obtain ⟨F, hG, hF, hFp⟩ := more_laid (w := W) (⟨_, no_tables (fun _ => rfl) W, fun _ h => h.elim⟩) hlt
  refine (RectCombinesAgree_core a0_0 a0_1 a0_2 a0_3 a1_0 a1_1 a1_2 a1_3 a2_0 a2_1 a2_2 a2_3 a3_0 a3_1 a3_2 a3_3 n4 l4 a5 a6 w0_0 w0_1 w0_2 w0_3 w1_0 w1_1 w1_2 w1_3 w2_0 w2_1 w2_2 w2_3 w3_0 w3_1 w3_2 w3_3 z4 w4 w5 w6 W hG hF v4 (r4' F (fun x hx => hFp x (by simp [hx])))).mono fun e W' ⟨he, hg⟩ => ?_
  subst he
  exact ⟨_, rfl, Law.keep laidOut (by rw [Try.params4]; exact of_decide_eq_true (by kernel_rfl)) rfl hW' hlt hg rfl rfl (fun _ _ _ => (trodAll_cons_mk (shut_bool Try.underlying4 _) trodAll_mk0))⟩

theorem over : Rows.rectCombinesAgreeRow.holds Try.pinned (OpenSpec.ofChange Rows.rectCombinesAgreeSpec) :=
  OpenClaim.holds_of_wide 4 Try.f4 rfl rfl rfl rfl rfl rfl rfl ⟨rfl, rfl, rfl, rfl, rfl⟩ rfl rfl rfl rfl rfl (by kernel_rfl) Try.func4 (by kernel_rfl)
    (of_decide_eq_true (by kernel_rfl)) (by unfold Func.isWrapper; first | (rw [if_pos (by decide +kernel)]; kernel_rfl) | (rw [if_neg (by decide +kernel)]; exact ⟨rfl, rfl⟩))
    (fun os started H enc _ => lifted os started H enc)

theorem proved : Rows.RectCombinesAgreeSaid :=
  over
#print axioms proved
end Go.Proofs.Ythkndeafhjhdiaa.rectCombinesAgree
