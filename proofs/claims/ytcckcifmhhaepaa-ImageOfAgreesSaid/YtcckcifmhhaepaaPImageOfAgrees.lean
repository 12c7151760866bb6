/-
  'ImageOfAgrees': the law returns true at every input, and its arguments read as before. No condition.
-/
import Derived.Test.YtcckcifmhhaepaaRows
import Derived.WalkKit
import Derived.ProofKit
import Derived.OpenShut
import Derived.Laws.Cover2
import Derived.Test.YtcckcifmhhaepaaBb
import Derived.Test.YtcckcifmhhaepaaBf
import Derived.Test.YtcckcifmhhaepaaRs
import Derived.Test.YtcckcifmhhaepaaZm
namespace Go.Proofs.Ytcckcifmhhaepaa.imageOfAgrees
open Go.ChangeShapes Go.WideShapes Go.ChangeAt Go.RowKit
set_option linter.unusedVariables false
theorem own : ownKnob Try.prog.godebug = none := by kernel_rfl
theorem laidOut : laidOutB Try.prog = true := by kernel_rfl
set_option maxRecDepth 100000 in
theorem lifted (os : Os) (started : os.Started) (H : Type) (enc : TypeId × Value → H) :
    ReturnsInHanded {} Try.checked os 4 .any (Rows.imageOfAgreesSpec.pre6 enc Try.prog Try.f4 Rows.imageOfAgreesRow.domain false) (Rows.imageOfAgreesSpec.post enc Try.prog Try.f4 false true false false) := by
  refine returnsInHanded_of_change (C := Try.checked) own started (by kernel_rfl) Try.func4
    (ChangeSpec.witness6 (enc := enc) (C := Try.checked) false ⟨#[], #[.agg #[.int .i64 0, .slice none 0 0], .int .i64 0, .int .i64 0, .int .i64 0, .int .i64 0, .agg #[.int .u16 0, .int .u16 0, .int .u16 0, .int .u16 0, .int .u16 0], .int .i64 0, .int .i64 0], []⟩ 8 (by kernel_rfl) (by kernel_rfl) (by kernel_rfl) (by kernel_rfl)) ?_
  intro W base args ds gs before hval0 hW hcnd _
  have hval : ∀ (j : Nat) t v, Try.f4.params[j]? = some t → args[j]? = some v → Value.okWide Try.prog W .any base t v := hval0
  have hW' := hW
  have hlt : ∀ x ∈ before, x.block < W.heap.size := fun x hx => by simpa using hW'.lt x hx
  obtain ⟨p, q, hA0, hV, rfl, hfz, hnd⟩ := hW
  have hA : DataW.TrodAll enc Try.prog W 0 (fun _ => true) true Try.f4.params.toList args.toList ds p := hA0
  rw [Try.params4] at hA hval
  obtain ⟨rfl, rfl⟩ := trodVars_none hV
  obtain ⟨v0, vs0, d0, ds0, p0, q0, hargs, rfl, rfl, h0, r0⟩ := trodAll_cons hA
  obtain ⟨v1, vs1, d1, ds1, p1, q1, rfl, rfl, rfl, h1, r1⟩ := trodAll_cons r0
  obtain ⟨v2, vs2, d2, ds2, p2, q2, rfl, rfl, rfl, h2, r2⟩ := trodAll_cons r1
  obtain ⟨v3, vs3, d3, ds3, p3, q3, rfl, rfl, rfl, h3, r3⟩ := trodAll_cons r2
  obtain ⟨v4, vs4, d4, ds4, p4, q4, rfl, rfl, rfl, h4, r4⟩ := trodAll_cons r3
  obtain ⟨v5, vs5, d5, ds5, p5, q5, rfl, rfl, rfl, h5, r5⟩ := trodAll_cons r4
  obtain ⟨v6, vs6, d6, ds6, p6, q6, rfl, rfl, rfl, h6, r6⟩ := trodAll_cons r5
  obtain ⟨v7, vs7, d7, ds7, p7, q7, rfl, rfl, rfl, h7, r7⟩ := trodAll_cons r6
  obtain ⟨rfl, rfl, rfl⟩ := trodAll_nil r7
  obtain rfl : args = #[v0, v1, v2, v3, v4, v5, v6, v7] := by cases args; simp_all
  obtain ⟨l0, rfl, F0⟩ := open_flat (P := Try.prog) [3, 22] (by kernel_rfl) (Or.inl ⟨_, Try.underlying24⟩) (hval 0 24 v0 rfl rfl) h0
  obtain ⟨c0_0, m0_0, rfl, L0_0, F0⟩ := All2.cons F0
  obtain ⟨c0_1, m0_1, rfl, L0_1, F0⟩ := All2.cons F0
  obtain rfl := All2.nil F0
  obtain ⟨a0_0, rfl, w0_0⟩ := Leaf.int L0_0 Try.underlying3
  obtain ⟨n0_1, l0_1, z0_1, w0_1, r0_1'⟩ := open_slc_ints [3, 3, 3, 3, 3] Try.underlying22 (by kernel_rfl) (by kernel_rfl) (by decide) (fun u hu => by rw [show u = 3 from by simpa using hu]; exact Try.underlying3) (L0_1)
  obtain ⟨a1, rfl, rfl, rfl, w1⟩ := open_int Try.underlying3 (hval 1 3 v1 rfl rfl) h1
  obtain ⟨a2, rfl, rfl, rfl, w2⟩ := open_int Try.underlying3 (hval 2 3 v2 rfl rfl) h2
  obtain ⟨a3, rfl, rfl, rfl, w3⟩ := open_int Try.underlying3 (hval 3 3 v3 rfl rfl) h3
  obtain ⟨a4, rfl, rfl, rfl, w4⟩ := open_int Try.underlying3 (hval 4 3 v4 rfl rfl) h4
  obtain ⟨l5, rfl, F5⟩ := open_flat (P := Try.prog) [27, 27, 27, 27, 27] (by kernel_rfl) (Or.inl ⟨_, Try.underlying30⟩) (hval 5 30 v5 rfl rfl) h5
  obtain ⟨c5_0, m5_0, rfl, L5_0, F5⟩ := All2.cons F5
  obtain ⟨c5_1, m5_1, rfl, L5_1, F5⟩ := All2.cons F5
  obtain ⟨c5_2, m5_2, rfl, L5_2, F5⟩ := All2.cons F5
  obtain ⟨c5_3, m5_3, rfl, L5_3, F5⟩ := All2.cons F5
  obtain ⟨c5_4, m5_4, rfl, L5_4, F5⟩ := All2.cons F5
  obtain rfl := All2.nil F5
  obtain ⟨a5_0, rfl, w5_0⟩ := Leaf.int L5_0 Try.underlying27
  obtain ⟨a5_1, rfl, w5_1⟩ := Leaf.int L5_1 Try.underlying27
  obtain ⟨a5_2, rfl, w5_2⟩ := Leaf.int L5_2 Try.underlying27
  obtain ⟨a5_3, rfl, w5_3⟩ := Leaf.int L5_3 Try.underlying27
  obtain ⟨a5_4, rfl, w5_4⟩ := Leaf.int L5_4 Try.underlying27
  obtain ⟨a6, rfl, rfl, rfl, w6⟩ := open_int Try.underlying3 (hval 6 3 v6 rfl rfl) h6
  obtain ⟨a7, rfl, rfl, rfl, w7⟩ := open_int Try.underlying3 (hval 7 3 v7 rfl rfl) h7
  obtain ⟨F, hG, hF, hFp⟩ := more_laid (w := W) (⟨_, no_tables (fun _ => rfl) W, fun _ h => h.elim⟩) hlt
  refine (ImageOfAgrees_core a0_0 n0_1 l0_1 a1 a2 a3 a4 a5_0 a5_1 a5_2 a5_3 a5_4 a6 a7 w0_0 z0_1 w0_1 w1 w2 w3 w4 w5_0 w5_1 w5_2 w5_3 w5_4 w6 w7 W hG hF c0_1 (r0_1' F (fun x hx => hFp x (by simp [hx])))).mono fun e W' ⟨he, hg⟩ => ?_
  subst he
  exact ⟨_, rfl, Law.keep laidOut (by rw [Try.params4]; exact of_decide_eq_true (by kernel_rfl)) rfl hW' hlt hg rfl rfl (fun _ _ _ => (trodAll_cons_mk (shut_bool Try.underlying4 _) trodAll_mk0))⟩
theorem over : Rows.imageOfAgreesRow.holds Try.pinned (OpenSpec.ofChange Rows.imageOfAgreesSpec) :=
  OpenClaim.holds_of_wide 4 Try.f4 rfl rfl rfl rfl rfl rfl rfl ⟨rfl, rfl, rfl, rfl, rfl⟩ rfl rfl rfl rfl rfl (by kernel_rfl) Try.func4 (by kernel_rfl)
    (of_decide_eq_true (by kernel_rfl)) (by unfold Func.isWrapper; first | (rw [if_pos (by decide +kernel)]; kernel_rfl) | (rw [if_neg (by decide +kernel)]; exact ⟨rfl, rfl⟩))
    (fun os started H enc _ => lifted os started H enc)
theorem proved : Rows.ImageOfAgreesSaid :=
  over
#print axioms proved
end Go.Proofs.Ytcckcifmhhaepaa.imageOfAgrees
