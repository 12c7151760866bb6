/-
  'ImageValidAgrees': the law returns true at every input, and its arguments read as before. No condition.
-/
import Derived.Test.YtcckcifmhhaepaaRows
import Derived.WalkKit
import Derived.ProofKit
import Derived.OpenShut
import Derived.Laws.Cover2
import Derived.Test.YtcckcifmhhaepaaBb
import Derived.Test.YtcckcifmhhaepaaBf
import Derived.Test.YtcckcifmhhaepaaRs
import Derived.Test.YtcckcifmhhaepaaZwz
namespace Go.Proofs.Ytcckcifmhhaepaa.imageValidAgrees
open Go.ChangeShapes Go.WideShapes Go.ChangeAt Go.RowKit
set_option linter.unusedVariables false
theorem own : ownKnob Try.prog.godebug = none := by kernel_rfl
theorem laidOut : laidOutB Try.prog = true := by kernel_rfl
set_option maxRecDepth 100000 in
theorem lifted (os : Os) (started : os.Started) (H : Type) (enc : TypeId × Value → H) :
    ReturnsInHanded {} Try.checked os 3 .any (Rows.imageValidAgreesSpec.pre6 enc Try.prog Try.f3 Rows.imageValidAgreesRow.domain false) (Rows.imageValidAgreesSpec.post enc Try.prog Try.f3 false true false false) := by
  refine returnsInHanded_of_change (C := Try.checked) own started (by kernel_rfl) Try.func3
    (ChangeSpec.witness6 (enc := enc) (C := Try.checked) false ⟨#[], #[.agg #[.int .i64 0, .int .i64 0, .int .i64 0, .int .i64 0, .slice none 0 0], .int .i64 0, .int .i64 0, .int .i64 0, .int .u16 0, .agg #[.int .i64 0, .int .i64 0, .bool false, .int .u16 0, .int .u16 0, .int .u16 0, .int .u16 0, .int .u16 0, .int .i64 0, .int .i64 0, .int .i64 0, .slice none 0 0, .int .i64 0, .int .i64 0, .int .i64 0, .slice none 0 0, .int .i64 0, .int .i64 0, .int .i64 0, .slice none 0 0, .int .i64 0, .int .i64 0, .int .i64 0, .slice none 0 0, .int .i64 0, .int .i64 0, .int .i64 0, .slice none 0 0]], []⟩ 8 (by kernel_rfl) (by kernel_rfl) (by kernel_rfl) (by kernel_rfl)) ?_
  intro W base args ds gs before hval0 hW hcnd _
  have hval : ∀ (j : Nat) t v, Try.f3.params[j]? = some t → args[j]? = some v → Value.okWide Try.prog W .any base t v := hval0
  have hW' := hW
  have hlt : ∀ x ∈ before, x.block < W.heap.size := fun x hx => by simpa using hW'.lt x hx
  obtain ⟨p, q, hA0, hV, rfl, hfz, hnd⟩ := hW
  have hA : DataW.TrodAll enc Try.prog W 0 (fun _ => true) true Try.f3.params.toList args.toList ds p := hA0
  rw [Try.params3] at hA hval
  obtain ⟨rfl, rfl⟩ := trodVars_none hV
  obtain ⟨v0, vs0, d0, ds0, p0, q0, hargs, rfl, rfl, h0, r0⟩ := trodAll_cons hA
  obtain ⟨v1, vs1, d1, ds1, p1, q1, rfl, rfl, rfl, h1, r1⟩ := trodAll_cons r0
  obtain ⟨v2, vs2, d2, ds2, p2, q2, rfl, rfl, rfl, h2, r2⟩ := trodAll_cons r1
  obtain ⟨v3, vs3, d3, ds3, p3, q3, rfl, rfl, rfl, h3, r3⟩ := trodAll_cons r2
  obtain ⟨v4, vs4, d4, ds4, p4, q4, rfl, rfl, rfl, h4, r4⟩ := trodAll_cons r3
  obtain ⟨v5, vs5, d5, ds5, p5, q5, rfl, rfl, rfl, h5, r5⟩ := trodAll_cons r4
  obtain ⟨rfl, rfl, rfl⟩ := trodAll_nil r5
  obtain rfl : args = #[v0, v1, v2, v3, v4, v5] := by cases args; simp_all
  obtain ⟨l0, rfl, F0⟩ := open_flat (P := Try.prog) [3, 3, 3, 3, 22] (by kernel_rfl) (Or.inl ⟨_, Try.underlying26⟩) (hval 0 26 v0 rfl rfl) h0
  obtain ⟨c0_0, m0_0, rfl, L0_0, F0⟩ := All2.cons F0
  obtain ⟨c0_1, m0_1, rfl, L0_1, F0⟩ := All2.cons F0
  obtain ⟨c0_2, m0_2, rfl, L0_2, F0⟩ := All2.cons F0
  obtain ⟨c0_3, m0_3, rfl, L0_3, F0⟩ := All2.cons F0
  obtain ⟨c0_4, m0_4, rfl, L0_4, F0⟩ := All2.cons F0
  obtain rfl := All2.nil F0
  obtain ⟨a0_0, rfl, w0_0⟩ := Leaf.int L0_0 Try.underlying3
  obtain ⟨a0_1, rfl, w0_1⟩ := Leaf.int L0_1 Try.underlying3
  obtain ⟨a0_2, rfl, w0_2⟩ := Leaf.int L0_2 Try.underlying3
  obtain ⟨a0_3, rfl, w0_3⟩ := Leaf.int L0_3 Try.underlying3
  obtain ⟨n0_4, l0_4, z0_4, w0_4, r0_4'⟩ := open_slc_ints [3, 3, 3, 3, 3] Try.underlying22 (by kernel_rfl) (by kernel_rfl) (by decide) (fun u hu => by rw [show u = 3 from by simpa using hu]; exact Try.underlying3) (L0_4)
  obtain ⟨a1, rfl, rfl, rfl, w1⟩ := open_int Try.underlying3 (hval 1 3 v1 rfl rfl) h1
  obtain ⟨a2, rfl, rfl, rfl, w2⟩ := open_int Try.underlying3 (hval 2 3 v2 rfl rfl) h2
  obtain ⟨a3, rfl, rfl, rfl, w3⟩ := open_int Try.underlying3 (hval 3 3 v3 rfl rfl) h3
  obtain ⟨a4, rfl, rfl, rfl, w4⟩ := open_int Try.underlying27 (hval 4 27 v4 rfl rfl) h4
  obtain ⟨l5, rfl, F5⟩ := open_flat (P := Try.prog) [3, 3, 4, 27, 27, 27, 27, 27, 3, 3, 3, 31, 3, 3, 3, 31, 3, 3, 3, 31, 3, 3, 3, 31, 3, 3, 3, 31] (by kernel_rfl) (Or.inl ⟨_, Try.underlying36⟩) (hval 5 36 v5 rfl rfl) h5
  obtain ⟨c5_0, m5_0, rfl, L5_0, F5⟩ := All2.cons F5
  obtain ⟨c5_1, m5_1, rfl, L5_1, F5⟩ := All2.cons F5
  obtain ⟨c5_2, m5_2, rfl, L5_2, F5⟩ := All2.cons F5
  obtain ⟨c5_3, m5_3, rfl, L5_3, F5⟩ := All2.cons F5
  obtain ⟨c5_4, m5_4, rfl, L5_4, F5⟩ := All2.cons F5
  obtain ⟨c5_5, m5_5, rfl, L5_5, F5⟩ := All2.cons F5
  obtain ⟨c5_6, m5_6, rfl, L5_6, F5⟩ := All2.cons F5
  obtain ⟨c5_7, m5_7, rfl, L5_7, F5⟩ := All2.cons F5
  obtain ⟨c5_8, m5_8, rfl, L5_8, F5⟩ := All2.cons F5
  obtain ⟨c5_9, m5_9, rfl, L5_9, F5⟩ := All2.cons F5
  obtain ⟨c5_10, m5_10, rfl, L5_10, F5⟩ := All2.cons F5
  obtain ⟨c5_11, m5_11, rfl, L5_11, F5⟩ := All2.cons F5
  obtain ⟨c5_12, m5_12, rfl, L5_12, F5⟩ := All2.cons F5
  obtain ⟨c5_13, m5_13, rfl, L5_13, F5⟩ := All2.cons F5
  obtain ⟨c5_14, m5_14, rfl, L5_14, F5⟩ := All2.cons F5
  obtain ⟨c5_15, m5_15, rfl, L5_15, F5⟩ := All2.cons F5
  obtain ⟨c5_16, m5_16, rfl, L5_16, F5⟩ := All2.cons F5
  obtain ⟨c5_17, m5_17, rfl, L5_17, F5⟩ := All2.cons F5
  obtain ⟨c5_18, m5_18, rfl, L5_18, F5⟩ := All2.cons F5
  obtain ⟨c5_19, m5_19, rfl, L5_19, F5⟩ := All2.cons F5
  obtain ⟨c5_20, m5_20, rfl, L5_20, F5⟩ := All2.cons F5
  obtain ⟨c5_21, m5_21, rfl, L5_21, F5⟩ := All2.cons F5
  obtain ⟨c5_22, m5_22, rfl, L5_22, F5⟩ := All2.cons F5
  obtain ⟨c5_23, m5_23, rfl, L5_23, F5⟩ := All2.cons F5
  obtain ⟨c5_24, m5_24, rfl, L5_24, F5⟩ := All2.cons F5
  obtain ⟨c5_25, m5_25, rfl, L5_25, F5⟩ := All2.cons F5
  obtain ⟨c5_26, m5_26, rfl, L5_26, F5⟩ := All2.cons F5
  obtain ⟨c5_27, m5_27, rfl, L5_27, F5⟩ := All2.cons F5
  obtain rfl := All2.nil F5
  obtain ⟨a5_0, rfl, w5_0⟩ := Leaf.int L5_0 Try.underlying3
  obtain ⟨a5_1, rfl, w5_1⟩ := Leaf.int L5_1 Try.underlying3
  obtain ⟨a5_2, rfl⟩ := Leaf.bool L5_2 Try.underlying4
  obtain ⟨a5_3, rfl, w5_3⟩ := Leaf.int L5_3 Try.underlying27
  obtain ⟨a5_4, rfl, w5_4⟩ := Leaf.int L5_4 Try.underlying27
  obtain ⟨a5_5, rfl, w5_5⟩ := Leaf.int L5_5 Try.underlying27
  obtain ⟨a5_6, rfl, w5_6⟩ := Leaf.int L5_6 Try.underlying27
  obtain ⟨a5_7, rfl, w5_7⟩ := Leaf.int L5_7 Try.underlying27
  obtain ⟨a5_8, rfl, w5_8⟩ := Leaf.int L5_8 Try.underlying3
  obtain ⟨a5_9, rfl, w5_9⟩ := Leaf.int L5_9 Try.underlying3
  obtain ⟨a5_10, rfl, w5_10⟩ := Leaf.int L5_10 Try.underlying3
  obtain ⟨n5_11, l5_11, z5_11, w5_11, r5_11'⟩ := open_slc_ints [27] Try.underlying31 (by kernel_rfl) (by kernel_rfl) (by decide) (fun u hu => by rw [show u = 27 from by simpa using hu]; exact Try.underlying27) (L5_11)
  obtain ⟨a5_12, rfl, w5_12⟩ := Leaf.int L5_12 Try.underlying3
  obtain ⟨a5_13, rfl, w5_13⟩ := Leaf.int L5_13 Try.underlying3
  obtain ⟨a5_14, rfl, w5_14⟩ := Leaf.int L5_14 Try.underlying3
  obtain ⟨n5_15, l5_15, z5_15, w5_15, r5_15'⟩ := open_slc_ints [27] Try.underlying31 (by kernel_rfl) (by kernel_rfl) (by decide) (fun u hu => by rw [show u = 27 from by simpa using hu]; exact Try.underlying27) (L5_15)
  obtain ⟨a5_16, rfl, w5_16⟩ := Leaf.int L5_16 Try.underlying3
  obtain ⟨a5_17, rfl, w5_17⟩ := Leaf.int L5_17 Try.underlying3
  obtain ⟨a5_18, rfl, w5_18⟩ := Leaf.int L5_18 Try.underlying3
  obtain ⟨n5_19, l5_19, z5_19, w5_19, r5_19'⟩ := open_slc_ints [27] Try.underlying31 (by kernel_rfl) (by kernel_rfl) (by decide) (fun u hu => by rw [show u = 27 from by simpa using hu]; exact Try.underlying27) (L5_19)
  obtain ⟨a5_20, rfl, w5_20⟩ := Leaf.int L5_20 Try.underlying3
  obtain ⟨a5_21, rfl, w5_21⟩ := Leaf.int L5_21 Try.underlying3
  obtain ⟨a5_22, rfl, w5_22⟩ := Leaf.int L5_22 Try.underlying3
  obtain ⟨n5_23, l5_23, z5_23, w5_23, r5_23'⟩ := open_slc_ints [27] Try.underlying31 (by kernel_rfl) (by kernel_rfl) (by decide) (fun u hu => by rw [show u = 27 from by simpa using hu]; exact Try.underlying27) (L5_23)
  obtain ⟨a5_24, rfl, w5_24⟩ := Leaf.int L5_24 Try.underlying3
  obtain ⟨a5_25, rfl, w5_25⟩ := Leaf.int L5_25 Try.underlying3
  obtain ⟨a5_26, rfl, w5_26⟩ := Leaf.int L5_26 Try.underlying3
  obtain ⟨n5_27, l5_27, z5_27, w5_27, r5_27'⟩ := open_slc_ints [27] Try.underlying31 (by kernel_rfl) (by kernel_rfl) (by decide) (fun u hu => by rw [show u = 27 from by simpa using hu]; exact Try.underlying27) (L5_27)
  obtain ⟨F, hG, hF, hFp⟩ := more_laid (w := W) (⟨_, no_tables (fun _ => rfl) W, fun _ h => h.elim⟩) hlt
  refine (ImageValidAgrees_core a0_0 a0_1 a0_2 a0_3 n0_4 l0_4 a1 a2 a3 a4 a5_0 a5_1 a5_2 a5_3 a5_4 a5_5 a5_6 a5_7 a5_8 a5_9 a5_10 n5_11 l5_11 a5_12 a5_13 a5_14 n5_15 l5_15 a5_16 a5_17 a5_18 n5_19 l5_19 a5_20 a5_21 a5_22 n5_23 l5_23 a5_24 a5_25 a5_26 n5_27 l5_27 w0_0 w0_1 w0_2 w0_3 z0_4 w0_4 w1 w2 w3 w4 w5_0 w5_1 w5_3 w5_4 w5_5 w5_6 w5_7 w5_8 w5_9 w5_10 z5_11 w5_11 w5_12 w5_13 w5_14 z5_15 w5_15 w5_16 w5_17 w5_18 z5_19 w5_19 w5_20 w5_21 w5_22 z5_23 w5_23 w5_24 w5_25 w5_26 z5_27 w5_27 W hG hF c0_4 (r0_4' F (fun x hx => hFp x (by simp [hx]))) c5_11 (r5_11' F (fun x hx => hFp x (by simp [hx]))) c5_15 (r5_15' F (fun x hx => hFp x (by simp [hx]))) c5_19 (r5_19' F (fun x hx => hFp x (by simp [hx]))) c5_23 (r5_23' F (fun x hx => hFp x (by simp [hx]))) c5_27 (r5_27' F (fun x hx => hFp x (by simp [hx])))).mono fun e W' ⟨he, hg⟩ => ?_
  subst he
  exact ⟨_, rfl, Law.keep laidOut (by rw [Try.params3]; exact of_decide_eq_true (by kernel_rfl)) rfl hW' hlt hg rfl rfl (fun _ _ _ => (trodAll_cons_mk (shut_bool Try.underlying4 _) trodAll_mk0))⟩
theorem over : Rows.imageValidAgreesRow.holds Try.pinned (OpenSpec.ofChange Rows.imageValidAgreesSpec) :=
  OpenClaim.holds_of_wide 3 Try.f3 rfl rfl rfl rfl rfl rfl rfl ⟨rfl, rfl, rfl, rfl, rfl⟩ rfl rfl rfl rfl rfl (by kernel_rfl) Try.func3 (by kernel_rfl)
    (of_decide_eq_true (by kernel_rfl)) (by unfold Func.isWrapper; first | (rw [if_pos (by decide +kernel)]; kernel_rfl) | (rw [if_neg (by decide +kernel)]; exact ⟨rfl, rfl⟩))
    (fun os started H enc _ => lifted os started H enc)
theorem proved : Rows.ImageValidAgreesSaid :=
  over
#print axioms proved
end Go.Proofs.Ytcckcifmhhaepaa.imageValidAgrees
