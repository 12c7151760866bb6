/-
  'TileCountAgrees': the law returns true at every input, and its arguments read as before. No condition.
-/
import Derived.Test.YtdpmigbenkndbaaRows
import Derived.WalkKit
import Derived.ProofKit
import Derived.OpenShut
import Derived.Laws.Cover2
import Derived.Test.YtdpmigbenkndbaaBb
import Derived.Test.YtdpmigbenkndbaaBf
import Derived.Test.YtdpmigbenkndbaaRs
import Derived.Test.YtdpmigbenkndbaaYe
namespace Go.Proofs.Ytdpmigbenkndbaa.tileCountAgrees
open Go.ChangeShapes Go.WideShapes Go.ChangeAt Go.RowKit
set_option linter.unusedVariables false
theorem own : ownKnob Try.prog.godebug = none := by kernel_rfl
theorem laidOut : laidOutB Try.prog = true := by kernel_rfl
set_option maxRecDepth 100000 in
theorem lifted (os : Os) (started : os.Started) (H : Type) (enc : TypeId × Value → H) :
    ReturnsInHanded {} Try.checked os 3 .any (Rows.tileCountAgreesSpec.pre6 enc Try.prog Try.f3 Rows.tileCountAgreesRow.domain false) (Rows.tileCountAgreesSpec.post enc Try.prog Try.f3 false true false false) := by
  refine returnsInHanded_of_change (C := Try.checked) own started (by kernel_rfl) Try.func3
    (ChangeSpec.witness6 (enc := enc) (C := Try.checked) false ⟨#[], #[.agg #[.int .i64 0, .int .i64 0, .int .i64 0, .int .i64 0], .int .i64 0, .int .i64 0, .int .i64 0, .agg #[.int .i64 0, .int .i64 0, .int .i64 0, .int .i64 0], .int .i64 0, .int .i64 0, .int .i64 0], []⟩ 8 (by kernel_rfl) (by kernel_rfl) (by kernel_rfl) (by kernel_rfl)) ?_
  intro W base args ds gs before hval0 hW hcnd _
  have hval : ∀ (j : Nat) t v, Try.f3.params[j]? = some t → args[j]? = some v → Value.okWide Try.prog W .any base t v := hval0
  have hW' := hW
  have hlt : ∀ x ∈ before, x.block < W.heap.size := fun x hx => by simpa using hW'.lt x hx
  obtain ⟨p, q, hA0, hV, rfl, hfz, hnd⟩ := hW
  have hA : DataW.TrodAll enc Try.prog W 0 (fun _ => true) true Try.f3.params.toList args.toList ds p := hA0
  rw [Try.params3] at hA hval
  obtain ⟨rfl, rfl⟩ := trodVars_none hV
  obtain ⟨v0, vs0, d0, ds0, p0, q0, hargs, rfl, rfl, h0, r0⟩ := trodAll_cons hA
  obtain ⟨v1, vs1, d1, ds1, p1, q1, rfl, rfl, rfl, h1, r1⟩ := trodAll_cons r0
  obtain ⟨v2, vs2, d2, ds2, p2, q2, rfl, rfl, rfl, h2, r2⟩ := trodAll_cons r1
  obtain ⟨v3, vs3, d3, ds3, p3, q3, rfl, rfl, rfl, h3, r3⟩ := trodAll_cons r2
  obtain ⟨v4, vs4, d4, ds4, p4, q4, rfl, rfl, rfl, h4, r4⟩ := trodAll_cons r3
  obtain ⟨v5, vs5, d5, ds5, p5, q5, rfl, rfl, rfl, h5, r5⟩ := trodAll_cons r4
  obtain ⟨v6, vs6, d6, ds6, p6, q6, rfl, rfl, rfl, h6, r6⟩ := trodAll_cons r5
  obtain ⟨v7, vs7, d7, ds7, p7, q7, rfl, rfl, rfl, h7, r7⟩ := trodAll_cons r6
  obtain ⟨rfl, rfl, rfl⟩ := trodAll_nil r7
  obtain rfl : args = #[v0, v1, v2, v3, v4, v5, v6, v7] := by cases args; simp_all
  obtain ⟨l0, rfl, F0⟩ := open_flat (P := Try.prog) [3, 3, 3, 3] (by kernel_rfl) (Or.inl ⟨_, Try.underlying23⟩) (hval 0 23 v0 rfl rfl) h0
  obtain ⟨c0_0, m0_0, rfl, L0_0, F0⟩ := All2.cons F0
  obtain ⟨c0_1, m0_1, rfl, L0_1, F0⟩ := All2.cons F0
  obtain ⟨c0_2, m0_2, rfl, L0_2, F0⟩ := All2.cons F0
  obtain ⟨c0_3, m0_3, rfl, L0_3, F0⟩ := All2.cons F0
  obtain rfl := All2.nil F0
  obtain ⟨a0_0, rfl, w0_0⟩ := Leaf.int L0_0 Try.underlying3
  obtain ⟨a0_1, rfl, w0_1⟩ := Leaf.int L0_1 Try.underlying3
  obtain ⟨a0_2, rfl, w0_2⟩ := Leaf.int L0_2 Try.underlying3
  obtain ⟨a0_3, rfl, w0_3⟩ := Leaf.int L0_3 Try.underlying3
  obtain ⟨a1, rfl, rfl, rfl, w1⟩ := open_int Try.underlying3 (hval 1 3 v1 rfl rfl) h1
  obtain ⟨a2, rfl, rfl, rfl, w2⟩ := open_int Try.underlying3 (hval 2 3 v2 rfl rfl) h2
  obtain ⟨a3, rfl, rfl, rfl, w3⟩ := open_int Try.underlying3 (hval 3 3 v3 rfl rfl) h3
  obtain ⟨l4, rfl, F4⟩ := open_flat (P := Try.prog) [3, 3, 3, 3] (by kernel_rfl) (Or.inr ⟨_, _, Try.underlying24⟩) (hval 4 24 v4 rfl rfl) h4
  obtain ⟨c4_0, m4_0, rfl, L4_0, F4⟩ := All2.cons F4
  obtain ⟨c4_1, m4_1, rfl, L4_1, F4⟩ := All2.cons F4
  obtain ⟨c4_2, m4_2, rfl, L4_2, F4⟩ := All2.cons F4
  obtain ⟨c4_3, m4_3, rfl, L4_3, F4⟩ := All2.cons F4
  obtain rfl := All2.nil F4
  obtain ⟨a4_0, rfl, w4_0⟩ := Leaf.int L4_0 Try.underlying3
  obtain ⟨a4_1, rfl, w4_1⟩ := Leaf.int L4_1 Try.underlying3
  obtain ⟨a4_2, rfl, w4_2⟩ := Leaf.int L4_2 Try.underlying3
  obtain ⟨a4_3, rfl, w4_3⟩ := Leaf.int L4_3 Try.underlying3
  obtain ⟨a5, rfl, rfl, rfl, w5⟩ := open_int Try.underlying3 (hval 5 3 v5 rfl rfl) h5
  obtain ⟨a6, rfl, rfl, rfl, w6⟩ := open_int Try.underlying3 (hval 6 3 v6 rfl rfl) h6
  obtain ⟨a7, rfl, rfl, rfl, w7⟩ := open_int Try.underlying3 (hval 7 3 v7 rfl rfl) h7
  obtain ⟨F, hG, hF, hFp⟩ := more_laid (w := W) (⟨_, no_tables (fun _ => rfl) W, fun _ h => h.elim⟩) hlt
  refine (TileCountAgrees_core a0_0 a0_1 a0_2 a0_3 a1 a2 a3 a4_0 a4_1 a4_2 a4_3 a5 a6 a7 w0_0 w0_1 w0_2 w0_3 w1 w2 w3 w4_0 w4_1 w4_2 w4_3 w5 w6 w7 W hG hF).mono fun e W' ⟨he, hg⟩ => ?_
  subst he
  exact ⟨_, rfl, Law.keep laidOut (by rw [Try.params3]; exact of_decide_eq_true (by kernel_rfl)) rfl hW' hlt hg rfl rfl (fun _ _ _ => (trodAll_cons_mk (shut_bool Try.underlying4 _) trodAll_mk0))⟩
theorem over : Rows.tileCountAgreesRow.holds Try.pinned (OpenSpec.ofChange Rows.tileCountAgreesSpec) :=
  OpenClaim.holds_of_wide 3 Try.f3 rfl rfl rfl rfl rfl rfl rfl ⟨rfl, rfl, rfl, rfl, rfl⟩ rfl rfl rfl rfl rfl (by kernel_rfl) Try.func3 (by kernel_rfl)
    (of_decide_eq_true (by kernel_rfl)) (by unfold Func.isWrapper; first | (rw [if_pos (by decide +kernel)]; kernel_rfl) | (rw [if_neg (by decide +kernel)]; exact ⟨rfl, rfl⟩))
    (fun os started H enc _ => lifted os started H enc)
theorem proved : Rows.TileCountAgreesSaid :=
  over
#print axioms proved
end Go.Proofs.Ytdpmigbenkndbaa.tileCountAgrees
