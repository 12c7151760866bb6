/-
  'TileIndexAgrees': the law returns true at every input, and its arguments read as before. No condition.
-/
import Derived.Test.YtdpmigbenkndbaaRows
import Derived.WalkKit
import Derived.ProofKit
import Derived.OpenShut
import Derived.Laws.Cover2
import Derived.Test.YtdpmigbenkndbaaBb
import Derived.Test.YtdpmigbenkndbaaBf
import Derived.Test.YtdpmigbenkndbaaRs
import Derived.Test.YtdpmigbenkndbaaYe
namespace Go.Proofs.Ytdpmigbenkndbaa.tileIndexAgrees
open Go.ChangeShapes Go.WideShapes Go.ChangeAt Go.RowKit
set_option linter.unusedVariables false
theorem own : ownKnob Try.prog.godebug = none := by kernel_rfl
theorem laidOut : laidOutB Try.prog = true := by kernel_rfl
set_option maxRecDepth 100000 in
theorem lifted (os : Os) (started : os.Started) (H : Type) (enc : TypeId × Value → H) :
    ReturnsInHanded {} Try.checked os 4 .any (Rows.tileIndexAgreesSpec.pre6 enc Try.prog Try.f4 Rows.tileIndexAgreesRow.domain false) (Rows.tileIndexAgreesSpec.post enc Try.prog Try.f4 false true false false) := by
  refine returnsInHanded_of_change (C := Try.checked) own started (by kernel_rfl) Try.func4
    (ChangeSpec.witness6 (enc := enc) (C := Try.checked) false ⟨#[], #[.agg #[.int .i64 0, .int .i64 0, .int .i64 0, .int .i64 0], .int .i64 0, .int .i64 0, .int .i64 0, .int .i64 0, .agg #[.int .i64 0, .int .i64 0, .int .i64 0, .int .i64 0]], []⟩ 8 (by kernel_rfl) (by kernel_rfl) (by kernel_rfl) (by kernel_rfl)) ?_
  intro W base args ds gs before hval0 hW hcnd _
  have hval : ∀ (j : Nat) t v, Try.f4.params[j]? = some t → args[j]? = some v → Value.okWide Try.prog W .any base t v := hval0
  have hW' := hW
  have hlt : ∀ x ∈ before, x.block < W.heap.size := fun x hx => by simpa using hW'.lt x hx
  obtain ⟨p, q, hA0, hV, rfl, hfz, hnd⟩ := hW
  have hA : DataW.TrodAll enc Try.prog W 0 (fun _ => true) true Try.f4.params.toList args.toList ds p := hA0
  rw [Try.params4] at hA hval
  obtain ⟨rfl, rfl⟩ := trodVars_none hV
  obtain ⟨v0, vs0, d0, ds0, p0, q0, hargs, rfl, rfl, h0, r0⟩ := trodAll_cons hA
  obtain ⟨v1, vs1, d1, ds1, p1, q1, rfl, rfl, rfl, h1, r1⟩ := trodAll_cons r0
  obtain ⟨v2, vs2, d2, ds2, p2, q2, rfl, rfl, rfl, h2, r2⟩ := trodAll_cons r1
  obtain ⟨v3, vs3, d3, ds3, p3, q3, rfl, rfl, rfl, h3, r3⟩ := trodAll_cons r2
  obtain ⟨v4, vs4, d4, ds4, p4, q4, rfl, rfl, rfl, h4, r4⟩ := trodAll_cons r3
  obtain ⟨v5, vs5, d5, ds5, p5, q5, rfl, rfl, rfl, h5, r5⟩ := trodAll_cons r4
  obtain ⟨rfl, rfl, rfl⟩ := trodAll_nil r5
  obtain rfl : args = #[v0, v1, v2, v3, v4, v5] := by cases args; simp_all
  obtain ⟨l0, rfl, F0⟩ := open_flat (P := Try.prog) [3, 3, 3, 3] (by kernel_rfl) (Or.inr ⟨_, _, Try.underlying24⟩) (hval 0 24 v0 rfl rfl) h0
  obtain ⟨c0_0, m0_0, rfl, L0_0, F0⟩ := All2.cons F0
  obtain ⟨c0_1, m0_1, rfl, L0_1, F0⟩ := All2.cons F0
  obtain ⟨c0_2, m0_2, rfl, L0_2, F0⟩ := All2.cons F0
  obtain ⟨c0_3, m0_3, rfl, L0_3, F0⟩ := All2.cons F0
  obtain rfl := All2.nil F0
  obtain ⟨a0_0, rfl, w0_0⟩ := Leaf.int L0_0 Try.underlying3
  obtain ⟨a0_1, rfl, w0_1⟩ := Leaf.int L0_1 Try.underlying3
  obtain ⟨a0_2, rfl, w0_2⟩ := Leaf.int L0_2 Try.underlying3
  obtain ⟨a0_3, rfl, w0_3⟩ := Leaf.int L0_3 Try.underlying3
  obtain ⟨a1, rfl, rfl, rfl, w1⟩ := open_int Try.underlying3 (hval 1 3 v1 rfl rfl) h1
  obtain ⟨a2, rfl, rfl, rfl, w2⟩ := open_int Try.underlying3 (hval 2 3 v2 rfl rfl) h2
  obtain ⟨a3, rfl, rfl, rfl, w3⟩ := open_int Try.underlying3 (hval 3 3 v3 rfl rfl) h3
  obtain ⟨a4, rfl, rfl, rfl, w4⟩ := open_int Try.underlying3 (hval 4 3 v4 rfl rfl) h4
  obtain ⟨l5, rfl, F5⟩ := open_flat (P := Try.prog) [3, 3, 3, 3] (by kernel_rfl) (Or.inl ⟨_, Try.underlying23⟩) (hval 5 23 v5 rfl rfl) h5
  obtain ⟨c5_0, m5_0, rfl, L5_0, F5⟩ := All2.cons F5
  obtain ⟨c5_1, m5_1, rfl, L5_1, F5⟩ := All2.cons F5
  obtain ⟨c5_2, m5_2, rfl, L5_2, F5⟩ := All2.cons F5
  obtain ⟨c5_3, m5_3, rfl, L5_3, F5⟩ := All2.cons F5
  obtain rfl := All2.nil F5
  obtain ⟨a5_0, rfl, w5_0⟩ := Leaf.int L5_0 Try.underlying3
  obtain ⟨a5_1, rfl, w5_1⟩ := Leaf.int L5_1 Try.underlying3
  obtain ⟨a5_2, rfl, w5_2⟩ := Leaf.int L5_2 Try.underlying3
  obtain ⟨a5_3, rfl, w5_3⟩ := Leaf.int L5_3 Try.underlying3
  obtain ⟨F, hG, hF, hFp⟩ := more_laid (w := W) (⟨_, no_tables (fun _ => rfl) W, fun _ h => h.elim⟩) hlt
  refine (TileIndexAgrees_core a0_0 a0_1 a0_2 a0_3 a1 a2 a3 a4 a5_0 a5_1 a5_2 a5_3 w0_0 w0_1 w0_2 w0_3 w1 w2 w3 w4 w5_0 w5_1 w5_2 w5_3 W hG hF).mono fun e W' ⟨he, hg⟩ => ?_
  subst he
  exact ⟨_, rfl, Law.keep laidOut (by rw [Try.params4]; exact of_decide_eq_true (by kernel_rfl)) rfl hW' hlt hg rfl rfl (fun _ _ _ => (trodAll_cons_mk (shut_bool Try.underlying4 _) trodAll_mk0))⟩
theorem over : Rows.tileIndexAgreesRow.holds Try.pinned (OpenSpec.ofChange Rows.tileIndexAgreesSpec) :=
  OpenClaim.holds_of_wide 4 Try.f4 rfl rfl rfl rfl rfl rfl rfl ⟨rfl, rfl, rfl, rfl, rfl⟩ rfl rfl rfl rfl rfl (by kernel_rfl) Try.func4 (by kernel_rfl)
    (of_decide_eq_true (by kernel_rfl)) (by unfold Func.isWrapper; first | (rw [if_pos (by decide +kernel)]; kernel_rfl) | (rw [if_neg (by decide +kernel)]; exact ⟨rfl, rfl⟩))
    (fun os started H enc _ => lifted os started H enc)
theorem proved : Rows.TileIndexAgreesSaid :=
  over
#print axioms proved
end Go.Proofs.Ytdpmigbenkndbaa.tileIndexAgrees
