/-
  'GroupBeginAgrees': the law returns true at every input, and its arguments read as before. No condition.
-/
import Derived.Test.YtfjpilehoeendaaDoorRows
import Derived.WalkKit
import Derived.ProofKit
import Derived.OpenShut
import Derived.Laws.Cover2
import Derived.Test.YtfjpilehoeendaaDoorBb
import Derived.Test.YtfjpilehoeendaaDoorBf
import Derived.Test.YtfjpilehoeendaaDoorRs
import Derived.Test.YtfjpilehoeendaaDoorTie
import Derived.Test.YtfjpilehoeendaaDoorCards
import Derived.LaidMore
import Derived.Lay
import Derived.Stop.Joined
import Derived.SevenTiedAt
import Derived.Test.YtfjpilehoeendaaDoorLe
namespace Go.Proofs.YtfjpilehoeendaaDoor.groupBeginAgrees
open Go.ChangeShapes Go.WideShapes Go.ChangeAt Go.RowKit
set_option linter.unusedVariables false

theorem own : ownKnob Tryd.prog.godebug = none := by kernel_rfl
theorem laidOut : laidOutB Tryd.prog = true := by kernel_rfl

set_option maxRecDepth 100000 in
theorem lifted (os : Os) (started : os.Started) (H : Type) (enc : TypeId × Value → H) :
    ReturnsInHanded {} Tryd.checked os 3 .any (fun w args => (Rows.groupBeginAgreesSpec.pre enc Tryd.prog Tryd.f3 Rows.groupBeginAgreesRow.domain false w args ∧ laidMetH Tryd.prog [("compositor/operator.table", Rows.laid_compositor_operator_table)] w) ∧ sizedMet enc Tryd.prog Tryd.f3 (OpenSpec.ofChange Rows.groupBeginAgreesSpec) false w args) (Rows.groupBeginAgreesSpec.post enc Tryd.prog Tryd.f3 false true false false) := by
  refine returnsInHanded_of_change_and (C := Tryd.checked) (X := fun w _ => laidMetH Tryd.prog [("compositor/operator.table", Rows.laid_compositor_operator_table)] w) (fun _ _ _ hh h => h.of_heap hh) own started (by kernel_rfl) Tryd.func3
    (ChangeSpec.witness_shaped (enc := enc) (C := Tryd.checked) (os := os) (X := fun w _ => laidMetH Tryd.prog [("compositor/operator.table", Rows.laid_compositor_operator_table)] w) false (World.laidAll Tryd.prog os [("compositor/operator.table", Rows.laid_compositor_operator_table)]) #[.bool false, .bool false, .agg #[.int .i64 0, .int .i64 0, .int .i64 0, .int .i64 0, .int .i64 0], .agg #[.int .i64 0, .int .i64 0, .int .i64 0, .int .i64 0, .int .i64 0], .int .i64 0, .int .i64 0, .agg #[.int .u16 0, .int .u16 0, .int .u16 0, .int .u16 0, .int .u16 0, .int .u16 0], .agg #[.int .u16 0, .int .u16 0, .int .u16 0, .int .u16 0, .int .u16 0], .int .u16 0] 8 (World.laidAll_os _ _ _)
      (World.shaped_of_ZipB (by kernel_rfl) (by kernel_rfl)) (by kernel_rfl) (by kernel_rfl) (by kernel_rfl)
      (by rw [MakeChecks.laidMetH_plain _ _ _ (by kernel_rfl)]; exact laidMet_laidAll _ (by kernel_rfl) (by kernel_rfl))) ?_
  intro W base args ds gs before hval0 hW hcnd _ hL _
  have hval : ∀ (j : Nat) t v, Tryd.f3.params[j]? = some t → args[j]? = some v → Value.okWide Tryd.prog W .any base t v := hval0
  have hW' := hW
  have hlt : ∀ x ∈ before, x.block < W.heap.size := fun x hx => by simpa using hW'.lt x hx
  obtain ⟨p, q, hA0, hV, rfl, hfz, hnd⟩ := hW
  have hA : DataW.TrodAll enc Tryd.prog W 0 (fun _ => true) true Tryd.f3.params.toList args.toList ds p := hA0
  rw [Tryd.params3] at hA hval
  obtain ⟨rfl, rfl⟩ := trodVars_none hV
  obtain ⟨v0, vs0, d0, ds0, p0, q0, hargs, rfl, rfl, h0, r0⟩ := trodAll_cons hA
  obtain ⟨v1, vs1, d1, ds1, p1, q1, rfl, rfl, rfl, h1, r1⟩ := trodAll_cons r0
  obtain ⟨v2, vs2, d2, ds2, p2, q2, rfl, rfl, rfl, h2, r2⟩ := trodAll_cons r1
  obtain ⟨v3, vs3, d3, ds3, p3, q3, rfl, rfl, rfl, h3, r3⟩ := trodAll_cons r2
  obtain ⟨v4, vs4, d4, ds4, p4, q4, rfl, rfl, rfl, h4, r4⟩ := trodAll_cons r3
  obtain ⟨v5, vs5, d5, ds5, p5, q5, rfl, rfl, rfl, h5, r5⟩ := trodAll_cons r4
  obtain ⟨v6, vs6, d6, ds6, p6, q6, rfl, rfl, rfl, h6, r6⟩ := trodAll_cons r5
  obtain ⟨v7, vs7, d7, ds7, p7, q7, rfl, rfl, rfl, h7, r7⟩ := trodAll_cons r6
  obtain ⟨v8, vs8, d8, ds8, p8, q8, rfl, rfl, rfl, h8, r8⟩ := trodAll_cons r7
  obtain ⟨rfl, rfl, rfl⟩ := trodAll_nil r8
  obtain rfl : args = #[v0, v1, v2, v3, v4, v5, v6, v7, v8] := by cases args; simp_all
  obtain ⟨a0, rfl, rfl, rfl⟩ := open_bool Tryd.underlying4 (hval 0 4 v0 rfl rfl) h0
  obtain ⟨a1, rfl, rfl, rfl⟩ := open_bool Tryd.underlying4 (hval 1 4 v1 rfl rfl) h1
  obtain ⟨l2, rfl, F2⟩ := open_flat (P := Tryd.prog) [3, 3, 3, 3, 3] (by kernel_rfl) (Or.inr ⟨_, _, Tryd.underlying22⟩) (hval 2 22 v2 rfl rfl) h2
  obtain ⟨c2_0, m2_0, rfl, L2_0, F2⟩ := All2.cons F2
  obtain ⟨c2_1, m2_1, rfl, L2_1, F2⟩ := All2.cons F2
  obtain ⟨c2_2, m2_2, rfl, L2_2, F2⟩ := All2.cons F2
  obtain ⟨c2_3, m2_3, rfl, L2_3, F2⟩ := All2.cons F2
  obtain ⟨c2_4, m2_4, rfl, L2_4, F2⟩ := All2.cons F2
  obtain rfl := All2.nil F2
  obtain ⟨a2_0, rfl, w2_0⟩ := Leaf.int L2_0 Tryd.underlying3
  obtain ⟨a2_1, rfl, w2_1⟩ := Leaf.int L2_1 Tryd.underlying3
  obtain ⟨a2_2, rfl, w2_2⟩ := Leaf.int L2_2 Tryd.underlying3
  obtain ⟨a2_3, rfl, w2_3⟩ := Leaf.int L2_3 Tryd.underlying3
  obtain ⟨a2_4, rfl, w2_4⟩ := Leaf.int L2_4 Tryd.underlying3
  obtain ⟨l3, rfl, F3⟩ := open_flat (P := Tryd.prog) [3, 3, 3, 3, 3] (by kernel_rfl) (Or.inr ⟨_, _, Tryd.underlying22⟩) (hval 3 22 v3 rfl rfl) h3
  obtain ⟨c3_0, m3_0, rfl, L3_0, F3⟩ := All2.cons F3
  obtain ⟨c3_1, m3_1, rfl, L3_1, F3⟩ := All2.cons F3
  obtain ⟨c3_2, m3_2, rfl, L3_2, F3⟩ := All2.cons F3
  obtain ⟨c3_3, m3_3, rfl, L3_3, F3⟩ := All2.cons F3
  obtain ⟨c3_4, m3_4, rfl, L3_4, F3⟩ := All2.cons F3
  obtain rfl := All2.nil F3
  obtain ⟨a3_0, rfl, w3_0⟩ := Leaf.int L3_0 Tryd.underlying3
  obtain ⟨a3_1, rfl, w3_1⟩ := Leaf.int L3_1 Tryd.underlying3
  obtain ⟨a3_2, rfl, w3_2⟩ := Leaf.int L3_2 Tryd.underlying3
  obtain ⟨a3_3, rfl, w3_3⟩ := Leaf.int L3_3 Tryd.underlying3
  obtain ⟨a3_4, rfl, w3_4⟩ := Leaf.int L3_4 Tryd.underlying3
  obtain ⟨a4, rfl, rfl, rfl, w4⟩ := open_int Tryd.underlying3 (hval 4 3 v4 rfl rfl) h4
  obtain ⟨a5, rfl, rfl, rfl, w5⟩ := open_int Tryd.underlying3 (hval 5 3 v5 rfl rfl) h5
  obtain ⟨l6, rfl, F6⟩ := open_flat (P := Tryd.prog) [23, 23, 23, 23, 23, 23] (by kernel_rfl) (Or.inl ⟨_, Tryd.underlying26⟩) (hval 6 26 v6 rfl rfl) h6
  obtain ⟨c6_0, m6_0, rfl, L6_0, F6⟩ := All2.cons F6
  obtain ⟨c6_1, m6_1, rfl, L6_1, F6⟩ := All2.cons F6
  obtain ⟨c6_2, m6_2, rfl, L6_2, F6⟩ := All2.cons F6
  obtain ⟨c6_3, m6_3, rfl, L6_3, F6⟩ := All2.cons F6
  obtain ⟨c6_4, m6_4, rfl, L6_4, F6⟩ := All2.cons F6
  obtain ⟨c6_5, m6_5, rfl, L6_5, F6⟩ := All2.cons F6
  obtain rfl := All2.nil F6
  obtain ⟨a6_0, rfl, w6_0⟩ := Leaf.int L6_0 Tryd.underlying23
  obtain ⟨a6_1, rfl, w6_1⟩ := Leaf.int L6_1 Tryd.underlying23
  obtain ⟨a6_2, rfl, w6_2⟩ := Leaf.int L6_2 Tryd.underlying23
  obtain ⟨a6_3, rfl, w6_3⟩ := Leaf.int L6_3 Tryd.underlying23
  obtain ⟨a6_4, rfl, w6_4⟩ := Leaf.int L6_4 Tryd.underlying23
  obtain ⟨a6_5, rfl, w6_5⟩ := Leaf.int L6_5 Tryd.underlying23
  obtain ⟨l7, rfl, F7⟩ := open_flat (P := Tryd.prog) [23, 23, 23, 23, 23] (by kernel_rfl) (Or.inl ⟨_, Tryd.underlying28⟩) (hval 7 28 v7 rfl rfl) h7
  obtain ⟨c7_0, m7_0, rfl, L7_0, F7⟩ := All2.cons F7
  obtain ⟨c7_1, m7_1, rfl, L7_1, F7⟩ := All2.cons F7
  obtain ⟨c7_2, m7_2, rfl, L7_2, F7⟩ := All2.cons F7
  obtain ⟨c7_3, m7_3, rfl, L7_3, F7⟩ := All2.cons F7
  obtain ⟨c7_4, m7_4, rfl, L7_4, F7⟩ := All2.cons F7
  obtain rfl := All2.nil F7
  obtain ⟨a7_0, rfl, w7_0⟩ := Leaf.int L7_0 Tryd.underlying23
  obtain ⟨a7_1, rfl, w7_1⟩ := Leaf.int L7_1 Tryd.underlying23
  obtain ⟨a7_2, rfl, w7_2⟩ := Leaf.int L7_2 Tryd.underlying23
  obtain ⟨a7_3, rfl, w7_3⟩ := Leaf.int L7_3 Tryd.underlying23
  obtain ⟨a7_4, rfl, w7_4⟩ := Leaf.int L7_4 Tryd.underlying23
  obtain ⟨a8, rfl, rfl, rfl, w8⟩ := open_int Tryd.underlying23 (hval 8 23 v8 rfl rfl) h8
  obtain ⟨F, hG, hF, hFp⟩ := more_laid (w := W) (laid_of hL) hlt
  refine (GroupBeginAgrees_core a0 a1 a2_0 a2_1 a2_2 a2_3 a2_4 a3_0 a3_1 a3_2 a3_3 a3_4 a4 a5 a6_0 a6_1 a6_2 a6_3 a6_4 a6_5 a7_0 a7_1 a7_2 a7_3 a7_4 a8 w2_0 w2_1 w2_2 w2_3 w2_4 w3_0 w3_1 w3_2 w3_3 w3_4 w4 w5 w6_0 w6_1 w6_2 w6_3 w6_4 w6_5 w7_0 w7_1 w7_2 w7_3 w7_4 w8 W hG hF).mono fun e W' ⟨he, hg⟩ => ?_
  subst he
  exact ⟨_, rfl, Law.keep laidOut (by rw [Tryd.params3]; exact of_decide_eq_true (by kernel_rfl)) rfl hW' hlt hg rfl rfl (fun _ _ _ => (trodAll_cons_mk (shut_bool Tryd.underlying4 _) trodAll_mk0))⟩

theorem over : Rows.groupBeginAgreesRow.holds Tryd.pinned (OpenSpec.ofChange Rows.groupBeginAgreesSpec) :=
  OpenClaim.holds_of_wide 3 Tryd.f3 rfl rfl rfl rfl rfl rfl rfl ⟨rfl, rfl, rfl, rfl, rfl⟩ rfl rfl rfl rfl rfl (by kernel_rfl) Tryd.func3 (by kernel_rfl)
    (of_decide_eq_true (by kernel_rfl)) (by unfold Func.isWrapper; first | (rw [if_pos (by decide +kernel)]; kernel_rfl) | (rw [if_neg (by decide +kernel)]; exact ⟨rfl, rfl⟩))
    (fun os started H enc _ => lifted os started H enc)

theorem proved : Rows.GroupBeginAgreesCardSaid :=
  Claim7.holds_tied_plain_at .later [] [.data] true (true, "ea51d1728f820d5ddc2d0f9ce30781b3ad8c40fba4fd7438870554c1213a98dc") false over (fun _ h => by cases h) (by kernel_rfl) (fun _ h => by cases h) groupBeginAgrees_row_tie rfl ⟨rfl, rfl⟩ (by kernel_rfl) rfl
    (fun f fn hf hfn => by
      obtain rfl : f = 3 := Option.some.inj ((show Tryd.prog.funcNamed "compositor/compositorlaw12.GroupBeginAgrees" = some 3 by kernel_rfl).symm.trans hf) |>.symm
      obtain rfl : fn = Tryd.f3 := (Option.some.inj (Tryd.func3.symm.trans hfn)).symm
      exact ⟨by kernel_rfl, fun j t ht => by
        rw [Tryd.params3] at ht
        have hm : t ∈ [4, 4, 22, 22, 3, 3, 26, 28, 23] := by simpa using Array.mem_of_getElem? ht
        have hall : ([4, 4, 22, 22, 3, 3, 26, 28, 23].all fun u => !Tryd.prog.wantsStandIn u) = true := by kernel_rfl
        exact (show Tryd.prog.wantsStandIn t = false by simpa using List.all_eq_true.1 hall t hm)⟩)
    (by kernel_rfl)
#print axioms proved
end Go.Proofs.YtfjpilehoeendaaDoor.groupBeginAgrees
