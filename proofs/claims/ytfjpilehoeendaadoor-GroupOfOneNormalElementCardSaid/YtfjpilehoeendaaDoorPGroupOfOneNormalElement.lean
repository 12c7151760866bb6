/-
  'GroupOfOneNormalElement': the law returns true at every input, and its arguments read as before. No condition.
-/
import Derived.Test.YtfjpilehoeendaaDoorRows
import Derived.WalkKit
import Derived.ProofKit
import Derived.OpenShut
import Derived.Laws.Cover2
import Derived.Test.YtfjpilehoeendaaDoorBb
import Derived.Test.YtfjpilehoeendaaDoorBf
import Derived.Test.YtfjpilehoeendaaDoorRs
import Derived.Test.YtfjpilehoeendaaDoorTie
import Derived.Test.YtfjpilehoeendaaDoorCards
import Derived.LaidMore
import Derived.Lay
import Derived.Stop.Joined
import Derived.SevenTiedAt
import Derived.Test.YtfjpilehoeendaaDoorLe
namespace Go.Proofs.YtfjpilehoeendaaDoor.groupOfOneNormalElement
open Go.ChangeShapes Go.WideShapes Go.ChangeAt Go.RowKit
set_option linter.unusedVariables false

theorem own : ownKnob Tryd.prog.godebug = none := by kernel_rfl
theorem laidOut : laidOutB Tryd.prog = true := by kernel_rfl

set_option maxRecDepth 100000 in
theorem lifted (os : Os) (started : os.Started) (H : Type) (enc : TypeId × Value → H) :
    ReturnsInHanded {} Tryd.checked os 11 .any (fun w args => (Rows.groupOfOneNormalElementSpec.pre enc Tryd.prog Tryd.f11 Rows.groupOfOneNormalElementRow.domain false w args ∧ laidMetH Tryd.prog [("compositor/operator.table", Rows.laid_compositor_operator_table)] w) ∧ sizedMet enc Tryd.prog Tryd.f11 (OpenSpec.ofChange Rows.groupOfOneNormalElementSpec) false w args) (Rows.groupOfOneNormalElementSpec.post enc Tryd.prog Tryd.f11 false true false false) := by
  refine returnsInHanded_of_change_and (C := Tryd.checked) (X := fun w _ => laidMetH Tryd.prog [("compositor/operator.table", Rows.laid_compositor_operator_table)] w) (fun _ _ _ hh h => h.of_heap hh) own started (by kernel_rfl) Tryd.func11
    (ChangeSpec.witness_shaped (enc := enc) (C := Tryd.checked) (os := os) (X := fun w _ => laidMetH Tryd.prog [("compositor/operator.table", Rows.laid_compositor_operator_table)] w) false (World.laidAll Tryd.prog os [("compositor/operator.table", Rows.laid_compositor_operator_table)]) #[.bool false, .bool false, .bool false, .agg #[.int .i64 0, .int .i64 0, .int .i64 0, .int .i64 0, .int .i64 0], .agg #[.int .i64 0, .int .i64 0, .int .i64 0, .int .i64 0, .int .i64 0], .agg #[.int .i64 0, .int .i64 0, .int .i64 0, .int .i64 0, .int .i64 0], .int .i64 0, .int .i64 0] 8 (World.laidAll_os _ _ _)
      (World.shaped_of_ZipB (by kernel_rfl) (by kernel_rfl)) (by kernel_rfl) (by kernel_rfl) (by kernel_rfl)
      (by rw [MakeChecks.laidMetH_plain _ _ _ (by kernel_rfl)]; exact laidMet_laidAll _ (by kernel_rfl) (by kernel_rfl))) ?_
  intro W base args ds gs before hval0 hW hcnd _ hL _
  have hval : ∀ (j : Nat) t v, Tryd.f11.params[j]? = some t → args[j]? = some v → Value.okWide Tryd.prog W .any base t v := hval0
  have hW' := hW
  have hlt : ∀ x ∈ before, x.block < W.heap.size := fun x hx => by simpa using hW'.lt x hx
  obtain ⟨p, q, hA0, hV, rfl, hfz, hnd⟩ := hW
  have hA : DataW.TrodAll enc Tryd.prog W 0 (fun _ => true) true Tryd.f11.params.toList args.toList ds p := hA0
  rw [Tryd.params11] at hA hval
  obtain ⟨rfl, rfl⟩ := trodVars_none hV
  obtain ⟨v0, vs0, d0, ds0, p0, q0, hargs, rfl, rfl, h0, r0⟩ := trodAll_cons hA
  obtain ⟨v1, vs1, d1, ds1, p1, q1, rfl, rfl, rfl, h1, r1⟩ := trodAll_cons r0
  obtain ⟨v2, vs2, d2, ds2, p2, q2, rfl, rfl, rfl, h2, r2⟩ := trodAll_cons r1
  obtain ⟨v3, vs3, d3, ds3, p3, q3, rfl, rfl, rfl, h3, r3⟩ := trodAll_cons r2
  obtain ⟨v4, vs4, d4, ds4, p4, q4, rfl, rfl, rfl, h4, r4⟩ := trodAll_cons r3
  obtain ⟨v5, vs5, d5, ds5, p5, q5, rfl, rfl, rfl, h5, r5⟩ := trodAll_cons r4
  obtain ⟨v6, vs6, d6, ds6, p6, q6, rfl, rfl, rfl, h6, r6⟩ := trodAll_cons r5
  obtain ⟨v7, vs7, d7, ds7, p7, q7, rfl, rfl, rfl, h7, r7⟩ := trodAll_cons r6
  obtain ⟨rfl, rfl, rfl⟩ := trodAll_nil r7
  obtain rfl : args = #[v0, v1, v2, v3, v4, v5, v6, v7] := by cases args; simp_all
  obtain ⟨a0, rfl, rfl, rfl⟩ := open_bool Tryd.underlying4 (hval 0 4 v0 rfl rfl) h0
  obtain ⟨a1, rfl, rfl, rfl⟩ := open_bool Tryd.underlying4 (hval 1 4 v1 rfl rfl) h1
  obtain ⟨a2, rfl, rfl, rfl⟩ := open_bool Tryd.underlying4 (hval 2 4 v2 rfl rfl) h2
  obtain ⟨l3, rfl, F3⟩ := open_flat (P := Tryd.prog) [3, 3, 3, 3, 3] (by kernel_rfl) (Or.inr ⟨_, _, Tryd.underlying22⟩) (hval 3 22 v3 rfl rfl) h3
  obtain ⟨c3_0, m3_0, rfl, L3_0, F3⟩ := All2.cons F3
  obtain ⟨c3_1, m3_1, rfl, L3_1, F3⟩ := All2.cons F3
  obtain ⟨c3_2, m3_2, rfl, L3_2, F3⟩ := All2.cons F3
  obtain ⟨c3_3, m3_3, rfl, L3_3, F3⟩ := All2.cons F3
  obtain ⟨c3_4, m3_4, rfl, L3_4, F3⟩ := All2.cons F3
  obtain rfl := All2.nil F3
  obtain ⟨a3_0, rfl, w3_0⟩ := Leaf.int L3_0 Tryd.underlying3
  obtain ⟨a3_1, rfl, w3_1⟩ := Leaf.int L3_1 Tryd.underlying3
  obtain ⟨a3_2, rfl, w3_2⟩ := Leaf.int L3_2 Tryd.underlying3
  obtain ⟨a3_3, rfl, w3_3⟩ := Leaf.int L3_3 Tryd.underlying3
  obtain ⟨a3_4, rfl, w3_4⟩ := Leaf.int L3_4 Tryd.underlying3
  obtain ⟨l4, rfl, F4⟩ := open_flat (P := Tryd.prog) [3, 3, 3, 3, 3] (by kernel_rfl) (Or.inr ⟨_, _, Tryd.underlying22⟩) (hval 4 22 v4 rfl rfl) h4
  obtain ⟨c4_0, m4_0, rfl, L4_0, F4⟩ := All2.cons F4
  obtain ⟨c4_1, m4_1, rfl, L4_1, F4⟩ := All2.cons F4
  obtain ⟨c4_2, m4_2, rfl, L4_2, F4⟩ := All2.cons F4
  obtain ⟨c4_3, m4_3, rfl, L4_3, F4⟩ := All2.cons F4
  obtain ⟨c4_4, m4_4, rfl, L4_4, F4⟩ := All2.cons F4
  obtain rfl := All2.nil F4
  obtain ⟨a4_0, rfl, w4_0⟩ := Leaf.int L4_0 Tryd.underlying3
  obtain ⟨a4_1, rfl, w4_1⟩ := Leaf.int L4_1 Tryd.underlying3
  obtain ⟨a4_2, rfl, w4_2⟩ := Leaf.int L4_2 Tryd.underlying3
  obtain ⟨a4_3, rfl, w4_3⟩ := Leaf.int L4_3 Tryd.underlying3
  obtain ⟨a4_4, rfl, w4_4⟩ := Leaf.int L4_4 Tryd.underlying3
  obtain ⟨l5, rfl, F5⟩ := open_flat (P := Tryd.prog) [3, 3, 3, 3, 3] (by kernel_rfl) (Or.inr ⟨_, _, Tryd.underlying22⟩) (hval 5 22 v5 rfl rfl) h5
  obtain ⟨c5_0, m5_0, rfl, L5_0, F5⟩ := All2.cons F5
  obtain ⟨c5_1, m5_1, rfl, L5_1, F5⟩ := All2.cons F5
  obtain ⟨c5_2, m5_2, rfl, L5_2, F5⟩ := All2.cons F5
  obtain ⟨c5_3, m5_3, rfl, L5_3, F5⟩ := All2.cons F5
  obtain ⟨c5_4, m5_4, rfl, L5_4, F5⟩ := All2.cons F5
  obtain rfl := All2.nil F5
  obtain ⟨a5_0, rfl, w5_0⟩ := Leaf.int L5_0 Tryd.underlying3
  obtain ⟨a5_1, rfl, w5_1⟩ := Leaf.int L5_1 Tryd.underlying3
  obtain ⟨a5_2, rfl, w5_2⟩ := Leaf.int L5_2 Tryd.underlying3
  obtain ⟨a5_3, rfl, w5_3⟩ := Leaf.int L5_3 Tryd.underlying3
  obtain ⟨a5_4, rfl, w5_4⟩ := Leaf.int L5_4 Tryd.underlying3
  obtain ⟨a6, rfl, rfl, rfl, w6⟩ := open_int Tryd.underlying3 (hval 6 3 v6 rfl rfl) h6
  obtain ⟨a7, rfl, rfl, rfl, w7⟩ := open_int Tryd.underlying3 (hval 7 3 v7 rfl rfl) h7
  obtain ⟨F, hG, hF, hFp⟩ := more_laid (w := W) (laid_of hL) hlt
  refine (GroupOfOneNormalElement_core a0 a1 a2 a3_0 a3_1 a3_2 a3_3 a3_4 a4_0 a4_1 a4_2 a4_3 a4_4 a5_0 a5_1 a5_2 a5_3 a5_4 a6 a7 w3_0 w3_1 w3_2 w3_3 w3_4 w4_0 w4_1 w4_2 w4_3 w4_4 w5_0 w5_1 w5_2 w5_3 w5_4 w6 w7 W hG hF).mono fun e W' ⟨he, hg⟩ => ?_
  subst he
  exact ⟨_, rfl, Law.keep laidOut (by rw [Tryd.params11]; exact of_decide_eq_true (by kernel_rfl)) rfl hW' hlt hg rfl rfl (fun _ _ _ => (trodAll_cons_mk (shut_bool Tryd.underlying4 _) trodAll_mk0))⟩

theorem over : Rows.groupOfOneNormalElementRow.holds Tryd.pinned (OpenSpec.ofChange Rows.groupOfOneNormalElementSpec) :=
  OpenClaim.holds_of_wide 11 Tryd.f11 rfl rfl rfl rfl rfl rfl rfl ⟨rfl, rfl, rfl, rfl, rfl⟩ rfl rfl rfl rfl rfl (by kernel_rfl) Tryd.func11 (by kernel_rfl)
    (of_decide_eq_true (by kernel_rfl)) (by unfold Func.isWrapper; first | (rw [if_pos (by decide +kernel)]; kernel_rfl) | (rw [if_neg (by decide +kernel)]; exact ⟨rfl, rfl⟩))
    (fun os started H enc _ => lifted os started H enc)

theorem proved : Rows.GroupOfOneNormalElementCardSaid :=
  Claim7.holds_tied_plain_at .later [] [.data] true (true, "ea51d1728f820d5ddc2d0f9ce30781b3ad8c40fba4fd7438870554c1213a98dc") false over (fun _ h => by cases h) (by kernel_rfl) (fun _ h => by cases h) groupOfOneNormalElement_row_tie rfl ⟨rfl, rfl⟩ (by kernel_rfl) rfl
    (fun f fn hf hfn => by
      obtain rfl : f = 11 := Option.some.inj ((show Tryd.prog.funcNamed "compositor/compositorlaw12.GroupOfOneNormalElement" = some 11 by kernel_rfl).symm.trans hf) |>.symm
      obtain rfl : fn = Tryd.f11 := (Option.some.inj (Tryd.func11.symm.trans hfn)).symm
      exact ⟨by kernel_rfl, fun j t ht => by
        rw [Tryd.params11] at ht
        have hm : t ∈ [4, 4, 4, 22, 22, 22, 3, 3] := by simpa using Array.mem_of_getElem? ht
        have hall : ([4, 4, 4, 22, 22, 22, 3, 3].all fun u => !Tryd.prog.wantsStandIn u) = true := by kernel_rfl
        exact (show Tryd.prog.wantsStandIn t = false by simpa using List.all_eq_true.1 hall t hm)⟩)
    (by kernel_rfl)
#print axioms proved
end Go.Proofs.YtfjpilehoeendaaDoor.groupOfOneNormalElement
