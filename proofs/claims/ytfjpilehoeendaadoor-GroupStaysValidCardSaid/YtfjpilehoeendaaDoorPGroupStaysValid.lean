/-
  'GroupStaysValid': the law returns true at every input, and its arguments read as before. No condition.
-/
import Derived.Test.YtfjpilehoeendaaDoorRows
import Derived.WalkKit
import Derived.ProofKit
import Derived.OpenShut
import Derived.Laws.Cover2
import Derived.Test.YtfjpilehoeendaaDoorBb
import Derived.Test.YtfjpilehoeendaaDoorBf
import Derived.Test.YtfjpilehoeendaaDoorRs
import Derived.Test.YtfjpilehoeendaaDoorTie
import Derived.Test.YtfjpilehoeendaaDoorCards
import Derived.LaidMore
import Derived.Lay
import Derived.Stop.Joined
import Derived.SevenTiedAt
import Derived.Test.YtfjpilehoeendaaDoorLg
namespace Go.Proofs.YtfjpilehoeendaaDoor.groupStaysValid
open Go.ChangeShapes Go.WideShapes Go.ChangeAt Go.RowKit
set_option linter.unusedVariables false

theorem own : ownKnob Tryd.prog.godebug = none := by kernel_rfl
theorem laidOut : laidOutB Tryd.prog = true := by kernel_rfl

set_option maxRecDepth 100000 in
theorem lifted (os : Os) (started : os.Started) (H : Type) (enc : TypeId × Value → H) :
    ReturnsInHanded {} Tryd.checked os 8 .any (fun w args => (Rows.groupStaysValidSpec.pre enc Tryd.prog Tryd.f8 Rows.groupStaysValidRow.domain false w args ∧ laidMetH Tryd.prog [("compositor/operator.table", Rows.laid_compositor_operator_table)] w) ∧ sizedMet enc Tryd.prog Tryd.f8 (OpenSpec.ofChange Rows.groupStaysValidSpec) false w args) (Rows.groupStaysValidSpec.post enc Tryd.prog Tryd.f8 false true false false) := by
  refine returnsInHanded_of_change_and (C := Tryd.checked) (X := fun w _ => laidMetH Tryd.prog [("compositor/operator.table", Rows.laid_compositor_operator_table)] w) (fun _ _ _ hh h => h.of_heap hh) own started (by kernel_rfl) Tryd.func8
    (ChangeSpec.witness_shaped (enc := enc) (C := Tryd.checked) (os := os) (X := fun w _ => laidMetH Tryd.prog [("compositor/operator.table", Rows.laid_compositor_operator_table)] w) false (World.laidAll Tryd.prog os [("compositor/operator.table", Rows.laid_compositor_operator_table)]) #[.bool false, .bool false, .bool false, .slice none 0 0, .slice none 0 0, .agg #[.int .i64 0, .int .i64 0, .int .i64 0, .int .i64 0, .int .i64 0], .agg #[.int .i64 0, .int .i64 0, .int .i64 0, .int .i64 0, .int .i64 0], .int .i64 0, .int .i64 0] 8 (World.laidAll_os _ _ _)
      (World.shaped_of_ZipB (by kernel_rfl) (by kernel_rfl)) (by kernel_rfl) (by kernel_rfl) (by kernel_rfl)
      (by rw [MakeChecks.laidMetH_plain _ _ _ (by kernel_rfl)]; exact laidMet_laidAll _ (by kernel_rfl) (by kernel_rfl))) ?_
  intro W base args ds gs before hval0 hW hcnd _ hL _
  have hval : ∀ (j : Nat) t v, Tryd.f8.params[j]? = some t → args[j]? = some v → Value.okWide Tryd.prog W .any base t v := hval0
  have hW' := hW
  have hlt : ∀ x ∈ before, x.block < W.heap.size := fun x hx => by simpa using hW'.lt x hx
  obtain ⟨p, q, hA0, hV, rfl, hfz, hnd⟩ := hW
  have hA : DataW.TrodAll enc Tryd.prog W 0 (fun _ => true) true Tryd.f8.params.toList args.toList ds p := hA0
  rw [Tryd.params8] at hA hval
  obtain ⟨rfl, rfl⟩ := trodVars_none hV
  obtain ⟨v0, vs0, d0, ds0, p0, q0, hargs, rfl, rfl, h0, r0⟩ := trodAll_cons hA
  obtain ⟨v1, vs1, d1, ds1, p1, q1, rfl, rfl, rfl, h1, r1⟩ := trodAll_cons r0
  obtain ⟨v2, vs2, d2, ds2, p2, q2, rfl, rfl, rfl, h2, r2⟩ := trodAll_cons r1
  obtain ⟨v3, vs3, d3, ds3, p3, q3, rfl, rfl, rfl, h3, r3⟩ := trodAll_cons r2
  obtain ⟨v4, vs4, d4, ds4, p4, q4, rfl, rfl, rfl, h4, r4⟩ := trodAll_cons r3
  obtain ⟨v5, vs5, d5, ds5, p5, q5, rfl, rfl, rfl, h5, r5⟩ := trodAll_cons r4
  obtain ⟨v6, vs6, d6, ds6, p6, q6, rfl, rfl, rfl, h6, r6⟩ := trodAll_cons r5
  obtain ⟨v7, vs7, d7, ds7, p7, q7, rfl, rfl, rfl, h7, r7⟩ := trodAll_cons r6
  obtain ⟨v8, vs8, d8, ds8, p8, q8, rfl, rfl, rfl, h8, r8⟩ := trodAll_cons r7
  obtain ⟨rfl, rfl, rfl⟩ := trodAll_nil r8
  obtain rfl : args = #[v0, v1, v2, v3, v4, v5, v6, v7, v8] := by cases args; simp_all
  obtain ⟨a0, rfl, rfl, rfl⟩ := open_bool Tryd.underlying4 (hval 0 4 v0 rfl rfl) h0
  obtain ⟨a1, rfl, rfl, rfl⟩ := open_bool Tryd.underlying4 (hval 1 4 v1 rfl rfl) h1
  obtain ⟨a2, rfl, rfl, rfl⟩ := open_bool Tryd.underlying4 (hval 2 4 v2 rfl rfl) h2
  obtain ⟨n3, l3, z3, w3, r3'⟩ := open_slc_ints [3, 3, 3, 3, 3] Tryd.underlying47 (by kernel_rfl) (by kernel_rfl) (by decide) (fun u hu => by rw [show u = 3 from by simpa using hu]; exact Tryd.underlying3) (leaf_slice Tryd.underlying47 (hval 3 47 v3 rfl rfl) h3)
  obtain ⟨n4, l4, z4, w4, r4'⟩ := open_slc_ints [3] Tryd.underlying48 (by kernel_rfl) (by kernel_rfl) (by decide) (fun u hu => by rw [show u = 3 from by simpa using hu]; exact Tryd.underlying3) (leaf_slice Tryd.underlying48 (hval 4 48 v4 rfl rfl) h4)
  obtain ⟨l5, rfl, F5⟩ := open_flat (P := Tryd.prog) [3, 3, 3, 3, 3] (by kernel_rfl) (Or.inr ⟨_, _, Tryd.underlying22⟩) (hval 5 22 v5 rfl rfl) h5
  obtain ⟨c5_0, m5_0, rfl, L5_0, F5⟩ := All2.cons F5
  obtain ⟨c5_1, m5_1, rfl, L5_1, F5⟩ := All2.cons F5
  obtain ⟨c5_2, m5_2, rfl, L5_2, F5⟩ := All2.cons F5
  obtain ⟨c5_3, m5_3, rfl, L5_3, F5⟩ := All2.cons F5
  obtain ⟨c5_4, m5_4, rfl, L5_4, F5⟩ := All2.cons F5
  obtain rfl := All2.nil F5
  obtain ⟨a5_0, rfl, w5_0⟩ := Leaf.int L5_0 Tryd.underlying3
  obtain ⟨a5_1, rfl, w5_1⟩ := Leaf.int L5_1 Tryd.underlying3
  obtain ⟨a5_2, rfl, w5_2⟩ := Leaf.int L5_2 Tryd.underlying3
  obtain ⟨a5_3, rfl, w5_3⟩ := Leaf.int L5_3 Tryd.underlying3
  obtain ⟨a5_4, rfl, w5_4⟩ := Leaf.int L5_4 Tryd.underlying3
  obtain ⟨l6, rfl, F6⟩ := open_flat (P := Tryd.prog) [3, 3, 3, 3, 3] (by kernel_rfl) (Or.inr ⟨_, _, Tryd.underlying22⟩) (hval 6 22 v6 rfl rfl) h6
  obtain ⟨c6_0, m6_0, rfl, L6_0, F6⟩ := All2.cons F6
  obtain ⟨c6_1, m6_1, rfl, L6_1, F6⟩ := All2.cons F6
  obtain ⟨c6_2, m6_2, rfl, L6_2, F6⟩ := All2.cons F6
  obtain ⟨c6_3, m6_3, rfl, L6_3, F6⟩ := All2.cons F6
  obtain ⟨c6_4, m6_4, rfl, L6_4, F6⟩ := All2.cons F6
  obtain rfl := All2.nil F6
  obtain ⟨a6_0, rfl, w6_0⟩ := Leaf.int L6_0 Tryd.underlying3
  obtain ⟨a6_1, rfl, w6_1⟩ := Leaf.int L6_1 Tryd.underlying3
  obtain ⟨a6_2, rfl, w6_2⟩ := Leaf.int L6_2 Tryd.underlying3
  obtain ⟨a6_3, rfl, w6_3⟩ := Leaf.int L6_3 Tryd.underlying3
  obtain ⟨a6_4, rfl, w6_4⟩ := Leaf.int L6_4 Tryd.underlying3
  obtain ⟨a7, rfl, rfl, rfl, w7⟩ := open_int Tryd.underlying3 (hval 7 3 v7 rfl rfl) h7
  obtain ⟨a8, rfl, rfl, rfl, w8⟩ := open_int Tryd.underlying3 (hval 8 3 v8 rfl rfl) h8
  obtain ⟨F, hG, hF, hFp⟩ := more_laid (w := W) (laid_of hL) hlt
  refine (GroupStaysValid_core a0 a1 a2 n3 l3 n4 l4 a5_0 a5_1 a5_2 a5_3 a5_4 a6_0 a6_1 a6_2 a6_3 a6_4 a7 a8 z3 w3 z4 w4 w5_0 w5_1 w5_2 w5_3 w5_4 w6_0 w6_1 w6_2 w6_3 w6_4 w7 w8 W hG hF v3 (r3' F (fun x hx => hFp x (by simp [hx]))) v4 (r4' F (fun x hx => hFp x (by simp [hx])))).mono fun e W' ⟨he, hg⟩ => ?_
  subst he
  exact ⟨_, rfl, Law.keep laidOut (by rw [Tryd.params8]; exact of_decide_eq_true (by kernel_rfl)) rfl hW' hlt hg rfl rfl (fun _ _ _ => (trodAll_cons_mk (shut_bool Tryd.underlying4 _) trodAll_mk0))⟩

theorem over : Rows.groupStaysValidRow.holds Tryd.pinned (OpenSpec.ofChange Rows.groupStaysValidSpec) :=
  OpenClaim.holds_of_wide 8 Tryd.f8 rfl rfl rfl rfl rfl rfl rfl ⟨rfl, rfl, rfl, rfl, rfl⟩ rfl rfl rfl rfl rfl (by kernel_rfl) Tryd.func8 (by kernel_rfl)
    (of_decide_eq_true (by kernel_rfl)) (by unfold Func.isWrapper; first | (rw [if_pos (by decide +kernel)]; kernel_rfl) | (rw [if_neg (by decide +kernel)]; exact ⟨rfl, rfl⟩))
    (fun os started H enc _ => lifted os started H enc)

theorem proved : Rows.GroupStaysValidCardSaid :=
  Claim7.holds_tied_plain_at .later [] [.data] true (true, "ea51d1728f820d5ddc2d0f9ce30781b3ad8c40fba4fd7438870554c1213a98dc") false over (fun _ h => by cases h) (by kernel_rfl) (fun _ h => by cases h) groupStaysValid_row_tie rfl ⟨rfl, rfl⟩ (by kernel_rfl) rfl
    (fun f fn hf hfn => by
      obtain rfl : f = 8 := Option.some.inj ((show Tryd.prog.funcNamed "compositor/compositorlaw12.GroupStaysValid" = some 8 by kernel_rfl).symm.trans hf) |>.symm
      obtain rfl : fn = Tryd.f8 := (Option.some.inj (Tryd.func8.symm.trans hfn)).symm
      exact ⟨by kernel_rfl, fun j t ht => by
        rw [Tryd.params8] at ht
        have hm : t ∈ [4, 4, 4, 47, 48, 22, 22, 3, 3] := by simpa using Array.mem_of_getElem? ht
        have hall : ([4, 4, 4, 47, 48, 22, 22, 3, 3].all fun u => !Tryd.prog.wantsStandIn u) = true := by kernel_rfl
        exact (show Tryd.prog.wantsStandIn t = false by simpa using List.all_eq_true.1 hall t hm)⟩)
    (by kernel_rfl)
#print axioms proved
end Go.Proofs.YtfjpilehoeendaaDoor.groupStaysValid
