/-
  'SpanRejects': the law returns true at every input, and its arguments read as before. No condition.
-/
import Derived.Test.YtpjhdjakpbabhaaGreatDoorRows
import Derived.WalkKit
import Derived.ProofKit
import Derived.OpenShut
import Derived.Laws.Cover2
import Derived.Test.YtpjhdjakpbabhaaGreatDoorBb
import Derived.Test.YtpjhdjakpbabhaaGreatDoorBf
import Derived.Test.YtpjhdjakpbabhaaGreatDoorRs
import Derived.Test.YtpjhdjakpbabhaaGreatDoorTie
import Derived.Test.YtpjhdjakpbabhaaGreatDoorCards
import Derived.LaidMore
import Derived.Lay
import Derived.Stop.Joined
import Derived.SevenTiedAt
import Derived.Test.YtpjhdjakpbabhaaGreatDoorXe
namespace Go.Proofs.YtpjhdjakpbabhaaGreatDoor.spanRejects
open Go.ChangeShapes Go.WideShapes Go.ChangeAt Go.RowKit
set_option linter.unusedVariables false
theorem own : ownKnob Tryz.prog.godebug = none := by kernel_rfl
theorem laidOut : laidOutB Tryz.prog = true := by kernel_rfl
set_option maxRecDepth 100000 in
theorem lifted (os : Os) (started : os.Started) (H : Type) (enc : TypeId × Value → H) :
    ReturnsInHanded {} Tryz.checked os 5 .any (fun w args => (Rows.spanRejectsSpec.pre enc Tryz.prog Tryz.f5 Rows.spanRejectsRow.domain false w args ∧ laidMetH Tryz.prog [("compositor/operator.table", Rows.laid_compositor_operator_table)] w) ∧ sizedMet enc Tryz.prog Tryz.f5 (OpenSpec.ofChange Rows.spanRejectsSpec) false w args) (Rows.spanRejectsSpec.post enc Tryz.prog Tryz.f5 false true false false) := by
  refine returnsInHanded_of_change_and (C := Tryz.checked) (X := fun w _ => laidMetH Tryz.prog [("compositor/operator.table", Rows.laid_compositor_operator_table)] w) (fun _ _ _ hh h => h.of_heap hh) own started (by kernel_rfl) Tryz.func5
    (ChangeSpec.witness_shaped (enc := enc) (C := Tryz.checked) (os := os) (X := fun w _ => laidMetH Tryz.prog [("compositor/operator.table", Rows.laid_compositor_operator_table)] w) false (World.laidAll Tryz.prog os [("compositor/operator.table", Rows.laid_compositor_operator_table)]) #[.int .i64 0, .int .i64 0, .agg #[.int .i64 0, .slice none 0 0], .agg #[.int .i64 0, .slice none 0 0], .int .i64 0, .int .i64 0, .int .i64 0, .agg #[.int .u16 0, .int .u16 0, .int .u16 0, .int .u16 0, .int .u16 0]] 8 (World.laidAll_os _ _ _)
      (World.shaped_of_ZipB (by kernel_rfl) (by kernel_rfl)) (by kernel_rfl) (by kernel_rfl) (by kernel_rfl)
      (by rw [MakeChecks.laidMetH_plain _ _ _ (by kernel_rfl)]; exact laidMet_laidAll _ (by kernel_rfl) (by kernel_rfl))) ?_
  intro W base args ds gs before hval0 hW hcnd _ hL _
  have hval : ∀ (j : Nat) t v, Tryz.f5.params[j]? = some t → args[j]? = some v → Value.okWide Tryz.prog W .any base t v := hval0
  have hW' := hW
  have hlt : ∀ x ∈ before, x.block < W.heap.size := fun x hx => by simpa using hW'.lt x hx
  obtain ⟨p, q, hA0, hV, rfl, hfz, hnd⟩ := hW
  have hA : DataW.TrodAll enc Tryz.prog W 0 (fun _ => true) true Tryz.f5.params.toList args.toList ds p := hA0
  rw [Tryz.params5] at hA hval
  obtain ⟨rfl, rfl⟩ := trodVars_none hV
  obtain ⟨v0, vs0, d0, ds0, p0, q0, hargs, rfl, rfl, h0, r0⟩ := trodAll_cons hA
  obtain ⟨v1, vs1, d1, ds1, p1, q1, rfl, rfl, rfl, h1, r1⟩ := trodAll_cons r0
  obtain ⟨v2, vs2, d2, ds2, p2, q2, rfl, rfl, rfl, h2, r2⟩ := trodAll_cons r1
  obtain ⟨v3, vs3, d3, ds3, p3, q3, rfl, rfl, rfl, h3, r3⟩ := trodAll_cons r2
  obtain ⟨v4, vs4, d4, ds4, p4, q4, rfl, rfl, rfl, h4, r4⟩ := trodAll_cons r3
  obtain ⟨v5, vs5, d5, ds5, p5, q5, rfl, rfl, rfl, h5, r5⟩ := trodAll_cons r4
  obtain ⟨v6, vs6, d6, ds6, p6, q6, rfl, rfl, rfl, h6, r6⟩ := trodAll_cons r5
  obtain ⟨v7, vs7, d7, ds7, p7, q7, rfl, rfl, rfl, h7, r7⟩ := trodAll_cons r6
  obtain ⟨rfl, rfl, rfl⟩ := trodAll_nil r7
  obtain rfl : args = #[v0, v1, v2, v3, v4, v5, v6, v7] := by cases args; simp_all
  obtain ⟨a0, rfl, rfl, rfl, w0⟩ := open_int Tryz.underlying3 (hval 0 3 v0 rfl rfl) h0
  obtain ⟨a1, rfl, rfl, rfl, w1⟩ := open_int Tryz.underlying3 (hval 1 3 v1 rfl rfl) h1
  obtain ⟨l2, rfl, F2⟩ := open_flat (P := Tryz.prog) [3, 22] (by kernel_rfl) (Or.inl ⟨_, Tryz.underlying24⟩) (hval 2 24 v2 rfl rfl) h2
  obtain ⟨c2_0, m2_0, rfl, L2_0, F2⟩ := All2.cons F2
  obtain ⟨c2_1, m2_1, rfl, L2_1, F2⟩ := All2.cons F2
  obtain rfl := All2.nil F2
  obtain ⟨a2_0, rfl, w2_0⟩ := Leaf.int L2_0 Tryz.underlying3
  obtain ⟨n2_1, l2_1, z2_1, w2_1, r2_1'⟩ := open_slc_ints [3, 3, 3, 3, 3] Tryz.underlying22 (by kernel_rfl) (by kernel_rfl) (by decide) (fun u hu => by rw [show u = 3 from by simpa using hu]; exact Tryz.underlying3) (L2_1)
  obtain ⟨l3, rfl, F3⟩ := open_flat (P := Tryz.prog) [3, 22] (by kernel_rfl) (Or.inl ⟨_, Tryz.underlying24⟩) (hval 3 24 v3 rfl rfl) h3
  obtain ⟨c3_0, m3_0, rfl, L3_0, F3⟩ := All2.cons F3
  obtain ⟨c3_1, m3_1, rfl, L3_1, F3⟩ := All2.cons F3
  obtain rfl := All2.nil F3
  obtain ⟨a3_0, rfl, w3_0⟩ := Leaf.int L3_0 Tryz.underlying3
  obtain ⟨n3_1, l3_1, z3_1, w3_1, r3_1'⟩ := open_slc_ints [3, 3, 3, 3, 3] Tryz.underlying22 (by kernel_rfl) (by kernel_rfl) (by decide) (fun u hu => by rw [show u = 3 from by simpa using hu]; exact Tryz.underlying3) (L3_1)
  obtain ⟨a4, rfl, rfl, rfl, w4⟩ := open_int Tryz.underlying3 (hval 4 3 v4 rfl rfl) h4
  obtain ⟨a5, rfl, rfl, rfl, w5⟩ := open_int Tryz.underlying3 (hval 5 3 v5 rfl rfl) h5
  obtain ⟨a6, rfl, rfl, rfl, w6⟩ := open_int Tryz.underlying3 (hval 6 3 v6 rfl rfl) h6
  obtain ⟨l7, rfl, F7⟩ := open_flat (P := Tryz.prog) [25, 25, 25, 25, 25] (by kernel_rfl) (Or.inl ⟨_, Tryz.underlying35⟩) (hval 7 35 v7 rfl rfl) h7
  obtain ⟨c7_0, m7_0, rfl, L7_0, F7⟩ := All2.cons F7
  obtain ⟨c7_1, m7_1, rfl, L7_1, F7⟩ := All2.cons F7
  obtain ⟨c7_2, m7_2, rfl, L7_2, F7⟩ := All2.cons F7
  obtain ⟨c7_3, m7_3, rfl, L7_3, F7⟩ := All2.cons F7
  obtain ⟨c7_4, m7_4, rfl, L7_4, F7⟩ := All2.cons F7
  obtain rfl := All2.nil F7
  obtain ⟨a7_0, rfl, w7_0⟩ := Leaf.int L7_0 Tryz.underlying25
  obtain ⟨a7_1, rfl, w7_1⟩ := Leaf.int L7_1 Tryz.underlying25
  obtain ⟨a7_2, rfl, w7_2⟩ := Leaf.int L7_2 Tryz.underlying25
  obtain ⟨a7_3, rfl, w7_3⟩ := Leaf.int L7_3 Tryz.underlying25
  obtain ⟨a7_4, rfl, w7_4⟩ := Leaf.int L7_4 Tryz.underlying25
  obtain ⟨F, hG, hF, hFp⟩ := more_laid (w := W) (laid_of hL) hlt
  refine (SpanRejects_core a0 a1 a2_0 n2_1 l2_1 a3_0 n3_1 l3_1 a4 a5 a6 a7_0 a7_1 a7_2 a7_3 a7_4 w0 w1 w2_0 z2_1 w2_1 w3_0 z3_1 w3_1 w4 w5 w6 w7_0 w7_1 w7_2 w7_3 w7_4 W hG hF c2_1 (r2_1' F (fun x hx => hFp x (by simp [hx]))) c3_1 (r3_1' F (fun x hx => hFp x (by simp [hx])))).mono fun e W' ⟨he, hg⟩ => ?_
  subst he
  exact ⟨_, rfl, Law.keep laidOut (by rw [Tryz.params5]; exact of_decide_eq_true (by kernel_rfl)) rfl hW' hlt hg rfl rfl (fun _ _ _ => (trodAll_cons_mk (shut_bool Tryz.underlying4 _) trodAll_mk0))⟩
theorem over : Rows.spanRejectsRow.holds Tryz.pinned (OpenSpec.ofChange Rows.spanRejectsSpec) :=
  OpenClaim.holds_of_wide 5 Tryz.f5 rfl rfl rfl rfl rfl rfl rfl ⟨rfl, rfl, rfl, rfl, rfl⟩ rfl rfl rfl rfl rfl (by kernel_rfl) Tryz.func5 (by kernel_rfl)
    (of_decide_eq_true (by kernel_rfl)) (by unfold Func.isWrapper; first | (rw [if_pos (by decide +kernel)]; kernel_rfl) | (rw [if_neg (by decide +kernel)]; exact ⟨rfl, rfl⟩))
    (fun os started H enc _ => lifted os started H enc)
theorem proved : Rows.SpanRejectsCardSaid :=
  Claim7.holds_tied_plain_at .later [] [.data] true (true, "a6bfc4f909538c301b36cdb9a7a793e4f0c49cd03dcc9751010351e6e416aa9e") false over (fun _ h => by cases h) (by kernel_rfl) (fun _ h => by cases h) spanRejects_row_tie rfl ⟨rfl, rfl⟩ (by kernel_rfl) rfl
    (fun f fn hf hfn => by
      obtain rfl : f = 5 := Option.some.inj ((show Tryz.prog.funcNamed "compositor/compositorlaw16.SpanRejects" = some 5 by kernel_rfl).symm.trans hf) |>.symm
      obtain rfl : fn = Tryz.f5 := (Option.some.inj (Tryz.func5.symm.trans hfn)).symm
      exact ⟨by kernel_rfl, fun j t ht => by
        rw [Tryz.params5] at ht
        have hm : t ∈ [3, 3, 24, 24, 3, 3, 3, 35] := by simpa using Array.mem_of_getElem? ht
        have hall : ([3, 3, 24, 24, 3, 3, 3, 35].all fun u => !Tryz.prog.wantsStandIn u) = true := by kernel_rfl
        exact (show Tryz.prog.wantsStandIn t = false by simpa using List.all_eq_true.1 hall t hm)⟩)
    (by kernel_rfl)
#print axioms proved
end Go.Proofs.YtpjhdjakpbabhaaGreatDoor.spanRejects
