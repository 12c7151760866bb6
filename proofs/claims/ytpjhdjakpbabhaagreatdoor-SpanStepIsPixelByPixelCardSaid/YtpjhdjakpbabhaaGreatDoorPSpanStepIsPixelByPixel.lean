/-
  'SpanStepIsPixelByPixel': the law returns true at every input, and its arguments read as before. No condition.
-/
import Derived.Test.YtpjhdjakpbabhaaGreatDoorRows
import Derived.WalkKit
import Derived.ProofKit
import Derived.OpenShut
import Derived.Laws.Cover2
import Derived.Test.YtpjhdjakpbabhaaGreatDoorBb
import Derived.Test.YtpjhdjakpbabhaaGreatDoorBf
import Derived.Test.YtpjhdjakpbabhaaGreatDoorRs
import Derived.Test.YtpjhdjakpbabhaaGreatDoorTie
import Derived.Test.YtpjhdjakpbabhaaGreatDoorCards
import Derived.LaidMore
import Derived.Lay
import Derived.Stop.Joined
import Derived.SevenTiedAt
import Derived.Test.YtpjhdjakpbabhaaGreatDoorXe
namespace Go.Proofs.YtpjhdjakpbabhaaGreatDoor.spanStepIsPixelByPixel
open Go.ChangeShapes Go.WideShapes Go.ChangeAt Go.RowKit
set_option linter.unusedVariables false
theorem own : ownKnob Tryz.prog.godebug = none := by kernel_rfl
theorem laidOut : laidOutB Tryz.prog = true := by kernel_rfl
set_option maxRecDepth 100000 in
theorem lifted (os : Os) (started : os.Started) (H : Type) (enc : TypeId × Value → H) :
    ReturnsInHanded {} Tryz.checked os 4 .any (fun w args => (Rows.spanStepIsPixelByPixelSpec.pre enc Tryz.prog Tryz.f4 Rows.spanStepIsPixelByPixelRow.domain false w args ∧ laidMetH Tryz.prog [("compositor/operator.table", Rows.laid_compositor_operator_table)] w) ∧ sizedMet enc Tryz.prog Tryz.f4 (OpenSpec.ofChange Rows.spanStepIsPixelByPixelSpec) false w args) (Rows.spanStepIsPixelByPixelSpec.post enc Tryz.prog Tryz.f4 false true false false) := by
  refine returnsInHanded_of_change_and (C := Tryz.checked) (X := fun w _ => laidMetH Tryz.prog [("compositor/operator.table", Rows.laid_compositor_operator_table)] w) (fun _ _ _ hh h => h.of_heap hh) own started (by kernel_rfl) Tryz.func4
    (ChangeSpec.witness_shaped (enc := enc) (C := Tryz.checked) (os := os) (X := fun w _ => laidMetH Tryz.prog [("compositor/operator.table", Rows.laid_compositor_operator_table)] w) false (World.laidAll Tryz.prog os [("compositor/operator.table", Rows.laid_compositor_operator_table)]) #[.bool false, .int .i64 0, .int .i64 0, .agg #[.int .i64 0, .slice none 0 0], .slice none 0 0, .slice none 0 0, .slice none 0 0, .int .i64 0, .int .i64 0] 8 (World.laidAll_os _ _ _)
      (World.shaped_of_ZipB (by kernel_rfl) (by kernel_rfl)) (by kernel_rfl) (by kernel_rfl) (by kernel_rfl)
      (by rw [MakeChecks.laidMetH_plain _ _ _ (by kernel_rfl)]; exact laidMet_laidAll _ (by kernel_rfl) (by kernel_rfl))) ?_
  intro W base args ds gs before hval0 hW hcnd _ hL _
  have hval : ∀ (j : Nat) t v, Tryz.f4.params[j]? = some t → args[j]? = some v → Value.okWide Tryz.prog W .any base t v := hval0
  have hW' := hW
  have hlt : ∀ x ∈ before, x.block < W.heap.size := fun x hx => by simpa using hW'.lt x hx
  obtain ⟨p, q, hA0, hV, rfl, hfz, hnd⟩ := hW
  have hA : DataW.TrodAll enc Tryz.prog W 0 (fun _ => true) true Tryz.f4.params.toList args.toList ds p := hA0
  rw [Tryz.params4] at hA hval
  obtain ⟨rfl, rfl⟩ := trodVars_none hV
  obtain ⟨v0, vs0, d0, ds0, p0, q0, hargs, rfl, rfl, h0, r0⟩ := trodAll_cons hA
  obtain ⟨v1, vs1, d1, ds1, p1, q1, rfl, rfl, rfl, h1, r1⟩ := trodAll_cons r0
  obtain ⟨v2, vs2, d2, ds2, p2, q2, rfl, rfl, rfl, h2, r2⟩ := trodAll_cons r1
  obtain ⟨v3, vs3, d3, ds3, p3, q3, rfl, rfl, rfl, h3, r3⟩ := trodAll_cons r2
  obtain ⟨v4, vs4, d4, ds4, p4, q4, rfl, rfl, rfl, h4, r4⟩ := trodAll_cons r3
  obtain ⟨v5, vs5, d5, ds5, p5, q5, rfl, rfl, rfl, h5, r5⟩ := trodAll_cons r4
  obtain ⟨v6, vs6, d6, ds6, p6, q6, rfl, rfl, rfl, h6, r6⟩ := trodAll_cons r5
  obtain ⟨v7, vs7, d7, ds7, p7, q7, rfl, rfl, rfl, h7, r7⟩ := trodAll_cons r6
  obtain ⟨v8, vs8, d8, ds8, p8, q8, rfl, rfl, rfl, h8, r8⟩ := trodAll_cons r7
  obtain ⟨rfl, rfl, rfl⟩ := trodAll_nil r8
  obtain rfl : args = #[v0, v1, v2, v3, v4, v5, v6, v7, v8] := by cases args; simp_all
  obtain ⟨a0, rfl, rfl, rfl⟩ := open_bool Tryz.underlying4 (hval 0 4 v0 rfl rfl) h0
  obtain ⟨a1, rfl, rfl, rfl, w1⟩ := open_int Tryz.underlying3 (hval 1 3 v1 rfl rfl) h1
  obtain ⟨a2, rfl, rfl, rfl, w2⟩ := open_int Tryz.underlying3 (hval 2 3 v2 rfl rfl) h2
  obtain ⟨l3, rfl, F3⟩ := open_flat (P := Tryz.prog) [3, 22] (by kernel_rfl) (Or.inl ⟨_, Tryz.underlying24⟩) (hval 3 24 v3 rfl rfl) h3
  obtain ⟨c3_0, m3_0, rfl, L3_0, F3⟩ := All2.cons F3
  obtain ⟨c3_1, m3_1, rfl, L3_1, F3⟩ := All2.cons F3
  obtain rfl := All2.nil F3
  obtain ⟨a3_0, rfl, w3_0⟩ := Leaf.int L3_0 Tryz.underlying3
  obtain ⟨n3_1, l3_1, z3_1, w3_1, r3_1'⟩ := open_slc_ints [3, 3, 3, 3, 3] Tryz.underlying22 (by kernel_rfl) (by kernel_rfl) (by decide) (fun u hu => by rw [show u = 3 from by simpa using hu]; exact Tryz.underlying3) (L3_1)
  obtain ⟨n4, l4, z4, w4, r4'⟩ := open_slc_ints [3, 3, 3, 3, 3] Tryz.underlying22 (by kernel_rfl) (by kernel_rfl) (by decide) (fun u hu => by rw [show u = 3 from by simpa using hu]; exact Tryz.underlying3) (leaf_slice Tryz.underlying22 (hval 4 22 v4 rfl rfl) h4)
  obtain ⟨n5, l5, z5, w5, r5'⟩ := open_slc_ints [3, 3, 3, 3, 3] Tryz.underlying22 (by kernel_rfl) (by kernel_rfl) (by decide) (fun u hu => by rw [show u = 3 from by simpa using hu]; exact Tryz.underlying3) (leaf_slice Tryz.underlying22 (hval 5 22 v5 rfl rfl) h5)
  obtain ⟨n6, l6, z6, w6, r6'⟩ := open_slc_ints [3] Tryz.underlying39 (by kernel_rfl) (by kernel_rfl) (by decide) (fun u hu => by rw [show u = 3 from by simpa using hu]; exact Tryz.underlying3) (leaf_slice Tryz.underlying39 (hval 6 39 v6 rfl rfl) h6)
  obtain ⟨a7, rfl, rfl, rfl, w7⟩ := open_int Tryz.underlying3 (hval 7 3 v7 rfl rfl) h7
  obtain ⟨a8, rfl, rfl, rfl, w8⟩ := open_int Tryz.underlying3 (hval 8 3 v8 rfl rfl) h8
  obtain ⟨F, hG, hF, hFp⟩ := more_laid (w := W) (laid_of hL) hlt
  refine (SpanStep_core a0 a1 a2 a3_0 n3_1 l3_1 n4 l4 n5 l5 n6 l6 a7 a8 w1 w2 w3_0 z3_1 w3_1 z4 w4 z5 w5 z6 w6 w7 w8 W hG hF c3_1 (r3_1' F (fun x hx => hFp x (by simp [hx]))) v4 (r4' F (fun x hx => hFp x (by simp [hx]))) v5 (r5' F (fun x hx => hFp x (by simp [hx]))) v6 (r6' F (fun x hx => hFp x (by simp [hx])))).mono fun e W' ⟨he, hg⟩ => ?_
  subst he
  exact ⟨_, rfl, Law.keep laidOut (by rw [Tryz.params4]; exact of_decide_eq_true (by kernel_rfl)) rfl hW' hlt hg rfl rfl (fun _ _ _ => (trodAll_cons_mk (shut_bool Tryz.underlying4 _) trodAll_mk0))⟩
theorem over : Rows.spanStepIsPixelByPixelRow.holds Tryz.pinned (OpenSpec.ofChange Rows.spanStepIsPixelByPixelSpec) :=
  OpenClaim.holds_of_wide 4 Tryz.f4 rfl rfl rfl rfl rfl rfl rfl ⟨rfl, rfl, rfl, rfl, rfl⟩ rfl rfl rfl rfl rfl (by kernel_rfl) Tryz.func4 (by kernel_rfl)
    (of_decide_eq_true (by kernel_rfl)) (by unfold Func.isWrapper; first | (rw [if_pos (by decide +kernel)]; kernel_rfl) | (rw [if_neg (by decide +kernel)]; exact ⟨rfl, rfl⟩))
    (fun os started H enc _ => lifted os started H enc)
theorem proved : Rows.SpanStepIsPixelByPixelCardSaid :=
  Claim7.holds_tied_plain_at .later [] [.data] true (true, "a6bfc4f909538c301b36cdb9a7a793e4f0c49cd03dcc9751010351e6e416aa9e") false over (fun _ h => by cases h) (by kernel_rfl) (fun _ h => by cases h) spanStepIsPixelByPixel_row_tie rfl ⟨rfl, rfl⟩ (by kernel_rfl) rfl
    (fun f fn hf hfn => by
      obtain rfl : f = 4 := Option.some.inj ((show Tryz.prog.funcNamed "compositor/compositorlaw16.SpanStepIsPixelByPixel" = some 4 by kernel_rfl).symm.trans hf) |>.symm
      obtain rfl : fn = Tryz.f4 := (Option.some.inj (Tryz.func4.symm.trans hfn)).symm
      exact ⟨by kernel_rfl, fun j t ht => by
        rw [Tryz.params4] at ht
        have hm : t ∈ [4, 3, 3, 24, 22, 22, 39, 3, 3] := by simpa using Array.mem_of_getElem? ht
        have hall : ([4, 3, 3, 24, 22, 22, 39, 3, 3].all fun u => !Tryz.prog.wantsStandIn u) = true := by kernel_rfl
        exact (show Tryz.prog.wantsStandIn t = false by simpa using List.all_eq_true.1 hall t hm)⟩)
    (by kernel_rfl)
#print axioms proved
end Go.Proofs.YtpjhdjakpbabhaaGreatDoor.spanStepIsPixelByPixel
