/-
  'SpanScaleIsPixelByPixel': the law returns true at every input, and its arguments read as before. No condition.
-/
import Derived.Test.YtpjhdjakpbabhaaDoorRows
import Derived.WalkKit
import Derived.ProofKit
import Derived.OpenShut
import Derived.Laws.Cover2
import Derived.Test.YtpjhdjakpbabhaaDoorBb
import Derived.Test.YtpjhdjakpbabhaaDoorBf
import Derived.Test.YtpjhdjakpbabhaaDoorRs
import Derived.Test.YtpjhdjakpbabhaaDoorTie
import Derived.Test.YtpjhdjakpbabhaaDoorCards
import Derived.LaidMore
import Derived.Lay
import Derived.Stop.Joined
import Derived.SevenTiedAt
import Derived.Test.YtpjhdjakpbabhaaDoorXe
namespace Go.Proofs.YtpjhdjakpbabhaaDoor.spanScaleIsPixelByPixel
open Go.ChangeShapes Go.WideShapes Go.ChangeAt Go.RowKit
set_option linter.unusedVariables false
theorem own : ownKnob Tryd.prog.godebug = none := by kernel_rfl
theorem laidOut : laidOutB Tryd.prog = true := by kernel_rfl
set_option maxRecDepth 100000 in
theorem lifted (os : Os) (started : os.Started) (H : Type) (enc : TypeId × Value → H) :
    ReturnsInHanded {} Tryd.checked os 4 .any (fun w args => (Rows.spanScaleIsPixelByPixelSpec.pre enc Tryd.prog Tryd.f4 Rows.spanScaleIsPixelByPixelRow.domain false w args ∧ laidMetH Tryd.prog [("compositor/operator.table", Rows.laid_compositor_operator_table)] w) ∧ sizedMet enc Tryd.prog Tryd.f4 (OpenSpec.ofChange Rows.spanScaleIsPixelByPixelSpec) false w args) (Rows.spanScaleIsPixelByPixelSpec.post enc Tryd.prog Tryd.f4 false true false false) := by
  refine returnsInHanded_of_change_and (C := Tryd.checked) (X := fun w _ => laidMetH Tryd.prog [("compositor/operator.table", Rows.laid_compositor_operator_table)] w) (fun _ _ _ hh h => h.of_heap hh) own started (by kernel_rfl) Tryd.func4
    (ChangeSpec.witness_shaped (enc := enc) (C := Tryd.checked) (os := os) (X := fun w _ => laidMetH Tryd.prog [("compositor/operator.table", Rows.laid_compositor_operator_table)] w) false (World.laidAll Tryd.prog os [("compositor/operator.table", Rows.laid_compositor_operator_table)]) #[.agg #[.int .i64 0, .slice none 0 0], .slice none 0 0, .bool false, .int .i64 0, .int .i64 0, .int .i64 0] 8 (World.laidAll_os _ _ _)
      (World.shaped_of_ZipB (by kernel_rfl) (by kernel_rfl)) (by kernel_rfl) (by kernel_rfl) (by kernel_rfl)
      (by rw [MakeChecks.laidMetH_plain _ _ _ (by kernel_rfl)]; exact laidMet_laidAll _ (by kernel_rfl) (by kernel_rfl))) ?_
  intro W base args ds gs before hval0 hW hcnd _ hL _
  have hval : ∀ (j : Nat) t v, Tryd.f4.params[j]? = some t → args[j]? = some v → Value.okWide Tryd.prog W .any base t v := hval0
  have hW' := hW
  have hlt : ∀ x ∈ before, x.block < W.heap.size := fun x hx => by simpa using hW'.lt x hx
  obtain ⟨p, q, hA0, hV, rfl, hfz, hnd⟩ := hW
  have hA : DataW.TrodAll enc Tryd.prog W 0 (fun _ => true) true Tryd.f4.params.toList args.toList ds p := hA0
  rw [Tryd.params4] at hA hval
  obtain ⟨rfl, rfl⟩ := trodVars_none hV
  obtain ⟨v0, vs0, d0, ds0, p0, q0, hargs, rfl, rfl, h0, r0⟩ := trodAll_cons hA
  obtain ⟨v1, vs1, d1, ds1, p1, q1, rfl, rfl, rfl, h1, r1⟩ := trodAll_cons r0
  obtain ⟨v2, vs2, d2, ds2, p2, q2, rfl, rfl, rfl, h2, r2⟩ := trodAll_cons r1
  obtain ⟨v3, vs3, d3, ds3, p3, q3, rfl, rfl, rfl, h3, r3⟩ := trodAll_cons r2
  obtain ⟨v4, vs4, d4, ds4, p4, q4, rfl, rfl, rfl, h4, r4⟩ := trodAll_cons r3
  obtain ⟨v5, vs5, d5, ds5, p5, q5, rfl, rfl, rfl, h5, r5⟩ := trodAll_cons r4
  obtain ⟨rfl, rfl, rfl⟩ := trodAll_nil r5
  obtain rfl : args = #[v0, v1, v2, v3, v4, v5] := by cases args; simp_all
  obtain ⟨l0, rfl, F0⟩ := open_flat (P := Tryd.prog) [3, 22] (by kernel_rfl) (Or.inl ⟨_, Tryd.underlying24⟩) (hval 0 24 v0 rfl rfl) h0
  obtain ⟨c0_0, m0_0, rfl, L0_0, F0⟩ := All2.cons F0
  obtain ⟨c0_1, m0_1, rfl, L0_1, F0⟩ := All2.cons F0
  obtain rfl := All2.nil F0
  obtain ⟨a0_0, rfl, w0_0⟩ := Leaf.int L0_0 Tryd.underlying3
  obtain ⟨n0_1, l0_1, z0_1, w0_1, r0_1'⟩ := open_slc_ints [3, 3, 3, 3, 3] Tryd.underlying22 (by kernel_rfl) (by kernel_rfl) (by decide) (fun u hu => by rw [show u = 3 from by simpa using hu]; exact Tryd.underlying3) (L0_1)
  obtain ⟨n1, l1, z1, w1, r1'⟩ := open_slc_ints [3] Tryd.underlying33 (by kernel_rfl) (by kernel_rfl) (by decide) (fun u hu => by rw [show u = 3 from by simpa using hu]; exact Tryd.underlying3) (leaf_slice Tryd.underlying33 (hval 1 33 v1 rfl rfl) h1)
  obtain ⟨a2, rfl, rfl, rfl⟩ := open_bool Tryd.underlying4 (hval 2 4 v2 rfl rfl) h2
  obtain ⟨a3, rfl, rfl, rfl, w3⟩ := open_int Tryd.underlying3 (hval 3 3 v3 rfl rfl) h3
  obtain ⟨a4, rfl, rfl, rfl, w4⟩ := open_int Tryd.underlying3 (hval 4 3 v4 rfl rfl) h4
  obtain ⟨a5, rfl, rfl, rfl, w5⟩ := open_int Tryd.underlying3 (hval 5 3 v5 rfl rfl) h5
  obtain ⟨F, hG, hF, hFp⟩ := more_laid (w := W) (laid_of hL) hlt
  refine (SpanScale_core a0_0 n0_1 l0_1 n1 l1 a2 a3 a4 a5 w0_0 z0_1 w0_1 z1 w1 w3 w4 w5 W hG hF c0_1 (r0_1' F (fun x hx => hFp x (by simp [hx]))) v1 (r1' F (fun x hx => hFp x (by simp [hx])))).mono fun e W' ⟨he, hg⟩ => ?_
  subst he
  exact ⟨_, rfl, Law.keep laidOut (by rw [Tryd.params4]; exact of_decide_eq_true (by kernel_rfl)) rfl hW' hlt hg rfl rfl (fun _ _ _ => (trodAll_cons_mk (shut_bool Tryd.underlying4 _) trodAll_mk0))⟩
theorem over : Rows.spanScaleIsPixelByPixelRow.holds Tryd.pinned (OpenSpec.ofChange Rows.spanScaleIsPixelByPixelSpec) :=
  OpenClaim.holds_of_wide 4 Tryd.f4 rfl rfl rfl rfl rfl rfl rfl ⟨rfl, rfl, rfl, rfl, rfl⟩ rfl rfl rfl rfl rfl (by kernel_rfl) Tryd.func4 (by kernel_rfl)
    (of_decide_eq_true (by kernel_rfl)) (by unfold Func.isWrapper; first | (rw [if_pos (by decide +kernel)]; kernel_rfl) | (rw [if_neg (by decide +kernel)]; exact ⟨rfl, rfl⟩))
    (fun os started H enc _ => lifted os started H enc)
theorem proved : Rows.SpanScaleIsPixelByPixelCardSaid :=
  Claim7.holds_tied_plain_at .later [] [.data] true (true, "d91edacfe3a8a4fe63cde10b0671ff62e4094b801f9968f5d1058b48a71cd421") false over (fun _ h => by cases h) (by kernel_rfl) (fun _ h => by cases h) spanScaleIsPixelByPixel_row_tie rfl ⟨rfl, rfl⟩ (by kernel_rfl) rfl
    (fun f fn hf hfn => by
      obtain rfl : f = 4 := Option.some.inj ((show Tryd.prog.funcNamed "compositor/compositorlaw16.SpanScaleIsPixelByPixel" = some 4 by kernel_rfl).symm.trans hf) |>.symm
      obtain rfl : fn = Tryd.f4 := (Option.some.inj (Tryd.func4.symm.trans hfn)).symm
      exact ⟨by kernel_rfl, fun j t ht => by
        rw [Tryd.params4] at ht
        have hm : t ∈ [24, 33, 4, 3, 3, 3] := by simpa using Array.mem_of_getElem? ht
        have hall : ([24, 33, 4, 3, 3, 3].all fun u => !Tryd.prog.wantsStandIn u) = true := by kernel_rfl
        exact (show Tryd.prog.wantsStandIn t = false by simpa using List.all_eq_true.1 hall t hm)⟩)
    (by kernel_rfl)
#print axioms proved
end Go.Proofs.YtpjhdjakpbabhaaDoor.spanScaleIsPixelByPixel
