/-
  'KnockoutOfTheFirst': the law returns true at every input, and its arguments read as before. No condition.
-/
import Derived.Test.YtoofajneoefpjaaDoorRows
import Derived.WalkKit
import Derived.ProofKit
import Derived.OpenShut
import Derived.Laws.Cover2
import Derived.Test.YtoofajneoefpjaaDoorBb
import Derived.Test.YtoofajneoefpjaaDoorBf
import Derived.Test.YtoofajneoefpjaaDoorRs
import Derived.Test.YtoofajneoefpjaaDoorTie
import Derived.Test.YtoofajneoefpjaaDoorCards
import Derived.LaidMore
import Derived.Lay
import Derived.Stop.Joined
import Derived.SevenTiedAt
import Derived.Test.YtoofajneoefpjaaDoorBf
import Derived.Test.YtoofajneoefpjaaDoorRs
import Derived.Test.YtoofajneoefpjaaDoorBg
import Derived.Test.YtoofajneoefpjaaDoorBh
import Derived.Test.YtoofajneoefpjaaDoorBi
import Derived.Test.YtoofajneoefpjaaDoorJa
import Derived.Test.YtoofajneoefpjaaDoorJb
import Derived.Test.YtoofajneoefpjaaDoorJc
import Derived.Test.YtoofajneoefpjaaDoorJd
import Derived.Test.YtoofajneoefpjaaDoorJe
namespace Go.Proofs.YtoofajneoefpjaaDoor.knockoutOfTheFirst
open Go.ChangeShapes Go.WideShapes Go.ChangeAt Go.RowKit
set_option linter.unusedVariables false

theorem own : ownKnob Tryd.prog.godebug = none := by kernel_rfl
theorem laidOut : laidOutB Tryd.prog = true := by kernel_rfl

set_option maxRecDepth 100000 in
theorem lifted (os : Os) (started : os.Started) (H : Type) (enc : TypeId × Value → H) :
    ReturnsInHanded {} Tryd.checked os 3 .any (fun w args => (Rows.knockoutOfTheFirstSpec.pre enc Tryd.prog Tryd.f3 Rows.knockoutOfTheFirstRow.domain false w args ∧ laidMetH Tryd.prog [("compositor/operator.table", Rows.laid_compositor_operator_table)] w) ∧ sizedMet enc Tryd.prog Tryd.f3 (OpenSpec.ofChange Rows.knockoutOfTheFirstSpec) false w args) (Rows.knockoutOfTheFirstSpec.post enc Tryd.prog Tryd.f3 false true false false) := by
  refine returnsInHanded_of_change_and (C := Tryd.checked) (X := fun w _ => laidMetH Tryd.prog [("compositor/operator.table", Rows.laid_compositor_operator_table)] w) (fun _ _ _ hh h => h.of_heap hh) own started (by kernel_rfl) Tryd.func3
    (ChangeSpec.witness_shaped (enc := enc) (C := Tryd.checked) (os := os) (X := fun w _ => laidMetH Tryd.prog [("compositor/operator.table", Rows.laid_compositor_operator_table)] w) false (World.laidAll Tryd.prog os [("compositor/operator.table", Rows.laid_compositor_operator_table)]) #[.int .i64 0, .agg #[.int .i64 0, .int .i64 0, .int .i64 0], .agg #[.int .i64 0, .int .i64 0], .int .i64 0] 8 (World.laidAll_os _ _ _)
      (World.shaped_of_ZipB (by kernel_rfl) (by kernel_rfl)) (by kernel_rfl) (by kernel_rfl) (by kernel_rfl)
      (by rw [MakeChecks.laidMetH_plain _ _ _ (by kernel_rfl)]; exact laidMet_laidAll _ (by kernel_rfl) (by kernel_rfl))) ?_
  intro W base args ds gs before hval0 hW hcnd _ hL _
  have hval : ∀ (j : Nat) t v, Tryd.f3.params[j]? = some t → args[j]? = some v → Value.okWide Tryd.prog W .any base t v := hval0
  have hW' := hW
  have hlt : ∀ x ∈ before, x.block < W.heap.size := fun x hx => by simpa using hW'.lt x hx
  obtain ⟨p, q, hA0, hV, rfl, hfz, hnd⟩ := hW
  have hA : DataW.TrodAll enc Tryd.prog W 0 (fun _ => true) true Tryd.f3.params.toList args.toList ds p := hA0
  rw [Tryd.params3] at hA hval
  obtain ⟨rfl, rfl⟩ := trodVars_none hV
  obtain ⟨v0, vs0, d0, ds0, p0, q0, hargs, rfl, rfl, h0, r0⟩ := trodAll_cons hA
  obtain ⟨v1, vs1, d1, ds1, p1, q1, rfl, rfl, rfl, h1, r1⟩ := trodAll_cons r0
  obtain ⟨v2, vs2, d2, ds2, p2, q2, rfl, rfl, rfl, h2, r2⟩ := trodAll_cons r1
  obtain ⟨v3, vs3, d3, ds3, p3, q3, rfl, rfl, rfl, h3, r3⟩ := trodAll_cons r2
  obtain ⟨rfl, rfl, rfl⟩ := trodAll_nil r3
  obtain rfl : args = #[v0, v1, v2, v3] := by cases args; simp_all
  obtain ⟨a0, rfl, rfl, rfl, w0⟩ := open_int Tryd.underlying3 (hval 0 3 v0 rfl rfl) h0
  obtain ⟨l1, rfl, F1⟩ := open_flat (P := Tryd.prog) [3, 3, 3] (by kernel_rfl) (Or.inr ⟨_, _, Tryd.underlying22⟩) (hval 1 22 v1 rfl rfl) h1
  obtain ⟨c1_0, m1_0, rfl, L1_0, F1⟩ := All2.cons F1
  obtain ⟨c1_1, m1_1, rfl, L1_1, F1⟩ := All2.cons F1
  obtain ⟨c1_2, m1_2, rfl, L1_2, F1⟩ := All2.cons F1
  obtain rfl := All2.nil F1
  obtain ⟨a1_0, rfl, w1_0⟩ := Leaf.int L1_0 Tryd.underlying3
  obtain ⟨a1_1, rfl, w1_1⟩ := Leaf.int L1_1 Tryd.underlying3
  obtain ⟨a1_2, rfl, w1_2⟩ := Leaf.int L1_2 Tryd.underlying3
  obtain ⟨l2, rfl, F2⟩ := open_flat (P := Tryd.prog) [3, 3] (by kernel_rfl) (Or.inr ⟨_, _, Tryd.underlying23⟩) (hval 2 23 v2 rfl rfl) h2
  obtain ⟨c2_0, m2_0, rfl, L2_0, F2⟩ := All2.cons F2
  obtain ⟨c2_1, m2_1, rfl, L2_1, F2⟩ := All2.cons F2
  obtain rfl := All2.nil F2
  obtain ⟨a2_0, rfl, w2_0⟩ := Leaf.int L2_0 Tryd.underlying3
  obtain ⟨a2_1, rfl, w2_1⟩ := Leaf.int L2_1 Tryd.underlying3
  obtain ⟨a3, rfl, rfl, rfl, w3⟩ := open_int Tryd.underlying3 (hval 3 3 v3 rfl rfl) h3
  obtain ⟨F, hG, hF, hFp⟩ := more_laid (w := W) (laid_of hL) hlt
  refine (KnockoutOfTheFirst_core a0 a1_0 a1_1 a1_2 a2_0 a2_1 a3 w0 w1_0 w1_1 w1_2 w2_0 w2_1 w3 W hG hF).mono fun e W' ⟨he, hg⟩ => ?_
  subst he
  exact ⟨_, rfl, Law.keep laidOut (by rw [Tryd.params3]; exact of_decide_eq_true (by kernel_rfl)) rfl hW' hlt hg rfl rfl (fun _ _ _ => (trodAll_cons_mk (shut_bool Tryd.underlying4 _) trodAll_mk0))⟩

theorem over : Rows.knockoutOfTheFirstRow.holds Tryd.pinned (OpenSpec.ofChange Rows.knockoutOfTheFirstSpec) :=
  OpenClaim.holds_of_wide 3 Tryd.f3 rfl rfl rfl rfl rfl rfl rfl ⟨rfl, rfl, rfl, rfl, rfl⟩ rfl rfl rfl rfl rfl (by kernel_rfl) Tryd.func3 (by kernel_rfl)
    (of_decide_eq_true (by kernel_rfl)) (by unfold Func.isWrapper; first | (rw [if_pos (by decide +kernel)]; kernel_rfl) | (rw [if_neg (by decide +kernel)]; exact ⟨rfl, rfl⟩))
    (fun os started H enc _ => lifted os started H enc)

theorem proved : Rows.KnockoutOfTheFirstCardSaid :=
  Claim7.holds_tied_plain_at .later [] [.data] true (true, "445df16b7e16445da18caae22f18fc5cb11d31b7febb3ba0ad794fc0b5d38896") false over (fun _ h => by cases h) (by kernel_rfl) (fun _ h => by cases h) knockoutOfTheFirst_row_tie rfl ⟨rfl, rfl⟩ (by kernel_rfl) rfl
    (fun f fn hf hfn => by
      obtain rfl : f = 3 := Option.some.inj ((show Tryd.prog.funcNamed "compositor/compositorlaw10.KnockoutOfTheFirst" = some 3 by kernel_rfl).symm.trans hf) |>.symm
      obtain rfl : fn = Tryd.f3 := (Option.some.inj (Tryd.func3.symm.trans hfn)).symm
      exact ⟨by kernel_rfl, fun j t ht => by
        rw [Tryd.params3] at ht
        have hm : t ∈ [3, 22, 23, 3] := by simpa using Array.mem_of_getElem? ht
        have hall : ([3, 22, 23, 3].all fun u => !Tryd.prog.wantsStandIn u) = true := by kernel_rfl
        exact (show Tryd.prog.wantsStandIn t = false by simpa using List.all_eq_true.1 hall t hm)⟩)
    (by kernel_rfl)
#print axioms proved
end Go.Proofs.YtoofajneoefpjaaDoor.knockoutOfTheFirst
