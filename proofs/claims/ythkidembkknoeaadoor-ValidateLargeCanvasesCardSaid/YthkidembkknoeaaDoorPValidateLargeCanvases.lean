/-
  'ValidateLargeCanvases': the law returns true at every input, and its arguments read as before. No condition.
-/
import Derived.Test.YthkidembkknoeaaDoorRows
import Derived.WalkKit
import Derived.ProofKit
import Derived.OpenShut
import Derived.Laws.Cover2
import Derived.Test.YthkidembkknoeaaDoorPk01
import Derived.Test.YthkidembkknoeaaDoorPk07
import Derived.Test.YthkidembkknoeaaDoorPk08
import Derived.Test.YthkidembkknoeaaDoorTie
import Derived.Test.YthkidembkknoeaaDoorCards
import Derived.LaidMore
import Derived.Lay
import Derived.Stop.Joined
import Derived.SevenTiedAt
import Derived.Test.YthkidembkknoeaaDoorPk24
namespace Go.Proofs.YthkidembkknoeaaDoor.validateLargeCanvases
open Go.ChangeShapes Go.WideShapes Go.ChangeAt Go.RowKit
set_option linter.unusedVariables false
theorem own:ownKnob Tryd.prog.godebug=none:=by kernel_rfl
theorem laidOut:laidOutB Tryd.prog=true:=by kernel_rfl
set_option maxRecDepth 100000 in
theorem lifted (os:Os) (started:os.Started) (H:Type) (enc:TypeId×Value→H) :
    ReturnsInHanded {} Tryd.checked os 9 .any (fun w args=>(Rows.validateLargeCanvasesSpec.pre enc Tryd.prog Tryd.f9 Rows.validateLargeCanvasesRow.domain false w args∧laidMetH Tryd.prog [("compositor/operator.table",Rows.laid_compositor_operator_table),("compositor/blend.names",Rows.laid_compositor_blend_names)] w)∧sizedMet enc Tryd.prog Tryd.f9 (OpenSpec.ofChange Rows.validateLargeCanvasesSpec) false w args) (Rows.validateLargeCanvasesSpec.post enc Tryd.prog Tryd.f9 false true false false):=by
  refine returnsInHanded_of_change_and (C:=Tryd.checked) (X:=fun w _=>laidMetH Tryd.prog [("compositor/operator.table",Rows.laid_compositor_operator_table),("compositor/blend.names",Rows.laid_compositor_blend_names)] w) (fun _ _ _ hh h=>h.of_heap hh) own started (by kernel_rfl) Tryd.func9
    (ChangeSpec.witness_shaped (enc:=enc) (C:=Tryd.checked) (os:=os) (X:=fun w _=>laidMetH Tryd.prog [("compositor/operator.table",Rows.laid_compositor_operator_table),("compositor/blend.names",Rows.laid_compositor_blend_names)] w) false (World.laidAll Tryd.prog os [("compositor/operator.table",Rows.laid_compositor_operator_table),("compositor/blend.names",Rows.laid_compositor_blend_names)]) #[.int .i64 0,.int .i64 0,.int .i64 0] 8 (World.laidAll_os _ _ _)
      (World.shaped_of_ZipB (by kernel_rfl) (by kernel_rfl)) (by kernel_rfl) (by kernel_rfl) (by kernel_rfl)
      (by rw [MakeChecks.laidMetH_plain _ _ _ (by kernel_rfl)];exact laidMet_laidAll _ (by kernel_rfl) (by kernel_rfl))) ?_
  intro W base args ds gs before hval0 hW hcnd _ hL _
  have hval:∀(j:Nat) t v,Tryd.f9.params[j]?=some t→args[j]?=some v→Value.okWide Tryd.prog W .any base t v:=hval0
  have hW':=hW
  have hlt:∀x∈before,x.block < W.heap.size:=fun x hx=>by simpa using hW'.lt x hx
  obtain ⟨p,q,hA0,hV,rfl,hfz,hnd⟩:=hW
  have hA:DataW.TrodAll enc Tryd.prog W 0 (fun _=>true) true Tryd.f9.params.toList args.toList ds p:=hA0
  rw [Tryd.params9] at hA hval
  obtain ⟨rfl,rfl⟩:=trodVars_none hV
  obtain ⟨v0,vs0,d0,ds0,p0,q0,hargs,rfl,rfl,h0,r0⟩:=trodAll_cons hA
  obtain ⟨v1,vs1,d1,ds1,p1,q1,rfl,rfl,rfl,h1,r1⟩:=trodAll_cons r0
  obtain ⟨v2,vs2,d2,ds2,p2,q2,rfl,rfl,rfl,h2,r2⟩:=trodAll_cons r1
  obtain ⟨rfl,rfl,rfl⟩:=trodAll_nil r2
  obtain rfl:args=#[v0,v1,v2]:=by cases args;simp_all
  obtain ⟨a0,rfl,rfl,rfl,w0⟩:=open_int Tryd.underlying3 (hval 0 3 v0 rfl rfl) h0
  obtain ⟨a1,rfl,rfl,rfl,w1⟩:=open_int Tryd.underlying3 (hval 1 3 v1 rfl rfl) h1
  obtain ⟨a2,rfl,rfl,rfl,w2⟩:=open_int Tryd.underlying3 (hval 2 3 v2 rfl rfl) h2
  obtain ⟨F,hG,hF,hFp⟩:=jv6 (w:=W) (qq4 hL) hlt
  refine (jo3 a0 a1 a2 w0 w1 w2 W hG hF).mono fun e W' ⟨he,hg⟩=>?_
  subst he
  exact ⟨_,rfl,Law.keep laidOut (by rw [Tryd.params9];exact of_decide_eq_true (by kernel_rfl)) rfl hW' hlt hg rfl rfl (fun _ _ _=>(trodAll_cons_mk (shut_bool Tryd.underlying4 _) trodAll_mk0))⟩
theorem over:Rows.validateLargeCanvasesRow.holds Tryd.pinned (OpenSpec.ofChange Rows.validateLargeCanvasesSpec) :=
  OpenClaim.holds_of_wide 9 Tryd.f9 rfl rfl rfl rfl rfl rfl rfl ⟨rfl,rfl,rfl,rfl,rfl⟩ rfl rfl rfl rfl rfl (by kernel_rfl) Tryd.func9 (by kernel_rfl)
    (of_decide_eq_true (by kernel_rfl)) (by unfold Func.isWrapper;first | (rw [if_pos (by decide +kernel)];kernel_rfl) | (rw [if_neg (by decide +kernel)];exact ⟨rfl,rfl⟩))
    (fun os started H enc _=>lifted os started H enc)
theorem proved:Rows.ValidateLargeCanvasesCardSaid :=
  Claim7.holds_tied_plain_at .later [] [.data,.data] true (true,"77e4e6f0d6ff53d0c946e3f6da432425907ed346a72e6231f7ebf91634a634d1") false over (fun _ h=>by cases h) (by kernel_rfl) (fun _ h=>by cases h) validateLargeCanvases_row_tie rfl ⟨rfl,rfl⟩ (by kernel_rfl) rfl
    (fun f fn hf hfn=>by
      obtain rfl:f=9:=Option.some.inj ((show Tryd.prog.funcNamed "compositor/compositorlaw20.ValidateLargeCanvases"=some 9 by kernel_rfl).symm.trans hf) |>.symm
      obtain rfl:fn=Tryd.f9:=(Option.some.inj (Tryd.func9.symm.trans hfn)).symm
      exact ⟨by kernel_rfl,fun j t ht=>by
        rw [Tryd.params9] at ht
        have hm:t∈[3,3,3]:=by simpa using Array.mem_of_getElem? ht
        have hall:([3,3,3].all fun u=>!Tryd.prog.wantsStandIn u)=true:=by kernel_rfl
        exact (show Tryd.prog.wantsStandIn t=false by simpa using List.all_eq_true.1 hall t hm)⟩)
    (by kernel_rfl)
#print axioms proved
end Go.Proofs.YthkidembkknoeaaDoor.validateLargeCanvases
