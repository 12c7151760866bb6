/-
  'ValidateAgrees': the law returns true at every input, and its arguments read as before. No condition.
-/
import Derived.Test.YthkidembkknoeaaDoorRows
import Derived.WalkKit
import Derived.ProofKit
import Derived.OpenShut
import Derived.Laws.Cover2
import Derived.Test.YthkidembkknoeaaDoorPm01
import Derived.Test.YthkidembkknoeaaDoorPm06
import Derived.Test.YthkidembkknoeaaDoorPm07
import Derived.Test.YthkidembkknoeaaDoorTie
import Derived.Test.YthkidembkknoeaaDoorCards
import Derived.LaidMore
import Derived.Lay
import Derived.Stop.Joined
import Derived.SevenTiedAt
import Derived.Test.YthkidembkknoeaaDoorPm30
namespace Go.Proofs.YthkidembkknoeaaDoor.validateAgrees
open Go.ChangeShapes Go.WideShapes Go.ChangeAt Go.RowKit
set_option linter.unusedVariables false
theorem own:ownKnob Tryd.prog.godebug=none:=by kernel_rfl
theorem laidOut:laidOutB Tryd.prog=true:=by kernel_rfl
set_option maxRecDepth 100000 in
theorem lifted (os:Os) (started:os.Started) (H:Type) (enc:TypeId×Value->H) :
  ReturnsInHanded {} Tryd.checked os 4 .any (λ w args=>(Rows.validateAgreesSpec.pre enc Tryd.prog Tryd.f4 Rows.validateAgreesRow.domain false w args/\laidMetH Tryd.prog [("compositor/operator.table",Rows.laid_compositor_operator_table),("compositor/blend.names",Rows.laid_compositor_blend_names)] w)/\sizedMet enc Tryd.prog Tryd.f4 (OpenSpec.ofChange Rows.validateAgreesSpec) false w args) (Rows.validateAgreesSpec.post enc Tryd.prog Tryd.f4 false true false false):=by
 refine returnsInHanded_of_change_and (C:=Tryd.checked) (X:=λ w _=>laidMetH Tryd.prog [("compositor/operator.table",Rows.laid_compositor_operator_table),("compositor/blend.names",Rows.laid_compositor_blend_names)] w) (λ _ _ _ hh h=>h.of_heap hh) own started (by kernel_rfl) Tryd.func4
  (ChangeSpec.witness_shaped (enc:=enc) (C:=Tryd.checked) (os:=os) (X:=λ w _=>laidMetH Tryd.prog [("compositor/operator.table",Rows.laid_compositor_operator_table),("compositor/blend.names",Rows.laid_compositor_blend_names)] w) false (World.laidAll Tryd.prog os [("compositor/operator.table",Rows.laid_compositor_operator_table),("compositor/blend.names",Rows.laid_compositor_blend_names)]) #[.agg #[.int .i64 0,.int .i64 0,.int .i64 0,.int .i64 0,.int .i64 0,.int .i64 0,.int .i64 0,.slice none 0 0,.slice none 0 0,.slice none 0 0],.int .i64 0,.int .i64 0,.int .i64 0,.int .i64 0,.int .u16 0] 8 (World.laidAll_os _ _ _)
   (World.shaped_of_ZipB (by kernel_rfl) (by kernel_rfl)) (by kernel_rfl) (by kernel_rfl) (by kernel_rfl)
   (by rw [MakeChecks.laidMetH_plain _ _ _ (by kernel_rfl)];exact laidMet_laidAll _ (by kernel_rfl) (by kernel_rfl))) ?_
 intro W base args ds gs before hval0 hW hcnd _ hL _
 have hval:∀(j:Nat) t v,Tryd.f4.params[j]?=some t->args[j]?=some v->Value.okWide Tryd.prog W .any base t v:=hval0
 have hW':=hW
 have hlt:∀x∈before,x.block < W.heap.size:=λ x hx=>by simpa using hW'.lt x hx
 obtain ⟨p,q,hA0,hV,rfl,hfz,hnd⟩:=hW
 have hA:DataW.TrodAll enc Tryd.prog W 0 (λ _=>true) true Tryd.f4.params.toList args.toList ds p:=hA0
 rw [Tryd.params4] at hA hval
 obtain ⟨rfl,rfl⟩:=trodVars_none hV
 obtain ⟨v0,vs0,d0,ds0,p0,q0,hargs,rfl,rfl,h0,r0⟩:=trodAll_cons hA
 obtain ⟨v1,vs1,d1,ds1,p1,q1,rfl,rfl,rfl,h1,r1⟩:=trodAll_cons r0
 obtain ⟨v2,vs2,d2,ds2,p2,q2,rfl,rfl,rfl,h2,r2⟩:=trodAll_cons r1
 obtain ⟨v3,vs3,d3,ds3,p3,q3,rfl,rfl,rfl,h3,r3⟩:=trodAll_cons r2
 obtain ⟨v4,vs4,d4,ds4,p4,q4,rfl,rfl,rfl,h4,r4⟩:=trodAll_cons r3
 obtain ⟨v5,vs5,d5,ds5,p5,q5,rfl,rfl,rfl,h5,r5⟩:=trodAll_cons r4
 obtain ⟨rfl,rfl,rfl⟩:=trodAll_nil r5
 obtain rfl:args=#[v0,v1,v2,v3,v4,v5]:=by cases args;simp_all
 obtain ⟨l0,rfl,F0⟩:=vw3 (P:=Tryd.prog) [3,3,3,3,3,3,3,22,23,24] (by kernel_rfl) (Or.inl ⟨_,Tryd.underlying26⟩) (hval 0 26 v0 rfl rfl) h0
 obtain ⟨c0_0,m0_0,rfl,L0_0,F0⟩:=All2.cons F0
 obtain ⟨c0_1,m0_1,rfl,L0_1,F0⟩:=All2.cons F0
 obtain ⟨c0_2,m0_2,rfl,L0_2,F0⟩:=All2.cons F0
 obtain ⟨c0_3,m0_3,rfl,L0_3,F0⟩:=All2.cons F0
 obtain ⟨c0_4,m0_4,rfl,L0_4,F0⟩:=All2.cons F0
 obtain ⟨c0_5,m0_5,rfl,L0_5,F0⟩:=All2.cons F0
 obtain ⟨c0_6,m0_6,rfl,L0_6,F0⟩:=All2.cons F0
 obtain ⟨c0_7,m0_7,rfl,L0_7,F0⟩:=All2.cons F0
 obtain ⟨c0_8,m0_8,rfl,L0_8,F0⟩:=All2.cons F0
 obtain ⟨c0_9,m0_9,rfl,L0_9,F0⟩:=All2.cons F0
 obtain rfl:=All2.nil F0
 obtain ⟨a0_0,rfl,w0_0⟩:=Leaf.int L0_0 Tryd.underlying3
 obtain ⟨a0_1,rfl,w0_1⟩:=Leaf.int L0_1 Tryd.underlying3
 obtain ⟨a0_2,rfl,w0_2⟩:=Leaf.int L0_2 Tryd.underlying3
 obtain ⟨a0_3,rfl,w0_3⟩:=Leaf.int L0_3 Tryd.underlying3
 obtain ⟨a0_4,rfl,w0_4⟩:=Leaf.int L0_4 Tryd.underlying3
 obtain ⟨a0_5,rfl,w0_5⟩:=Leaf.int L0_5 Tryd.underlying3
 obtain ⟨a0_6,rfl,w0_6⟩:=Leaf.int L0_6 Tryd.underlying3
 obtain ⟨n0_7,l0_7,z0_7,w0_7,r0_7'⟩:=qe1 [3] Tryd.underlying22 (by kernel_rfl) (by kernel_rfl) (by decide) (λ u hu=>by rw [show u=3 from by simpa using hu];exact Tryd.underlying3) (L0_7)
 obtain ⟨n0_8,C0_8,z0_8,hL0_8,hR0_8⟩:=qs3 [3,3,3,3,68] Tryd.underlying23 (by kernel_rfl) (by kernel_rfl) (by decide) (L0_8)
 obtain ⟨f0_8_0,e0_8_0,w0_8_0⟩:=jj3 (C:=C0_8) (j:=0) (λ i hi=>hL0_8 i 0 _ hi rfl) Tryd.underlying3
 obtain ⟨f0_8_1,e0_8_1,w0_8_1⟩:=jj3 (C:=C0_8) (j:=1) (λ i hi=>hL0_8 i 1 _ hi rfl) Tryd.underlying3
 obtain ⟨f0_8_2,e0_8_2,w0_8_2⟩:=jj3 (C:=C0_8) (j:=2) (λ i hi=>hL0_8 i 2 _ hi rfl) Tryd.underlying3
 obtain ⟨f0_8_3,e0_8_3,w0_8_3⟩:=jj3 (C:=C0_8) (j:=3) (λ i hi=>hL0_8 i 3 _ hi rfl) Tryd.underlying3
 obtain ⟨n0_8_4,l0_8_4,z0_8_4,w0_8_4,e0_8_4⟩:=y12 [3,3,3,3,3] (C:=C0_8) (j:=4) (λ i hi=>hL0_8 i 4 _ hi rfl) Tryd.underlying68 (by kernel_rfl) (by kernel_rfl) (by decide) (λ u hu=>by rw [show u=3 from by simpa using hu];exact Tryd.underlying3)
 have r0_8':∀F:Nat->Prop,(∀x∈p0,F x.block)->QR.Rep F W (.slc 5 ((n0_8:Nat):Int) (.col 0 (λ i=>.v (.int .i64 (f0_8_0 i))) (.col 1 (λ i=>.v (.int .i64 (f0_8_1 i))) (.col 2 (λ i=>.v (.int .i64 (f0_8_2 i))) (.col 3 (λ i=>.v (.int .i64 (f0_8_3 i))) (.col 4 (λ i=>.slc 5 ((n0_8_4 i:Nat):Int) (.fn λ a b=>.v (.int .i64 (l0_8_4 i a b)))) (.zer []))))))) c0_8:=λ F hF=>hR0_8 F (.col 0 (λ i=>.v (.int .i64 (f0_8_0 i))) (.col 1 (λ i=>.v (.int .i64 (f0_8_1 i))) (.col 2 (λ i=>.v (.int .i64 (f0_8_2 i))) (.col 3 (λ i=>.v (.int .i64 (f0_8_3 i))) (.col 4 (λ i=>.slc 5 ((n0_8_4 i:Nat):Int) (.fn λ a b=>.v (.int .i64 (l0_8_4 i a b)))) (.zer [])))))) hF (λ i j hi hj=>QR.ql3 (n:=5) (p:=λ j=>∀i:Nat,i < n0_8->QR.Rep F W (QR.den (.col 0 (λ i=>.v (.int .i64 (f0_8_0 i))) (.col 1 (λ i=>.v (.int .i64 (f0_8_1 i))) (.col 2 (λ i=>.v (.int .i64 (f0_8_2 i))) (.col 3 (λ i=>.v (.int .i64 (f0_8_3 i))) (.col 4 (λ i=>.slc 5 ((n0_8_4 i:Nat):Int) (.fn λ a b=>.v (.int .i64 (l0_8_4 i a b)))) (.zer [])))))) i j) (C0_8 i j)) ⟨⟨⟨⟨⟨trivial,λ i hi=>by rw [e0_8_0 i hi];exact .v rfl⟩,λ i hi=>by rw [e0_8_1 i hi];exact .v rfl⟩,λ i hi=>by rw [e0_8_2 i hi];exact .v rfl⟩,λ i hi=>by rw [e0_8_3 i hi];exact .v rfl⟩,λ i hi=>e0_8_4 F hF i hi⟩ j hj i hi)
 obtain ⟨n0_9,C0_9,z0_9,hL0_9,hR0_9⟩:=qs3 [3,3,3,3,3,3,3,3,3,3,3] Tryd.underlying24 (by kernel_rfl) (by kernel_rfl) (by decide) (L0_9)
 obtain ⟨f0_9_0,e0_9_0,w0_9_0⟩:=jj3 (C:=C0_9) (j:=0) (λ i hi=>hL0_9 i 0 _ hi rfl) Tryd.underlying3
 obtain ⟨f0_9_1,e0_9_1,w0_9_1⟩:=jj3 (C:=C0_9) (j:=1) (λ i hi=>hL0_9 i 1 _ hi rfl) Tryd.underlying3
 obtain ⟨f0_9_2,e0_9_2,w0_9_2⟩:=jj3 (C:=C0_9) (j:=2) (λ i hi=>hL0_9 i 2 _ hi rfl) Tryd.underlying3
 obtain ⟨f0_9_3,e0_9_3,w0_9_3⟩:=jj3 (C:=C0_9) (j:=3) (λ i hi=>hL0_9 i 3 _ hi rfl) Tryd.underlying3
 obtain ⟨f0_9_4,e0_9_4,w0_9_4⟩:=jj3 (C:=C0_9) (j:=4) (λ i hi=>hL0_9 i 4 _ hi rfl) Tryd.underlying3
 obtain ⟨f0_9_5,e0_9_5,w0_9_5⟩:=jj3 (C:=C0_9) (j:=5) (λ i hi=>hL0_9 i 5 _ hi rfl) Tryd.underlying3
 obtain ⟨f0_9_6,e0_9_6,w0_9_6⟩:=jj3 (C:=C0_9) (j:=6) (λ i hi=>hL0_9 i 6 _ hi rfl) Tryd.underlying3
 obtain ⟨f0_9_7,e0_9_7,w0_9_7⟩:=jj3 (C:=C0_9) (j:=7) (λ i hi=>hL0_9 i 7 _ hi rfl) Tryd.underlying3
 obtain ⟨f0_9_8,e0_9_8,w0_9_8⟩:=jj3 (C:=C0_9) (j:=8) (λ i hi=>hL0_9 i 8 _ hi rfl) Tryd.underlying3
 obtain ⟨f0_9_9,e0_9_9,w0_9_9⟩:=jj3 (C:=C0_9) (j:=9) (λ i hi=>hL0_9 i 9 _ hi rfl) Tryd.underlying3
 obtain ⟨f0_9_10,e0_9_10,w0_9_10⟩:=jj3 (C:=C0_9) (j:=10) (λ i hi=>hL0_9 i 10 _ hi rfl) Tryd.underlying3
 have r0_9':∀F:Nat->Prop,(∀x∈p0,F x.block)->QR.Rep F W (.slc 11 ((n0_9:Nat):Int) (.col 0 (λ i=>.v (.int .i64 (f0_9_0 i))) (.col 1 (λ i=>.v (.int .i64 (f0_9_1 i))) (.col 2 (λ i=>.v (.int .i64 (f0_9_2 i))) (.col 3 (λ i=>.v (.int .i64 (f0_9_3 i))) (.col 4 (λ i=>.v (.int .i64 (f0_9_4 i))) (.col 5 (λ i=>.v (.int .i64 (f0_9_5 i))) (.col 6 (λ i=>.v (.int .i64 (f0_9_6 i))) (.col 7 (λ i=>.v (.int .i64 (f0_9_7 i))) (.col 8 (λ i=>.v (.int .i64 (f0_9_8 i))) (.col 9 (λ i=>.v (.int .i64 (f0_9_9 i))) (.col 10 (λ i=>.v (.int .i64 (f0_9_10 i))) (.zer []))))))))))))) c0_9:=λ F hF=>hR0_9 F (.col 0 (λ i=>.v (.int .i64 (f0_9_0 i))) (.col 1 (λ i=>.v (.int .i64 (f0_9_1 i))) (.col 2 (λ i=>.v (.int .i64 (f0_9_2 i))) (.col 3 (λ i=>.v (.int .i64 (f0_9_3 i))) (.col 4 (λ i=>.v (.int .i64 (f0_9_4 i))) (.col 5 (λ i=>.v (.int .i64 (f0_9_5 i))) (.col 6 (λ i=>.v (.int .i64 (f0_9_6 i))) (.col 7 (λ i=>.v (.int .i64 (f0_9_7 i))) (.col 8 (λ i=>.v (.int .i64 (f0_9_8 i))) (.col 9 (λ i=>.v (.int .i64 (f0_9_9 i))) (.col 10 (λ i=>.v (.int .i64 (f0_9_10 i))) (.zer [])))))))))))) hF (λ i j hi hj=>QR.ql3 (n:=11) (p:=λ j=>∀i:Nat,i < n0_9->QR.Rep F W (QR.den (.col 0 (λ i=>.v (.int .i64 (f0_9_0 i))) (.col 1 (λ i=>.v (.int .i64 (f0_9_1 i))) (.col 2 (λ i=>.v (.int .i64 (f0_9_2 i))) (.col 3 (λ i=>.v (.int .i64 (f0_9_3 i))) (.col 4 (λ i=>.v (.int .i64 (f0_9_4 i))) (.col 5 (λ i=>.v (.int .i64 (f0_9_5 i))) (.col 6 (λ i=>.v (.int .i64 (f0_9_6 i))) (.col 7 (λ i=>.v (.int .i64 (f0_9_7 i))) (.col 8 (λ i=>.v (.int .i64 (f0_9_8 i))) (.col 9 (λ i=>.v (.int .i64 (f0_9_9 i))) (.col 10 (λ i=>.v (.int .i64 (f0_9_10 i))) (.zer [])))))))))))) i j) (C0_9 i j)) ⟨⟨⟨⟨⟨⟨⟨⟨⟨⟨⟨trivial,λ i hi=>by rw [e0_9_0 i hi];exact .v rfl⟩,λ i hi=>by rw [e0_9_1 i hi];exact .v rfl⟩,λ i hi=>by rw [e0_9_2 i hi];exact .v rfl⟩,λ i hi=>by rw [e0_9_3 i hi];exact .v rfl⟩,λ i hi=>by rw [e0_9_4 i hi];exact .v rfl⟩,λ i hi=>by rw [e0_9_5 i hi];exact .v rfl⟩,λ i hi=>by rw [e0_9_6 i hi];exact .v rfl⟩,λ i hi=>by rw [e0_9_7 i hi];exact .v rfl⟩,λ i hi=>by rw [e0_9_8 i hi];exact .v rfl⟩,λ i hi=>by rw [e0_9_9 i hi];exact .v rfl⟩,λ i hi=>by rw [e0_9_10 i hi];exact .v rfl⟩ j hj i hi)
 obtain ⟨a1,rfl,rfl,rfl,w1⟩:=open_int Tryd.underlying3 (hval 1 3 v1 rfl rfl) h1
 obtain ⟨a2,rfl,rfl,rfl,w2⟩:=open_int Tryd.underlying3 (hval 2 3 v2 rfl rfl) h2
 obtain ⟨a3,rfl,rfl,rfl,w3⟩:=open_int Tryd.underlying3 (hval 3 3 v3 rfl rfl) h3
 obtain ⟨a4,rfl,rfl,rfl,w4⟩:=open_int Tryd.underlying3 (hval 4 3 v4 rfl rfl) h4
 obtain ⟨a5,rfl,rfl,rfl,w5⟩:=open_int Tryd.underlying34 (hval 5 34 v5 rfl rfl) h5
 obtain ⟨F,hG,hF,hFp⟩:=yc8 (w:=W) (yx7 hL) hlt
 refine (j09 a0_0 a0_1 a0_2 a0_3 a0_4 a0_5 a0_6 n0_7 l0_7 n0_8 f0_8_0 f0_8_1 f0_8_2 f0_8_3 n0_8_4 l0_8_4 n0_9 f0_9_0 f0_9_1 f0_9_2 f0_9_3 f0_9_4 f0_9_5 f0_9_6 f0_9_7 f0_9_8 f0_9_9 f0_9_10 a1 a2 a3 a4 a5 w0_0 w0_1 w0_2 w0_3 w0_4 w0_5 w0_6 z0_7 w0_7 z0_8 w0_8_0 w0_8_1 w0_8_2 w0_8_3 w0_8_4 z0_8_4 z0_9 w0_9_0 w0_9_1 w0_9_2 w0_9_3 w0_9_4 w0_9_5 w0_9_6 w0_9_7 w0_9_8 w0_9_9 w0_9_10 w1 w2 w3 w4 w5 W hG hF c0_7 (r0_7' F (λ x hx=>hFp x (by simp [hx]))) c0_8 (r0_8' F (λ x hx=>hFp x (by simp [hx]))) c0_9 (r0_9' F (λ x hx=>hFp x (by simp [hx])))).mono λ e W' ⟨he,hg⟩=>?_
 subst he
 exact ⟨_,rfl,Law.keep laidOut (by rw [Tryd.params4];exact of_decide_eq_true (by kernel_rfl)) rfl hW' hlt hg rfl rfl (λ _ _ _=>(trodAll_cons_mk (shut_bool Tryd.underlying4 _) trodAll_mk0))⟩
theorem over:Rows.validateAgreesRow.holds Tryd.pinned (OpenSpec.ofChange Rows.validateAgreesSpec) :=
 OpenClaim.holds_of_wide 4 Tryd.f4 rfl rfl rfl rfl rfl rfl rfl ⟨rfl,rfl,rfl,rfl,rfl⟩ rfl rfl rfl rfl rfl (by kernel_rfl) Tryd.func4 (by kernel_rfl)
  (of_decide_eq_true (by kernel_rfl)) (by unfold Func.isWrapper;first | (rw [if_pos (by decide +kernel)];kernel_rfl) | (rw [if_neg (by decide +kernel)];exact ⟨rfl,rfl⟩))
  (λ os started H enc _=>lifted os started H enc)
theorem proved:Rows.ValidateAgreesCardSaid :=
 Claim7.holds_tied_plain_at .later [] [.data,.data] true (true,"77e4e6f0d6ff53d0c946e3f6da432425907ed346a72e6231f7ebf91634a634d1") false over (λ _ h=>by cases h) (by kernel_rfl) (λ _ h=>by cases h) validateAgrees_row_tie rfl ⟨rfl,rfl⟩ (by kernel_rfl) rfl
  (λ f fn hf hfn=>by
   obtain rfl:f=4:=Option.some.inj ((show Tryd.prog.funcNamed "compositor/compositorlaw20.ValidateAgrees"=some 4 by kernel_rfl).symm.trans hf) |>.symm
   obtain rfl:fn=Tryd.f4:=(Option.some.inj (Tryd.func4.symm.trans hfn)).symm
   exact ⟨by kernel_rfl,λ j t ht=>by
    rw [Tryd.params4] at ht
    have hm:t∈[26,3,3,3,3,34]:=by simpa using Array.mem_of_getElem? ht
    have hall:([26,3,3,3,3,34].all λ u=>!Tryd.prog.wantsStandIn u)=true:=by kernel_rfl
    exact (show Tryd.prog.wantsStandIn t=false by simpa using List.all_eq_true.1 hall t hm)⟩)
  (by kernel_rfl)
#print axioms proved
end Go.Proofs.YthkidembkknoeaaDoor.validateAgrees
