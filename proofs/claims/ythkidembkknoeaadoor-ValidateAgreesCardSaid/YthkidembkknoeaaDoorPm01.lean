import Derived.Shelf.Small.Bits
import Derived.Shelf.Bits.Mul64
import Derived.Test.YthkidembkknoeaaDoorProg
import Derived.WalkKit
import Derived.Lib.BitFns
import Derived.Lib.Hide
import Derived.Test.YthkidembkknoeaaDoorRows
import Derived.BigQuiet
import Derived.Deep.QuietTactic
import Derived.Deep.DeepFit
import Derived.Deep.DeepCutAuto
import Derived.Deep.CutBlock
import Derived.Laws.Externs
import Derived.Deep.RegionWith
import Derived.ProofKit
import Derived.OpenShut
import Derived.Carry
import Derived.Below
import Derived.Shelf.Spec.BitsCarry
import Derived.Deep.DeepMust
import Derived.Deep.RegionHeld3
namespace Go.Proofs
end Go.Proofs
namespace Go.Proofs.YthkidembkknoeaaDoor
namespace Num
theorem up {hi lo y s Y A L:Nat} (hs:s<=63) (hlt:hi < y) (hlo:lo < 18446744073709551616) (hY:Y=y * 2 ^ s) (hA:A=hi * 2 ^ s + lo / 2 ^ (64 - s)) (hL:L=lo * 2 ^ s % 18446744073709551616) :
  (hi * 18446744073709551616 + lo) * 2 ^ s=A * 18446744073709551616 + L/\A < Y:=by
 have e:2 ^ (64 - s) * 2 ^ s=18446744073709551616:=by rw [<- Nat.pow_add,(by omega:64 - s + s=64)]
 have e1:lo / 2 ^ (64 - s)=lo * 2 ^ s / 18446744073709551616:=by rw [<- e,Nat.mul_div_mul_right _ _ (Nat.two_pow_pos s)]
 have h1:(hi * 18446744073709551616 + lo) * 2 ^ s=hi * 2 ^ s * 18446744073709551616 + lo * 2 ^ s:=by rw [Nat.add_mul,Nat.mul_right_comm]
 have h2:(hi + 1) * 2 ^ s<=y * 2 ^ s:=Nat.mul_le_mul_right _ hlt
 have h3:(hi + 1) * 2 ^ s=hi * 2 ^ s + 2 ^ s:=by rw [Nat.add_mul,Nat.one_mul]
 have h4:lo * 2 ^ s < 18446744073709551616 * 2 ^ s:=Nat.mul_lt_mul_of_pos_right hlo (Nat.two_pow_pos s)
 generalize 2 ^ s=p at *
 generalize hi * p=a at *
 generalize lo * p=b at *
 subst hA hL hY
 rw [h1,e1]
 constructor
 ·omega
 ·have:b / 18446744073709551616 < p:=by rw [Nat.div_lt_iff_lt_mul (by omega)];omega
  omega
end Num
end Go.Proofs.YthkidembkknoeaaDoor
namespace Go.Proofs.YthkidembkknoeaaDoor.Num
end Go.Proofs.YthkidembkknoeaaDoor.Num
namespace Go.Proofs.YthkidembkknoeaaDoor
open Go.RowKit
def half (n d:Nat):Nat:=if d=0 then 0 else if d - n % d<=n % d then n / d + 1 else n / d
end Go.Proofs.YthkidembkknoeaaDoor
namespace Go.Proofs.YthkidembkknoeaaDoor
open Go.RowKit
set_option linter.unusedVariables false
end Go.Proofs.YthkidembkknoeaaDoor
namespace Go.Proofs.YthkidembkknoeaaDoor
open Go.RowKit
set_option linter.unusedVariables false
def qz3 (n:Nat) (hi lo:Nat):Prop:=hi * 18446744073709551616 + lo=n/\lo < 18446744073709551616/\hi < 18446744073709551616
end Go.Proofs.YthkidembkknoeaaDoor
namespace Go.Proofs.YthkidembkknoeaaDoor
open Go.RowKit
set_option linter.unusedVariables false
theorem ze9 {W w1:World} (hb:Below W.heap.size W w1):(∀b o,b < W.heap.size->w1.cell? ⟨b,o,none⟩=W.cell? ⟨b,o,none⟩)/\(∀b o,b < W.heap.size->w1.frozen? ⟨b,o,none⟩=W.frozen? ⟨b,o,none⟩) :=
 ⟨λ b o h=>hb.cell (p:=⟨b,o,none⟩) h,λ b o h=>hb.frozen (p:=⟨b,o,none⟩) h⟩
end Go.Proofs.YthkidembkknoeaaDoor
namespace Go.Proofs.YthkidembkknoeaaDoor
open Go.RowKit
set_option linter.unusedVariables false
theorem vw2 (n k:Int) (hk:1<=k) (hk':k<=4611686018427387904):(wrap64 (n.tmod k + k)).tmod k=n % k:=by
 have h1 : -k < n.tmod k:=by
  by_cases h:0<=n
  ·have:=Int.tmod_nonneg k h;omega
  ·have h1:=Int.tmod_lt_of_pos (-n) (by omega:0 < k)
   rw [Int.neg_tmod] at h1
   omega
 have h2:n.tmod k < k:=Int.tmod_lt_of_pos n (by omega)
 rw [IntWalk.wrap64_in _ ⟨by omega,by omega⟩,Int.tmod_eq_emod_of_nonneg (by omega),Int.add_emod_right]
 have h3:=Int.mul_tdiv_add_tmod n k
 have h4:n % k=(k * n.tdiv k + n.tmod k) % k:=by rw [h3]
 rw [h4,Int.mul_add_emod_self_left]
theorem yu5 (n k:Int) (hk:1<=k) (hk':k<=4611686018427387904) (w:World) :
  Calls Tryd.prog 20 #[.int .i64 n,.int .i64 k] w λ e w'=>e=.returned (.int .i64 (n % k))/\w=w':=by
 have h:=Lib.hid (vw2 n k hk hk')
 go_enter Tryd.func20,Tryd.ntmps20
 go_wp2
 go_ret
 refine ⟨?_,rfl⟩
 rw [<- h.out]
 rfl
end Go.Proofs.YthkidembkknoeaaDoor
namespace Go.Proofs.YthkidembkknoeaaDoor
open Go.RowKit
set_option linter.unusedVariables false
end Go.Proofs.YthkidembkknoeaaDoor
namespace Go.Proofs.YthkidembkknoeaaDoor
open Go.ChangeShapes Go.WideShapes Go.ChangeAt Go.RowKit
set_option linter.unusedVariables false
theorem Law.post {H:Type} {enc:TypeId×Value->H} {P:Program} {f:Func} {s:ChangeSpec} {apart fresh handsOn again:Bool} {W W':World} {args:Array Value} {v:Value} {ds gs:List (DataW H)}
  (hW:DataW.Whole enc P f.params.toList s.vars apart W args.toList ds gs [])
  (hres:∀(b:Nat) (sp:Nat->Bool) (hd:Bool),DataW.TrodAll enc P W' b sp hd f.resultTypes.toList (v.resultList f.resultTypes.size) (s.fn H (ds ++ gs)).results [])
  (hargs:∀sp:Nat->Bool,DataW.TrodAll enc P W' 0 sp true f.params.toList args.toList (s.fn H (ds ++ gs)).args [])
  (hvars:∀sp:Nat->Bool,DataW.TrodVars enc P W' sp s.vars (s.fn H (ds ++ gs)).vars [])
  (hb:Below W.heap.size W W')
  (hok:∀(j:Nat) (t:TypeId) (r:Value),f.resultTypes[j]?=some t->(v.resultList f.resultTypes.size)[j]?=some r->Value.okWide P W' .any 0 t r) :
  s.post enc P f apart fresh handsOn again W args v W' :=
 ⟨ds,gs,[],[],[],[],hW,hres _ _ _,hargs _,hvars _,World.keptBut_mono (λ _ h=>absurd h (by simp)) (hb.frame (λ _=>False)),λ _ =>
  ⟨hok,_,_,[],⟨[],[],trodAll_append (hargs _) (hres _ _ _),hvars _,rfl,λ _ _ h=>absurd h (by simp),λ _=>by simp⟩,λ _ h=>absurd h (by simp)⟩⟩
end Go.Proofs.YthkidembkknoeaaDoor
namespace Go.Proofs.YthkidembkknoeaaDoor
open Go.RowKit
set_option linter.unusedVariables false
end Go.Proofs.YthkidembkknoeaaDoor
namespace Go.Proofs.YthkidembkknoeaaDoor
open Go.RowKit
set_option linter.unusedVariables false
end Go.Proofs.YthkidembkknoeaaDoor
namespace Go.Proofs.YthkidembkknoeaaDoor
open Go.ChangeShapes Go.WideShapes Go.ChangeAt Go.RowKit
set_option linter.unusedVariables false
def All2 {α β:Type} (R:α->β->Prop):List α->List β->Prop
 | [],[]=>True
 | a :: xs,b :: ys=>R a b/\All2 R xs ys
 | _,_=>False
theorem All2.cons {α β:Type} {R:α->β->Prop} {a:α} {xs:List α} {ys:List β} (h:All2 R (a :: xs) ys):∃b ys',ys=b :: ys'/\R a b/\All2 R xs ys':=by
 cases ys with
 | nil=>exact h.elim
 | cons b ys=>exact ⟨b,ys,rfl,h.1,h.2⟩
theorem All2.nil {α β:Type} {R:α->β->Prop} {ys:List β} (h:All2 R [] ys):ys=[]:=by
 cases ys with
 | nil=>rfl
 | cons b ys=>exact h.elim
theorem All2.append {α β:Type} {R:α->β->Prop}:∀(xs xs':List α) (ys:List β),All2 R xs (ys.take xs.length)->All2 R xs' (ys.drop xs.length)->All2 R (xs ++ xs') ys
 | [],xs',ys,_,h=>by simpa using h
 | a :: xs,xs',[],h,_=>by simp [All2] at h
 | a :: xs,xs',b :: ys,h,k=>by
  simp only [List.length_cons,List.take_succ_cons,All2] at h
  simp only [List.length_cons,List.drop_succ_cons] at k
  exact ⟨h.1,All2.append xs xs' ys h.2 k⟩
theorem All2.imp {α β:Type} {R S:α->β->Prop} (f:∀a b,R a b->S a b):∀(xs:List α) (ys:List β),All2 R xs ys->All2 S xs ys
 | [],[],_=>trivial
 | [],_ :: _,h=>h.elim
 | _ :: _,[],h=>h.elim
 | a :: xs,b :: ys,h=>⟨f _ _ h.1,All2.imp f xs ys h.2⟩
def jq4 (P:Program) (rec:TypeId->Option (List TypeId)):List Field->Nat->Option (List TypeId)
 | [],_=>some []
 | f :: fs,off=>match rec f.type,jq4 P rec fs (off + P.cellsOf f.type) with
  | some us,some vs=>if f.offset=off/\us.length=P.cellsOf f.type then some (us ++ vs) else none
  | _,_=>none
def flat (P:Program):Nat->TypeId->Option (List TypeId)
 | 0,_=>none
 | n + 1,t=>match P.underlying t with
  | some (.struct fs)=>match jq4 P (flat P n) fs.toList 0 with
   | some us=>if us.length=P.cellsOf t then some us else none
   | none=>none
  | some (.array m e)=>match flat P n e with
   | some us=>if us.length=P.cellsOf e/\m * us.length=P.cellsOf t then some (List.replicate m us).flatten else none
   | none=>none
  | _=>some [t]
section
variable {H:Type} {enc:TypeId×Value->H} {P:Program} {w:World} {base:Nat} {sp:Nat->Bool} {hd:Bool}
def Leaf (enc:TypeId×Value->H) (P:Program) (w:World) (base:Nat) (sp:Nat->Bool) (hd:Bool) (ps:List MemPlace) (u:TypeId) (c:Value):Prop :=
 ∃fuel y,DataW.trod enc P w base sp hd fuel u [c]=some y/\∀q∈y.2,q∈ps
theorem Leaf.mono {ps ps':List MemPlace} {u:TypeId} {c:Value} (h:Leaf enc P w base sp hd ps u c) (hs:∀q∈ps,q∈ps'):Leaf enc P w base sp hd ps' u c:=by
 obtain ⟨f,y,h1,h2⟩:=h
 exact ⟨f,y,h1,λ q hq=>hs q (h2 q hq)⟩
theorem jt8 {n m:Nat} {cs:List Value} {ps:List MemPlace} (ih:∀(t:TypeId) (us:List TypeId) (cs:List Value) (x:DataW H×List MemPlace),flat P n t=some us->DataW.trod enc P w base sp hd m t cs=some x->All2 (Leaf enc P w base sp hd x.2) us cs) :
  ∀(fs:List Field) (off:Nat) (us:List TypeId),jq4 P (flat P n) fs off=some us->
   (∀f∈fs,∃x,DataW.trod enc P w base sp hd m f.type ((cs.drop f.offset).take (P.cellsOf f.type))=some x/\∀q∈x.2,q∈ps)->
   All2 (Leaf enc P w base sp hd ps) us ((cs.drop off).take us.length)
 | [],off,us,h,_=>by
  simp only [jq4,Option.some.injEq] at h
  subst h
  simp [All2]
 | f :: fs,off,us,h,hf=>by
  simp only [jq4] at h
  split at h <;> try simp at h
  rename_i us1 vs h1 h2
  obtain ⟨⟨ho,hl⟩,rfl⟩:=h
  obtain ⟨x,hx,hxp⟩:=hf f (by simp)
  have a1:=ih _ _ _ _ h1 hx
  have a2:=jt8 ih fs _ vs h2 (λ g hg=>hf g (by simp [hg]))
  refine All2.append _ _ _ ?_ ?_
  ·rw [List.take_take,List.length_append,Nat.min_eq_left (by omega),hl,<- ho]
   exact All2.imp (λ a b h=>Leaf.mono h hxp) _ _ a1
  ·rw [List.drop_take,List.length_append,Nat.add_sub_cancel_left,List.drop_drop,hl]
   exact a2
theorem q85 {n m:Nat} {us:List TypeId} {k:Nat} {e:TypeId} {ps:List MemPlace} (hl:us.length=P.cellsOf e) :
  ∀(j i:Nat) (cs:List Value),(∀q,q < j->All2 (Leaf enc P w base sp hd ps) us ((cs.drop (q * P.cellsOf e)).take (P.cellsOf e)))->cs.length=j * us.length->All2 (Leaf enc P w base sp hd ps) (List.replicate j us).flatten cs
 | 0,i,cs,_,h=>by
  have:cs=[]:=by simpa using h
  subst this
  simp [All2]
 | j + 1,i,cs,h,hc=>by
  rw [List.replicate_succ,List.flatten_cons]
  refine All2.append _ _ _ ?_ ?_
  ·have:=h 0 (by omega)
   simpa [hl] using this
  ·refine q85 (n:=n) (m:=m) (k:=k) hl j i _ (λ q hq=>?_) (by simp [hc,Nat.add_mul])
   have:=h (q + 1) (by omega)
   rw [List.drop_drop,hl,Nat.add_comm (P.cellsOf e),<- Nat.succ_mul]
   exact this
theorem qb3:∀(n:Nat) (t:TypeId) (us:List TypeId) (fuel:Nat) (cs:List Value) (x:DataW H×List MemPlace),flat P n t=some us->DataW.trod enc P w base sp hd fuel t cs=some x->All2 (Leaf enc P w base sp hd x.2) us cs
 | 0,_,_,_,_,_,h,_=>by simp [flat] at h
 | n + 1,t,us,fuel,cs,x,h,hx=>by
  unfold flat at h
  split at h
  ·rename_i fs hs
   obtain ⟨xs,m,rfl,rfl,hl,hlen,hf⟩:=DataW.trod_struct hs hx
   split at h <;> try simp at h
   rename_i us' h1
   obtain ⟨h2,rfl⟩:=h
   have a:=jt8 (cs:=cs) (ps:=xs.flatMap (·.2)) (λ t us cs x h k=>qb3 n t us m cs x h k) fs.toList 0 us' h1 (λ f hfm=>by
    obtain ⟨i,hi,rfl⟩:=List.getElem_of_mem hfm
    have e:fs[i]?=some fs.toList[i]:=by simp at hi ⊢
    have hi':i < xs.length:=by rw [hlen];simpa using hi
    have:=hf i _ e
    rw [List.getElem?_eq_getElem hi'] at this
    exact ⟨_,this,λ q hq=>List.mem_flatMap.2 ⟨_,List.getElem_mem hi',hq⟩⟩)
   rw [h2,<- hl] at a
   simpa using a
  ·rename_i k e hs
   obtain ⟨xs,m,rfl,rfl,hl,hlen,hf⟩:=DataW.trod_array hs hx
   split at h <;> try simp at h
   rename_i us' h1
   obtain ⟨⟨h2,h3⟩,rfl⟩:=h
   refine q85 (n:=0) (m:=0) (k:=0) h2 k 0 cs (λ q hq=>?_) (by rw [hl,h3])
   have hi':q < xs.length:=by rw [hlen];exact hq
   have:=hf q hq
   rw [List.getElem?_eq_getElem hi'] at this
   exact All2.imp (λ a b h=>Leaf.mono h (λ z hz=>List.mem_flatMap.2 ⟨_,List.getElem_mem hi',hz⟩)) _ _ (qb3 n e us' m _ _ h1 this)
  ·rename_i hns hna
   simp only [Option.some.injEq] at h
   subst h
   have:∃c,cs=[c]:=by
    cases fuel with
    | zero=>simp [DataW.trod] at hx
    | succ m =>
     unfold DataW.trod at hx
     split at hx <;> first | exact ⟨_,rfl⟩ | (exfalso;simp_all;done) | simp_all
   obtain ⟨c,rfl⟩:=this
   exact ⟨⟨fuel,x,hx,λ q hq=>hq⟩,trivial⟩
theorem vw3 {r:Reach} {b0:Nat} {t:TypeId} {v:Value} {d:DataW H} {ps:List MemPlace} (us:List TypeId) (hfl:flat P 8 t=some us)
  (hk:(∃fs,P.underlying t=some (.struct fs))\/∃n e,P.underlying t=some (.array n e)) (hv:Value.okWide P w r b0 t v) (h:DataW.Trod enc P w base sp hd t v d ps) :
  ∃l:List Value,v=.agg l.toArray/\All2 (Leaf enc P w base sp hd ps) us l:=by
 obtain ⟨cs,rfl⟩:∃cs,v=.agg cs:=by
  rcases hk with ⟨fs,hs⟩ | ⟨n,e,hs⟩ <;> simp only [Value.okWide,hs] at hv <;> (obtain ⟨cs,h1,_⟩:=hv;exact ⟨cs,h1⟩)
 obtain ⟨fuel,hf⟩:=h
 have:=qb3 8 t us fuel _ _ hfl hf
 exact ⟨cs.toList,by simp,by simpa [Value.cells] using this⟩
theorem Leaf.int {ps:List MemPlace} {u:TypeId} {c:Value} {k:IntKind} (h:Leaf enc P w base sp hd ps u c) (hu:P.underlying u=some (.int k)):∃n,c=.int k n/\(Lit.int k n).wf=true:=by
 obtain ⟨f,y,hy,_⟩:=h
 obtain ⟨n,h1,_,h3⟩:=DataW.trod_int hu hy
 exact ⟨n,by simpa using h1,h3⟩
theorem Leaf.bool {ps:List MemPlace} {u:TypeId} {c:Value} (h:Leaf enc P w base sp hd ps u c) (hu:P.underlying u=some .bool):∃b,c=.bool b:=by
 obtain ⟨f,y,hy,_⟩:=h
 obtain ⟨n,h1,_⟩:=DataW.trod_bool hu hy
 exact ⟨n,by simpa using h1⟩
theorem Leaf.string {ps:List MemPlace} {u:TypeId} {c:Value} (h:Leaf enc P w base sp hd ps u c) (hu:P.underlying u=some .string):∃s:ByteArray,c=.string s/\s.size<=maxLen:=by
 obtain ⟨f,y,hy,_⟩:=h
 obtain ⟨n,h1,_,h3⟩:=DataW.trod_string hu hy
 exact ⟨n,by simpa using h1,h3⟩
end
theorem qi2 {H:Type} {enc:TypeId×Value->H} {P:Program} (hl:laidOutB P=true) {W W':World} (hb:Below W.heap.size W W') :
  ∀(ts:List TypeId) (vs:List Value) (ds:List (DataW H)) (ps:List MemPlace),(∀t∈ts,P.readableRec t=true/\t < P.types.size)->DataW.TrodAll enc P W 0 (λ _=>true) true ts vs ds ps->
   (∀x∈ps,x.block < W.heap.size)->DataW.TrodAll enc P W' 0 (λ b=>decide (b < W.heap.size)) true ts vs ds ps
 | [],[],[],_,_,h,_=>h
 | t :: ts,v :: vs,d :: ds,ps,hr,h,hlt=>by
  obtain ⟨p,q,h1,h2,rfl⟩:=h
  exact ⟨p,q,Below.trod hl (hr t (by simp)).1 (hr t (by simp)).2 h1 hb (λ x hx=>hlt x (by simp [hx])),qi2 hl hb ts vs ds q (λ t ht=>hr t (by simp [ht])) h2 (λ x hx=>hlt x (by simp [hx])),rfl⟩
 | [],[],_ :: _,_,_,h,_ | [],_ :: _,_,_,_,h,_ | _ :: _,[],_,_,_,h,_ | _ :: _,_ :: _,[],_,_,h,_=>by simp [DataW.TrodAll] at h
theorem Law.keep {H:Type} {enc:TypeId×Value->H} {P:Program} {f:Func} {s:ChangeSpec} {apart fresh handsOn:Bool} {W W':World} {args:Array Value} {v:Value} {ds gs:List (DataW H)} {before:List MemPlace}
  (hl:laidOutB P=true) (hr:∀t∈f.params.toList,P.readableRec t=true/\t < P.types.size) (hsv:s.vars=[])
  (hW:DataW.Whole enc P f.params.toList s.vars apart W args.toList ds gs before)
  (hlt:∀x∈before,x.block < W.heap.size)
  (hb:Below W.heap.size W W')
  (hfa:(s.fn H (ds ++ gs)).args=ds) (hfv:(s.fn H (ds ++ gs)).vars=[])
  (hres:∀(b:Nat) (sp:Nat->Bool) (hd:Bool),DataW.TrodAll enc P W' b sp hd f.resultTypes.toList (v.resultList f.resultTypes.size) (s.fn H (ds ++ gs)).results []) :
  s.post enc P f apart fresh handsOn false W args v W':=by
 have hW0:=hW
 obtain ⟨p,q,hA,hV,rfl,_,_⟩:=hW
 refine ⟨ds,gs,p ++ q,[],p,[],hW0,hres _ _ _,?_,?_,World.keptBut_mono (λ _ h=>absurd h (by simp)) (hb.frame (λ _=>False)),λ h=>by simp at h⟩
 ·rw [hfa]
  exact qi2 hl hb _ _ _ _ hr hA (λ x hx=>hlt x (by simp [hx]))
 ·rw [hfv,hsv]
  exact rfl
end Go.Proofs.YthkidembkknoeaaDoor
namespace Go.Proofs.YthkidembkknoeaaDoor
open Go.RowKit
set_option linter.unusedVariables false
theorem qz3.lt {n hi lo:Nat} (h:qz3 n hi lo):n < 340282366920938463463374607431768211456:=by
 obtain ⟨a,b,c⟩:=h;omega
theorem qz3.inj {n m a b:Nat} (h:qz3 n a b) (k:qz3 m a b):n=m:=by
 obtain ⟨h1,h2,h3⟩:=h;obtain ⟨k1,k2,k3⟩:=k;omega
end Go.Proofs.YthkidembkknoeaaDoor
namespace Go.Proofs.YthkidembkknoeaaDoor
open Go.RowKit
set_option linter.unusedVariables false
end Go.Proofs.YthkidembkknoeaaDoor
namespace Go.Proofs.YthkidembkknoeaaDoor
open Go.RowKit
set_option linter.unusedVariables false
def Box2 (w:World) (b:Nat) (x y:Value):Prop:=w.cell? ⟨b,0,none⟩=some x/\w.cell? ⟨b,1,none⟩=some y/\w.frozen? ⟨b,0,none⟩=false/\w.frozen? ⟨b,1,none⟩=false
theorem Box2.keep {w w':World} {b:Nat} {x y:Value} (h:Box2 w b x y) (hb:Below w.heap.size w w') (hlt:b < w.heap.size):Box2 w' b x y:=by
 obtain ⟨h1,h2,h3,h4⟩:=h
 obtain ⟨hc,hf⟩:=ze9 hb
 exact ⟨(hc b 0 hlt).trans h1,(hc b 1 hlt).trans h2,(hf b 0 hlt).trans h3,(hf b 1 hlt).trans h4⟩
theorem Box2.set {w:World} {b:Nat} {x y:Value} (h:Box2 w b x y) (u v:Value):Box2 ((w.setCell ⟨b,0,none⟩ u).setCell ⟨b,1,none⟩ v) b u v:=by
 obtain ⟨h1,h2,h3,h4⟩:=h
 refine ⟨?_,?_,?_,?_⟩ <;> simp [go_sem,h1,h2,h3,h4]
theorem Box2.other {w:World} {b:Nat} {x y:Value} (h:Box2 w b x y) {p:Addr} (hp:p.block≠b) (u:Value):Box2 (w.setCell p u) b x y:=by
 obtain ⟨h1,h2,h3,h4⟩:=h
 have e1:p≠⟨b,0,none⟩:=by intro h;subst h;exact hp rfl
 have e2:p≠⟨b,1,none⟩:=by intro h;subst h;exact hp rfl
 refine ⟨?_,?_,?_,?_⟩ <;> simp [go_sem,h1,h2,h3,h4,e1,e2]
def Ans (n hi lo:Nat) (b:Bool):Prop:=(b=true/\qz3 n hi lo)\/(b=false/\hi=0/\lo=0/\¬ n < 340282366920938463463374607431768211456)
def yi0 (n:Nat) (e:Ending):Prop:=∃(hi lo:Nat) (b:Bool),e=.returned (.tuple #[.agg #[.int .u64 hi,.int .u64 lo],.bool b])/\Ans n hi lo b
theorem yi0.yes {n hi lo:Nat} (h:qz3 n hi lo):yi0 n (.returned (.tuple #[.agg #[.int .u64 hi,.int .u64 lo],.bool true])):=⟨hi,lo,true,rfl,Or.inl ⟨rfl,h⟩⟩
theorem yi0.no {n:Nat} (h:¬ n < 340282366920938463463374607431768211456):yi0 n (.returned (.tuple #[.agg #[.int .u64 0,.int .u64 0],.bool false])):=⟨0,0,false,rfl,Or.inr ⟨rfl,rfl,rfl,h⟩⟩
def Dif (x y hi lo:Nat) (b:Bool):Prop:=(b=true/\qz3 (x - y) hi lo/\y<=x)\/(b=false/\hi=0/\lo=0/\¬ y<=x)
def yi1 (x y:Nat) (e:Ending):Prop:=∃(hi lo:Nat) (b:Bool),e=.returned (.tuple #[.agg #[.int .u64 hi,.int .u64 lo],.bool b])/\Dif x y hi lo b
theorem yi1.yes {x y hi lo:Nat} (h:qz3 (x - y) hi lo) (k:y<=x):yi1 x y (.returned (.tuple #[.agg #[.int .u64 hi,.int .u64 lo],.bool true])):=⟨hi,lo,true,rfl,Or.inl ⟨rfl,h,k⟩⟩
theorem yi1.no {x y:Nat} (h:¬ y<=x):yi1 x y (.returned (.tuple #[.agg #[.int .u64 0,.int .u64 0],.bool false])):=⟨0,0,false,rfl,Or.inr ⟨rfl,rfl,rfl,h⟩⟩
end Go.Proofs.YthkidembkknoeaaDoor
namespace Go.Proofs.YthkidembkknoeaaDoor
open Go.RowKit
set_option linter.unusedVariables false
theorem Box2.alloc {w:World} {b:Nat} {x y:Value} (h:Box2 w b x y) (hlt:b < w.heap.size) (o:Obj):Box2 (w.alloc o) b x y :=
 h.keep ((Below.refl _ _).alloc (Nat.le_refl _) o) hlt
end Go.Proofs.YthkidembkknoeaaDoor
namespace Go.Proofs.YthkidembkknoeaaDoor
open Go.RowKit
set_option linter.unusedVariables false
theorem Box2.lt {w:World} {b:Nat} {x y:Value} (h:Box2 w b x y):b < w.heap.size:=World.block_lt_of_cell? w ⟨b,0,none⟩ h.1
end Go.Proofs.YthkidembkknoeaaDoor
