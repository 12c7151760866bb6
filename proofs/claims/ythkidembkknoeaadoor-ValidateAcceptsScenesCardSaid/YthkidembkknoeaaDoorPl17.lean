import Derived.Test.YthkidembkknoeaaDoorPl16
import Derived.Test.YthkidembkknoeaaDoorPl14
namespace Go.Proofs.YthkidembkknoeaaDoor
open Go.RowKit PR QR
set_option linter.unusedVariables false
set_option linter.unusedSimpArgs false
noncomputable def orP (m:Int) (l:Int->Nat->Int) (n:Int):Bool:=@decide (m=n/\orI m l n n) (Classical.propDecidable _)
def orA (i a:Int):Int:=isel (ilt a i) a 0
def orT (n i:Int):Prop:=0<=i/\i<=n
noncomputable def vm1:List AV->Option QR.Ans
 | [.x (.c c),.x (.c (.v (.int .i64 n)))]=>match jf1 1 c with
  | some (m,r)=>some ⟨[.c (.v (.bool (orP m (λ i _=>intC (den r i 0)) n)))],[],[intRow .i64 1 m r,ilt 0 m=true,ile 0 n=true,ile n 16777216=true]⟩
  | none=>none
 | _=>none
noncomputable def q40 (m:Int) (l:Int->Nat->Int) (n:Int):QR.Inv where
 ι:=Int
 good i:=orI m l n i
 slots i:=QR.slotsOf Tryd.f79.ntmps [(0,.x (.c (.slc 1 m (.fn λ a b=>.v (.int .i64 (l a b)))))),(1,.x (.c (.v (.int .i64 n)))),(4,.x (.c (.v (.bool false)))),(5,.x (.c (.own 1000000000000000 n))),(14,.x (.c (.slc 1 m (.fn λ a b=>.v (.int .i64 (l a b)))))),(15,.x (.c (.v (.int .i64 m)))),(16,.x (.c (.v (.int .i64 i))))]
 blocks i:=[(1000000000000000,.row 1 n (.fn λ a b=>.v (.bool (orS m l i a))))]
 μ i:=orMu n i
noncomputable def q41 (m:Int) (l:Int->Nat->Int) (n:Int):QR.Inv where
 ι:=Int
 good i:=orT n i
 slots i:=QR.slotsOf Tryd.f60.ntmps [(0,.x (.c (.slc 1 m (.fn λ a b=>.v (.int .i64 (l a b)))))),(1,.x (.c (.v (.int .i64 n)))),(4,.x (.c (.v (.slice none 0 0)))),(5,.x (.c (.v (.bool false)))),(6,.x (.c (.own 1000000000000000 n))),(33,.x (.c (.v (.int .i64 n)))),(34,.x (.c (.v (.int .i64 i))))]
 blocks i:=[(1000000000000000,.row 1 n (.fn λ a b=>.v (.int .i64 (orA i a))))]
 μ i:=orMu n i
noncomputable def q42:QR.ja7:=QR.orc [(79,vm1)]
set_option maxRecDepth 100000 in
theorem yw6 (m:Int) (l:Int->Nat->Int) (n:Int) (V:List QR.XV->List (List QR.CV)->Prop):QR.ja9 Tryd.prog (QR.orc []) (λ k=>bif Nat.beq k 5 then some (.invs [q40 m l n]) else none) (Tryd.f79.body.getD .skip) Tryd.f79.results.toList Tryd.f79.ntmps [.x (.c (.slc 1 m (.fn λ i j=>.v (.int .i64 (l i j))))),.x (.c (.v (.int .i64 n)))] V=(True/\∀(i:Int),i=m->True/\ja0 (ine i n) (True/\True/\V [XV.c (CV.v (Value.bool false))] []) ((ile 0 n=true/\ile n n=true/\ile (jd8 n 1) 140737488355328=true/\ile n 140737488355328=true/\True)/\∀(i:Int),i=m->True/\((∃(i_1:Int),orI m l n i_1/\True/\true=true/\((true=true/\1=1/\m=m/\True/\∀(i:Nat),ilt (Int.ofNat i) m=true->IntKind.i64=IntKind.i64/\l (Int.ofNat i) 0=l (Int.ofNat i) 0)/\(true=true/\IntKind.i64=IntKind.i64/\n=n)/\(true=true/\false=false)/\(true=true/\3073=3073/\n=n)/\(true=true/\1=1/\m=m/\True/\∀(i:Nat),ilt (Int.ofNat i) m=true->IntKind.i64=IntKind.i64/\l (Int.ofNat i) 0=l (Int.ofNat i) 0)/\(true=true/\IntKind.i64=IntKind.i64/\i=m)/\(true=true/\IntKind.i64=IntKind.i64/\(0:Int)=i_1)/\True)/\(1=1/\n=n/\True/\∀(i:Nat),ilt (Int.ofNat i) n=true->false=orS m l i_1 (Int.ofNat i))/\True)\/False)/\(∀(i:Int),orI m l n i->True/\ja0 (ilt i m) ((ile 0 i=true/\ilt i m=true/\True)/\ja0 (ilt (l i 0) 0) (True/\True/\True/\V [XV.c (CV.v (Value.bool false))] []) (ja0 (ige (l i 0) n) (True/\True/\True/\V [XV.c (CV.v (Value.bool false))] []) ((ile 0 (l i 0)=true/\ilt (l i 0) n=true/\True)/\ja0 (orS m l i (l i 0)) (True/\True/\V [XV.c (CV.v (Value.bool false))] []) ((ile 0 (l i 0)=true/\ilt (l i 0) n=true/\True)/\True/\((∃(i_1:Int),orI m l n i_1/\(True/\true=true/\((true=true/\1=1/\m=m/\True/\∀(i:Nat),ilt (Int.ofNat i) m=true->IntKind.i64=IntKind.i64/\l (Int.ofNat i) 0=l (Int.ofNat i) 0)/\(true=true/\IntKind.i64=IntKind.i64/\n=n)/\(true=true/\false=false)/\(true=true/\1000000000000000=1000000000000000/\n=n)/\(true=true/\1=1/\m=m/\True/\∀(i:Nat),ilt (Int.ofNat i) m=true->IntKind.i64=IntKind.i64/\l (Int.ofNat i) 0=l (Int.ofNat i) 0)/\(true=true/\IntKind.i64=IntKind.i64/\m=m)/\(true=true/\IntKind.i64=IntKind.i64/\iadd IntKind.i64 i 1=i_1)/\True)/\(1=1/\n=n/\True/\∀(i_2:Nat),ilt (Int.ofNat i_2) n=true->bsel (ieq (Int.ofNat i_2) (l i 0)) true (orS m l i (Int.ofNat i_2))=orS m l i_1 (Int.ofNat i_2))/\True)/\Nat.le (Nat.succ (orMu n i_1)) (orMu n i))\/False))))) (True/\True/\V [XV.c (CV.v (Value.bool true))] []))/\True)):=by
 try delta q40
 generalize @orI=orI
 generalize @orMu=orMu
 generalize @orS=orS
 kernel_rfl
set_option maxRecDepth 100000 in
theorem ya5 (m:Int) (l:Int->Nat->Int) (n:Int) (V:List QR.XV->List (List QR.CV)->Prop):QR.ja9 Tryd.prog (q42) (λ k=>bif Nat.beq k 10 then some (.invs [q41 m l n]) else none) (Tryd.f60.body.getD .skip) Tryd.f60.results.toList Tryd.f60.ntmps [.x (.c (.slc 1 m (.fn λ i j=>.v (.int .i64 (l i j))))),.x (.c (.v (.int .i64 n)))] V=(True/\ja0 (ilt n 0) (True/\True/\True/\V [XV.c (CV.v (Value.slice Option.none 0 0)),XV.c (CV.v (Value.bool false))] []) (True/\ja0 (igt n 16777216) (True/\True/\V [XV.c (CV.v (Value.slice Option.none 0 0)),XV.c (CV.v (Value.bool false))] []) (∀(i:Int),i=m->ja0 (ine i 0) ((intRow IntKind.i64 1 m (QR.Row.fn λ (i:Int) (j:Nat)=>CV.v (Value.int .i64 (l i j)))/\ilt 0 m=true/\ile 0 n=true/\ile n 16777216=true/\True)/\ja0 (bnot (orP m (λ (i:Int) (x:Nat)=>l i 0) n)) (True/\True/\V [XV.c (CV.v (Value.slice Option.none 0 0)),XV.c (CV.v (Value.bool false))] []) ((ile 0 n=true/\ile n n=true/\ile (jd8 n 8) 140737488355328=true/\ile n 140737488355328=true/\True)/\∀(i:Int),i=m->True/\ja0 (ine i 0) (∀(i:Int),i=jf0 n m->True/\True/\True/\V [XV.c (CV.fresh 1 n (QR.Row.app (QR.Row.app (QR.Row.zer [Value.int .i64 0]) 0 (QR.Row.fn λ (i:Int) (j:Nat)=>CV.v (Value.int .i64 (l i j)))) (addZ 0 (jf0 n m)) (QR.Row.sub (QR.Row.zer [Value.int .i64 0]) (addZ 0 (jf0 n m))))),XV.c (CV.v (Value.bool true))] []) (∀(i:Int),i=n->True/\((∃(i_1:Int),orT n i_1/\True/\true=true/\((true=true/\1=1/\m=m/\True/\∀(i:Nat),ilt (Int.ofNat i) m=true->IntKind.i64=IntKind.i64/\l (Int.ofNat i) 0=l (Int.ofNat i) 0)/\(true=true/\IntKind.i64=IntKind.i64/\n=n)/\(true=true/\Value.slice Option.none 0 0=Value.slice Option.none 0 0)/\(true=true/\false=false)/\(true=true/\5121=5121/\n=n)/\(true=true/\IntKind.i64=IntKind.i64/\i=n)/\(true=true/\IntKind.i64=IntKind.i64/\(0:Int)=i_1)/\True)/\(1=1/\n=n/\True/\∀(i:Nat),ilt (Int.ofNat i) n=true->IntKind.i64=IntKind.i64/\(0:Int)=orA i_1 (Int.ofNat i))/\True)\/False)/\(∀(i:Int),orT n i->True/\ja0 (ilt i n) (True/\(ile 0 i=true/\ilt i n=true/\True)/\True/\((∃(i_1:Int),orT n i_1/\(True/\true=true/\((true=true/\1=1/\m=m/\True/\∀(i:Nat),ilt (Int.ofNat i) m=true->IntKind.i64=IntKind.i64/\l (Int.ofNat i) 0=l (Int.ofNat i) 0)/\(true=true/\IntKind.i64=IntKind.i64/\n=n)/\(true=true/\Value.slice Option.none 0 0=Value.slice Option.none 0 0)/\(true=true/\false=false)/\(true=true/\1000000000000000=1000000000000000/\n=n)/\(true=true/\IntKind.i64=IntKind.i64/\n=n)/\(true=true/\IntKind.i64=IntKind.i64/\iadd IntKind.i64 i 1=i_1)/\True)/\(1=1/\n=n/\True/\∀(i_2:Nat),ilt (Int.ofNat i_2) n=true->IntKind.i64=IntKind.i64/\isel (ieq (Int.ofNat i_2) i) i (orA i (Int.ofNat i_2))=orA i_1 (Int.ofNat i_2))/\True)/\Nat.le (Nat.succ (orMu n i_1)) (orMu n i))\/False)) (True/\True/\V [XV.c (CV.fresh 1 n (QR.Row.fn λ (a:Int) (b:Nat)=>CV.v (Value.int .i64 (orA i a)))),XV.c (CV.v (Value.bool true))] []))/\True))) (True/\(ile 0 n=true/\ile n n=true/\ile (jd8 n 8) 140737488355328=true/\ile n 140737488355328=true/\True)/\∀(i:Int),i=m->True/\ja0 (ine i 0) (∀(i:Int),i=jf0 n m->True/\True/\True/\V [XV.c (CV.fresh 1 n (QR.Row.app (QR.Row.app (QR.Row.zer [Value.int .i64 0]) 0 (QR.Row.fn λ (i:Int) (j:Nat)=>CV.v (Value.int .i64 (l i j)))) (addZ 0 (jf0 n m)) (QR.Row.sub (QR.Row.zer [Value.int .i64 0]) (addZ 0 (jf0 n m))))),XV.c (CV.v (Value.bool true))] []) (∀(i:Int),i=n->True/\((∃(i_1:Int),orT n i_1/\True/\true=true/\((true=true/\1=1/\m=m/\True/\∀(i:Nat),ilt (Int.ofNat i) m=true->IntKind.i64=IntKind.i64/\l (Int.ofNat i) 0=l (Int.ofNat i) 0)/\(true=true/\IntKind.i64=IntKind.i64/\n=n)/\(true=true/\Value.slice Option.none 0 0=Value.slice Option.none 0 0)/\(true=true/\false=false)/\(true=true/\5121=5121/\n=n)/\(true=true/\IntKind.i64=IntKind.i64/\i=n)/\(true=true/\IntKind.i64=IntKind.i64/\(0:Int)=i_1)/\True)/\(1=1/\n=n/\True/\∀(i:Nat),ilt (Int.ofNat i) n=true->IntKind.i64=IntKind.i64/\(0:Int)=orA i_1 (Int.ofNat i))/\True)\/False)/\(∀(i:Int),orT n i->True/\ja0 (ilt i n) (True/\(ile 0 i=true/\ilt i n=true/\True)/\True/\((∃(i_1:Int),orT n i_1/\(True/\true=true/\((true=true/\1=1/\m=m/\True/\∀(i:Nat),ilt (Int.ofNat i) m=true->IntKind.i64=IntKind.i64/\l (Int.ofNat i) 0=l (Int.ofNat i) 0)/\(true=true/\IntKind.i64=IntKind.i64/\n=n)/\(true=true/\Value.slice Option.none 0 0=Value.slice Option.none 0 0)/\(true=true/\false=false)/\(true=true/\1000000000000000=1000000000000000/\n=n)/\(true=true/\IntKind.i64=IntKind.i64/\n=n)/\(true=true/\IntKind.i64=IntKind.i64/\iadd IntKind.i64 i 1=i_1)/\True)/\(1=1/\n=n/\True/\∀(i_2:Nat),ilt (Int.ofNat i_2) n=true->IntKind.i64=IntKind.i64/\isel (ieq (Int.ofNat i_2) i) i (orA i (Int.ofNat i_2))=orA i_1 (Int.ofNat i_2))/\True)/\Nat.le (Nat.succ (orMu n i_1)) (orMu n i))\/False)) (True/\True/\V [XV.c (CV.fresh 1 n (QR.Row.fn λ (a:Int) (b:Nat)=>CV.v (Value.int .i64 (orA i a)))),XV.c (CV.v (Value.bool true))] []))/\True))))):=by
 try delta q42
 try delta q41
 try delta vm1
 generalize @jf0=jf0
 generalize @intRow=intRow
 generalize @orA=orA
 generalize @orMu=orMu
 generalize @orP=orP
 generalize @orT=orT
 kernel_rfl
end Go.Proofs.YthkidembkknoeaaDoor
namespace Go.Proofs.YthkidembkknoeaaDoor
open Go.RowKit PR QR
set_option linter.unusedVariables false
set_option linter.unusedSimpArgs false
set_option maxRecDepth 20000
theorem vg7 {m:Int} {l:Int->Nat->Int} {n:Int}:orP m l n=true↔m=n/\orI m l n n:=by unfold orP;rw [@decide_eq_true_eq _ (Classical.propDecidable _)]
theorem y59 {m:Int} {l:Int->Nat->Int} {n:Int} (h:¬ (m=n/\orI m l n n)):orP m l n=false:=by rw [<- Bool.not_eq_true,vg7];exact h
theorem yj1 {m n:Int} (hm:0 < m) (hn:0<=n) (hn':n<=16777216) (l:Int->Nat->Int) (A:List Prop):jj5 Tryd.prog 79 [.x (.c (.slc 1 m (.fn λ i j=>.v (.int .i64 (l i j))))),.x (.c (.v (.int .i64 n)))] ⟨[.c (.v (.bool (orP m l n)))],[],A⟩:=by
 refine QR.ja2 (O:=QR.orc []) QR.jb2 mixed (λ k=>bif Nat.beq k 5 then some (.invs [q40 m l n]) else none) Tryd.func79 (by kernel_rfl) (by kernel_rfl) (by simp) ?_
 rw [yw6]
 try dsimp only
 have VF:orP m l n=false->jb6 ⟨[.c (.v (.bool (orP m l n)))],[],A⟩ [.c (.v (.bool false))] []:=λ hb=>by
  simp [jb6,eqXs,eqX,eqo,eqLo,eqL,eqc,veq,eqUs,hb]
 have VT:orP m l n=true->jb6 ⟨[.c (.v (.bool (orP m l n)))],[],A⟩ [.c (.v (.bool true))] []:=λ hb=>by
  simp [jb6,eqXs,eqX,eqo,eqLo,eqL,eqc,veq,eqUs,hb]
 generalize jb6 ⟨[.c (.v (.bool (orP m l n)))],[],A⟩=V at *
 simp only [forall_eq,true_and,and_true,implies_true,reduceCtorEq,and_false,false_and,exists_false,or_false,false_or]
 rw [ja1]
 refine ⟨λ c=>VF (y59 λ k=>by rw [k.1,za6] at c;simp at c),λ c0=>?_⟩
 obtain rfl:m=n:=Classical.byContradiction λ q=>by rw [vf5 q] at c0;simp at c0
 have w:∀i,l i 0=orW m l i:=λ i=>(y57 hm l i).symm
 simp only [w]
 have mk:ile 0 m=true/\ile m m=true/\ile (jd8 m 1) 140737488355328=true/\ile m 140737488355328=true:=⟨jb4 (by omega),jb4 (by omega),jb4 (by unfold jd8;omega),jb4 (by omega)⟩
 have ia:∀i:Int,0<=i->i < m->iadd .i64 i 1=i + 1:=λ i i0 i1=>IntWalk.i64_in _ (by omega)
 have mu:∀i:Int,i < m->Nat.le (Nat.succ (orMu m (i + 1))) (orMu m i):=λ i i1=>by show orMu m (i + 1) < orMu m i;unfold orMu;omega
 have bad:∀i,0<=i->i < m->¬ ((0<=orW m l i/\orW m l i < m)/\orS m l i (orW m l i)=false)->orP m l m=false:=λ i i0 i1 h=>y59 λ k=>h (yw1 k.2 i0 i1)
 refine ⟨mk,⟨0,⟨⟨by omega,by omega⟩,λ j j0 j1=>by omega⟩,rfl,λ k _=>(zb5 _ _ _).symm⟩,λ i hi=>?_⟩
 have i0:=hi.1.1
 have iN:=hi.1.2
 rw [ja1]
 refine ⟨λ c=>?_,λ c=>?_⟩
 ·have lt:=of_decide_eq_true c
  refine ⟨⟨jb4 i0,jl0 (by omega)⟩,?_⟩
  rw [ja1]
  refine ⟨λ d=>VF (bad i i0 lt λ h=>by have:=of_decide_eq_true d;have:=h.1;omega),λ d0=>?_⟩
  rw [ja1]
  refine ⟨λ d=>VF (bad i i0 lt λ h=>by have:=of_decide_eq_true d;have:=h.1;omega),λ d1=>?_⟩
  have k0:0<=orW m l i:=by have:=of_decide_eq_false d0;omega
  have k1:orW m l i < m:=by have:=of_decide_eq_false d1;omega
  have a0:ile 0 (orW m l i)=true/\ilt (orW m l i) m=true:=⟨jb4 k0,jl0 k1⟩
  refine ⟨a0,?_⟩
  rw [ja1]
  refine ⟨λ d=>VF (bad i i0 lt λ h=>by rw [d] at h;simp at h),λ k2=>?_⟩
  exact ⟨a0,i + 1,yw0 hi lt k0 k1 k2,⟨ia i i0 lt,λ q _=>yi5 i0 q⟩,mu i lt⟩
 ·have lt:=of_decide_eq_false c
  obtain rfl:i=m:=by omega
  exact VT (vg7.2 ⟨rfl,hi⟩)
theorem y60:jb0 79 vm1:=by
 intro al ans hh hq
 unfold vm1 at hh
 split at hh <;> try (simp at hh;done)
 rename_i c n
 cases e:jf1 1 c with
 | none=>rw [e] at hh;simp at hh
 | some p =>
  obtain ⟨m,r⟩:=p
  rw [e] at hh
  simp only [Option.some.injEq] at hh
  subst hh
  obtain ⟨hr,hm,h0,h1,_⟩:=asked hq
  refine jd6 (al':=[.x (.c (.slc 1 m (ints .i64 r))),.x (.c (.v (.int .i64 n)))]) ⟨jj0 e (by decide) hr,.v _,trivial⟩ ?_
  unfold ints
  exact yj1 (n:=n) (jg6 hm) (jg1 h0) (jg1 h1) (λ i j=>intC (den r i j)) _
theorem zb8 (a:Int) (h:0<=a):(0:Int)=orA 0 a:=by unfold orA;rw [qb6 h];rfl
theorem yj2 {i:Int} (a:Int):isel (ieq a i) i (orA i a)=orA (i + 1) a:=by
 unfold orA
 rcases Int.lt_trichotomy a i with h | h | h
 ·rw [jl0 h,jl0 (show a < i + 1 by omega),show ieq a i=false from decide_eq_false (by omega)];rfl
 ·subst h
  rw [jl0 (show a < a + 1 by omega),show ieq a a=true from decide_eq_true rfl];rfl
 ·rw [qb6 (show i<=a by omega),qb6 (show i + 1<=a by omega),show ieq a i=false from decide_eq_false (by omega)];rfl
theorem vq2 {m n:Int} {l:Int->Nat->Int} (hr:intRow .i64 1 m (.fn λ i j=>.v (.int .i64 (l i j)))) (h0:ile 0 m=true) (A:List Prop):jj5 Tryd.prog 60 [.x (.c (.slc 1 m (.fn λ i j=>.v (.int .i64 (l i j))))),.x (.c (.v (.int .i64 n)))] ⟨[.c (.fresh 1 (orN m l n) (.fn λ i j=>.v (.int .i64 (orW m l i)))),.c (.v (.bool (orB m l n)))],[],A⟩:=by
 have hm:=jg1 h0
 refine QR.ja2 (O:=q42) (QR.ja3 y60 QR.jb2) mixed (λ k=>bif Nat.beq k 10 then some (.invs [q41 m l n]) else none) Tryd.func60 (by kernel_rfl) (by kernel_rfl) (by simp) ?_
 rw [ya5]
 try dsimp only
 have VF:orB m l n=false->jb6 ⟨[.c (.fresh 1 (orN m l n) (.fn λ i j=>.v (.int .i64 (orW m l i)))),.c (.v (.bool (orB m l n)))],[],A⟩ [.c (.v (.slice none 0 0)),.c (.v (.bool false))] []:=λ hb=>by
  simp [jb6,eqXs,eqX,eqo,eqLo,eqL,eqc,veq,eqUs,nilC,hb,orN]
 have VT:∀r:QR.Row,orB m l n=true->(∀(i:Int) (j:Nat),0<=i->i < n->j < 1->den r i j=.v (.int .i64 (orW m l i)))->jb6 ⟨[.c (.fresh 1 (orN m l n) (.fn λ i j=>.v (.int .i64 (orW m l i)))),.c (.v (.bool (orB m l n)))],[],A⟩ [.c (.fresh 1 n r),.c (.v (.bool true))] []:=λ r hb e=>by
  simp only [jb6,eqXs,eqX,eqo,eqLo,eqL,eqc,veq,eqUs,hb,orN,if_true,true_and,and_true]
  refine .slc λ i j hi hj=>?_
  rw [e i j (Int.natCast_nonneg i) hi hj]
  exact .v _
 generalize jb6 ⟨[.c (.fresh 1 (orN m l n) (.fn λ i j=>.v (.int .i64 (orW m l i)))),.c (.v (.bool (orB m l n)))],[],A⟩=V at *
 simp only [forall_eq,true_and,and_true,implies_true,reduceCtorEq,and_false,false_and,exists_false,or_false,false_or]
 rw [ja1]
 refine ⟨λ c=>VF (y58 λ k=>by have:=of_decide_eq_true c;omega),λ c0=>?_⟩
 rw [ja1]
 refine ⟨λ c=>VF (y58 λ k=>by have:=of_decide_eq_true c;omega),λ c1=>?_⟩
 have n0:=of_decide_eq_false c0
 have n1:=of_decide_eq_false c1
 have mk:ile 0 n=true/\ile n n=true/\ile (jd8 n 8) 140737488355328=true/\ile n 140737488355328=true:=⟨jb4 (by omega),jb4 (by omega),jb4 (by unfold jd8;omega),jb4 (by omega)⟩
 have ia:∀i:Int,0<=i->i < n->iadd .i64 i 1=i + 1:=λ i i0 i1=>IntWalk.i64_in _ (by omega)
 have mu:∀i:Int,i < n->Nat.le (Nat.succ (orMu n (i + 1))) (orMu n i):=λ i i1=>by show orMu n (i + 1) < orMu n i;unfold orMu;omega
 rw [ja1]
 refine ⟨λ c2=>?_,λ c2=>?_⟩
 ·have m0:m≠0:=by unfold ine at c2;simpa using c2
  refine ⟨⟨hr,jl0 (by omega),jb4 (by omega),jb4 (by omega)⟩,?_⟩
  have pe:orP m (λ i x=>l i 0) n=orB m l n:=by
   rw [Bool.eq_iff_iff,vg7,qe7]
   have:orI m (λ i x=>l i 0) n n↔orI m l n n:=by unfold orI orW;simp [m0]
   rw [this]
   exact ⟨λ k=>⟨⟨by omega,by omega⟩,Or.inr k.1,k.2⟩,λ k=>⟨k.2.1.resolve_left m0,k.2.2⟩⟩
  rw [pe,ja1]
  refine ⟨λ c3=>VF (by cases q:orB m l n <;> simp_all [bnot]),λ c3=>⟨mk,?_⟩⟩
  have hb:orB m l n=true:=by cases q:orB m l n <;> simp_all [bnot]
  obtain rfl:m=n:=(qe7.1 hb).2.1.resolve_left m0
  rw [ja1]
  refine ⟨λ _=>VT _ hb ?_,λ q=>by rw [c2] at q;simp at q⟩
  intro a b a0 a1 b0
  obtain rfl:b=0:=by omega
  rw [y57 (show 0 < m by omega)]
  have e1:addZ 0 (jf0 m m)=m:=by rw [show jf0 m m=m by unfold jf0;split <;> rfl];show 0 + m=m;omega
  rw [e1]
  have c1:ilt a m=true:=jl0 a1
  have c2:ilt a 0=false:=qb6 a0
  have c3:subZ a 0=a:=by show a - 0=a;omega
  rw [show den (.app (.app (.zer [Value.int .i64 0]) 0 (.fn λ i j=>CV.v (.int .i64 (l i j)))) m (.sub (.zer [Value.int .i64 0]) m)) a 0=csel (ilt a m) (csel (ilt a 0) (.v (.int .i64 0)) (.v (.int .i64 (l (subZ a 0) 0)))) (.v (.int .i64 0)) from rfl,c1,c2,c3]
  rfl
 ·have m0:m=0:=by unfold ine at c2;simpa using c2
  refine ⟨mk,?_⟩
  rw [ja1]
  refine ⟨λ q=>by rw [c2] at q;simp at q,λ _=>?_⟩
  refine ⟨⟨0,⟨by omega,by omega⟩,rfl,λ k _=>zb8 _ (Int.natCast_nonneg k)⟩,λ i hi=>?_⟩
  rw [ja1]
  refine ⟨λ c=>?_,λ c=>?_⟩
  ·have lt:=of_decide_eq_true c
   exact ⟨⟨jb4 hi.1,c⟩,i + 1,⟨by have:=hi.1;omega,by omega⟩,⟨ia i hi.1 lt,λ q _=>yj2 _⟩,mu i lt⟩
  ·have lt:=of_decide_eq_false c
   have hi':=hi
   unfold orT at hi'
   obtain rfl:i=n:=by omega
   subst m0
   refine VT _ (qe7.2 ⟨⟨by omega,by omega⟩,Or.inl rfl,⟨by omega,by omega⟩,λ j j0 j1=>?_⟩) ?_
   ·simp only [vq1];exact ⟨⟨j0,j1⟩,λ k k0 k1=>by omega⟩
   ·intro a b a0 a1 b0
    show CV.v (.int .i64 (orA i a))=_
    rw [vq1]
    unfold orA
    rw [jl0 a1];rfl
theorem yj3:jb0 60 qj2:=by
 intro al ans hh hq
 unfold qj2 at hh
 split at hh <;> try (simp at hh;done)
 rename_i c n
 cases e:jf1 1 c with
 | none=>rw [e] at hh;simp at hh
 | some p =>
  obtain ⟨m,r⟩:=p
  rw [e] at hh
  simp only [Option.some.injEq] at hh
  subst hh
  obtain ⟨hr,hm,_⟩:=asked hq
  refine jd6 (al':=[.x (.c (.slc 1 m (ints .i64 r))),.x (.c (.v (.int .i64 n)))]) ⟨jj0 e (by decide) hr,.v _,trivial⟩ ?_
  unfold ints
  exact vq2 (n:=n) (qp2 _ _ _ _) hm _
end Go.Proofs.YthkidembkknoeaaDoor
namespace Go.Proofs.YthkidembkknoeaaDoor
open Go.RowKit PR QR
set_option linter.unusedVariables false
set_option linter.unusedSimpArgs false
set_option maxRecDepth 20000
theorem zb7 {m i:Int} (l:Int->Nat->Int) (h0:0<=i):atV m (l i 0) i=pmA m l i.toNat:=by
 unfold atV pmA
 rw [Int.toNat_of_nonneg h0]
 by_cases c:i < m
 ·rw [if_pos ⟨h0,c⟩,if_pos c]
 ·rw [if_neg (λ k=>c k.2),if_neg c]
theorem ya4 {m n i:Int} {l:Int->Nat->Int} (h0:0<=i) (h1:i < n) (hn:n<=64) (q:Nat) (hq:ilt (Int.ofNat q) (addZ (subZ (pmKI m l n i) 0) (subZ (subZ n i) (iadd .i64 (pmKI m l n i) 1)))=true) :
  isel (ilt (Int.ofNat q) (subZ (pmKI m l n i) 0)) (pmR m l n i (addZ (Int.ofNat q) 0)) (pmR m l n i (addZ (subZ (Int.ofNat q) (subZ (pmKI m l n i) 0)) (iadd .i64 (pmKI m l n i) 1)))=pmR m l n (i + 1) (Int.ofNat q):=by
 obtain ⟨_,k2,k3⟩:=vl9 m l h0 h1
 have e1:iadd .i64 (pmKI m l n i) 1=pmKI m l n i + 1:=IntWalk.i64_in _ (by omega)
 have q0:(0:Int)<=Int.ofNat q:=Int.natCast_nonneg q
 rw [e1]
 unfold addZ subZ
 rw [Int.sub_zero,Int.add_zero,show Int.ofNat q - pmKI m l n i + (pmKI m l n i + 1)=Int.ofNat q + 1 by omega,<- yj0 (a:=Int.ofNat q) m l h0 h1 q0]
 by_cases c:Int.ofNat q < pmKI m l n i
 ·rw [jl0 c,qp3,if_pos c]
 ·rw [qb6 (by omega),va8,if_neg c]
theorem yw3 {m n i:Int} {l:Int->Nat->Int} (h0:0<=i) (h1:i < n) (q:Nat) (hq:ilt (Int.ofNat q) (addZ i 1)=true) :
  isel (ilt (Int.ofNat q) i) (pmO m l n i (Int.ofNat q)) (isel (ieq (subZ (Int.ofNat q) i) 0) (pmR m l n i (pmKI m l n i)) 0)=pmO m l n (i + 1) (Int.ofNat q):=by
 have hq:Int.ofNat q < i + 1:=jg6 hq
 rw [<- vm0 (a:=Int.ofNat q) m l h0 h1 (Int.natCast_nonneg q) hq]
 by_cases c:Int.ofNat q < i
 ·rw [jl0 c,qp3,if_pos c]
 ·have e:Int.ofNat q=i:=by omega
  rw [qb6 (by omega),va8,if_neg c,e]
  unfold subZ
  rw [Int.sub_self,show ieq 0 0=true from rfl,qp3]
theorem yw4:jb0 25 q38:=by
 intro al ans hh hq
 unfold q38 at hh
 split at hh <;> try (simp at hh;done)
 rename_i c n
 cases em:jf1 1 c with
 | none=>simp [em] at hh
 | some pm =>
 obtain ⟨m,rm⟩:=pm
 simp only [em] at hh
 simp only [Option.some.injEq] at hh
 subst hh
 obtain ⟨l,hdm⟩:∃l:Int->Nat->Int,l=λ i j=>intC (den rm i j):=⟨_,rfl⟩
 try rw [<- hdm]
 refine jd6 (al':=[.x (.c (.slc 1 m (.fn λ i j=>.v (.int .i64 (l i j))))),.x (.c (.v (.int .i64 n)))]) ⟨(hdm▸jj0 em (by decide) (hq _ (by simp))),.v _,trivial⟩ ?_
 have hq:=asked hq
 refine QR.ja2 (O:=vg6) (QR.ja3 a_at (QR.ja3 (up qj8) QR.jb2)) mixed ((λ k=>bif Nat.beq k 5 then some (.inv (q39 m l n)) else bif Nat.beq k 10 then some (.invs [qp9 m l n,qq0 m l n]) else none)) Tryd.func25 (by kernel_rfl) (by kernel_rfl) (by simp) ?_
 rw [yi6]
 obtain ⟨hr,hm,hn,_⟩:=hq
 have hn':=jg1 hn
 simp only [forall_eq]
 by_cases c1:m=0
 ·have z:pmN m n=0:=by unfold pmN pmB;simp [c1]
  subst c1
  simp [jb6,eqXs,eqX,eqo,eqLo,eqL,eqc,veq,eqUs,ja1,nilC,z,qh7]
 have d1:ieq m 0=false:=by unfold ieq;exact decide_eq_false c1
 by_cases c2:n<=64
 rotate_left
 ·have z:pmN m n=0:=by unfold pmN pmB;simp [c1,c2]
  have d2:igt n 64=true:=by rw [v00];simp [c2]
  simp [jb6,eqXs,eqX,eqo,eqLo,eqL,eqc,veq,eqUs,ja1,nilC,z,d1,d2]
 have z:pmN m n=n:=by unfold pmN pmB;simp [c1,c2]
 have d2:igt n 64=false:=by rw [v00];simp [c2]
 have f1:ile n n=true:=jb4 (Int.le_refl n)
 have f2:ile (jd8 n 8) 140737488355328=true:=jb4 (by unfold jd8;omega)
 have f3:ile n 140737488355328=true:=jb4 (by omega)
 have mu:∀i:Int,i < n->Nat.le (Nat.succ (pfMu n (i + 1))) (pfMu n i):=λ i h=>by show pfMu n (i + 1) < pfMu n i;unfold pfMu;omega
 have ia:∀i:Int,0<=i->i < n->iadd .i64 i 1=i + 1:=λ i h0 h1=>IntWalk.i64_in _ (by omega)
 simp only [jb6,eqXs,eqX,eqo,eqLo,eqL,eqc,veq,eqUs,ja1,d1,d2,hn,f1,f2,f3,z,nilC,qp2,true_and,and_true,and_self,implies_true,reduceCtorEq,false_implies,true_implies,Bool.false_eq_true,or_false,false_or,false_and,and_false,exists_false]
 have eK:∀i,0<=i->gmod (atV m (l i 0) i) (subZ n i)=pmKI m l n i:=λ i h=>by rw [zb7 l h];rfl
 have step:∀i,0<=i->i < n->(jb8 (subZ n i)=true/\ile (jd8 (addZ i 1) 8) 140737488355328=true/\ile 0 (pmKI m l n i)=true/\ilt (pmKI m l n i) (subZ n i)=true)/\
   (ile (jd8 (addZ (subZ (pmKI m l n i) 0) (subZ (subZ n i) (iadd .i64 (pmKI m l n i) 1))) 8) 140737488355328=true/\ile 0 (iadd .i64 (pmKI m l n i) 1)=true/\ile (iadd .i64 (pmKI m l n i) 1) (subZ n i)=true/\ile (subZ n i) (subZ n i)=true/\ile (jd8 (subZ (pmKI m l n i) 0) 8) 140737488355328=true/\ile 0 (pmKI m l n i)=true/\ile (pmKI m l n i) (subZ n i)=true)/\
   addZ (subZ (pmKI m l n i) 0) (subZ (subZ n i) (iadd .i64 (pmKI m l n i) 1))=subZ n (i + 1):=by
  intro i i0 i1
  obtain ⟨_,k2,k3⟩:=vl9 m l i0 i1
  have e1:iadd .i64 (pmKI m l n i) 1=pmKI m l n i + 1:=IntWalk.i64_in _ (by omega)
  rw [e1]
  refine ⟨⟨decide_eq_true (by unfold subZ;omega),jb4 (by unfold jd8 addZ;omega),jb4 k2,jl0 (by unfold subZ;omega)⟩,⟨jb4 (by unfold jd8 addZ subZ;omega),jb4 (by omega),jb4 (by unfold subZ;omega),jb4 (Int.le_refl _),jb4 (by unfold jd8 subZ;omega),jb4 k2,jb4 (by unfold subZ;omega)⟩,by unfold addZ subZ;omega⟩
 have sub0:n=subZ n 0:=by unfold subZ;omega
 refine ⟨⟨0,⟨Int.le_refl 0,hn'⟩,rfl,λ q hq=>?_⟩,λ i hi=>⟨λ c=>?_,λ c=>?_⟩⟩
 ·have:(0:Int)<=Int.ofNat q:=Int.natCast_nonneg q
  unfold pfV;rw [if_neg (by omega)]
 ·have lt:=jg6 c
  have i0:=hi.1
  refine ⟨⟨jb4 i0,c⟩,i + 1,⟨by omega,by omega⟩,⟨ia i i0 lt,λ q hq=>?_⟩,mu i lt⟩
  unfold pfV
  by_cases e:Int.ofNat q=i
  ·rw [e,qh7,qp3,if_pos (by omega)]
  ·rw [show ieq (Int.ofNat q) i=false from decide_eq_false e,va8]
   by_cases c2:Int.ofNat q < i
   ·rw [if_pos c2,if_pos (by omega)]
   ·rw [if_neg c2,if_neg (by omega)]
 ·have e:n=i:=by have:=jt7 c;have:=hi.2;omega
  subst e
  refine ⟨⟨0,⟨⟨Int.le_refl 0,hn'⟩,rfl⟩,⟨sub0,rfl⟩,sub0,λ q hq=>?_⟩,λ i hi=>?_,λ i hi=>?_⟩
  ·have h0:(0:Int)<=Int.ofNat q:=Int.natCast_nonneg q
   have h1:=jg6 hq
   rw [zb6 m l h0 h1]
   unfold pfV
   rw [if_pos h1]
  ·obtain ⟨⟨i0,i1⟩,rfl⟩:=hi
   refine ⟨λ c=>?_,λ c=>?_⟩
   ·have lt:0 < n:=by have:=of_decide_eq_true c;unfold subZ at this;omega
    obtain ⟨⟨s1,_,s3,s4⟩,s5,s6⟩:=step 0 (Int.le_refl 0) lt
    rw [eK 0 (Int.le_refl 0)]
    refine ⟨s1,⟨s3,s4⟩,s5,1,⟨⟨by omega,by omega⟩,Int.le_refl 1⟩,⟨⟨s6,rfl,rfl⟩,⟨s6,λ q hq=>ya4 (Int.le_refl 0) lt c2 q hq⟩,rfl,λ q hq=>?_⟩,mu 0 lt⟩
    have q1:Int.ofNat q=0:=by have h0:(0:Int)<=Int.ofNat q:=Int.natCast_nonneg q;have:=jg6 hq;omega
    rw [q1,qh7,qp3]
    have:=vm0 (a:=0) m l (Int.le_refl 0) lt (Int.le_refl 0) (by decide)
    rw [if_neg (by decide)] at this
    exact this
   ·have:¬ subZ n 0 > 0:=of_decide_eq_false c
    exact ⟨rfl,by unfold subZ at this;omega⟩
  ·obtain ⟨⟨i0,i1⟩,i2⟩:=hi
   refine ⟨λ c=>?_,λ c=>?_⟩
   ·have lt:i < n:=by have:=of_decide_eq_true c;unfold subZ at this;omega
    obtain ⟨⟨s1,s2,s3,s4⟩,s5,s6⟩:=step i i0 lt
    rw [eK i i0]
    exact ⟨s1,⟨s2,s3,s4⟩,s5,i + 1,⟨⟨by omega,by omega⟩,by omega⟩,⟨⟨s6,rfl,ia i i0 lt⟩,⟨s6,λ q hq=>ya4 i0 lt c2 q hq⟩,rfl,λ q hq=>yw3 i0 lt q hq⟩,mu i lt⟩
   ·have:¬ subZ n i > 0:=of_decide_eq_false c
    have e:n=i:=by unfold subZ at this;omega
    subst e
    refine .slc λ q j hq hj=>?_
    have e2:pmO m (λ i _=>intC (den rm i 0)) n n q=pmO m l n n q:=by rw [hdm];rfl
    show EqC (.v (.int .i64 (pmO m l n n q))) (.v (.int .i64 (pmO m (λ i _=>intC (den rm i 0)) n n q)))
    rw [e2]
    exact .v _
end Go.Proofs.YthkidembkknoeaaDoor
namespace Go.Proofs.YthkidembkknoeaaDoor
open Go.RowKit PR QR
set_option linter.unusedVariables false
set_option linter.unusedSimpArgs false
set_option maxRecDepth 20000
theorem vl7 {a b:Int} (h:a<=b):igt a b=false:=decide_eq_false (by omega)
theorem y55 {a b c d w h:Int} (k:¬ tiB a b c d w h=true):tiX a b c d w h=0:=by unfold tiX;rw [if_neg k]
theorem y56 {a b c d w h:Int} (k:¬ tiB a b c d w h=true):tiY a b c d w h=0:=by unfold tiY;rw [if_neg k]
theorem vl8 {a b c d w h:Int} (k:¬ tiB a b c d w h=true) (e:reB a b c d=false) (l0:ilt w 1=false) (l1:igt w (isub .i64 c a)=false) (l2:ilt h 1=false) (l3:igt h (isub .i64 d b)=false):False:=by
 apply k
 obtain ⟨⟨f0,f1,f2,f3⟩,g0,g1⟩:=re_f.1 e
 unfold F30 at f0 f1 f2 f3
 rw [qa9 (by omega)] at l1 l3
 have:=of_decide_eq_false l0
 have:=of_decide_eq_false l1
 have:=of_decide_eq_false l2
 have:=of_decide_eq_false l3
 unfold tiB
 rw [decide_eq_true_eq]
 exact ⟨e,⟨by omega,by omega⟩,by omega,by omega⟩
theorem yi4:jb0 24 jo0:=by
 intro al ans h hq
 unfold jo0 at h
 split at h <;> try (simp at h;done)
 rename_i a b c d w h
 simp only [Option.some.injEq] at h
 subst h
 have hq:=asked hq
 refine QR.ja2 (O:=q36) (QR.ja3 yg1 QR.jb2) mixed (QR.ja4) Tryd.func24 (by kernel_rfl) (by kernel_rfl) (by simp) ?_
 rw [ya2]
 by_cases k:tiB a b c d w h=true
 ·obtain ⟨⟨⟨f0,f1,f2,f3⟩,g0,g1⟩,⟨hw,hw'⟩,hh,hh'⟩:=yv9 k
  have e:reB a b c d=false:=re_f.2 ⟨⟨f0,f1,f2,f3⟩,g0,g1⟩
  unfold F30 at f0 f1 f2 f3
  have s0:isub .i64 c a=c - a:=qa9 (by omega)
  have s1:isub .i64 d b=d - b:=qa9 (by omega)
  have l0:=qb6 hw
  have l1:=vl7 hw'
  have l2:=qb6 hh
  have l3:=vl7 hh'
  have n0:ine w 0=true:=vf5 (by omega)
  have n1:ine h 0=true:=vf5 (by omega)
  have d0:=(jk6 hw hw').1
  have d1:=(jk6 hh hh').1
  have q0:iadd .i64 (iquo .i64 (isub .i64 (c - a) 1) w) 1=tiX a b c d w h:=by
   rw [qa9 (by omega),vl6 (by omega) (by omega) hw,yi2 k,vk5 (by omega)]
  have q1:iadd .i64 (iquo .i64 (isub .i64 (d - b) 1) h) 1=tiY a b c d w h:=by
   rw [qa9 (by omega),vl6 (by omega) (by omega) hh,yi3 k,vk5 (by omega)]
  simp [jb6,eqXs,eqX,eqo,eqLo,eqL,eqc,veq,eqUs,ja1,bnot,e,s0,s1,l0,l1,l2,l3,n0,n1,q0,q1,k]
 ·have kX:=y55 k
  have kY:=y56 k
  cases e:reB a b c d <;> cases l0:ilt w 1 <;> cases l1:igt w (isub .i64 c a) <;> cases l2:ilt h 1 <;> cases l3:igt h (isub .i64 d b)
  all_goals first
   | (exfalso;exact vl8 k e l0 l1 l2 l3)
   | (simp [jb6,eqXs,eqX,eqo,eqLo,eqL,eqc,veq,eqUs,ja1,bnot,e,l0,l1,l2,l3,k,kX,kY];done)
end Go.Proofs.YthkidembkknoeaaDoor
namespace Go.Proofs.YthkidembkknoeaaDoor
open Go.RowKit PR QR
set_option linter.unusedVariables false
set_option linter.unusedSimpArgs false
set_option maxRecDepth 20000
theorem yi7:jb0 59 qj1:=by
 intro al ans h hq
 unfold qj1 at h
 split at h <;> try (simp at h;done)
 rename_i a b
 simp only [Option.some.injEq] at h
 subst h
 have hq:=asked hq
 refine QR.ja2 (O:=(QR.orc [])) QR.jb2 mixed (QR.ja4) Tryd.func59 (by kernel_rfl) (by kernel_rfl) (by simp) ?_
 rw [ya0]
 have hb:=hq.1
 simp [jb6,eqXs,eqX,eqo,eqLo,eqL,eqc,veq,eqUs,hb]
theorem yi8:jb0 33 jo0:=by
 intro al ans h hq
 unfold jo0 at h
 split at h <;> try (simp at h;done)
 rename_i a b c d w h
 simp only [Option.some.injEq] at h
 subst h
 have hq:=asked hq
 refine QR.ja2 (O:=q34) (QR.ja3 vk4 (QR.ja3 yi7 QR.jb2)) mixed (QR.ja4) Tryd.func33 (by kernel_rfl) (by kernel_rfl) (by simp) ?_
 rw [ya1]
 simp only [forall_eq]
 by_cases k:tiB a b c d w h=true
 ·obtain ⟨⟨⟨f0,f1,f2,f3⟩,g0,g1⟩,⟨hw,hw'⟩,hh,hh'⟩:=yv9 k
  have e:reB a b c d=false:=re_f.2 ⟨⟨f0,f1,f2,f3⟩,g0,g1⟩
  unfold F30 at f0 f1 f2 f3
  have s0:isub .i64 c a=c - a:=qa9 (by omega)
  have s1:isub .i64 d b=d - b:=qa9 (by omega)
  have l0:=qb6 hw
  have l1:=vl7 hw'
  have l2:=qb6 hh
  have l3:=vl7 hh'
  have n0:ine w 0=true:=vf5 (by omega)
  have n1:ine h 0=true:=vf5 (by omega)
  have d0:=(jk6 hw hw').1
  have d1:=(jk6 hh hh').1
  have q0:iquo .i64 (isub .i64 (iadd .i64 (c - a) w) 1) w=tiX a b c d w h:=by
   rw [vk5 (by omega),qa9 (by omega),vl6 (by omega) (by omega) hw,yi2 k,show c - a + w - 1=c - a - 1 + 1 * w by omega,Int.add_mul_ediv_right _ _ (by omega)]
  have q1:iquo .i64 (isub .i64 (iadd .i64 (d - b) h) 1) h=tiY a b c d w h:=by
   rw [vk5 (by omega),qa9 (by omega),vl6 (by omega) (by omega) hh,yi3 k,show d - b + h - 1=d - b - 1 + 1 * h by omega,Int.add_mul_ediv_right _ _ (by omega)]
  simp [jb6,eqXs,eqX,eqo,eqLo,eqL,eqc,veq,eqUs,ja1,bnot,e,s0,s1,l0,l1,l2,l3,n0,n1,q0,q1,k]
 ·have kX:=y55 k
  have kY:=y56 k
  cases e:reB a b c d <;> cases l0:ilt w 1 <;> cases l1:igt w (isub .i64 c a) <;> cases l2:ilt h 1 <;> cases l3:igt h (isub .i64 d b)
  all_goals first
   | (exfalso;exact vl8 k e l0 l1 l2 l3)
   | (simp [jb6,eqXs,eqX,eqo,eqLo,eqL,eqc,veq,eqUs,ja1,bnot,e,l0,l1,l2,l3,k,kX,kY];done)
end Go.Proofs.YthkidembkknoeaaDoor
namespace Go.Proofs.YthkidembkknoeaaDoor
open Go.RowKit PR QR
set_option linter.unusedVariables false
set_option linter.unusedSimpArgs false
set_option maxRecDepth 20000
theorem y61 (l:Int->Nat->Int) {n:Int} (h0:0<=n):orI 0 l n n :=
 ⟨⟨h0,Int.le_refl n⟩,λ j j0 j1=>⟨by rw [vq1];omega,λ k _ hk=>by rw [vq1,vq1];omega⟩⟩
theorem yw5 (m:Int) (l:Int->Nat->Int) {n:Int} (h0:0<=n) (h1:n<=64):orB (pmN m n) (λ i _=>pmO m l n n i) n=true:=by
 refine qe7.2 ⟨⟨h0,by omega⟩,?_⟩
 unfold pmN
 by_cases c:pmB m n=true
 ·rw [if_pos c]
  by_cases z:n=0
  ·subst z;exact ⟨Or.inl rfl,y61 _ (Int.le_refl 0)⟩
  ·exact ⟨Or.inr rfl,yi9 m l (by omega)⟩
 ·rw [if_neg c]
  exact ⟨Or.inl rfl,y61 _ h0⟩
end Go.Proofs.YthkidembkknoeaaDoor
