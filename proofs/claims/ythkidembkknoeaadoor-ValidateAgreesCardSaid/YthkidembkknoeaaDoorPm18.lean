import Derived.Test.YthkidembkknoeaaDoorPm17
import Derived.Test.YthkidembkknoeaaDoorPm13
import Derived.Test.YthkidembkknoeaaDoorPm16
import Derived.Test.YthkidembkknoeaaDoorPm05
import Derived.Test.YthkidembkknoeaaDoorPm06
namespace Go.Proofs.YthkidembkknoeaaDoor
open Go.RowKit PR QR
set_option linter.unusedVariables false
set_option linter.unusedSimpArgs false
set_option maxRecDepth 20000
theorem vk6 {m:Int} {l:Int->Nat->Int} {n:Int}:orP m l n=true↔m=n/\orI m l n n:=by unfold orP;rw [@decide_eq_true_eq _ (Classical.propDecidable _)]
theorem zd2 {m:Int} {l:Int->Nat->Int} {n:Int} (h:¬ (m=n/\orI m l n n)):orP m l n=false:=by rw [<- Bool.not_eq_true,vk6];exact h
theorem yp8 {m n:Int} (hm:0 < m) (hn:0<=n) (hn':n<=16777216) (l:Int->Nat->Int) (A:List Prop):ji5 Tryd.prog 79 [.x (.c (.slc 1 m (.fn λ i j=>.v (.int .i64 (l i j))))),.x (.c (.v (.int .i64 n)))] ⟨[.c (.v (.bool (orP m l n)))],[],A⟩:=by
 refine QR.ja2 (O:=QR.orc []) QR.jb1 mixed (λ k=>bif Nat.beq k 5 then some (.invs [q75 m l n]) else none) Tryd.func79 (by kernel_rfl) (by kernel_rfl) (by simp) ?_
 rw [y55]
 try dsimp only
 have VF:orP m l n=false->jb4 ⟨[.c (.v (.bool (orP m l n)))],[],A⟩ [.c (.v (.bool false))] []:=λ hb=>by
  simp [jb4,eqXs,eqX,eqo,eqLo,eqL,eqc,veq,eqUs,hb]
 have VT:orP m l n=true->jb4 ⟨[.c (.v (.bool (orP m l n)))],[],A⟩ [.c (.v (.bool true))] []:=λ hb=>by
  simp [jb4,eqXs,eqX,eqo,eqLo,eqL,eqc,veq,eqUs,hb]
 generalize jb4 ⟨[.c (.v (.bool (orP m l n)))],[],A⟩=V at *
 simp only [forall_eq,true_and,and_true,implies_true,reduceCtorEq,and_false,false_and,exists_false,or_false,false_or]
 rw [ja1]
 refine ⟨λ c=>VF (zd2 λ k=>by rw [k.1,zb6] at c;simp at c),λ c0=>?_⟩
 obtain rfl:m=n:=Classical.byContradiction λ q=>by rw [ve4 q] at c0;simp at c0
 have w:∀i,l i 0=orW m l i:=λ i=>(y49 hm l i).symm
 simp only [w]
 have mk:ile 0 m=true/\ile m m=true/\ile (jd2 m 1) 140737488355328=true/\ile m 140737488355328=true:=⟨jb2 (by omega),jb2 (by omega),jb2 (by unfold jd2;omega),jb2 (by omega)⟩
 have ia:∀i:Int,0<=i->i < m->iadd .i64 i 1=i + 1:=λ i i0 i1=>IntWalk.i64_in _ (by omega)
 have mu:∀i:Int,i < m->Nat.le (Nat.succ (orMu m (i + 1))) (orMu m i):=λ i i1=>by show orMu m (i + 1) < orMu m i;unfold orMu;omega
 have bad:∀i,0<=i->i < m->¬ ((0<=orW m l i/\orW m l i < m)/\orS m l i (orW m l i)=false)->orP m l m=false:=λ i i0 i1 h=>zd2 λ k=>h (yf8 k.2 i0 i1)
 refine ⟨mk,⟨0,⟨⟨by omega,by omega⟩,λ j j0 j1=>by omega⟩,rfl,λ k _=>(y50 _ _ _).symm⟩,λ i hi=>?_⟩
 have i0:=hi.1.1
 have iN:=hi.1.2
 rw [ja1]
 refine ⟨λ c=>?_,λ c=>?_⟩
 ·have lt:=of_decide_eq_true c
  refine ⟨⟨jb2 i0,ji1 (by omega)⟩,?_⟩
  rw [ja1]
  refine ⟨λ d=>VF (bad i i0 lt λ h=>by have:=of_decide_eq_true d;have:=h.1;omega),λ d0=>?_⟩
  rw [ja1]
  refine ⟨λ d=>VF (bad i i0 lt λ h=>by have:=of_decide_eq_true d;have:=h.1;omega),λ d1=>?_⟩
  have k0:0<=orW m l i:=by have:=of_decide_eq_false d0;omega
  have k1:orW m l i < m:=by have:=of_decide_eq_false d1;omega
  have a0:ile 0 (orW m l i)=true/\ilt (orW m l i) m=true:=⟨jb2 k0,ji1 k1⟩
  refine ⟨a0,?_⟩
  rw [ja1]
  refine ⟨λ d=>VF (bad i i0 lt λ h=>by rw [d] at h;simp at h),λ k2=>?_⟩
  exact ⟨a0,i + 1,qt0 hi lt k0 k1 k2,⟨ia i i0 lt,λ q _=>qe6 i0 q⟩,mu i lt⟩
 ·have lt:=of_decide_eq_false c
  obtain rfl:i=m:=by omega
  exact VT (vk6.2 ⟨rfl,hi⟩)
theorem zd3:ja6 79 vq3:=by
 intro al ans hh hq
 unfold vq3 at hh
 split at hh <;> try (simp at hh;done)
 rename_i c n
 cases e:jf4 1 c with
 | none=>rw [e] at hh;simp at hh
 | some p =>
  obtain ⟨m,r⟩:=p
  rw [e] at hh
  simp only [Option.some.injEq] at hh
  subst hh
  obtain ⟨hr,hm,h0,h1,_⟩:=asked hq
  refine jc0 (al':=[.x (.c (.slc 1 m (ints .i64 r))),.x (.c (.v (.int .i64 n)))]) ⟨jh1 e (by decide) hr,.v _,trivial⟩ ?_
  unfold ints
  exact yp8 (n:=n) (ji8 hm) (je3 h0) (je3 h1) (λ i j=>intC (den r i j)) _
theorem zh8 (a:Int) (h:0<=a):(0:Int)=orA 0 a:=by unfold orA;rw [qk5 h];rfl
theorem yp9 {i:Int} (a:Int):isel (ieq a i) i (orA i a)=orA (i + 1) a:=by
 unfold orA
 rcases Int.lt_trichotomy a i with h | h | h
 ·rw [ji1 h,ji1 (show a < i + 1 by omega),show ieq a i=false from decide_eq_false (by omega)];rfl
 ·subst h
  rw [ji1 (show a < a + 1 by omega),show ieq a a=true from decide_eq_true rfl];rfl
 ·rw [qk5 (show i<=a by omega),qk5 (show i + 1<=a by omega),show ieq a i=false from decide_eq_false (by omega)];rfl
theorem vv5 {m n:Int} {l:Int->Nat->Int} (hr:intRow .i64 1 m (.fn λ i j=>.v (.int .i64 (l i j)))) (h0:ile 0 m=true) (A:List Prop):ji5 Tryd.prog 60 [.x (.c (.slc 1 m (.fn λ i j=>.v (.int .i64 (l i j))))),.x (.c (.v (.int .i64 n)))] ⟨[.c (.fresh 1 (orN m l n) (.fn λ i j=>.v (.int .i64 (orW m l i)))),.c (.v (.bool (orB m l n)))],[],A⟩:=by
 have hm:=je3 h0
 refine QR.ja2 (O:=q77) (QR.ja3 zd3 QR.jb1) mixed (λ k=>bif Nat.beq k 10 then some (.invs [q76 m l n]) else none) Tryd.func60 (by kernel_rfl) (by kernel_rfl) (by simp) ?_
 rw [yg1]
 try dsimp only
 have VF:orB m l n=false->jb4 ⟨[.c (.fresh 1 (orN m l n) (.fn λ i j=>.v (.int .i64 (orW m l i)))),.c (.v (.bool (orB m l n)))],[],A⟩ [.c (.v (.slice none 0 0)),.c (.v (.bool false))] []:=λ hb=>by
  simp [jb4,eqXs,eqX,eqo,eqLo,eqL,eqc,veq,eqUs,nilC,hb,orN]
 have VT:∀r:QR.Row,orB m l n=true->(∀(i:Int) (j:Nat),0<=i->i < n->j < 1->den r i j=.v (.int .i64 (orW m l i)))->jb4 ⟨[.c (.fresh 1 (orN m l n) (.fn λ i j=>.v (.int .i64 (orW m l i)))),.c (.v (.bool (orB m l n)))],[],A⟩ [.c (.fresh 1 n r),.c (.v (.bool true))] []:=λ r hb e=>by
  simp only [jb4,eqXs,eqX,eqo,eqLo,eqL,eqc,veq,eqUs,hb,orN,if_true,true_and,and_true]
  refine .slc λ i j hi hj=>?_
  rw [e i j (Int.natCast_nonneg i) hi hj]
  exact .v _
 generalize jb4 ⟨[.c (.fresh 1 (orN m l n) (.fn λ i j=>.v (.int .i64 (orW m l i)))),.c (.v (.bool (orB m l n)))],[],A⟩=V at *
 simp only [forall_eq,true_and,and_true,implies_true,reduceCtorEq,and_false,false_and,exists_false,or_false,false_or]
 rw [ja1]
 refine ⟨λ c=>VF (vv3 λ k=>by have:=of_decide_eq_true c;omega),λ c0=>?_⟩
 rw [ja1]
 refine ⟨λ c=>VF (vv3 λ k=>by have:=of_decide_eq_true c;omega),λ c1=>?_⟩
 have n0:=of_decide_eq_false c0
 have n1:=of_decide_eq_false c1
 have mk:ile 0 n=true/\ile n n=true/\ile (jd2 n 8) 140737488355328=true/\ile n 140737488355328=true:=⟨jb2 (by omega),jb2 (by omega),jb2 (by unfold jd2;omega),jb2 (by omega)⟩
 have ia:∀i:Int,0<=i->i < n->iadd .i64 i 1=i + 1:=λ i i0 i1=>IntWalk.i64_in _ (by omega)
 have mu:∀i:Int,i < n->Nat.le (Nat.succ (orMu n (i + 1))) (orMu n i):=λ i i1=>by show orMu n (i + 1) < orMu n i;unfold orMu;omega
 rw [ja1]
 refine ⟨λ c2=>?_,λ c2=>?_⟩
 ·have m0:m≠0:=by unfold ine at c2;simpa using c2
  refine ⟨⟨hr,ji1 (by omega),jb2 (by omega),jb2 (by omega)⟩,?_⟩
  have pe:orP m (λ i x=>l i 0) n=orB m l n:=by
   rw [Bool.eq_iff_iff,vk6,qa1]
   have:orI m (λ i x=>l i 0) n n↔orI m l n n:=by unfold orI orW;simp [m0]
   rw [this]
   exact ⟨λ k=>⟨⟨by omega,by omega⟩,Or.inr k.1,k.2⟩,λ k=>⟨k.2.1.resolve_left m0,k.2.2⟩⟩
  rw [pe,ja1]
  refine ⟨λ c3=>VF (by cases q:orB m l n <;> simp_all [bnot]),λ c3=>⟨mk,?_⟩⟩
  have hb:orB m l n=true:=by cases q:orB m l n <;> simp_all [bnot]
  obtain rfl:m=n:=(qa1.1 hb).2.1.resolve_left m0
  rw [ja1]
  refine ⟨λ _=>VT _ hb ?_,λ q=>by rw [c2] at q;simp at q⟩
  intro a b a0 a1 b0
  obtain rfl:b=0:=by omega
  rw [y49 (show 0 < m by omega)]
  have e1:addZ 0 (jf2 m m)=m:=by rw [show jf2 m m=m by unfold jf2;split <;> rfl];show 0 + m=m;omega
  rw [e1]
  have c1:ilt a m=true:=ji1 a1
  have c2:ilt a 0=false:=qk5 a0
  have c3:subZ a 0=a:=by show a - 0=a;omega
  rw [show den (.app (.app (.zer [Value.int .i64 0]) 0 (.fn λ i j=>CV.v (.int .i64 (l i j)))) m (.sub (.zer [Value.int .i64 0]) m)) a 0=csel (ilt a m) (csel (ilt a 0) (.v (.int .i64 0)) (.v (.int .i64 (l (subZ a 0) 0)))) (.v (.int .i64 0)) from rfl,c1,c2,c3]
  rfl
 ·have m0:m=0:=by unfold ine at c2;simpa using c2
  refine ⟨mk,?_⟩
  rw [ja1]
  refine ⟨λ q=>by rw [c2] at q;simp at q,λ _=>?_⟩
  refine ⟨⟨0,⟨by omega,by omega⟩,rfl,λ k _=>zh8 _ (Int.natCast_nonneg k)⟩,λ i hi=>?_⟩
  rw [ja1]
  refine ⟨λ c=>?_,λ c=>?_⟩
  ·have lt:=of_decide_eq_true c
   exact ⟨⟨jb2 hi.1,c⟩,i + 1,⟨by have:=hi.1;omega,by omega⟩,⟨ia i hi.1 lt,λ q _=>yp9 _⟩,mu i lt⟩
  ·have lt:=of_decide_eq_false c
   have hi':=hi
   unfold orT at hi'
   obtain rfl:i=n:=by omega
   subst m0
   refine VT _ (qa1.2 ⟨⟨by omega,by omega⟩,Or.inl rfl,⟨by omega,by omega⟩,λ j j0 j1=>?_⟩) ?_
   ·simp only [ve6];exact ⟨⟨j0,j1⟩,λ k k0 k1=>by omega⟩
   ·intro a b a0 a1 b0
    show CV.v (.int .i64 (orA i a))=_
    rw [ve6]
    unfold orA
    rw [ji1 a1];rfl
theorem yq0:ja6 60 jp4:=by
 intro al ans hh hq
 unfold jp4 at hh
 split at hh <;> try (simp at hh;done)
 rename_i c n
 cases e:jf4 1 c with
 | none=>rw [e] at hh;simp at hh
 | some p =>
  obtain ⟨m,r⟩:=p
  rw [e] at hh
  simp only [Option.some.injEq] at hh
  subst hh
  obtain ⟨hr,hm,_⟩:=asked hq
  refine jc0 (al':=[.x (.c (.slc 1 m (ints .i64 r))),.x (.c (.v (.int .i64 n)))]) ⟨jh1 e (by decide) hr,.v _,trivial⟩ ?_
  unfold ints
  exact vv5 (n:=n) (qe2 _ _ _ _) hm _
end Go.Proofs.YthkidembkknoeaaDoor
namespace Go.Proofs.YthkidembkknoeaaDoor
open Go.RowKit PR QR
set_option linter.unusedVariables false
set_option linter.unusedSimpArgs false
set_option maxRecDepth 20000
theorem zh7 {m i:Int} (l:Int->Nat->Int) (h0:0<=i):atV m (l i 0) i=pmA m l i.toNat:=by
 unfold atV pmA
 rw [Int.toNat_of_nonneg h0]
 by_cases c:i < m
 ·rw [if_pos ⟨h0,c⟩,if_pos c]
 ·rw [if_neg (λ k=>c k.2),if_neg c]
theorem yg0 {m n i:Int} {l:Int->Nat->Int} (h0:0<=i) (h1:i < n) (hn:n<=64) (q:Nat) (hq:ilt (Int.ofNat q) (addZ (subZ (pmKI m l n i) 0) (subZ (subZ n i) (iadd .i64 (pmKI m l n i) 1)))=true) :
  isel (ilt (Int.ofNat q) (subZ (pmKI m l n i) 0)) (pmR m l n i (addZ (Int.ofNat q) 0)) (pmR m l n i (addZ (subZ (Int.ofNat q) (subZ (pmKI m l n i) 0)) (iadd .i64 (pmKI m l n i) 1)))=pmR m l n (i + 1) (Int.ofNat q):=by
 obtain ⟨_,k2,k3⟩:=vq1 m l h0 h1
 have e1:iadd .i64 (pmKI m l n i) 1=pmKI m l n i + 1:=IntWalk.i64_in _ (by omega)
 have q0:(0:Int)<=Int.ofNat q:=Int.natCast_nonneg q
 rw [e1]
 unfold addZ subZ
 rw [Int.sub_zero,Int.add_zero,show Int.ofNat q - pmKI m l n i + (pmKI m l n i + 1)=Int.ofNat q + 1 by omega,<- yp7 (a:=Int.ofNat q) m l h0 h1 q0]
 by_cases c:Int.ofNat q < pmKI m l n i
 ·rw [ji1 c,jk3,if_pos c]
 ·rw [qk5 (by omega),jp3,if_neg c]
theorem y52 {m n i:Int} {l:Int->Nat->Int} (h0:0<=i) (h1:i < n) (q:Nat) (hq:ilt (Int.ofNat q) (addZ i 1)=true) :
  isel (ilt (Int.ofNat q) i) (pmO m l n i (Int.ofNat q)) (isel (ieq (subZ (Int.ofNat q) i) 0) (pmR m l n i (pmKI m l n i)) 0)=pmO m l n (i + 1) (Int.ofNat q):=by
 have hq:Int.ofNat q < i + 1:=ji8 hq
 rw [<- vq2 (a:=Int.ofNat q) m l h0 h1 (Int.natCast_nonneg q) hq]
 by_cases c:Int.ofNat q < i
 ·rw [ji1 c,jk3,if_pos c]
 ·have e:Int.ofNat q=i:=by omega
  rw [qk5 (by omega),jp3,if_neg c,e]
  unfold subZ
  rw [Int.sub_self,show ieq 0 0=true from rfl,jk3]
theorem y53:ja6 25 q73:=by
 intro al ans hh hq
 unfold q73 at hh
 split at hh <;> try (simp at hh;done)
 rename_i c n
 cases em:jf4 1 c with
 | none=>simp [em] at hh
 | some pm =>
 obtain ⟨m,rm⟩:=pm
 simp only [em] at hh
 simp only [Option.some.injEq] at hh
 subst hh
 obtain ⟨l,hdm⟩:∃l:Int->Nat->Int,l=λ i j=>intC (den rm i j):=⟨_,rfl⟩
 try rw [<- hdm]
 refine jc0 (al':=[.x (.c (.slc 1 m (.fn λ i j=>.v (.int .i64 (l i j))))),.x (.c (.v (.int .i64 n)))]) ⟨(hdm▸jh1 em (by decide) (hq _ (by simp))),.v _,trivial⟩ ?_
 have hq:=asked hq
 refine QR.ja2 (O:=vk5) (QR.ja3 a_at (QR.ja3 (up qu8) QR.jb1)) mixed ((λ k=>bif Nat.beq k 5 then some (.inv (q74 m l n)) else bif Nat.beq k 10 then some (.invs [qt1 m l n,qt2 m l n]) else none)) Tryd.func25 (by kernel_rfl) (by kernel_rfl) (by simp) ?_
 rw [yp3]
 obtain ⟨hr,hm,hn,_⟩:=hq
 have hn':=je3 hn
 simp only [forall_eq]
 by_cases c1:m=0
 ·have z:pmN m n=0:=by unfold pmN pmB;simp [c1]
  subst c1
  simp [jb4,eqXs,eqX,eqo,eqLo,eqL,eqc,veq,eqUs,ja1,nilC,z,qk8]
 have d1:ieq m 0=false:=by unfold ieq;exact decide_eq_false c1
 by_cases c2:n<=64
 rotate_left
 ·have z:pmN m n=0:=by unfold pmN pmB;simp [c1,c2]
  have d2:igt n 64=true:=by rw [yd0];simp [c2]
  simp [jb4,eqXs,eqX,eqo,eqLo,eqL,eqc,veq,eqUs,ja1,nilC,z,d1,d2]
 have z:pmN m n=n:=by unfold pmN pmB;simp [c1,c2]
 have d2:igt n 64=false:=by rw [yd0];simp [c2]
 have f1:ile n n=true:=jb2 (Int.le_refl n)
 have f2:ile (jd2 n 8) 140737488355328=true:=jb2 (by unfold jd2;omega)
 have f3:ile n 140737488355328=true:=jb2 (by omega)
 have mu:∀i:Int,i < n->Nat.le (Nat.succ (pfMu n (i + 1))) (pfMu n i):=λ i h=>by show pfMu n (i + 1) < pfMu n i;unfold pfMu;omega
 have ia:∀i:Int,0<=i->i < n->iadd .i64 i 1=i + 1:=λ i h0 h1=>IntWalk.i64_in _ (by omega)
 simp only [jb4,eqXs,eqX,eqo,eqLo,eqL,eqc,veq,eqUs,ja1,d1,d2,hn,f1,f2,f3,z,nilC,qe2,true_and,and_true,and_self,implies_true,reduceCtorEq,false_implies,true_implies,Bool.false_eq_true,or_false,false_or,false_and,and_false,exists_false]
 have eK:∀i,0<=i->gmod (atV m (l i 0) i) (subZ n i)=pmKI m l n i:=λ i h=>by rw [zh7 l h];rfl
 have step:∀i,0<=i->i < n->(jc2 (subZ n i)=true/\ile (jd2 (addZ i 1) 8) 140737488355328=true/\ile 0 (pmKI m l n i)=true/\ilt (pmKI m l n i) (subZ n i)=true)/\
   (ile (jd2 (addZ (subZ (pmKI m l n i) 0) (subZ (subZ n i) (iadd .i64 (pmKI m l n i) 1))) 8) 140737488355328=true/\ile 0 (iadd .i64 (pmKI m l n i) 1)=true/\ile (iadd .i64 (pmKI m l n i) 1) (subZ n i)=true/\ile (subZ n i) (subZ n i)=true/\ile (jd2 (subZ (pmKI m l n i) 0) 8) 140737488355328=true/\ile 0 (pmKI m l n i)=true/\ile (pmKI m l n i) (subZ n i)=true)/\
   addZ (subZ (pmKI m l n i) 0) (subZ (subZ n i) (iadd .i64 (pmKI m l n i) 1))=subZ n (i + 1):=by
  intro i i0 i1
  obtain ⟨_,k2,k3⟩:=vq1 m l i0 i1
  have e1:iadd .i64 (pmKI m l n i) 1=pmKI m l n i + 1:=IntWalk.i64_in _ (by omega)
  rw [e1]
  refine ⟨⟨decide_eq_true (by unfold subZ;omega),jb2 (by unfold jd2 addZ;omega),jb2 k2,ji1 (by unfold subZ;omega)⟩,⟨jb2 (by unfold jd2 addZ subZ;omega),jb2 (by omega),jb2 (by unfold subZ;omega),jb2 (Int.le_refl _),jb2 (by unfold jd2 subZ;omega),jb2 k2,jb2 (by unfold subZ;omega)⟩,by unfold addZ subZ;omega⟩
 have sub0:n=subZ n 0:=by unfold subZ;omega
 refine ⟨⟨0,⟨Int.le_refl 0,hn'⟩,rfl,λ q hq=>?_⟩,λ i hi=>⟨λ c=>?_,λ c=>?_⟩⟩
 ·have:(0:Int)<=Int.ofNat q:=Int.natCast_nonneg q
  unfold pfV;rw [if_neg (by omega)]
 ·have lt:=ji8 c
  have i0:=hi.1
  refine ⟨⟨jb2 i0,c⟩,i + 1,⟨by omega,by omega⟩,⟨ia i i0 lt,λ q hq=>?_⟩,mu i lt⟩
  unfold pfV
  by_cases e:Int.ofNat q=i
  ·rw [e,qk8,jk3,if_pos (by omega)]
  ·rw [show ieq (Int.ofNat q) i=false from decide_eq_false e,jp3]
   by_cases c2:Int.ofNat q < i
   ·rw [if_pos c2,if_pos (by omega)]
   ·rw [if_neg c2,if_neg (by omega)]
 ·have e:n=i:=by have:=jy6 c;have:=hi.2;omega
  subst e
  refine ⟨⟨0,⟨⟨Int.le_refl 0,hn'⟩,rfl⟩,⟨sub0,rfl⟩,sub0,λ q hq=>?_⟩,λ i hi=>?_,λ i hi=>?_⟩
  ·have h0:(0:Int)<=Int.ofNat q:=Int.natCast_nonneg q
   have h1:=ji8 hq
   rw [zh6 m l h0 h1]
   unfold pfV
   rw [if_pos h1]
  ·obtain ⟨⟨i0,i1⟩,rfl⟩:=hi
   refine ⟨λ c=>?_,λ c=>?_⟩
   ·have lt:0 < n:=by have:=of_decide_eq_true c;unfold subZ at this;omega
    obtain ⟨⟨s1,_,s3,s4⟩,s5,s6⟩:=step 0 (Int.le_refl 0) lt
    rw [eK 0 (Int.le_refl 0)]
    refine ⟨s1,⟨s3,s4⟩,s5,1,⟨⟨by omega,by omega⟩,Int.le_refl 1⟩,⟨⟨s6,rfl,rfl⟩,⟨s6,λ q hq=>yg0 (Int.le_refl 0) lt c2 q hq⟩,rfl,λ q hq=>?_⟩,mu 0 lt⟩
    have q1:Int.ofNat q=0:=by have h0:(0:Int)<=Int.ofNat q:=Int.natCast_nonneg q;have:=ji8 hq;omega
    rw [q1,qk8,jk3]
    have:=vq2 (a:=0) m l (Int.le_refl 0) lt (Int.le_refl 0) (by decide)
    rw [if_neg (by decide)] at this
    exact this
   ·have:¬ subZ n 0 > 0:=of_decide_eq_false c
    exact ⟨rfl,by unfold subZ at this;omega⟩
  ·obtain ⟨⟨i0,i1⟩,i2⟩:=hi
   refine ⟨λ c=>?_,λ c=>?_⟩
   ·have lt:i < n:=by have:=of_decide_eq_true c;unfold subZ at this;omega
    obtain ⟨⟨s1,s2,s3,s4⟩,s5,s6⟩:=step i i0 lt
    rw [eK i i0]
    exact ⟨s1,⟨s2,s3,s4⟩,s5,i + 1,⟨⟨by omega,by omega⟩,by omega⟩,⟨⟨s6,rfl,ia i i0 lt⟩,⟨s6,λ q hq=>yg0 i0 lt c2 q hq⟩,rfl,λ q hq=>y52 i0 lt q hq⟩,mu i lt⟩
   ·have:¬ subZ n i > 0:=of_decide_eq_false c
    have e:n=i:=by unfold subZ at this;omega
    subst e
    refine .slc λ q j hq hj=>?_
    have e2:pmO m (λ i _=>intC (den rm i 0)) n n q=pmO m l n n q:=by rw [hdm];rfl
    show EqC (.v (.int .i64 (pmO m l n n q))) (.v (.int .i64 (pmO m (λ i _=>intC (den rm i 0)) n n q)))
    rw [e2]
    exact .v _
end Go.Proofs.YthkidembkknoeaaDoor
namespace Go.Proofs.YthkidembkknoeaaDoor
open Go.RowKit PR QR
set_option linter.unusedVariables false
set_option linter.unusedSimpArgs false
set_option maxRecDepth 20000
theorem vp8 {a b:Int} (h:a<=b):igt a b=false:=decide_eq_false (by omega)
theorem zd0 {a b c d w h:Int} (k:¬ tiB a b c d w h=true):tiX a b c d w h=0:=by unfold tiX;rw [if_neg k]
theorem zd1 {a b c d w h:Int} (k:¬ tiB a b c d w h=true):tiY a b c d w h=0:=by unfold tiY;rw [if_neg k]
theorem vp9 {a b c d w h:Int} (k:¬ tiB a b c d w h=true) (e:reB a b c d=false) (l0:ilt w 1=false) (l1:igt w (isub .i64 c a)=false) (l2:ilt h 1=false) (l3:igt h (isub .i64 d b)=false):False:=by
 apply k
 obtain ⟨⟨f0,f1,f2,f3⟩,g0,g1⟩:=re_f.1 e
 unfold F30 at f0 f1 f2 f3
 rw [qd9 (by omega)] at l1 l3
 have:=of_decide_eq_false l0
 have:=of_decide_eq_false l1
 have:=of_decide_eq_false l2
 have:=of_decide_eq_false l3
 unfold tiB
 rw [decide_eq_true_eq]
 exact ⟨e,⟨by omega,by omega⟩,by omega,by omega⟩
theorem vq0:ja6 24 jl3:=by
 intro al ans h hq
 unfold jl3 at h
 split at h <;> try (simp at h;done)
 rename_i a b c d w h
 simp only [Option.some.injEq] at h
 subst h
 have hq:=asked hq
 refine QR.ja2 (O:=q72) (QR.ja3 q46 QR.jb1) mixed (QR.ja4) Tryd.func24 (by kernel_rfl) (by kernel_rfl) (by simp) ?_
 rw [yf6]
 by_cases k:tiB a b c d w h=true
 ·obtain ⟨⟨⟨f0,f1,f2,f3⟩,g0,g1⟩,⟨hw,hw'⟩,hh,hh'⟩:=y48 k
  have e:reB a b c d=false:=re_f.2 ⟨⟨f0,f1,f2,f3⟩,g0,g1⟩
  unfold F30 at f0 f1 f2 f3
  have s0:isub .i64 c a=c - a:=qd9 (by omega)
  have s1:isub .i64 d b=d - b:=qd9 (by omega)
  have l0:=qk5 hw
  have l1:=vp8 hw'
  have l2:=qk5 hh
  have l3:=vp8 hh'
  have n0:ine w 0=true:=ve4 (by omega)
  have n1:ine h 0=true:=ve4 (by omega)
  have d0:=(jl4 hw hw').1
  have d1:=(jl4 hh hh').1
  have q0:iadd .i64 (iquo .i64 (isub .i64 (c - a) 1) w) 1=tiX a b c d w h:=by
   rw [qd9 (by omega),vp7 (by omega) (by omega) hw,yp0 k,vo2 (by omega)]
  have q1:iadd .i64 (iquo .i64 (isub .i64 (d - b) 1) h) 1=tiY a b c d w h:=by
   rw [qd9 (by omega),vp7 (by omega) (by omega) hh,yp1 k,vo2 (by omega)]
  simp [jb4,eqXs,eqX,eqo,eqLo,eqL,eqc,veq,eqUs,ja1,bnot,e,s0,s1,l0,l1,l2,l3,n0,n1,q0,q1,k]
 ·have kX:=zd0 k
  have kY:=zd1 k
  cases e:reB a b c d <;> cases l0:ilt w 1 <;> cases l1:igt w (isub .i64 c a) <;> cases l2:ilt h 1 <;> cases l3:igt h (isub .i64 d b)
  all_goals first
   | (exfalso;exact vp9 k e l0 l1 l2 l3)
   | (simp [jb4,eqXs,eqX,eqo,eqLo,eqL,eqc,veq,eqUs,ja1,bnot,e,l0,l1,l2,l3,k,kX,kY];done)
end Go.Proofs.YthkidembkknoeaaDoor
namespace Go.Proofs.YthkidembkknoeaaDoor
open Go.RowKit PR QR
set_option linter.unusedVariables false
set_option linter.unusedSimpArgs false
set_option maxRecDepth 20000
theorem yp4:ja6 59 ql9:=by
 intro al ans h hq
 unfold ql9 at h
 split at h <;> try (simp at h;done)
 rename_i a b
 simp only [Option.some.injEq] at h
 subst h
 have hq:=asked hq
 refine QR.ja2 (O:=(QR.orc [])) QR.jb1 mixed (QR.ja4) Tryd.func59 (by kernel_rfl) (by kernel_rfl) (by simp) ?_
 rw [yf4]
 have hb:=hq.1
 simp [jb4,eqXs,eqX,eqo,eqLo,eqL,eqc,veq,eqUs,hb]
theorem yp5:ja6 33 jl3:=by
 intro al ans h hq
 unfold jl3 at h
 split at h <;> try (simp at h;done)
 rename_i a b c d w h
 simp only [Option.some.injEq] at h
 subst h
 have hq:=asked hq
 refine QR.ja2 (O:=q71) (QR.ja3 vo1 (QR.ja3 yp4 QR.jb1)) mixed (QR.ja4) Tryd.func33 (by kernel_rfl) (by kernel_rfl) (by simp) ?_
 rw [yf5]
 simp only [forall_eq]
 by_cases k:tiB a b c d w h=true
 ·obtain ⟨⟨⟨f0,f1,f2,f3⟩,g0,g1⟩,⟨hw,hw'⟩,hh,hh'⟩:=y48 k
  have e:reB a b c d=false:=re_f.2 ⟨⟨f0,f1,f2,f3⟩,g0,g1⟩
  unfold F30 at f0 f1 f2 f3
  have s0:isub .i64 c a=c - a:=qd9 (by omega)
  have s1:isub .i64 d b=d - b:=qd9 (by omega)
  have l0:=qk5 hw
  have l1:=vp8 hw'
  have l2:=qk5 hh
  have l3:=vp8 hh'
  have n0:ine w 0=true:=ve4 (by omega)
  have n1:ine h 0=true:=ve4 (by omega)
  have d0:=(jl4 hw hw').1
  have d1:=(jl4 hh hh').1
  have q0:iquo .i64 (isub .i64 (iadd .i64 (c - a) w) 1) w=tiX a b c d w h:=by
   rw [vo2 (by omega),qd9 (by omega),vp7 (by omega) (by omega) hw,yp0 k,show c - a + w - 1=c - a - 1 + 1 * w by omega,Int.add_mul_ediv_right _ _ (by omega)]
  have q1:iquo .i64 (isub .i64 (iadd .i64 (d - b) h) 1) h=tiY a b c d w h:=by
   rw [vo2 (by omega),qd9 (by omega),vp7 (by omega) (by omega) hh,yp1 k,show d - b + h - 1=d - b - 1 + 1 * h by omega,Int.add_mul_ediv_right _ _ (by omega)]
  simp [jb4,eqXs,eqX,eqo,eqLo,eqL,eqc,veq,eqUs,ja1,bnot,e,s0,s1,l0,l1,l2,l3,n0,n1,q0,q1,k]
 ·have kX:=zd0 k
  have kY:=zd1 k
  cases e:reB a b c d <;> cases l0:ilt w 1 <;> cases l1:igt w (isub .i64 c a) <;> cases l2:ilt h 1 <;> cases l3:igt h (isub .i64 d b)
  all_goals first
   | (exfalso;exact vp9 k e l0 l1 l2 l3)
   | (simp [jb4,eqXs,eqX,eqo,eqLo,eqL,eqc,veq,eqUs,ja1,bnot,e,l0,l1,l2,l3,k,kX,kY];done)
end Go.Proofs.YthkidembkknoeaaDoor
namespace Go.Proofs.YthkidembkknoeaaDoor
open Go.RowKit PR QR
set_option linter.unusedVariables false
set_option linter.unusedSimpArgs false
set_option maxRecDepth 20000
theorem zd4 (l:Int->Nat->Int) {n:Int} (h0:0<=n):orI 0 l n n :=
 ⟨⟨h0,Int.le_refl n⟩,λ j j0 j1=>⟨by rw [ve6];omega,λ k _ hk=>by rw [ve6,ve6];omega⟩⟩
theorem y54 (m:Int) (l:Int->Nat->Int) {n:Int} (h0:0<=n) (h1:n<=64):orB (pmN m n) (λ i _=>pmO m l n n i) n=true:=by
 refine qa1.2 ⟨⟨h0,by omega⟩,?_⟩
 unfold pmN
 by_cases c:pmB m n=true
 ·rw [if_pos c]
  by_cases z:n=0
  ·subst z;exact ⟨Or.inl rfl,zd4 _ (Int.le_refl 0)⟩
  ·exact ⟨Or.inr rfl,yp6 m l (by omega)⟩
 ·rw [if_neg c]
  exact ⟨Or.inl rfl,zd4 _ h0⟩
end Go.Proofs.YthkidembkknoeaaDoor
namespace Go.Proofs.YthkidembkknoeaaDoor
open Go.RowKit PR
set_option linter.unusedVariables false
def y92 (s a d b:Int):Int:=if 2 * s<=a then 2 * s * d else a * b - 2 * (b - d) * (a - s)
def y94 (s a d b:Int):Int:=if d=0 then 0 else if b * (a - s)<=d * a then a * b else a * a * d
def y97 (s a d b:Int):Int:=if d=0 then 1 else if b * (a - s)<=d * a then 1 else a - s
def zf5 (s a d b:Int):Int:=if d=b then a * b else if s * b<=(b - d) * a then 0 else a * b * s - (b - d) * a * a
def zf6 (s a d b:Int):Int:=if d=b then 1 else if s * b<=(b - d) * a then 1 else s
def zf7 (s a d b:Int):Int:=if b=0 then 0 else if 2 * s<=a then d * a * b - (a - 2 * s) * d * (b - d) else if 4 * d<=b then d * a * (b * b) + (2 * s - a) * d * (16 * d * d + 3 * b * b - 12 * d * b) else 2 * d * (a - s)
def zf8 (s a d b:Int):Int:=if b=0 then 0 else if 2 * s<=a then 0 else if 4 * d<=b then 0 else 2 * s - a
def zf9 (s a d b:Int):Int:=if b=0 then 0 else if 2 * s<=a then 0 else if 4 * d<=b then 0 else d * b
def zg0 (s a d b:Int):Int:=if b=0 then 1 else if 2 * s<=a then b else if 4 * d<=b then b * b else 1
def minI (x y:Int):Int:=if x<=y then x else y
def maxI (x y:Int):Int:=if x<=y then y else x
def blT (k s a d b:Int):Int :=
 if k=1 then s * b else if k=2 then s * d else if k=3 then s * b + d * a - s * d else if k=4 then y92 d b s a
 else if k=5 then minI (s * b) (d * a) else if k=6 then maxI (s * b) (d * a) else if k=7 then y94 s a d b else if k=8 then zf5 s a d b
 else if k=9 then y92 s a d b else if k=10 then zf7 s a d b else if k=11 then maxI (s * b) (d * a) - minI (s * b) (d * a) else s * b + d * a - 2 * s * d
def blOk (k s a d b:Int):Bool:=decide (1<=k/\k<=12/\s<=a/\d<=b)
def blP (k s a d b:Int):Int:=bif blOk k s a d b then blT k s a d b else 0
def blQ (k s a d b:Int):Int:=bif blOk k s a d b then (if k=10 then zf8 s a d b else 0) else 0
def blR (k s a d b:Int):Int:=bif blOk k s a d b then (if k=10 then zf9 s a d b else 0) else 0
def blD (k s a d b:Int):Int:=bif blOk k s a d b then (if k=7 then y97 s a d b else if k=8 then zf6 s a d b else if k=10 then zg0 s a d b else 1) else 0
section
variable {s a d b:Int}
end
end Go.Proofs.YthkidembkknoeaaDoor
namespace Go.Proofs.YthkidembkknoeaaDoor
open Go.RowKit PR
set_option linter.unusedVariables false
end Go.Proofs.YthkidembkknoeaaDoor
namespace Go.Proofs.YthkidembkknoeaaDoor
open Go.RowKit PR QR
set_option linter.unusedVariables false
def qd8 (m:Int):ByteArray:=if m=1 then bs [110,111,114,109,97,108] else if m=2 then bs [109,117,108,116,105,112,108,121] else if m=3 then bs [115,99,114,101,101,110] else if m=4 then bs [111,118,101,114,108,97,121] else if m=5 then bs [100,97,114,107,101,110] else if m=6 then bs [108,105,103,104,116,101,110] else if m=7 then bs [99,111,108,111,114,45,100,111,100,103,101] else if m=8 then bs [99,111,108,111,114,45,98,117,114,110] else if m=9 then bs [104,97,114,100,45,108,105,103,104,116] else if m=10 then bs [115,111,102,116,45,108,105,103,104,116] else if m=11 then bs [100,105,102,102,101,114,101,110,99,101] else if m=12 then bs [101,120,99,108,117,115,105,111,110] else bs []
def jo9:List AV->Option QR.Ans
 | [.x (.c (.v (.int .i64 m)))]=>some ⟨[.c (.v (.bool (band (ige m 1) (ile m 12))))],[],[]⟩
 | _=>none
def jv5:List AV->Option QR.Ans
 | [.x (.c (.v (.int .i64 m)))]=>some ⟨[.c (.v (.string (qd8 m)))],[],[]⟩
 | _=>none
def o_n6:QR.ja8:=QR.orc [(82,jo9)]
def yx8:QR.ja8:=QR.orc [(72,jv5)]
set_option maxRecDepth 100000 in
theorem v90 (m:Int) (V:List QR.XV->List (List QR.CV)->Prop):QR.ja5 Tryd.prog (QR.orc []) (QR.ja4) (Tryd.f82.body.getD .skip) Tryd.f82.results.toList Tryd.f82.ntmps [.x (.c (.v (.int .i64 m)))] V=(True/\ja0 (ige m 1) (True/\True/\V [XV.c (CV.v (Value.bool (ile m 12)))] []) (True/\True/\V [XV.c (CV.v (Value.bool false))] [])):=by
 kernel_rfl
set_option maxRecDepth 100000 in
theorem v92 (m:Int) (V:List QR.XV->List (List QR.CV)->Prop):QR.ja5 Tryd.prog (yx8) (QR.ja4) (Tryd.f45.body.getD .skip) Tryd.f45.results.toList Tryd.f45.ntmps [.x (.c (.v (.int .i64 m)))] V=(True/\True/\True/\V [XV.c (CV.v (Value.bool (bnot (seqB (qd8 m) (bs [])))))] []):=by
 try delta yx8
 try delta jv5
 generalize @qd8=qd8
 kernel_rfl
set_option maxRecDepth 100000 in
theorem v94 (m:Int) (V:List QR.XV->List (List QR.CV)->Prop):QR.ja5 Tryd.prog (QR.orc []) (QR.ja4) (Tryd.f72.body.getD .skip) Tryd.f72.results.toList Tryd.f72.ntmps [.x (.c (.v (.int .i64 m)))] V=(True/\True/\ja0 (ilt m 1) (True/\True/\True/\V [XV.c (CV.v (Value.string (bs [])))] []) (∀(i:Int),i=13->True/\ja0 (ige m i) (True/\True/\V [XV.c (CV.v (Value.string (bs [])))] []) ((ile 0 m=true/\ilt m 13=true/\True)/\True/\V [XV.c (CV.v (Value.string (ssel (ieq m 12) (bs [101,120,99,108,117,115,105,111,110]) (ssel (ieq m 11) (bs [100,105,102,102,101,114,101,110,99,101]) (ssel (ieq m 10) (bs [115,111,102,116,45,108,105,103,104,116]) (ssel (ieq m 9) (bs [104,97,114,100,45,108,105,103,104,116]) (ssel (ieq m 8) (bs [99,111,108,111,114,45,98,117,114,110]) (ssel (ieq m 7) (bs [99,111,108,111,114,45,100,111,100,103,101]) (ssel (ieq m 6) (bs [108,105,103,104,116,101,110]) (ssel (ieq m 5) (bs [100,97,114,107,101,110]) (ssel (ieq m 4) (bs [111,118,101,114,108,97,121]) (ssel (ieq m 3) (bs [115,99,114,101,101,110]) (ssel (ieq m 2) (bs [109,117,108,116,105,112,108,121]) (ssel (ieq m 1) (bs [110,111,114,109,97,108]) (ssel (ieq m 0) (bs []) (bs []))))))))))))))))] []))):=by
 kernel_rfl
set_option maxRecDepth 100000 in
theorem yk8 (m:Int) (V:List QR.XV->List (List QR.CV)->Prop):QR.ja5 Tryd.prog (o_n6) (QR.ja4) (Tryd.f69.body.getD .skip) Tryd.f69.results.toList Tryd.f69.ntmps [.x (.c (.v (.int .i64 m)))] V=(True/\True/\ja0 (bnot (band (ige m 1) (ile m 12))) (True/\True/\V [XV.c (CV.v (Value.string (bs [])))] []) (ja0 (ieq m 0) ((true=true/\true=true/\True)/\True/\V [XV.c (CV.v (Value.string (bs [])))] []) (ja0 (ieq m 1) ((true=true/\true=true/\True)/\True/\V [XV.c (CV.v (Value.string (bs [110,111,114,109,97,108])))] []) (ja0 (ieq m 2) ((true=true/\true=true/\True)/\True/\V [XV.c (CV.v (Value.string (bs [109,117,108,116,105,112,108,121])))] []) (ja0 (ieq m 3) ((true=true/\true=true/\True)/\True/\V [XV.c (CV.v (Value.string (bs [115,99,114,101,101,110])))] []) (ja0 (ieq m 4) ((true=true/\true=true/\True)/\True/\V [XV.c (CV.v (Value.string (bs [111,118,101,114,108,97,121])))] []) (ja0 (ieq m 5) ((true=true/\true=true/\True)/\True/\V [XV.c (CV.v (Value.string (bs [100,97,114,107,101,110])))] []) (ja0 (ieq m 6) ((true=true/\true=true/\True)/\True/\V [XV.c (CV.v (Value.string (bs [108,105,103,104,116,101,110])))] []) (ja0 (ieq m 7) ((true=true/\true=true/\True)/\True/\V [XV.c (CV.v (Value.string (bs [99,111,108,111,114,45,100,111,100,103,101])))] []) (ja0 (ieq m 8) ((true=true/\true=true/\True)/\True/\V [XV.c (CV.v (Value.string (bs [99,111,108,111,114,45,98,117,114,110])))] []) (ja0 (ieq m 9) ((true=true/\true=true/\True)/\True/\V [XV.c (CV.v (Value.string (bs [104,97,114,100,45,108,105,103,104,116])))] []) (ja0 (ieq m 10) ((true=true/\true=true/\True)/\True/\V [XV.c (CV.v (Value.string (bs [115,111,102,116,45,108,105,103,104,116])))] []) (ja0 (ieq m 11) ((true=true/\true=true/\True)/\True/\V [XV.c (CV.v (Value.string (bs [100,105,102,102,101,114,101,110,99,101])))] []) (ja0 (ieq m 12) ((true=true/\true=true/\True)/\True/\V [XV.c (CV.v (Value.string (bs [101,120,99,108,117,115,105,111,110])))] []) False)))))))))))))):=by
 try delta o_n6
 try delta jo9
 kernel_rfl
end Go.Proofs.YthkidembkknoeaaDoor
namespace Go.Proofs.YthkidembkknoeaaDoor
open Go.RowKit PR QR
set_option linter.unusedVariables false
set_option linter.unusedSimpArgs false
theorem zg1 (a b:Int):iadd .u64 a b=(a + b) % 18446744073709551616:=by unfold iadd;rw [IntKind.wrap_u64]
theorem zg2 (a b:Int):isub .u64 a b=(a - b) % 18446744073709551616:=by unfold isub;rw [IntKind.wrap_u64]
theorem zg3 (a b:Int):imul .u64 a b=(a * b) % 18446744073709551616:=by unfold imul;rw [IntKind.wrap_u64]
theorem eMl (a b m:Int):(a % m * b) % m=(a * b) % m:=by rw [Int.mul_emod,Int.emod_emod,<- Int.mul_emod]
theorem eMr (a b m:Int):(a * (b % m)) % m=(a * b) % m:=by rw [Int.mul_emod,Int.emod_emod,<- Int.mul_emod]
theorem eAl (a b m:Int):(a % m + b) % m=(a + b) % m:=by rw [Int.add_emod,Int.emod_emod,<- Int.add_emod]
theorem eAr (a b m:Int):(a + b % m) % m=(a + b) % m:=by rw [Int.add_emod,Int.emod_emod,<- Int.add_emod]
theorem eSl (a b m:Int):(a % m - b) % m=(a - b) % m:=by rw [Int.sub_emod,Int.emod_emod,<- Int.sub_emod]
theorem eSr (a b m:Int):(a - b % m) % m=(a - b) % m:=by rw [Int.sub_emod,Int.emod_emod,<- Int.sub_emod]
end Go.Proofs.YthkidembkknoeaaDoor
namespace Go.Proofs.YthkidembkknoeaaDoor
open Go.RowKit PR QR
set_option linter.unusedVariables false
set_option linter.unusedSimpArgs false
theorem modes {k:Int} (h:1<=k/\k<=12):k=1\/k=2\/k=3\/k=4\/k=5\/k=6\/k=7\/k=8\/k=9\/k=10\/k=11\/k=12:=by omega
theorem v95 {m:Int}:band (ige m 1) (ile m 12)=decide (1<=m/\m<=12):=by
 unfold band ige ile;simp
theorem yk9:ja6 82 jo9:=by
 intro al ans h hq
 unfold jo9 at h
 split at h <;> try (simp at h;done)
 rename_i m
 simp only [Option.some.injEq] at h
 subst h
 have hq:=asked hq
 refine QR.ja2 (O:=(QR.orc [])) QR.jb1 mixed (QR.ja4) Tryd.func82 (by kernel_rfl) (by kernel_rfl) (by simp) ?_
 rw [v90]
 simp only [ja1,jb4,eqXs,eqX,eqo,eqLo,eqL,eqc,veq,eqUs,forall_eq,true_and,and_true,zg1,zg2,zg3,eMl,eMr,eAl,eAr,eSl,eSr,ile,ige,igt,ilt,ieq,ge_iff_le,gt_iff_lt,decide_eq_true_eq,decide_eq_false_iff_not,beq_iff_eq,beq_eq_false_iff_ne,ne_eq,Int.mul_one]
 refine ⟨λ c=>?_,λ c=>?_⟩
 ·simp [band,c]
 ·simp [band,c]
theorem qr5 {m:Int}:bnot (seqB (qd8 m) (bs []))=decide (1<=m/\m<=12):=by
 by_cases h:1<=m/\m<=12
 ·rcases modes h with rfl | rfl | rfl | rfl | rfl | rfl | rfl | rfl | rfl | rfl | rfl | rfl <;> rfl
 ·have e:qd8 m=bs []:=by unfold qd8;rw [if_neg (by omega),if_neg (by omega),if_neg (by omega),if_neg (by omega),if_neg (by omega),if_neg (by omega),if_neg (by omega),if_neg (by omega),if_neg (by omega),if_neg (by omega),if_neg (by omega),if_neg (by omega)]
  rw [e,decide_eq_false h];rfl
theorem qg6 {m:Int} (h:¬ (1<=m/\m<=12)):qd8 m=bs []:=by unfold qd8;rw [if_neg (by omega),if_neg (by omega),if_neg (by omega),if_neg (by omega),if_neg (by omega),if_neg (by omega),if_neg (by omega),if_neg (by omega),if_neg (by omega),if_neg (by omega),if_neg (by omega),if_neg (by omega)]
theorem yl0:ja6 72 jv5:=by
 intro al ans h hq
 unfold jv5 at h
 split at h <;> try (simp at h;done)
 rename_i m
 simp only [Option.some.injEq] at h
 subst h
 have hq:=asked hq
 refine QR.ja2 (O:=(QR.orc [])) QR.jb1 mixed (QR.ja4) Tryd.func72 (by kernel_rfl) (by kernel_rfl) (by simp) ?_
 rw [v94]
 simp only [ja1,jb4,eqXs,eqX,eqo,eqLo,eqc,veq,eqUs,forall_eq,true_and,and_true,ilt,ile,ige,ge_iff_le,decide_eq_true_eq,decide_eq_false_iff_not]
 refine ⟨λ c=>?_,λ c=>⟨λ e=>?_,λ e=>?_⟩⟩
 ·exact (qg6 (by omega)).symm
 ·exact (qg6 (by omega)).symm
 ·refine ⟨by omega,?_⟩
  rcases modes (k:=m) (by omega) with rfl | rfl | rfl | rfl | rfl | rfl | rfl | rfl | rfl | rfl | rfl | rfl <;> rfl
theorem yl1:ja6 45 jo9:=by
 intro al ans h hq
 unfold jo9 at h
 split at h <;> try (simp at h;done)
 rename_i m
 simp only [Option.some.injEq] at h
 subst h
 have hq:=asked hq
 refine QR.ja2 (O:=yx8) (QR.ja3 yl0 QR.jb1) mixed (QR.ja4) Tryd.func45 (by kernel_rfl) (by kernel_rfl) (by simp) ?_
 rw [v92]
 simp only [jb4,eqXs,eqX,eqo,eqLo,eqc,veq,eqUs,true_and,and_true,qr5,v95]
theorem yx9:ja6 69 jv5:=by
 intro al ans h hq
 unfold jv5 at h
 split at h <;> try (simp at h;done)
 rename_i m
 simp only [Option.some.injEq] at h
 subst h
 have hq:=asked hq
 refine QR.ja2 (O:=o_n6) (QR.ja3 yk9 QR.jb1) mixed (QR.ja4) Tryd.func69 (by kernel_rfl) (by kernel_rfl) (by simp) ?_
 rw [yk8]
 rw [v95]
 by_cases h:1<=m/\m<=12
 ·rcases modes h with rfl | rfl | rfl | rfl | rfl | rfl | rfl | rfl | rfl | rfl | rfl | rfl <;> simp [ja1,bnot,ieq,jb4,eqXs,eqX,eqo,eqLo,eqc,veq,eqUs,qd8]
 ·simp [ja1,bnot,h,jb4,eqXs,eqX,eqo,eqLo,eqc,veq,eqUs,qg6]
end Go.Proofs.YthkidembkknoeaaDoor
