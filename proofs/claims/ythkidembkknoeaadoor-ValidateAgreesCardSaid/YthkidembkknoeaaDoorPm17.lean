import Derived.Test.YthkidembkknoeaaDoorPm16
import Derived.Test.YthkidembkknoeaaDoorPm13
import Derived.Test.YthkidembkknoeaaDoorPm15
namespace Go.Proofs.YthkidembkknoeaaDoor
open Go.RowKit PR QR
set_option linter.unusedVariables false
set_option linter.unusedSimpArgs false
set_option maxRecDepth 20000
theorem ve6 (l:Int->Nat->Int) (i:Int):orW 0 l i=i:=by unfold orW;rw [if_pos rfl]
theorem y49 {m:Int} (h:0 < m) (l:Int->Nat->Int) (i:Int):orW m l i=l i 0:=by unfold orW;rw [if_neg (by omega)]
theorem qs9 {m:Int} {l:Int->Nat->Int} {i k:Int}:orS m l i k=true↔∃j:Int,0<=j/\j < i/\orW m l j=k:=by unfold orS;rw [@decide_eq_true_eq _ (Classical.propDecidable _)]
theorem y50 (m:Int) (l:Int->Nat->Int) (k:Int):orS m l 0 k=false:=by
 rw [<- Bool.not_eq_true,qs9]
 rintro ⟨j,h0,h1,_⟩
 omega
theorem qe6 {m:Int} {l:Int->Nat->Int} {i:Int} (h:0<=i) (k:Int):bsel (ieq k (orW m l i)) true (orS m l i k)=orS m l (i + 1) k:=by
 rw [Bool.eq_iff_iff,qs9]
 cases e:ieq k (orW m l i)
 ·rw [show bsel false true (orS m l i k)=orS m l i k from rfl,qs9]
  have ne:k≠orW m l i:=by unfold ieq at e;exact of_decide_eq_false (by simpa using e)
  constructor
  ·rintro ⟨j,h0,h1,h2⟩
   exact ⟨j,h0,by omega,h2⟩
  ·rintro ⟨j,h0,h1,h2⟩
   refine ⟨j,h0,?_,h2⟩
   have:j≠i:=λ q=>ne (by rw [<- h2,q])
   omega
 ·have eq:k=orW m l i:=by unfold ieq at e;simpa using e
  rw [show bsel true true (orS m l i k)=true from rfl]
  exact ⟨λ _=>⟨i,h,by omega,eq.symm⟩,λ _=>rfl⟩
theorem qt0 {m:Int} {l:Int->Nat->Int} {n i:Int} (h:orI m l n i) (lt:i < n) (k0:0<=orW m l i) (k1:orW m l i < n) (k2:orS m l i (orW m l i)=false):orI m l n (i + 1):=by
 obtain ⟨⟨i0,i1⟩,hi⟩:=h
 refine ⟨⟨by omega,by omega⟩,λ j j0 j1=>?_⟩
 by_cases e:j < i
 ·exact hi j j0 e
 ·obtain rfl:j=i:=by omega
  refine ⟨⟨k0,k1⟩,λ k h0 h1 e=>?_⟩
  rw [<- Bool.not_eq_true,qs9] at k2
  exact k2 ⟨k,h0,h1,e⟩
theorem yf8 {m:Int} {l:Int->Nat->Int} {n i:Int} (h:orI m l n n) (i0:0<=i) (lt:i < n):(0<=orW m l i/\orW m l i < n)/\orS m l i (orW m l i)=false:=by
 obtain ⟨h0,h1⟩:=h.2 i i0 lt
 refine ⟨h0,?_⟩
 rw [<- Bool.not_eq_true,qs9]
 rintro ⟨j,j0,j1,e⟩
 exact h1 j j0 j1 e
theorem qa1 {m:Int} {l:Int->Nat->Int} {n:Int}:orB m l n=true↔(0<=n/\n<=16777216)/\(m=0\/m=n)/\orI m l n n:=by unfold orB;rw [@decide_eq_true_eq _ (Classical.propDecidable _)]
theorem vv3 {m:Int} {l:Int->Nat->Int} {n:Int} (h:¬ ((0<=n/\n<=16777216)/\(m=0\/m=n)/\orI m l n n)):orB m l n=false:=by rw [<- Bool.not_eq_true,qa1];exact h
theorem vv4 {m n:Int} (h0:ile 0 m=true) (l:Int->Nat->Int) (A:List Prop):ji5 Tryd.prog 40 [.x (.c (.slc 1 m (.fn λ i j=>.v (.int .i64 (l i j))))),.x (.c (.v (.int .i64 n)))] ⟨[.c (.fresh 1 (orN m l n) (.fn λ i j=>.v (.int .i64 (orW m l i)))),.c (.v (.bool (orB m l n)))],[],A⟩:=by
 have hm:=je3 h0
 refine QR.ja2 (O:=QR.orc []) QR.jb1 mixed (λ k=>bif Nat.beq k 6 then some (.invs [qs7 m l n,qs8 m l n]) else none) Tryd.func40 (by kernel_rfl) (by kernel_rfl) (by simp) ?_
 rw [yf7]
 try dsimp only
 have VF:orB m l n=false->jb4 ⟨[.c (.fresh 1 (orN m l n) (.fn λ i j=>.v (.int .i64 (orW m l i)))),.c (.v (.bool (orB m l n)))],[],A⟩ [.c (.v (.slice none 0 0)),.c (.v (.bool false))] []:=λ hb=>by
  simp [jb4,eqXs,eqX,eqo,eqLo,eqL,eqc,veq,eqUs,nilC,hb,orN]
 have VE:orB m l n=true->n=0->jb4 ⟨[.c (.fresh 1 (orN m l n) (.fn λ i j=>.v (.int .i64 (orW m l i)))),.c (.v (.bool (orB m l n)))],[],A⟩ [.c (.v (.slice none 0 0)),.c (.v (.bool true))] []:=λ hb e=>by
  subst e
  simp [jb4,eqXs,eqX,eqo,eqLo,eqL,eqc,veq,eqUs,nilC,hb,orN]
 have VT:orB m l n=true->∀i,i=n->jb4 ⟨[.c (.fresh 1 (orN m l n) (.fn λ i j=>.v (.int .i64 (orW m l i)))),.c (.v (.bool (orB m l n)))],[],A⟩ [.c (.fresh 1 i (.fn λ a b=>.v (.int .i64 (orW m l a)))),.c (.v (.bool true))] []:=λ hb i e=>by
  subst e
  simp only [jb4,eqXs,eqX,eqo,eqLo,eqL,eqc,veq,eqUs,hb,orN,if_true,true_and,and_true]
  exact .slc λ i j hi hj=>.v _
 generalize jb4 ⟨[.c (.fresh 1 (orN m l n) (.fn λ i j=>.v (.int .i64 (orW m l i)))),.c (.v (.bool (orB m l n)))],[],A⟩=V at *
 simp only [forall_eq,true_and,and_true,implies_true,reduceCtorEq,and_false,false_and,exists_false,or_false,false_or]
 rw [ja1]
 refine ⟨λ c=>VF (vv3 λ k=>by have:=of_decide_eq_true c;omega),λ c0=>?_⟩
 rw [ja1]
 refine ⟨λ c=>VF (vv3 λ k=>by have:=of_decide_eq_true c;omega),λ c1=>?_⟩
 have n0:=of_decide_eq_false c0
 have n1:=of_decide_eq_false c1
 have mk:ile 0 n=true/\ile n n=true/\ile (jd2 n 1) 140737488355328=true/\ile n 140737488355328=true:=⟨jb2 (by omega),jb2 (by omega),jb2 (by unfold jd2;omega),jb2 (by omega)⟩
 have ia:∀i:Int,0<=i->i < n->iadd .i64 i 1=i + 1:=λ i i0 i1=>IntWalk.i64_in _ (by omega)
 have mu:∀i:Int,i < n->Nat.le (Nat.succ (orMu n (i + 1))) (orMu n i):=λ i i1=>by show orMu n (i + 1) < orMu n i;unfold orMu;omega
 have fin:(m=0\/m=n)->orI m l n n->orB m l n=true:=λ h k=>qa1.2 ⟨⟨by omega,by omega⟩,h,k⟩
 have bad:∀i,0<=i->i < n->¬ ((0<=orW m l i/\orW m l i < n)/\orS m l i (orW m l i)=false)->orB m l n=false:=λ i i0 i1 h=>vv3 λ k=>h (yf8 k.2.2 i0 i1)
 have ad:∀x y:Int,addZ x y=x + y:=λ _ _=>rfl
 have sd:∀x y:Int,subZ x y=x - y:=λ _ _=>rfl
 rw [ja1]
 refine ⟨λ c2=>?_,λ c2=>?_⟩
 ·have m0:=of_decide_eq_true c2
  rw [ja1]
  refine ⟨λ c3=>VF (vv3 λ k=>?_),λ c3=>?_⟩
  ·rcases k.2.1 with e | e
   ·omega
   ·rw [e,zb6] at c3;simp at c3
  have e:m=n:=Classical.byContradiction λ q=>by rw [ve4 q] at c3;simp at c3
  have w:∀i,l i 0=orW m l i:=λ i=>(y49 m0 l i).symm
  simp only [w,mk,true_and,and_true]
  refine ⟨⟨0,⟨⟨⟨by omega,by omega⟩,λ j j0 j1=>by omega⟩,rfl⟩,rfl,λ k _=>(y50 _ _ _).symm⟩,λ i hi=>?_,λ i hi=>?_⟩
  ·obtain ⟨hi,ii⟩:=hi
   have i0:=hi.1.1
   have iN:=hi.1.2
   rw [ja1]
   refine ⟨λ c=>?_,λ c=>?_⟩
   ·have lt:=of_decide_eq_true c
    rw [ja1]
    refine ⟨λ _=>?_,λ q=>by rw [c2] at q;simp at q⟩
    refine ⟨⟨jb2 i0,ji1 (by omega)⟩,?_⟩
    rw [ja1]
    refine ⟨λ d=>VF (bad i i0 lt λ h=>by have:=of_decide_eq_true d;have:=h.1;omega),λ d0=>?_⟩
    rw [ja1]
    refine ⟨λ d=>VF (bad i i0 lt λ h=>by have:=of_decide_eq_true d;have:=h.1;omega),λ d1=>?_⟩
    have k0:0<=orW m l i:=by have:=of_decide_eq_false d0;omega
    have k1:orW m l i < n:=by have:=of_decide_eq_false d1;omega
    refine ⟨⟨jb2 k0,ji1 k1⟩,?_⟩
    rw [ja1]
    refine ⟨λ d=>VF (bad i i0 lt λ h=>by rw [d] at h;simp at h),λ k2=>?_⟩
    have nx:∀q:Int,bsel (ieq q (orW m l i)) true (orS m l i q)=orS m l (i + 1) q:=λ q=>qe6 i0 q
    have a0:ile 0 (orW m l i)=true/\ilt (orW m l i) n=true:=⟨jb2 k0,ji1 k1⟩
    subst ii
    refine ⟨a0,0 + 1,⟨qt0 hi lt k0 k1 k2,by omega⟩,⟨⟨by omega,ia 0 i0 lt⟩,λ q _=>nx _,by omega,λ q hq=>?_⟩,mu 0 lt⟩
    have hq:=of_decide_eq_true hq
    have e:Int.ofNat q=0:=by have:=Int.natCast_nonneg q;simp only [Int.ofNat_eq_natCast] at *;omega
    rw [e]
    rw [show ieq 0 0=true from rfl,jk3]
   ·have lt:=of_decide_eq_false c
    have nn:n=0:=by omega
    have hN:orI m l n n:=by rw [nn];rw [nn,ii] at hi;exact hi
    exact VE (fin (Or.inr e) hN) nn
  ·obtain ⟨hi,ii⟩:=hi
   have i0:=hi.1.1
   have iN:=hi.1.2
   rw [ja1]
   refine ⟨λ c=>?_,λ c=>?_⟩
   ·have lt:=of_decide_eq_true c
    rw [ja1]
    refine ⟨λ _=>?_,λ q=>by rw [c2] at q;simp at q⟩
    refine ⟨⟨jb2 i0,ji1 (by omega)⟩,?_⟩
    rw [ja1]
    refine ⟨λ d=>VF (bad i i0 lt λ h=>by have:=of_decide_eq_true d;have:=h.1;omega),λ d0=>?_⟩
    rw [ja1]
    refine ⟨λ d=>VF (bad i i0 lt λ h=>by have:=of_decide_eq_true d;have:=h.1;omega),λ d1=>?_⟩
    have k0:0<=orW m l i:=by have:=of_decide_eq_false d0;omega
    have k1:orW m l i < n:=by have:=of_decide_eq_false d1;omega
    refine ⟨⟨jb2 k0,ji1 k1⟩,?_⟩
    rw [ja1]
    refine ⟨λ d=>VF (bad i i0 lt λ h=>by rw [d] at h;simp at h),λ k2=>?_⟩
    have nx:∀q:Int,bsel (ieq q (orW m l i)) true (orS m l i q)=orS m l (i + 1) q:=λ q=>qe6 i0 q
    have a0:ile 0 (orW m l i)=true/\ilt (orW m l i) n=true:=⟨jb2 k0,ji1 k1⟩
    refine ⟨a0,jb2 (by rw [ad];unfold jd2;omega),i + 1,⟨qt0 hi lt k0 k1 k2,by omega⟩,⟨⟨by rw [ad],ia i i0 lt⟩,λ q _=>nx _,by rw [ad],λ q hq=>?_⟩,mu i lt⟩
    have hq:=of_decide_eq_true hq
    rw [ad] at hq
    cases k:ilt (Int.ofNat q) i
    ·have k':=of_decide_eq_false k
     have e:Int.ofNat q=i:=by omega
     rw [jp3,e,sd,Int.sub_self,show ieq 0 0=true from rfl,jk3]
    ·rw [jk3]
   ·have lt:=of_decide_eq_false c
    obtain rfl:i=n:=by omega
    exact VT (fin (Or.inr e) hi) _ rfl
 ·have m0:m=0:=by have:=of_decide_eq_false c2;omega
  simp only [mk,true_and,and_true]
  refine ⟨⟨0,⟨⟨⟨by omega,by omega⟩,λ j j0 j1=>by omega⟩,rfl⟩,rfl,λ k _=>(y50 _ _ _).symm⟩,λ i hi=>?_,λ i hi=>?_⟩
  ·obtain ⟨hi,ii⟩:=hi
   have i0:=hi.1.1
   have iN:=hi.1.2
   rw [ja1]
   refine ⟨λ c=>?_,λ c=>?_⟩
   ·have lt:=of_decide_eq_true c
    rw [ja1]
    refine ⟨λ q=>by rw [c2] at q;simp at q,λ _=>?_⟩
    have wi:orW m l i=i:=by rw [m0];exact ve6 l i
    rw [ja1]
    refine ⟨λ d=>by have:=of_decide_eq_true d;omega,λ d0=>?_⟩
    rw [ja1]
    refine ⟨λ d=>by have:=of_decide_eq_true d;omega,λ d1=>?_⟩
    have k0:0<=orW m l i:=by rw [wi];exact i0
    have k1:orW m l i < n:=by rw [wi];exact lt
    refine ⟨⟨jb2 i0,ji1 lt⟩,?_⟩
    rw [ja1]
    refine ⟨λ d=>VF (bad i i0 lt λ h=>by rw [wi,d] at h;simp at h),λ d2=>?_⟩
    have k2:orS m l i (orW m l i)=false:=by rw [wi];exact d2
    have nx:∀q:Int,bsel (ieq q i) true (orS m l i q)=orS m l (i + 1) q:=λ q=>by have:=qe6 (m:=m) (l:=l) i0 q;rw [wi] at this;exact this
    have a0:ile 0 i=true/\ilt i n=true:=⟨jb2 i0,ji1 lt⟩
    subst ii
    refine ⟨a0,0 + 1,⟨qt0 hi lt k0 k1 k2,by omega⟩,⟨⟨by omega,ia 0 i0 lt⟩,λ q _=>nx _,by omega,λ q hq=>?_⟩,mu 0 lt⟩
    have hq:=of_decide_eq_true hq
    have e:Int.ofNat q=0:=by have:=Int.natCast_nonneg q;simp only [Int.ofNat_eq_natCast] at *;omega
    rw [e]
    rw [show ieq 0 0=true from rfl,jk3];exact wi.symm
   ·have lt:=of_decide_eq_false c
    have nn:n=0:=by omega
    have hN:orI m l n n:=by rw [nn];rw [nn,ii] at hi;exact hi
    exact VE (fin (Or.inl m0) hN) nn
  ·obtain ⟨hi,ii⟩:=hi
   have i0:=hi.1.1
   have iN:=hi.1.2
   rw [ja1]
   refine ⟨λ c=>?_,λ c=>?_⟩
   ·have lt:=of_decide_eq_true c
    rw [ja1]
    refine ⟨λ q=>by rw [c2] at q;simp at q,λ _=>?_⟩
    have wi:orW m l i=i:=by rw [m0];exact ve6 l i
    rw [ja1]
    refine ⟨λ d=>by have:=of_decide_eq_true d;omega,λ d0=>?_⟩
    rw [ja1]
    refine ⟨λ d=>by have:=of_decide_eq_true d;omega,λ d1=>?_⟩
    have k0:0<=orW m l i:=by rw [wi];exact i0
    have k1:orW m l i < n:=by rw [wi];exact lt
    refine ⟨⟨jb2 i0,ji1 lt⟩,?_⟩
    rw [ja1]
    refine ⟨λ d=>VF (bad i i0 lt λ h=>by rw [wi,d] at h;simp at h),λ d2=>?_⟩
    have k2:orS m l i (orW m l i)=false:=by rw [wi];exact d2
    have nx:∀q:Int,bsel (ieq q i) true (orS m l i q)=orS m l (i + 1) q:=λ q=>by have:=qe6 (m:=m) (l:=l) i0 q;rw [wi] at this;exact this
    have a0:ile 0 i=true/\ilt i n=true:=⟨jb2 i0,ji1 lt⟩
    refine ⟨a0,jb2 (by rw [ad];unfold jd2;omega),i + 1,⟨qt0 hi lt k0 k1 k2,by omega⟩,⟨⟨by rw [ad],ia i i0 lt⟩,λ q _=>nx _,by rw [ad],λ q hq=>?_⟩,mu i lt⟩
    have hq:=of_decide_eq_true hq
    rw [ad] at hq
    cases k:ilt (Int.ofNat q) i
    ·have k':=of_decide_eq_false k
     have e:Int.ofNat q=i:=by omega
     rw [jp3,e,sd,Int.sub_self,show ieq 0 0=true from rfl,jk3];exact wi.symm
    ·rw [jk3]
   ·have lt:=of_decide_eq_false c
    obtain rfl:i=n:=by omega
    exact VT (fin (Or.inl m0) hi) _ rfl
theorem yp2:ja6 40 jp4:=by
 intro al ans hh hq
 unfold jp4 at hh
 split at hh <;> try (simp at hh;done)
 rename_i c n
 cases e:jf4 1 c with
 | none=>rw [e] at hh;simp at hh
 | some p =>
  obtain ⟨m,r⟩:=p
  rw [e] at hh
  simp only [Option.some.injEq] at hh
  subst hh
  obtain ⟨hr,hm,_⟩:=asked hq
  refine jc0 (al':=[.x (.c (.slc 1 m (ints .i64 r))),.x (.c (.v (.int .i64 n)))]) ⟨jh1 e (by decide) hr,.v _,trivial⟩ ?_
  unfold ints
  exact vv4 (n:=n) hm (λ i j=>intC (den r i j)) _
end Go.Proofs.YthkidembkknoeaaDoor
namespace Go.Proofs.YthkidembkknoeaaDoor
open Go.RowKit PR QR
set_option linter.unusedVariables false
set_option linter.unusedSimpArgs false
set_option maxRecDepth 20000
theorem jw0:∀(l:List Int) (k:Nat) (h:k < l.length),(l[k] :: l.eraseIdx k).Perm l
 | x :: l,0,_=>List.Perm.refl _
 | x :: l,k + 1,h=>by
  have ih:=jw0 l k (by simpa using h)
  exact (List.Perm.swap _ _ _).trans (ih.cons x)
def pmK (g:Nat->Int) (n i:Nat):Nat:=(gmod (g i) (pmS g n i).2.length).toNat
theorem ve7 (g:Nat->Int) (n:Nat):∀i,i<=n->(pmS g n i).1.length=i/\(pmS g n i).2.length=n - i
 | 0,_=>by simp [pmS]
 | i + 1,h=>by
  obtain ⟨h1,h2⟩:=ve7 g n i (by omega)
  have r:=jd5 (g i) (k:=((pmS g n i).2.length:Int)) (by omega)
  have hk:(gmod (g i) (pmS g n i).2.length).toNat < (pmS g n i).2.length:=by omega
  refine ⟨by simp [pmS,h1],?_⟩
  show ((pmS g n i).2.eraseIdx _).length=_
  rw [List.length_eraseIdx_of_lt hk]
  omega
theorem pm_k (g:Nat->Int) {n i:Nat} (h:i < n):pmK g n i < (pmS g n i).2.length/\pmK g n i < n - i:=by
 have l:=ve7 g n i (by omega)
 have r:=jd5 (g i) (k:=((pmS g n i).2.length:Int)) (by omega)
 unfold pmK
 omega
theorem yf9 (g:Nat->Int) (n:Nat):∀i,i<=n->((pmS g n i).1 ++ (pmS g n i).2).Perm ((List.range n).map Int.ofNat)
 | 0,_=>by simp [pmS]
 | i + 1,h=>by
  have ih:=yf9 g n i (by omega)
  obtain ⟨hk,_⟩:=pm_k g (show i < n by omega)
  refine List.Perm.trans ?_ ih
  show (((pmS g n i).1 ++ [(pmS g n i).2.getD (pmK g n i) 0]) ++ (pmS g n i).2.eraseIdx (pmK g n i)).Perm _
  rw [List.append_assoc]
  refine List.Perm.append_left _ ?_
  have e:(pmS g n i).2.getD (pmK g n i) 0=(pmS g n i).2[pmK g n i]:=by simp [List.getD,hk]
  rw [e]
  exact jw0 _ _ hk
theorem y51 (g:Nat->Int) (n:Nat):(pmS g n n).1.length=n/\((pmS g n n).1).Perm ((List.range n).map Int.ofNat):=by
 obtain ⟨h1,h2⟩:=ve7 g n n (Nat.le_refl n)
 have h:=yf9 g n n (Nat.le_refl n)
 rw [List.eq_nil_of_length_eq_zero (show (pmS g n n).2.length=0 by omega),List.append_nil] at h
 exact ⟨h1,h⟩
theorem ve8 (n:Nat):((List.range n).map Int.ofNat).Nodup:=by
 rw [List.nodup_iff_pairwise_ne,List.pairwise_map]
 exact (List.nodup_iff_pairwise_ne.1 List.nodup_range).imp λ h e=>h (Int.ofNat.inj e)
theorem yp6 (m:Int) (l:Int->Nat->Int) {n:Int} (h0:1<=n):orI n (λ i _=>pmO m l n n i) n n:=by
 obtain ⟨hl,hp⟩:=y51 (pmA m l) n.toNat
 have hw:∀i,orW n (λ i _=>pmO m l n n i) i=pmO m l n n i:=λ i=>by unfold orW;rw [if_neg (by omega)]
 have nd:(pmS (pmA m l) n.toNat n.toNat).1.Nodup:=hp.symm.nodup (ve8 _)
 have at':∀i:Int,0<=i->i < n->∃h:i.toNat < (pmS (pmA m l) n.toNat n.toNat).1.length,pmO m l n n i=(pmS (pmA m l) n.toNat n.toNat).1[i.toNat]:=λ i i0 i1=>⟨by omega,by unfold pmO;simp [List.getD,hl,show i.toNat < n.toNat by omega]⟩
 refine ⟨⟨by omega,Int.le_refl n⟩,λ j j0 j1=>⟨?_,λ k k0 k1=>?_⟩⟩
 ·rw [hw]
  obtain ⟨hj,e⟩:=at' j j0 j1
  rw [e]
  have:=hp.mem_iff.1 (List.getElem_mem hj)
  simp only [List.mem_map,List.mem_range] at this
  obtain ⟨a,ha,e2⟩:=this
  rw [<- e2]
  constructor
  ·exact Int.natCast_nonneg a
  ·show (a:Int) < n
   omega
 ·rw [hw,hw]
  obtain ⟨hj,e⟩:=at' j j0 j1
  obtain ⟨hk,e2⟩:=at' k k0 (by omega)
  rw [e,e2]
  exact λ e3=>List.pairwise_iff_getElem.1 nd k.toNat j.toNat hk hj (by omega) e3
def pmKI (m:Int) (l:Int->Nat->Int) (n i:Int):Int:=gmod (pmA m l i.toNat) (n - i)
theorem vq1 (m:Int) (l:Int->Nat->Int) {n i:Int} (h0:0<=i) (h1:i < n):(pmKI m l n i).toNat=pmK (pmA m l) n.toNat i.toNat/\0<=pmKI m l n i/\pmKI m l n i < n - i:=by
 have hl:=(ve7 (pmA m l) n.toNat i.toNat (by omega)).2
 have r:=jd5 (pmA m l i.toNat) (k:=n - i) (by omega)
 refine ⟨?_,r.1,r.2⟩
 unfold pmKI pmK
 rw [hl,show ((n.toNat - i.toNat:Nat):Int)=n - i by omega]
theorem vq2 (m:Int) (l:Int->Nat->Int) {n i a:Int} (h0:0<=i) (h1:i < n) (a0:0<=a) (a1:a < i + 1):(if a < i then pmO m l n i a else pmR m l n i (pmKI m l n i))=pmO m l n (i + 1) a:=by
 have hl:=(ve7 (pmA m l) n.toNat i.toNat (by omega)).1
 have e:(pmS (pmA m l) n.toNat (i + 1).toNat).1=(pmS (pmA m l) n.toNat i.toNat).1 ++ [(pmS (pmA m l) n.toNat i.toNat).2.getD (pmK (pmA m l) n.toNat i.toNat) 0]:=by
  rw [show (i + 1).toNat=i.toNat + 1 by omega];rfl
 unfold pmO
 rw [e]
 simp only [List.getD_eq_getElem?_getD,List.getElem?_append,hl]
 by_cases c:a < i
 ·rw [if_pos c,if_pos (by omega)]
 ·rw [if_neg c,if_neg (by omega),show a.toNat - i.toNat=0 by omega]
  unfold pmR
  rw [(vq1 m l h0 h1).1]
  simp [List.getD_eq_getElem?_getD]
theorem yp7 (m:Int) (l:Int->Nat->Int) {n i a:Int} (h0:0<=i) (h1:i < n) (a0:0<=a):(if a < pmKI m l n i then pmR m l n i a else pmR m l n i (a + 1))=pmR m l n (i + 1) a:=by
 have e:(pmS (pmA m l) n.toNat (i + 1).toNat).2=(pmS (pmA m l) n.toNat i.toNat).2.eraseIdx (pmK (pmA m l) n.toNat i.toNat):=by
  rw [show (i + 1).toNat=i.toNat + 1 by omega];rfl
 obtain ⟨k1,k2,k3⟩:=vq1 m l h0 h1
 unfold pmR
 rw [e]
 simp only [List.getD_eq_getElem?_getD,List.getElem?_eraseIdx,<- k1]
 by_cases c:a < pmKI m l n i
 ·rw [if_pos c,if_pos (by omega)]
 ·rw [if_neg c,if_neg (by omega),show (a + 1).toNat=a.toNat + 1 by omega]
theorem zh6 (m:Int) (l:Int->Nat->Int) {n a:Int} (h0:0<=a) (h1:a < n):pmR m l n 0 a=a:=by
 unfold pmR
 show (((List.range n.toNat).map Int.ofNat).getD a.toNat 0)=a
 simp [List.getD_eq_getElem?_getD,show a.toNat < n.toNat by omega]
 omega
end Go.Proofs.YthkidembkknoeaaDoor
namespace Go.Proofs.YthkidembkknoeaaDoor
open Go.RowKit PR QR
set_option linter.unusedVariables false
def jl3:List AV->Option QR.Ans
 | [.x (.agg [.v (.int .i64 a),.v (.int .i64 b),.v (.int .i64 c),.v (.int .i64 d)]),.x (.c (.v (.int .i64 w))),.x (.c (.v (.int .i64 h)))]=>some ⟨[.c (.v (.int .i64 (tiX a b c d w h))),.c (.v (.int .i64 (tiY a b c d w h))),.c (.v (.bool (tiB a b c d w h)))],[],[]⟩
 | _=>none
def ql9:List AV->Option QR.Ans
 | [.x (.c (.v (.int .i64 a))),.x (.c (.v (.int .i64 b)))]=>some ⟨[.c (.v (.int .i64 (iquo .i64 (isub .i64 (iadd .i64 a b) 1) b)))],[],[ine b 0=true]⟩
 | _=>none
def q71:QR.ja8:=QR.orc [(58,jh5),(59,ql9)]
def q72:QR.ja8:=QR.orc [(37,jh5)]
set_option maxRecDepth 100000 in
theorem yf4 (a b:Int) (V:List QR.XV->List (List QR.CV)->Prop):QR.ja5 Tryd.prog (QR.orc []) (QR.ja4) (Tryd.f59.body.getD .skip) Tryd.f59.results.toList Tryd.f59.ntmps [.x (.c (.v (.int .i64 a))),.x (.c (.v (.int .i64 b)))] V=(True/\(ine b 0=true/\True)/\True/\V [XV.c (CV.v (Value.int .i64 (iquo IntKind.i64 (isub IntKind.i64 (iadd IntKind.i64 a b) 1) b)))] []):=by
 kernel_rfl
set_option maxRecDepth 100000 in
theorem yf5 (a b c d w h:Int) (V:List QR.XV->List (List QR.CV)->Prop):QR.ja5 Tryd.prog (q71) (QR.ja4) (Tryd.f33.body.getD .skip) Tryd.f33.results.toList Tryd.f33.ntmps [.x (.agg [.v (.int .i64 a),.v (.int .i64 b),.v (.int .i64 c),.v (.int .i64 d)]),.x (.c (.v (.int .i64 w))),.x (.c (.v (.int .i64 h)))] V=(True/\True/\ja0 (reB a b c d) (True/\True/\V [XV.c (CV.v (Value.int .i64 0)),XV.c (CV.v (Value.int .i64 0)),XV.c (CV.v (Value.bool false))] []) (True/\ja0 (ilt w 1) (True/\True/\True/\V [XV.c (CV.v (Value.int .i64 0)),XV.c (CV.v (Value.int .i64 0)),XV.c (CV.v (Value.bool false))] []) (ja0 (igt w (isub IntKind.i64 c a)) (True/\True/\True/\V [XV.c (CV.v (Value.int .i64 0)),XV.c (CV.v (Value.int .i64 0)),XV.c (CV.v (Value.bool false))] []) (ja0 (ilt h 1) (True/\True/\True/\V [XV.c (CV.v (Value.int .i64 0)),XV.c (CV.v (Value.int .i64 0)),XV.c (CV.v (Value.bool false))] []) (True/\ja0 (igt h (isub IntKind.i64 d b)) (True/\True/\V [XV.c (CV.v (Value.int .i64 0)),XV.c (CV.v (Value.int .i64 0)),XV.c (CV.v (Value.bool false))] []) (∀(i:Int),i=iquo IntKind.i64 (isub IntKind.i64 (iadd IntKind.i64 (isub IntKind.i64 c a) w) 1) w->∀(i_1:Int),i_1=iquo IntKind.i64 (isub IntKind.i64 (iadd IntKind.i64 (isub IntKind.i64 d b) h) 1) h->(ine h 0=true/\ine w 0=true/\True)/\True/\V [XV.c (CV.v (Value.int .i64 i)),XV.c (CV.v (Value.int .i64 i_1)),XV.c (CV.v (Value.bool true))] [])))))):=by
 try delta q71
 try delta jh5
 try delta ql9
 generalize @reB=reB
 kernel_rfl
set_option maxRecDepth 100000 in
theorem yf6 (a b c d w h:Int) (V:List QR.XV->List (List QR.CV)->Prop):QR.ja5 Tryd.prog (q72) (QR.ja4) (Tryd.f24.body.getD .skip) Tryd.f24.results.toList Tryd.f24.ntmps [.x (.agg [.v (.int .i64 a),.v (.int .i64 b),.v (.int .i64 c),.v (.int .i64 d)]),.x (.c (.v (.int .i64 w))),.x (.c (.v (.int .i64 h)))] V=(True/\ja0 (reB a b c d) (True/\True/\True/\V [XV.c (CV.v (Value.int .i64 0)),XV.c (CV.v (Value.int .i64 0)),XV.c (CV.v (Value.bool false))] []) (ja0 (ilt w 1) (True/\True/\True/\V [XV.c (CV.v (Value.int .i64 0)),XV.c (CV.v (Value.int .i64 0)),XV.c (CV.v (Value.bool false))] []) (ja0 (ilt h 1) (True/\True/\True/\V [XV.c (CV.v (Value.int .i64 0)),XV.c (CV.v (Value.int .i64 0)),XV.c (CV.v (Value.bool false))] []) (ja0 (igt w (isub IntKind.i64 c a)) (True/\True/\True/\V [XV.c (CV.v (Value.int .i64 0)),XV.c (CV.v (Value.int .i64 0)),XV.c (CV.v (Value.bool false))] []) (True/\ja0 (igt h (isub IntKind.i64 d b)) (True/\True/\V [XV.c (CV.v (Value.int .i64 0)),XV.c (CV.v (Value.int .i64 0)),XV.c (CV.v (Value.bool false))] []) ((ine h 0=true/\ine w 0=true/\True)/\True/\V [XV.c (CV.v (Value.int .i64 (iadd IntKind.i64 (iquo IntKind.i64 (isub IntKind.i64 (isub IntKind.i64 c a) 1) w) 1))),XV.c (CV.v (Value.int .i64 (iadd IntKind.i64 (iquo IntKind.i64 (isub IntKind.i64 (isub IntKind.i64 d b) 1) h) 1))),XV.c (CV.v (Value.bool true))] [])))))):=by
 try delta q72
 try delta jh5
 generalize @reB=reB
 kernel_rfl
end Go.Proofs.YthkidembkknoeaaDoor
namespace Go.Proofs.YthkidembkknoeaaDoor
open Go.RowKit PR QR
set_option linter.unusedVariables false
set_option linter.unusedSimpArgs false
noncomputable def orP (m:Int) (l:Int->Nat->Int) (n:Int):Bool:=@decide (m=n/\orI m l n n) (Classical.propDecidable _)
def orA (i a:Int):Int:=isel (ilt a i) a 0
def orT (n i:Int):Prop:=0<=i/\i<=n
noncomputable def vq3:List AV->Option QR.Ans
 | [.x (.c c),.x (.c (.v (.int .i64 n)))]=>match jf4 1 c with
  | some (m,r)=>some ⟨[.c (.v (.bool (orP m (λ i _=>intC (den r i 0)) n)))],[],[intRow .i64 1 m r,ilt 0 m=true,ile 0 n=true,ile n 16777216=true]⟩
  | none=>none
 | _=>none
noncomputable def q75 (m:Int) (l:Int->Nat->Int) (n:Int):QR.Inv where
 ι:=Int
 good i:=orI m l n i
 slots i:=QR.slotsOf Tryd.f79.ntmps [(0,.x (.c (.slc 1 m (.fn λ a b=>.v (.int .i64 (l a b)))))),(1,.x (.c (.v (.int .i64 n)))),(4,.x (.c (.v (.bool false)))),(5,.x (.c (.own 1000000000000000 n))),(14,.x (.c (.slc 1 m (.fn λ a b=>.v (.int .i64 (l a b)))))),(15,.x (.c (.v (.int .i64 m)))),(16,.x (.c (.v (.int .i64 i))))]
 blocks i:=[(1000000000000000,.row 1 n (.fn λ a b=>.v (.bool (orS m l i a))))]
 μ i:=orMu n i
noncomputable def q76 (m:Int) (l:Int->Nat->Int) (n:Int):QR.Inv where
 ι:=Int
 good i:=orT n i
 slots i:=QR.slotsOf Tryd.f60.ntmps [(0,.x (.c (.slc 1 m (.fn λ a b=>.v (.int .i64 (l a b)))))),(1,.x (.c (.v (.int .i64 n)))),(4,.x (.c (.v (.slice none 0 0)))),(5,.x (.c (.v (.bool false)))),(6,.x (.c (.own 1000000000000000 n))),(33,.x (.c (.v (.int .i64 n)))),(34,.x (.c (.v (.int .i64 i))))]
 blocks i:=[(1000000000000000,.row 1 n (.fn λ a b=>.v (.int .i64 (orA i a))))]
 μ i:=orMu n i
noncomputable def q77:QR.ja8:=QR.orc [(79,vq3)]
set_option maxRecDepth 100000 in
theorem y55 (m:Int) (l:Int->Nat->Int) (n:Int) (V:List QR.XV->List (List QR.CV)->Prop):QR.ja5 Tryd.prog (QR.orc []) (λ k=>bif Nat.beq k 5 then some (.invs [q75 m l n]) else none) (Tryd.f79.body.getD .skip) Tryd.f79.results.toList Tryd.f79.ntmps [.x (.c (.slc 1 m (.fn λ i j=>.v (.int .i64 (l i j))))),.x (.c (.v (.int .i64 n)))] V=(True/\∀(i:Int),i=m->True/\ja0 (ine i n) (True/\True/\V [XV.c (CV.v (Value.bool false))] []) ((ile 0 n=true/\ile n n=true/\ile (jd2 n 1) 140737488355328=true/\ile n 140737488355328=true/\True)/\∀(i:Int),i=m->True/\((∃(i_1:Int),orI m l n i_1/\True/\true=true/\((true=true/\1=1/\m=m/\True/\∀(i:Nat),ilt (Int.ofNat i) m=true->IntKind.i64=IntKind.i64/\l (Int.ofNat i) 0=l (Int.ofNat i) 0)/\(true=true/\IntKind.i64=IntKind.i64/\n=n)/\(true=true/\false=false)/\(true=true/\3073=3073/\n=n)/\(true=true/\1=1/\m=m/\True/\∀(i:Nat),ilt (Int.ofNat i) m=true->IntKind.i64=IntKind.i64/\l (Int.ofNat i) 0=l (Int.ofNat i) 0)/\(true=true/\IntKind.i64=IntKind.i64/\i=m)/\(true=true/\IntKind.i64=IntKind.i64/\(0:Int)=i_1)/\True)/\(1=1/\n=n/\True/\∀(i:Nat),ilt (Int.ofNat i) n=true->false=orS m l i_1 (Int.ofNat i))/\True)\/False)/\(∀(i:Int),orI m l n i->True/\ja0 (ilt i m) ((ile 0 i=true/\ilt i m=true/\True)/\ja0 (ilt (l i 0) 0) (True/\True/\True/\V [XV.c (CV.v (Value.bool false))] []) (ja0 (ige (l i 0) n) (True/\True/\True/\V [XV.c (CV.v (Value.bool false))] []) ((ile 0 (l i 0)=true/\ilt (l i 0) n=true/\True)/\ja0 (orS m l i (l i 0)) (True/\True/\V [XV.c (CV.v (Value.bool false))] []) ((ile 0 (l i 0)=true/\ilt (l i 0) n=true/\True)/\True/\((∃(i_1:Int),orI m l n i_1/\(True/\true=true/\((true=true/\1=1/\m=m/\True/\∀(i:Nat),ilt (Int.ofNat i) m=true->IntKind.i64=IntKind.i64/\l (Int.ofNat i) 0=l (Int.ofNat i) 0)/\(true=true/\IntKind.i64=IntKind.i64/\n=n)/\(true=true/\false=false)/\(true=true/\1000000000000000=1000000000000000/\n=n)/\(true=true/\1=1/\m=m/\True/\∀(i:Nat),ilt (Int.ofNat i) m=true->IntKind.i64=IntKind.i64/\l (Int.ofNat i) 0=l (Int.ofNat i) 0)/\(true=true/\IntKind.i64=IntKind.i64/\m=m)/\(true=true/\IntKind.i64=IntKind.i64/\iadd IntKind.i64 i 1=i_1)/\True)/\(1=1/\n=n/\True/\∀(i_2:Nat),ilt (Int.ofNat i_2) n=true->bsel (ieq (Int.ofNat i_2) (l i 0)) true (orS m l i (Int.ofNat i_2))=orS m l i_1 (Int.ofNat i_2))/\True)/\Nat.le (Nat.succ (orMu n i_1)) (orMu n i))\/False))))) (True/\True/\V [XV.c (CV.v (Value.bool true))] []))/\True)):=by
 try delta q75
 generalize @orI=orI
 generalize @orMu=orMu
 generalize @orS=orS
 kernel_rfl
set_option maxRecDepth 100000 in
theorem yg1 (m:Int) (l:Int->Nat->Int) (n:Int) (V:List QR.XV->List (List QR.CV)->Prop):QR.ja5 Tryd.prog (q77) (λ k=>bif Nat.beq k 10 then some (.invs [q76 m l n]) else none) (Tryd.f60.body.getD .skip) Tryd.f60.results.toList Tryd.f60.ntmps [.x (.c (.slc 1 m (.fn λ i j=>.v (.int .i64 (l i j))))),.x (.c (.v (.int .i64 n)))] V=(True/\ja0 (ilt n 0) (True/\True/\True/\V [XV.c (CV.v (Value.slice Option.none 0 0)),XV.c (CV.v (Value.bool false))] []) (True/\ja0 (igt n 16777216) (True/\True/\V [XV.c (CV.v (Value.slice Option.none 0 0)),XV.c (CV.v (Value.bool false))] []) (∀(i:Int),i=m->ja0 (ine i 0) ((intRow IntKind.i64 1 m (QR.Row.fn λ (i:Int) (j:Nat)=>CV.v (Value.int .i64 (l i j)))/\ilt 0 m=true/\ile 0 n=true/\ile n 16777216=true/\True)/\ja0 (bnot (orP m (λ (i:Int) (x:Nat)=>l i 0) n)) (True/\True/\V [XV.c (CV.v (Value.slice Option.none 0 0)),XV.c (CV.v (Value.bool false))] []) ((ile 0 n=true/\ile n n=true/\ile (jd2 n 8) 140737488355328=true/\ile n 140737488355328=true/\True)/\∀(i:Int),i=m->True/\ja0 (ine i 0) (∀(i:Int),i=jf2 n m->True/\True/\True/\V [XV.c (CV.fresh 1 n (QR.Row.app (QR.Row.app (QR.Row.zer [Value.int .i64 0]) 0 (QR.Row.fn λ (i:Int) (j:Nat)=>CV.v (Value.int .i64 (l i j)))) (addZ 0 (jf2 n m)) (QR.Row.sub (QR.Row.zer [Value.int .i64 0]) (addZ 0 (jf2 n m))))),XV.c (CV.v (Value.bool true))] []) (∀(i:Int),i=n->True/\((∃(i_1:Int),orT n i_1/\True/\true=true/\((true=true/\1=1/\m=m/\True/\∀(i:Nat),ilt (Int.ofNat i) m=true->IntKind.i64=IntKind.i64/\l (Int.ofNat i) 0=l (Int.ofNat i) 0)/\(true=true/\IntKind.i64=IntKind.i64/\n=n)/\(true=true/\Value.slice Option.none 0 0=Value.slice Option.none 0 0)/\(true=true/\false=false)/\(true=true/\5121=5121/\n=n)/\(true=true/\IntKind.i64=IntKind.i64/\i=n)/\(true=true/\IntKind.i64=IntKind.i64/\(0:Int)=i_1)/\True)/\(1=1/\n=n/\True/\∀(i:Nat),ilt (Int.ofNat i) n=true->IntKind.i64=IntKind.i64/\(0:Int)=orA i_1 (Int.ofNat i))/\True)\/False)/\(∀(i:Int),orT n i->True/\ja0 (ilt i n) (True/\(ile 0 i=true/\ilt i n=true/\True)/\True/\((∃(i_1:Int),orT n i_1/\(True/\true=true/\((true=true/\1=1/\m=m/\True/\∀(i:Nat),ilt (Int.ofNat i) m=true->IntKind.i64=IntKind.i64/\l (Int.ofNat i) 0=l (Int.ofNat i) 0)/\(true=true/\IntKind.i64=IntKind.i64/\n=n)/\(true=true/\Value.slice Option.none 0 0=Value.slice Option.none 0 0)/\(true=true/\false=false)/\(true=true/\1000000000000000=1000000000000000/\n=n)/\(true=true/\IntKind.i64=IntKind.i64/\n=n)/\(true=true/\IntKind.i64=IntKind.i64/\iadd IntKind.i64 i 1=i_1)/\True)/\(1=1/\n=n/\True/\∀(i_2:Nat),ilt (Int.ofNat i_2) n=true->IntKind.i64=IntKind.i64/\isel (ieq (Int.ofNat i_2) i) i (orA i (Int.ofNat i_2))=orA i_1 (Int.ofNat i_2))/\True)/\Nat.le (Nat.succ (orMu n i_1)) (orMu n i))\/False)) (True/\True/\V [XV.c (CV.fresh 1 n (QR.Row.fn λ (a:Int) (b:Nat)=>CV.v (Value.int .i64 (orA i a)))),XV.c (CV.v (Value.bool true))] []))/\True))) (True/\(ile 0 n=true/\ile n n=true/\ile (jd2 n 8) 140737488355328=true/\ile n 140737488355328=true/\True)/\∀(i:Int),i=m->True/\ja0 (ine i 0) (∀(i:Int),i=jf2 n m->True/\True/\True/\V [XV.c (CV.fresh 1 n (QR.Row.app (QR.Row.app (QR.Row.zer [Value.int .i64 0]) 0 (QR.Row.fn λ (i:Int) (j:Nat)=>CV.v (Value.int .i64 (l i j)))) (addZ 0 (jf2 n m)) (QR.Row.sub (QR.Row.zer [Value.int .i64 0]) (addZ 0 (jf2 n m))))),XV.c (CV.v (Value.bool true))] []) (∀(i:Int),i=n->True/\((∃(i_1:Int),orT n i_1/\True/\true=true/\((true=true/\1=1/\m=m/\True/\∀(i:Nat),ilt (Int.ofNat i) m=true->IntKind.i64=IntKind.i64/\l (Int.ofNat i) 0=l (Int.ofNat i) 0)/\(true=true/\IntKind.i64=IntKind.i64/\n=n)/\(true=true/\Value.slice Option.none 0 0=Value.slice Option.none 0 0)/\(true=true/\false=false)/\(true=true/\5121=5121/\n=n)/\(true=true/\IntKind.i64=IntKind.i64/\i=n)/\(true=true/\IntKind.i64=IntKind.i64/\(0:Int)=i_1)/\True)/\(1=1/\n=n/\True/\∀(i:Nat),ilt (Int.ofNat i) n=true->IntKind.i64=IntKind.i64/\(0:Int)=orA i_1 (Int.ofNat i))/\True)\/False)/\(∀(i:Int),orT n i->True/\ja0 (ilt i n) (True/\(ile 0 i=true/\ilt i n=true/\True)/\True/\((∃(i_1:Int),orT n i_1/\(True/\true=true/\((true=true/\1=1/\m=m/\True/\∀(i:Nat),ilt (Int.ofNat i) m=true->IntKind.i64=IntKind.i64/\l (Int.ofNat i) 0=l (Int.ofNat i) 0)/\(true=true/\IntKind.i64=IntKind.i64/\n=n)/\(true=true/\Value.slice Option.none 0 0=Value.slice Option.none 0 0)/\(true=true/\false=false)/\(true=true/\1000000000000000=1000000000000000/\n=n)/\(true=true/\IntKind.i64=IntKind.i64/\n=n)/\(true=true/\IntKind.i64=IntKind.i64/\iadd IntKind.i64 i 1=i_1)/\True)/\(1=1/\n=n/\True/\∀(i_2:Nat),ilt (Int.ofNat i_2) n=true->IntKind.i64=IntKind.i64/\isel (ieq (Int.ofNat i_2) i) i (orA i (Int.ofNat i_2))=orA i_1 (Int.ofNat i_2))/\True)/\Nat.le (Nat.succ (orMu n i_1)) (orMu n i))\/False)) (True/\True/\V [XV.c (CV.fresh 1 n (QR.Row.fn λ (a:Int) (b:Nat)=>CV.v (Value.int .i64 (orA i a)))),XV.c (CV.v (Value.bool true))] []))/\True))))):=by
 try delta q77
 try delta q76
 try delta vq3
 generalize @jf2=jf2
 generalize @intRow=intRow
 generalize @orA=orA
 generalize @orMu=orMu
 generalize @orP=orP
 generalize @orT=orT
 kernel_rfl
end Go.Proofs.YthkidembkknoeaaDoor
