import Derived.Test.YthkidembkknoeaaDoorPm11
import Derived.Test.YthkidembkknoeaaDoorPm12
import Derived.Test.YthkidembkknoeaaDoorPm13
namespace Go.Proofs.YthkidembkknoeaaDoor
open Go.RowKit PR QR
set_option linter.unusedVariables false
set_option linter.unusedSimpArgs false
set_option maxRecDepth 20000
theorem q80 {m:Im} {b:Bool} (h:m.sol=b):imC m=imC ⟨m.w,m.h,b,m.c0,m.c1,m.c2,m.a,m.f,m.p0,m.p1,m.p2,m.p3,m.p4⟩:=by unfold imC;rw [h]
theorem jq2 {m:Im} {p:Pl}:plW m p=true↔plB p.w p.h p.s p.n=true/\p.w=m.w/\p.h=m.h:=by unfold plW;rw [decide_eq_true_eq]
theorem jq3 {p:Pl}:plZ p=true↔p.w=0/\p.h=0/\p.s=0/\p.n=0:=by unfold plZ;rw [decide_eq_true_eq]
theorem jb5 {a b:Int} (h:ieq a b=true):a=b:=of_decide_eq_true h
theorem jd8 {a b:Int} (h:ieq a b=false):a≠b:=of_decide_eq_false h
theorem jp5 {a b:Int} (h:ine a b=true):a≠b:=by simpa [ine] using h
theorem jp6 {a b:Int} (h:ine a b=false):a=b:=by simpa [ine] using h
theorem yg7 {m:Im} (hs:m.sol=false) {k:Nat} (hk:k < 5) (h:plW m (imPl m k)=false):imF m=false:=by
 unfold imF;rw [hs]
 match k,hk with
 | 0,_=>simp [show plW m m.p0=false from h]
 | 1,_=>simp [show plW m m.p1=false from h]
 | 2,_=>simp [show plW m m.p2=false from h]
 | 3,_=>simp [show plW m m.p3=false from h]
 | 4,_=>simp [show plW m m.p4=false from h]
theorem yg8 {m:Im} (hs:m.sol=true) {k:Nat} (hk:k < 5) (h:plZ (imPl m k)=false):imF m=false:=by
 unfold imF;rw [hs]
 match k,hk with
 | 0,_=>simp [show plZ m.p0=false from h]
 | 1,_=>simp [show plZ m.p1=false from h]
 | 2,_=>simp [show plZ m.p2=false from h]
 | 3,_=>simp [show plZ m.p3=false from h]
 | 4,_=>simp [show plZ m.p4=false from h]
theorem vl0 {m:Im} (hs:m.sol=false) (h:∀k:Nat,k < 5->plW m (imPl m k)=true):imF m=colZ m:=by
 unfold imF;rw [hs]
 simp [show plW m m.p0=true from h 0 (by decide),show plW m m.p1=true from h 1 (by decide),show plW m m.p2=true from h 2 (by decide),show plW m m.p3=true from h 3 (by decide),show plW m m.p4=true from h 4 (by decide)]
theorem vq8 {m:Im} (hs:m.sol=true) (h:∀k:Nat,k < 5->plZ (imPl m k)=true):imF m=true:=by
 unfold imF;rw [hs]
 simp [show plZ m.p0=true from h 0 (by decide),show plZ m.p1=true from h 1 (by decide),show plZ m.p2=true from h 2 (by decide),show plZ m.p3=true from h 3 (by decide),show plZ m.p4=true from h 4 (by decide)]
theorem vq9 {m:Im} {b:Bool} {i:Int} (hi:jg9 m b i) {k:Nat} (hk:k < 5) (e:i=k) (h:bif b then plZ (imPl m k)=true else plW m (imPl m k)=true):∃j,jg9 m b j/\iadd .i64 i 1=j/\(jo2 j).succ.le (jo2 i):=by
 subst e
 have ia:iadd .i64 (k:Int) 1=k + 1:=IntWalk.i64_in _ (by omega)
 refine ⟨_,⟨by omega,λ q hq=>?_⟩,ia,?_⟩
 ·by_cases e:q=k
  ·subst e;exact h
  ·exact hi.2 q (by omega)
 ·show jo2 _ < jo2 _
  unfold jo2;omega
theorem qe8 {m:Im} (hs:m.sol=false) {i:Int} (hi:jg9 m false i) (k:Nat) (hk:k < 5) (e:i=k) :
  ((!plB (imPl m k).w (imPl m k).h (imPl m k).s (imPl m k).n)=true->false=imF m)/\((!plB (imPl m k).w (imPl m k).h (imPl m k).s (imPl m k).n)=false->(ine (imPl m k).w m.w=true->false=imF m)/\(ine (imPl m k).w m.w=false->(ine (imPl m k).h m.h=true->false=imF m)/\(ine (imPl m k).h m.h=false->∃j,jg9 m false j/\iadd .i64 i 1=j/\(jo2 j).succ.le (jo2 i)))):=by
 have no:plW m (imPl m k)≠true->false=imF m:=λ h=>(yg7 hs hk (Bool.eq_false_iff.2 h)).symm
 refine ⟨λ h=>no λ w=>?_,λ h=>⟨λ h2=>no λ w=>jp5 h2 (jq2.1 w).2.1,λ h2=>⟨λ h3=>no λ w=>jp5 h3 (jq2.1 w).2.2,λ h3=>vq9 hi hk e (jq2.2 ⟨by simpa using h,jp6 h2,jp6 h3⟩)⟩⟩⟩
 rw [(jq2.1 w).1] at h;simp at h
theorem qe9 {m:Im} (hs:m.sol=true) {i:Int} (hi:jg9 m true i) (k:Nat) (hk:k < 5) (hn:ile 0 (imPl m k).n=true) (e:i=k) :
  (ine (imPl m k).w 0=true->false=imF m)/\(ine (imPl m k).w 0=false->(ine (imPl m k).h 0=true->false=imF m)/\(ine (imPl m k).h 0=false->(ine (imPl m k).s 0=true->false=imF m)/\(ine (imPl m k).s 0=false->∀t:Int,t=(imPl m k).n->(igt t 0=true->false=imF m)/\(igt t 0=false->∃j,jg9 m true j/\iadd .i64 i 1=j/\(jo2 j).succ.le (jo2 i))))):=by
 have no:plZ (imPl m k)≠true->false=imF m:=λ h=>(yg8 hs hk (Bool.eq_false_iff.2 h)).symm
 have hn:=je3 hn
 refine ⟨λ h=>no λ w=>jp5 h (jq3.1 w).1,λ h=>⟨λ h2=>no λ w=>jp5 h2 (jq3.1 w).2.1,λ h2=>⟨λ h3=>no λ w=>jp5 h3 (jq3.1 w).2.2.1,λ h3 t ht=>⟨λ h4=>no λ w=>?_,λ h4=>vq9 hi hk e (jq3.2 ⟨jp6 h,jp6 h2,jp6 h3,?_⟩)⟩⟩⟩⟩
 ·have:=of_decide_eq_true h4
  have:=(jq3.1 w).2.2.2
  omega
 ·have:=of_decide_eq_false h4
  omega
theorem yg9:ja6 62 yq3:=by
 intro al ans hh hq
 unfold yq3 at hh
 split at hh <;> try (simp at hh;done)
 rename_i l
 cases em:ji3 l with
 | none=>simp [em] at hh
 | some p =>
 obtain ⟨m,A⟩:=p
 simp only [em] at hh
 simp only [Option.some.injEq] at hh
 subst hh
 have hG:imG m:=hq _ (by simp)
 refine jc0 (al':=[.x (.agg (imC m))]) ⟨jw1 em λ p hp=>hq p (by simp [hp]),trivial⟩ ?_
 obtain ⟨_,_,⟨w0,h0,s0,n0,_⟩,⟨w1,h1,s1,n1,_⟩,⟨w2,h2,s2,n2,_⟩,⟨w3,h3,s3,n3,_⟩,w4,h4,s4,n4,_⟩:=hG
 cases hs:m.sol
 ·rw [q80 hs]
  refine QR.ja2 (O:=vu9) (QR.ja3 yt2 QR.jb1) mixed (λ n=>bif Nat.beq n 2 then some (.inv (qt7 m)) else none) Tryd.func62 (by kernel_rfl) (by kernel_rfl) (by simp) ?_
  rw [zd7]
  delta zz4 zz34 zz61 zz62 zz63 zz64 zz70 zz100 zz110
  simp only [jb4,eqXs,eqX,eqo,eqLo,eqL,eqc,veq,eqUs,ja1,bnot,jf5,w0,h0,s0,n0,w1,h1,s1,n1,w2,h2,s2,n2,w3,h3,s3,n3,w4,h4,s4,n4,true_and,and_true,implies_true,true_implies,reduceCtorEq,false_implies,and_self,Bool.not_true,Bool.false_eq_true,Bool.not_false]
  refine ⟨⟨0,⟨by omega,λ k hk=>by omega⟩,rfl⟩,λ i hi=>⟨λ c=>⟨λ e=>qe8 hs hi 0 (by decide) (jb5 e),λ e0=>⟨λ e=>qe8 hs hi 1 (by decide) (jb5 e),λ e1=>⟨λ e=>qe8 hs hi 2 (by decide) (jb5 e),λ e2=>⟨λ e=>qe8 hs hi 3 (by decide) (jb5 e),λ e3=>⟨λ e=>qe8 hs hi 4 (by decide) (jb5 e),λ e4=>?_⟩⟩⟩⟩⟩,λ c=>?_⟩⟩
  ·have:=jd8 e0;have:=jd8 e1;have:=jd8 e2;have:=jd8 e3;have:=jd8 e4
   have:=hi.1;have:=of_decide_eq_true c
   omega
  ·have:=of_decide_eq_false c
   rw [vl0 hs λ k hk=>hi.2 k (by omega)]
   unfold colZ ieq
   rw [Bool.eq_iff_iff]
   simp [band,and_assoc]
 ·rw [q80 hs]
  refine QR.ja2 (O:=vu9) (QR.ja3 yt2 QR.jb1) mixed (λ n=>bif Nat.beq n 2 then some (.inv (qt6 m)) else none) Tryd.func62 (by kernel_rfl) (by kernel_rfl) (by simp) ?_
  rw [zd6]
  delta zz5 zz34 zz61 zz62 zz63 zz64 zz70 zz101 zz111
  simp only [jb4,eqXs,eqX,eqo,eqLo,eqL,eqc,veq,eqUs,ja1,bnot,jf5,w0,h0,s0,n0,w1,h1,s1,n1,w2,h2,s2,n2,w3,h3,s3,n3,w4,h4,s4,n4,true_and,and_true,implies_true,true_implies,reduceCtorEq,false_implies,and_self,Bool.not_true,Bool.false_eq_true,Bool.not_false]
  refine ⟨⟨0,⟨by omega,λ k hk=>by omega⟩,rfl⟩,λ i hi=>⟨λ c=>⟨λ e=>qe9 hs hi 0 (by decide) n0 (jb5 e),λ e0=>⟨λ e=>qe9 hs hi 1 (by decide) n1 (jb5 e),λ e1=>⟨λ e=>qe9 hs hi 2 (by decide) n2 (jb5 e),λ e2=>⟨λ e=>qe9 hs hi 3 (by decide) n3 (jb5 e),λ e3=>⟨λ e=>qe9 hs hi 4 (by decide) n4 (jb5 e),λ e4=>?_⟩⟩⟩⟩⟩,λ c=>?_⟩⟩
  ·have:=jd8 e0;have:=jd8 e1;have:=jd8 e2;have:=jd8 e3;have:=jd8 e4
   have:=hi.1;have:=of_decide_eq_true c
   omega
  ·have:=of_decide_eq_false c
   exact (vq8 hs λ k hk=>hi.2 k (by omega)).symm
theorem zh9 {m:Im} {x y:Int} (h:imIn m x y=true) (hs:m.sol=false) {k:Nat} (hk:k < 5):inB (imPl m k).w (imPl m k).h (imPl m k).s (imPl m k).n x y=true:=by
 have h:=of_decide_eq_true h
 obtain ⟨h1,h2,h3,h4⟩:=h
 have w:plW m (imPl m k)=true:=by
  rw [<- Bool.not_eq_false]
  intro c
  rw [yg7 hs hk c] at h2;simp at h2
 obtain ⟨w1,w2,w3⟩:=jq2.1 w
 exact yb4.2 ⟨w1,by rw [w2];exact h3,by rw [w3];exact h4⟩
theorem qv9 {m:Im} {x y:Int} (h:imIn m x y=true) (hs:m.sol=false) {k:Nat} (hk:k < 5) :
  iadd .i64 (imul .i64 y (imPl m k).s) x=patI (imPl m k).s x y/\ile 0 (patI (imPl m k).s x y)=true/\ilt (patI (imPl m k).s x y) (imPl m k).n=true:=by
 have h':=zh9 h hs hk
 obtain ⟨p1,p2,p3,p4,p5,p6⟩:=zg7 h'
 have f':=(yb4.1 h').2
 obtain ⟨e1,e2,_⟩:=at_in (s:=(imPl m k).s) (x:=x) (y:=y) (by omega) p3 p6 p4 (by omega) p5
 exact ⟨by rw [e1,e2],jb2 p1,ji1 p2⟩
theorem zi3:ja6 64 vq4:=by
 intro al ans hh hq
 unfold vq4 at hh
 split at hh <;> try (simp at hh;done)
 rename_i l x y
 cases em:ji3 l with
 | none=>simp [em] at hh
 | some pm =>
 obtain ⟨m,Am⟩:=pm
 simp only [em] at hh
 simp only [Option.some.injEq] at hh
 subst hh
 refine jc0 (al':=[.x (.agg (imC m)),.x (.c (.v (.int .i64 x))),.x (.c (.v (.int .i64 y)))]) ⟨jw1 em λ p hp=>hq p (by simp [hp]),.v _,.v _,trivial⟩ ?_
 have hq:=asked hq
 refine QR.ja2 (O:=(QR.orc [])) QR.jb1 mixed ((λ n=>bif Nat.beq n 5 then some (.rounds 6) else none)) Tryd.func64 (by kernel_rfl) (by kernel_rfl) (by simp) ?_
 rw [zd8]
 delta zz140
 obtain ⟨hi,hG,_⟩:=hq
 have pv:∀k,pxV m k x y=bif m.sol then yg5 m k else (imPl m k).l (patI (imPl m k).s x y):=λ _=>rfl
 cases hs:m.sol
 ·obtain ⟨a0,b0,c0⟩:=qv9 hi hs (k:=0) (by decide)
  obtain ⟨a1,b1,c1⟩:=qv9 hi hs (k:=1) (by decide)
  obtain ⟨a2,b2,c2⟩:=qv9 hi hs (k:=2) (by decide)
  obtain ⟨a3,b3,c3⟩:=qv9 hi hs (k:=3) (by decide)
  obtain ⟨a4,b4,c4⟩:=qv9 hi hs (k:=4) (by decide)
  simp only [imPl] at a0 b0 c0 a1 b1 c1 a2 b2 c2 a3 b3 c3 a4 b4 c4
  simp [jb4,eqXs,eqX,eqo,eqLo,eqL,eqc,veq,eqUs,ja1,hs,pv,imPl,a0,b0,c0,a1,b1,c1,a2,b2,c2,a3,b3,c3,a4,b4,c4]
 ·simp [jb4,eqXs,eqX,eqo,eqLo,eqL,eqc,veq,eqUs,ja1,hs,pv,yg5]
theorem yh0:ja6 27 qz1:=by
 intro al ans h hq
 unfold qz1 at h
 split at h <;> try (simp at h;done)
 rename_i w h c0 c1 c2 a f
 simp only [Option.some.injEq] at h
 subst h
 have hq:=asked hq
 refine QR.ja2 (O:=(QR.orc [])) QR.jb1 mixed (QR.ja4) Tryd.func27 (by kernel_rfl) (by kernel_rfl) (by simp) ?_
 rw [yq4]
 delta zz98
 have z:Nat.blt 0 1=true:=rfl
 simp [jb4,eqXs,eqX,eqo,eqLo,eqL,eqc,veq,eqUs,imC,qk7,jl9,nilC,z]
theorem qu1 {m:Im}:imOk m=true↔fitB m.w m.h=true/\imF m=true:=by unfold imOk;rw [Bool.and_eq_true]
theorem vr0 {m:Im} {x y:Int}:imIn m x y=true↔imOk m=true/\(0<=x/\x < m.w)/\0<=y/\y < m.h:=by unfold imIn;rw [decide_eq_true_eq,qu1];exact ⟨λ ⟨a,b,c⟩=>⟨⟨a,b⟩,c⟩,λ ⟨⟨a,b⟩,c⟩=>⟨a,b,c⟩⟩
theorem jw2 {m:Im} {t:Int} (f:fitB m.w m.h=true):qa3 m t=true↔∀x y:Int,0<=x->x < m.w->0<=y->y < m.h->pxB m t x y=true:=by
 have f4:=jg7.1 f
 unfold qa3
 rw [List.all_eq_true]
 refine ⟨λ h x y x0 x1 y0 y1=>?_,λ h y hy=>List.all_eq_true.2 λ x hx=>?_⟩
 ·have:=List.all_eq_true.1 (h y.toNat (List.mem_range.2 (by omega))) x.toNat (List.mem_range.2 (by omega))
  rw [show ((x.toNat:Nat):Int)=x by omega,show ((y.toNat:Nat):Int)=y by omega] at this
  exact this
 ·have:=List.mem_range.1 hy
  have:=List.mem_range.1 hx
  exact h x y (by omega) (by omega) (by omega) (by omega)
theorem qf0 {m:Im} {t:Int} (f:fitB m.w m.h=true) (hs:m.sol=true):qa3 m t=pvB m.c0 m.c1 m.c2 m.a m.f t:=by
 have pb:∀x y,pxB m t x y=pvB m.c0 m.c1 m.c2 m.a m.f t:=λ x y=>by unfold pxB pxV;rw [hs];rfl
 have f4:=jg7.1 f
 rw [Bool.eq_iff_iff,jw2 f]
 exact ⟨λ h=>by rw [<- pb 0 0];exact h 0 0 (by omega) (by omega) (by omega) (by omega),λ h x y _ _ _ _=>by rw [pb];exact h⟩
theorem ze0:ja6 36 ve9:=by
 intro al ans hh hq
 unfold ve9 at hh
 split at hh <;> try (simp at hh;done)
 rename_i l t
 cases em:ji3 l with
 | none=>simp [em] at hh
 | some pm =>
 obtain ⟨m,Am⟩:=pm
 simp only [em] at hh
 simp only [Option.some.injEq] at hh
 subst hh
 refine jc0 (al':=[.x (.agg (imC m)),.x (.c (.v (.int .u16 t)))]) ⟨jw1 em λ p hp=>hq p (by simp [hp]),.v _,trivial⟩ ?_
 have hq:=asked hq
 refine QR.ja2 (O:=yg6) (QR.ja3 vi7 (QR.ja3 yg9 (QR.ja3 vv8 (QR.ja3 zi3 QR.jb1)))) mixed ((λ n=>bif Nat.beq n 10 then some (.inv (qt8 m t)) else bif Nat.beq n 13 then some (.invF λ g=>[qt9 m t (g 5)]) else none)) Tryd.func36 (by kernel_rfl) (by kernel_rfl) (by simp) ?_
 rw [y57]
 delta zz1 zz12 zz112
 have hG:=hq.1
 obtain ⟨⟨iw,ih⟩,_⟩:=hq.1
 have e:imE m t=bif fitB m.w m.h then (bif imF m then (bif qa3 m t then 0 else 8) else 7) else 6:=rfl
 generalize imE m t=b at *
 cases f:fitB m.w m.h
 ·rw [f] at e
  simp [jb4,eqXs,eqX,eqo,eqLo,eqL,eqc,veq,eqUs,ja1,bnot,jf5,hG,iw,ih,f,e]
 cases g:imF m
 ·rw [f,g] at e
  simp [jb4,eqXs,eqX,eqo,eqLo,eqL,eqc,veq,eqUs,ja1,bnot,jf5,hG,iw,ih,f,g,e]
 rw [f,g] at e
 have f4:=jg7.1 f
 cases hs:m.sol
 ·simp only [jb4,eqXs,eqX,eqo,eqLo,eqL,eqc,veq,eqUs,ja1,bnot,jf5,hG,iw,ih,f,g,hs,true_and,and_true,and_self,implies_true,true_implies,reduceCtorEq,false_implies,Bool.not_true,Bool.not_false,forall_eq,or_false,exists_eq_right,exists_eq_right']
  have w1:=jy5 f
  have e:b=bif qa3 m t then 0 else 8:=e
  have yes:qa3 m t=true->0=b:=λ k=>by rw [e,k];rfl
  have no:qa3 m t≠true->8=b:=λ k=>by rw [e,Bool.eq_false_iff.2 k];rfl
  refine ⟨⟨⟨Int.le_refl 0,by omega⟩,λ a b' _ _ _ _=>by omega⟩,λ y hy=>⟨λ c1=>⟨⟨⟨⟨hy.1.1,of_decide_eq_true c1⟩,Int.le_refl 0,by omega⟩,hy.2,λ a _ _=>by omega⟩,λ x hx=>⟨λ c2=>⟨?_,λ c3=>?_,λ c3=>?_⟩,λ c2=>?_⟩⟩,λ c1=>?_⟩⟩
  ·have:=of_decide_eq_true c2
   exact vr0.2 ⟨qu1.2 ⟨f,g⟩,⟨hx.1.2.1,this⟩,hx.1.1⟩
  ·have c2:=of_decide_eq_true c2
   refine no λ k=>?_
   have k:pvB _ _ _ _ _ _=true:=(jw2 f).1 k x y hx.1.2.1 c2 hx.1.1.1 hx.1.1.2
   rw [k] at c3;simp at c3
  ·have c2:=of_decide_eq_true c2
   have hx1:=hx.1
   have ia:iadd .i64 x 1=x + 1:=IntWalk.i64_in _ (by omega)
   refine ⟨x + 1,⟨⟨hx1.1,by omega,by omega⟩,hx.2.1,λ a a0 a1=>?_⟩,ia,?_⟩
   ·by_cases ea:a=x
    ·subst ea;exact by simpa [pxB] using c3
    ·exact hx.2.2 a a0 (by omega)
   ·show vf1 m _ < vf1 m _
    unfold vf1;omega
  ·have c2:=of_decide_eq_false c2
   have hx1:=hx.1
   have ia:iadd .i64 y 1=y + 1:=IntWalk.i64_in _ (by omega)
   refine ⟨y + 1,⟨by omega,λ a b' a0 a1 b0 b1=>?_⟩,ia,?_⟩
   ·by_cases eb:b'=y
    ·subst eb;exact hx.2.2 a a0 (by omega)
    ·exact hx.2.1 a b' a0 a1 b0 (by omega)
   ·show vf0 m _ < vf0 m _
    unfold vf0;omega
  ·have c1:=of_decide_eq_false c1
   exact yes ((jw2 f).2 λ a b' a0 a1 b0 b1=>hy.2 a b' a0 a1 b0 (by have:=hy.1;omega))
 ·have:qa3 m t=pvB m.c0 m.c1 m.c2 m.a m.f t:=qf0 f hs
  rw [this] at e
  cases k:pvB m.c0 m.c1 m.c2 m.a m.f t <;> rw [k] at e <;> simp [jb4,eqXs,eqX,eqo,eqLo,eqL,eqc,veq,eqUs,ja1,bnot,jf5,hG,iw,ih,f,g,hs,e,k]
theorem zi4:ja6 48 vq5:=by
 intro al ans hh hq
 unfold vq5 at hh
 split at hh <;> try (simp at hh;done)
 rename_i w h c
 cases en:jf4 5 c with
 | none=>simp [en] at hh
 | some pn =>
 obtain ⟨n,rn⟩:=pn
 simp only [en] at hh
 simp only [Option.some.injEq] at hh
 subst hh
 obtain ⟨q,hdn⟩:∃q:Int->Nat->Int,q=λ i j=>intC (den rn i j):=⟨_,rfl⟩
 try rw [<- hdn]
 refine jc0 (al':=[.x (.c (.v (.int .i64 w))),.x (.c (.v (.int .i64 h))),.x (.c (.slc 5 n (.fn λ i j=>.v (.int .u16 (q i j)))))]) ⟨.v _,.v _,(hdn▸jh1 en (by decide) (hq _ (by simp))),trivial⟩ ?_
 have hq:=asked hq
 refine QR.ja2 (O:=y58) (QR.ja3 vi7 QR.jb1) mixed ((λ n_=>bif Nat.beq n_ 5 then some (.rounds 6) else bif Nat.beq n_ 9 then some (.inv (qu0 w h n q)) else bif Nat.beq n_ 12 then some (.rounds 4) else none)) Tryd.func48 (by kernel_rfl) (by kernel_rfl) (by simp) ?_
 rw [zd9]
 delta zz0 zz7 zz16 zz80 zz84
 obtain ⟨_,iw,ih,hn,_⟩:=hq
 simp only [jb4,eqXs,eqX,eqo,eqLo,eqL,eqc,veq,eqUs,ja1,bnot,nilC,jf5,true_and,and_true,and_self,implies_true,true_implies,reduceCtorEq,false_implies,Bool.not_true,Bool.not_false,forall_eq,or_false,false_or,and_false,false_and,exists_false,exists_eq_right,exists_eq_right',iw,ih]
 have z1:Nat.blt 0 1=true:=rfl
 have no:jo1 w h n=false->eqLo [.v (.int .i64 0),.v (.int .i64 0),.v (.bool false),.v (.int .u16 0),.v (.int .u16 0),.v (.int .u16 0),.v (.int .u16 0),.v (.int .u16 0),.v (.int .i64 0),.v (.int .i64 0),.v (.int .i64 0),.v (.slice none 0 0),.v (.int .i64 0),.v (.int .i64 0),.v (.int .i64 0),.v (.slice none 0 0),.v (.int .i64 0),.v (.int .i64 0),.v (.int .i64 0),.v (.slice none 0 0),.v (.int .i64 0),.v (.int .i64 0),.v (.int .i64 0),.v (.slice none 0 0),.v (.int .i64 0),.v (.int .i64 0),.v (.int .i64 0),.v (.slice none 0 0)] (imC (jc5 w h n q))/\false=jo1 w h n:=by
  intro k
  have:jc5 w h n q=qj9:=by unfold jc5;rw [k];rfl
  rw [this,k]
  simp [imC,qj9,jl9,eqLo,eqo,eqc,veq,nilC,z1]
 refine ⟨λ c=>no (decide_eq_false λ k=>by rw [k.1] at c;simp at c),λ f=>?_⟩
 have f:fitB w h=true:=by simpa using f
 have w1:=jy5 f
 have f4:=jg7.1 f
 have p0:=Int.mul_nonneg (show 0<=w by omega) (show 0<=h by omega)
 have em:imul .i64 w h=w * h:=IntWalk.i64_in _ (by omega)
 rw [em]
 refine ⟨λ c=>no (decide_eq_false λ k=>jp5 c k.2),λ c=>?_⟩
 obtain rfl:=jp6 c
 have ok:jo1 w h (w * h)=true:=decide_eq_true ⟨f,rfl⟩
 have c1:ile 0 (w * h)=true:=jb2 p0
 have c2:ile (w * h) (w * h)=true:=jb2 (Int.le_refl _)
 have c3:ile (jd2 (w * h) 2) 140737488355328=true:=jb2 (by unfold jd2;omega)
 have c4:ile (w * h) 140737488355328=true:=jb2 (by omega)
 have eN:w * h=rioN w h:=rfl
 have V:∀(t:Int) (k:Nat) (i:Nat),0=rioV q 0 (Int.ofNat i) k:=λ t k i=>by
  unfold rioV;exact (if_neg (show ¬ ((i:Nat):Int) < 0 by omega)).symm
 refine ⟨⟨c1,c2,c3,c4⟩,⟨c1,c2,c3,c4⟩,⟨c1,c2,c3,c4⟩,⟨c1,c2,c3,c4⟩,⟨c1,c2,c3,c4⟩,⟨0,⟨Int.le_refl 0,p0⟩,rfl,rfl,⟨rfl,λ i _=>V 0 0 i⟩,⟨rfl,λ i _=>V 0 1 i⟩,⟨rfl,λ i _=>V 0 2 i⟩,⟨rfl,λ i _=>V 0 3 i⟩,rfl,λ i _=>V 0 4 i⟩,λ i hi=>⟨λ d=>?_,λ d=>?_⟩⟩
 ·have d':=of_decide_eq_true d
  have i0:=jb2 hi.1
  have d2:ilt i (rioN w h)=true:=d
  have ia:iadd .i64 i 1=i + 1:=IntWalk.i64_in _ (by have:=hi.1;omega)
  have K:∀k (t:Nat),isel (ieq (Int.ofNat t) i) (q i k) (rioV q i (Int.ofNat t) k)=rioV q (i + 1) (Int.ofNat t) k:=λ k t=>by
   unfold rioV
   cases e:ieq (Int.ofNat t) i
   ·have e:=jd8 e
    rw [jp3]
    by_cases l:Int.ofNat t < i
    ·rw [if_pos l,if_pos (by omega)]
    ·rw [if_neg l,if_neg (by omega)]
   ·have e:=jb5 e
    rw [jk3,if_pos (by omega),e]
  refine ⟨⟨i0,d2,i0,d⟩,⟨i0,d2,i0,d⟩,⟨i0,d2,i0,d⟩,⟨i0,d2,i0,d2,i0,d,i0,d⟩,i + 1,⟨by have:=hi.1;omega,by omega⟩,⟨ia,λ t _=>K 0 t,λ t _=>K 1 t,λ t _=>K 2 t,λ t _=>K 3 t,λ t _=>K 4 t⟩,?_⟩
  show vf2 _ _ < vf2 _ _
  unfold vf2;omega
 ·have d:=of_decide_eq_false d
  have e:jc5 w h (w * h) q=⟨w,h,false,0,0,0,0,0,jk4 w h (w * h) q 0,jk4 w h (w * h) q 1,jk4 w h (w * h) q 2,jk4 w h (w * h) q 3,jk4 w h (w * h) q 4⟩:=by unfold jc5;rw [ok];rfl
  have K:∀k,EqC (.slc 1 (rioN w h) (.fn λ t _=>.v (.int .u16 (rioV q i t k)))) (.slc 1 (w * h) (.fn λ t _=>.v (.int .u16 (q t k)))):=λ k=>by
   refine .slc λ t j ht hj=>?_
   have ht:(t:Int) < w * h:=ht
   have:rioV q i t k=q t k:=by unfold rioV;rw [if_pos (by have:=hi.2;omega)]
   show EqC (.v (.int .u16 (rioV q i t k))) _
   rw [this];exact .v _
  rw [e]
  refine ⟨?_,ok.symm⟩
  simp only [imC,jk4,eqLo,eqo,eqc,veq,true_and,and_true,and_self]
  exact ⟨K 0,K 1,K 2,K 3,K 4⟩
end Go.Proofs.YthkidembkknoeaaDoor
namespace Go.Proofs.YthkidembkknoeaaDoor
open Go.RowKit PR QR
set_option linter.unusedVariables false
set_option linter.unusedSimpArgs false
set_option maxRecDepth 20000
theorem ze2 (w h c0 c1 c2 a f:Int):eqLo (imC (qk7 w h c0 c1 c2 a f)) (imC (qk7 w h c0 c1 c2 a f)):=by
 have z:∀r:QR.Row,EqC (.slc 1 0 r) (.slc 1 0 r):=λ r=>.slc λ i j hi _=>by omega
 simp [imC,qk7,jl9,eqLo,eqo,eqc,veq,z]
theorem vf3 {w h n:Int} {q:Int->Nat->Int} (ok:jo1 w h n=true):jc5 w h n q=⟨w,h,false,0,0,0,0,0,jk4 w h n q 0,jk4 w h n q 1,jk4 w h n q 2,jk4 w h n q 3,jk4 w h n q 4⟩:=by unfold jc5;rw [ok];rfl
theorem yu1 {w h n:Int} {q:Int->Nat->Int} (ok:jo1 w h n=false):jc5 w h n q=qj9:=by unfold jc5;rw [ok];rfl
theorem vw0 {w h n:Int} {q q':Int->Nat->Int} (H:∀(i k:Nat),(i:Int) < n->k < 5->q i k=q' i k):eqLo (imC (jc5 w h n q)) (imC (jc5 w h n q')):=by
 cases ok:jo1 w h n
 ·rw [yu1 ok,yu1 ok]
  have z:∀r:QR.Row,EqC (.slc 1 0 r) (.slc 1 0 r):=λ r=>.slc λ i j hi _=>by omega
  simp [imC,qj9,jl9,eqLo,eqo,eqc,veq,z]
 ·rw [vf3 ok,vf3 ok]
  have K:∀k:Nat,k < 5->EqC (.slc 1 n (.fn λ t _=>.v (.int .u16 (q t k)))) (.slc 1 n (.fn λ t _=>.v (.int .u16 (q' t k)))):=λ k hk=>by
   refine .slc λ t j ht hj=>?_
   show EqC (.v (.int .u16 (q t k))) (.v (.int .u16 (q' t k)))
   rw [H t k ht hk];exact .v _
  simp only [imC,jk4,eqLo,eqo,eqc,veq,true_and,and_true,and_self]
  exact ⟨K 0 (by decide),K 1 (by decide),K 2 (by decide),K 3 (by decide),K 4 (by decide)⟩
end Go.Proofs.YthkidembkknoeaaDoor
namespace Go.Proofs.YthkidembkknoeaaDoor
open Go.RowKit PR QR
set_option linter.unusedVariables false
set_option linter.unusedSimpArgs false
set_option maxRecDepth 20000
theorem y61 (x y:Int):isel true x y=x:=rfl
theorem y62 (x y:Int):isel false x y=y:=rfl
section
variable {md n k t i:Int} {q:Int->Nat->Int}
theorem qu2 {g:Int->Int} {v:Int} (hi:0<=i) (h:v=g i) (p:Nat) (hp:ilt (Int.ofNat p) (addZ i 1)=true):isel (ilt (Int.ofNat p) i) (g (Int.ofNat p)) (isel (ieq (subZ (Int.ofNat p) i) 0) v 0)=g (Int.ofNat p):=by
 have hp:=ji8 hp
 unfold addZ at hp
 cases e:ilt (Int.ofNat p) i
 ·have e:=jy6 e
  have e2:Int.ofNat p=i:=by omega
  rw [y62,e2,show subZ i i=0 by unfold subZ;omega,qk8,y61,h]
 ·rfl
theorem yq5 (hk:k<=1099511627776) (hi:jj4 k i) (lt:ilt i k=true):ile (jd2 (addZ i 1) 10) 140737488355328=true/\addZ i 1=i + 1/\iadd .i64 i 1=i + 1/\jj4 k (i + 1)/\(jt7 k (i + 1)).succ.le (jt7 k i)/\0<=i:=by
 have lt:=ji8 lt
 have h0:=hi.1
 refine ⟨jb2 (by unfold jd2 addZ;omega),rfl,?_,⟨by omega,Or.inr (by omega)⟩,?_,h0⟩
 ·unfold iadd;rw [IntKind.wrap_i64];omega
 ·unfold jt7;show (k - (i + 1)).toNat + 1<=(k - i).toNat;omega
theorem yh1 {j:Nat} (h:0 < n):grQ n q i j=q (i % n) j:=if_pos h
theorem yh2 {j:Nat} (h:¬ 0 < n):grQ n q i j=0:=if_neg h
theorem qa5 (h:gmod md 6=0) (j:Nat):0=gpxV md n q t i j:=by unfold gpxV;rw [if_pos h]
theorem q81 (h:gmod md 6=1) {j:Nat} (hj:¬ (j=3\/j=4)):grPx n q t i j=gpxV md n q t i j:=by
 unfold gpxV;rw [if_neg (by omega),if_pos h,if_neg hj]
theorem qz2 (h:gmod md 6=1) {j:Nat} (hj:j=3\/j=4):t=gpxV md n q t i j:=by
 unfold gpxV;rw [if_neg (by omega),if_pos h,if_pos hj]
theorem yh3 {a b:Int} (h:0<=a):irem a b=a % b:=by unfold irem;exact Int.tmod_eq_emod_of_nonneg h
theorem qa6 (h:gmod md 6=2) (j:Nat):gpxV md n q t 0 j=gpxV md n q t i j:=by
 unfold gpxV;rw [if_neg (by omega),if_neg (by omega),if_pos h,if_neg (by omega),if_neg (by omega),if_pos h]
theorem jo3 (h:gmod md 6=2) (h0:i=0) (j:Nat):grPx n q t i j=gpxV md n q t i j:=by
 unfold gpxV;rw [if_neg (by omega),if_neg (by omega),if_pos h,h0]
theorem qa7 (h:gmod md 6≠0) (h1:gmod md 6≠1) (h2:gmod md 6≠2) (j:Nat):grPx n q t i j=gpxV md n q t i j:=by
 unfold gpxV;rw [if_neg h,if_neg h1,if_neg h2]
theorem ji9 (hk:k<=1099511627776) (hi:jj4 k i) (lt:ilt i k=true) {v0 v1 v2 v3 v4:Int} (h0:v0=gpxV md n q t i 0) (h1:v1=gpxV md n q t i 1) (h2:v2=gpxV md n q t i 2) (h3:v3=gpxV md n q t i 3) (h4:v4=gpxV md n q t i 4) :
  ile (jd2 (addZ i 1) 10) 140737488355328=true/\∃s,jj4 k s/\((addZ i 1=s/\iadd IntKind.i64 i 1=s)/\addZ i 1=s/\
   (((((∀p:Nat,ilt (Int.ofNat p) (addZ i 1)=true->isel (ilt (Int.ofNat p) i) (gpxV md n q t (Int.ofNat p) 0) (isel (ieq (subZ (Int.ofNat p) i) 0) v0 0)=gpxV md n q t (Int.ofNat p) 0)/\
   ∀p:Nat,ilt (Int.ofNat p) (addZ i 1)=true->isel (ilt (Int.ofNat p) i) (gpxV md n q t (Int.ofNat p) 1) (isel (ieq (subZ (Int.ofNat p) i) 0) v1 0)=gpxV md n q t (Int.ofNat p) 1)/\
   ∀p:Nat,ilt (Int.ofNat p) (addZ i 1)=true->isel (ilt (Int.ofNat p) i) (gpxV md n q t (Int.ofNat p) 2) (isel (ieq (subZ (Int.ofNat p) i) 0) v2 0)=gpxV md n q t (Int.ofNat p) 2)/\
   ∀p:Nat,ilt (Int.ofNat p) (addZ i 1)=true->isel (ilt (Int.ofNat p) i) (gpxV md n q t (Int.ofNat p) 3) (isel (ieq (subZ (Int.ofNat p) i) 0) v3 0)=gpxV md n q t (Int.ofNat p) 3)/\
   ∀p:Nat,ilt (Int.ofNat p) (addZ i 1)=true->isel (ilt (Int.ofNat p) i) (gpxV md n q t (Int.ofNat p) 4) (isel (ieq (subZ (Int.ofNat p) i) 0) v4 0)=gpxV md n q t (Int.ofNat p) 4))/\(jt7 k s).succ.le (jt7 k i):=by
 obtain ⟨b,a1,a2,g,mu,n0⟩:=yq5 hk hi lt
 exact ⟨b,i + 1,g,⟨⟨a1,a2⟩,a1,⟨⟨⟨qu2 (g:=λ p=>gpxV md n q t p 0) n0 h0,qu2 (g:=λ p=>gpxV md n q t p 1) n0 h1⟩,qu2 (g:=λ p=>gpxV md n q t p 2) n0 h2⟩,qu2 (g:=λ p=>gpxV md n q t p 3) n0 h3⟩,qu2 (g:=λ p=>gpxV md n q t p 4) n0 h4⟩,mu⟩
end
theorem zi5:ja6 47 vq6:=by
 intro al ans hh hq
 unfold vq6 at hh
 split at hh <;> try (simp at hh;done)
 rename_i md c k t
 cases en:jf4 5 c with
 | none=>simp [en] at hh
 | some pn =>
 obtain ⟨n,rn⟩:=pn
 simp only [en] at hh
 simp only [Option.some.injEq] at hh
 subst hh
 obtain ⟨q,hdn⟩:∃q:Int->Nat->Int,q=λ i j=>intC (den rn i j):=⟨_,rfl⟩
 try rw [<- hdn]
 refine jc0 (al':=[.x (.agg [.v (.int .i64 md),.slc 5 n (.fn λ i j=>.v (.int .i64 (q i j)))]),.x (.c (.v (.int .i64 k))),.x (.c (.v (.int .u16 t)))]) ⟨⟨.v _,(hdn▸jh1 en (by decide) (hq _ (by simp))),trivial⟩,.v _,.v _,trivial⟩ ?_
 have hq:=asked hq
 refine QR.ja2 (O:=y60) (QR.ja3 (up qu8) (QR.ja3 yg4 QR.jb1)) mixed ((λ n_=>bif Nat.beq n_ 3 then some (.ownF [(7,none,5)] λ _=>[qi0 md n k t q]) else bif Nat.beq n_ 700011 then some (.cutF λ g=>[qi1 md n k t q (g 8)]) else none)) Tryd.func47 (by kernel_rfl) (by kernel_rfl) (by simp) ?_
 rw [ze3]
 delta zz8 zz38 zz41 zz43 zz74 zz126
 obtain ⟨_,hn,ht,hb,_⟩:=hq
 simp only [jb4,eqXs,eqX,eqo,eqLo,eqc,veq,eqUs,ja1,bnot,nilC,true_and,and_true,and_self,implies_true,true_implies,reduceCtorEq,false_implies,Bool.not_true,Bool.not_false,forall_eq,or_false,false_or,and_false,false_and,exists_false,exists_eq_right,exists_eq_right']
 have hn:=je3 hn
 have hb:=je3 hb
 have m6:jc2 6=true:=rfl
 refine ⟨⟨0,⟨Int.le_refl _,Or.inl rfl⟩,rfl,rfl,λ p h=>by have:=ji8 h;simp at this;omega⟩,λ i hi=>⟨λ lt=>⟨λ n0=>⟨?a,⟨?b,?c⟩,?r⟩,λ n0=>⟨⟨?d,?e⟩,?r2⟩⟩,?f⟩⟩
 case a=>have n1:0 < n:=of_decide_eq_true n0;unfold ine;simp;omega
 case b =>
  intro h
  have n1:0 < n:=of_decide_eq_true n0
  have l:=ji8 lt
  rw [yh3 hi.1] at h ⊢
  exact ⟨⟨jb2 (Int.emod_nonneg _ (by omega)),h⟩,0,⟨hi,l⟩,(yh1 n1).symm,(yh1 n1).symm,(yh1 n1).symm,(yh1 n1).symm,(yh1 n1).symm⟩
 case c =>
  intro h
  have n1:0 < n:=of_decide_eq_true n0
  have h:=jy6 h
  rw [yh3 hi.1] at h
  have:=Int.emod_lt_of_pos i n1
  omega
 case d =>
  intro h
  have n1:¬ 0 < n:=of_decide_eq_false n0
  have h:=ji8 h
  have:=hi.1
  omega
 case e =>
  intro h
  have n1:¬ 0 < n:=of_decide_eq_false n0
  exact ⟨0,⟨hi,ji8 lt⟩,(yh2 n1).symm,(yh2 n1).symm,(yh2 n1).symm,(yh2 n1).symm,(yh2 n1).symm⟩
 case f =>
  intro h
  have h:=jy6 h
  have g:=hi.1
  have e:jb8 k 0=i:=by
   unfold jb8
   rcases hi.2 with h | h <;> split <;> omega
  rw [e]
  exact .slc λ i j _ _=>.v _
 case r=>exact λ _ _=>⟨ht,m6,λ e0=>ji9 hb hi lt (qa5 (jb5 e0) 0) (qa5 (jb5 e0) 1) (qa5 (jb5 e0) 2) (qa5 (jb5 e0) 3) (qa5 (jb5 e0) 4),λ e0 =>
   ⟨λ e1=>ji9 hb hi lt (q81 (j:=0) (jb5 e1) (by decide)) (q81 (j:=1) (jb5 e1) (by decide)) (q81 (j:=2) (jb5 e1) (by decide)) (qz2 (j:=3) (jb5 e1) (by decide)) (qz2 (j:=4) (jb5 e1) (by decide)),λ e1 =>
   ⟨λ e2=>⟨λ i0=>⟨ji1 (of_decide_eq_true i0),ji9 hb hi lt (qa6 (jb5 e2) 0) (qa6 (jb5 e2) 1) (qa6 (jb5 e2) 2) (qa6 (jb5 e2) 3) (qa6 (jb5 e2) 4)⟩,λ i0 =>
    have z:i=0:=by have:=of_decide_eq_false i0;have:=hi.1;omega
    ji9 hb hi lt (jo3 (jb5 e2) z 0) (jo3 (jb5 e2) z 1) (jo3 (jb5 e2) z 2) (jo3 (jb5 e2) z 3) (jo3 (jb5 e2) z 4)⟩,
   λ e2=>ji9 hb hi lt (qa7 (jd8 e0) (jd8 e1) (jd8 e2) 0) (qa7 (jd8 e0) (jd8 e1) (jd8 e2) 1) (qa7 (jd8 e0) (jd8 e1) (jd8 e2) 2) (qa7 (jd8 e0) (jd8 e1) (jd8 e2) 3) (qa7 (jd8 e0) (jd8 e1) (jd8 e2) 4)⟩⟩⟩
 case r2=>exact λ _ _=>⟨ht,m6,λ e0=>ji9 hb hi lt (qa5 (jb5 e0) 0) (qa5 (jb5 e0) 1) (qa5 (jb5 e0) 2) (qa5 (jb5 e0) 3) (qa5 (jb5 e0) 4),λ e0 =>
   ⟨λ e1=>ji9 hb hi lt (q81 (j:=0) (jb5 e1) (by decide)) (q81 (j:=1) (jb5 e1) (by decide)) (q81 (j:=2) (jb5 e1) (by decide)) (qz2 (j:=3) (jb5 e1) (by decide)) (qz2 (j:=4) (jb5 e1) (by decide)),λ e1 =>
   ⟨λ e2=>⟨λ i0=>⟨ji1 (of_decide_eq_true i0),ji9 hb hi lt (qa6 (jb5 e2) 0) (qa6 (jb5 e2) 1) (qa6 (jb5 e2) 2) (qa6 (jb5 e2) 3) (qa6 (jb5 e2) 4)⟩,λ i0 =>
    have z:i=0:=by have:=of_decide_eq_false i0;have:=hi.1;omega
    ji9 hb hi lt (jo3 (jb5 e2) z 0) (jo3 (jb5 e2) z 1) (jo3 (jb5 e2) z 2) (jo3 (jb5 e2) z 3) (jo3 (jb5 e2) z 4)⟩,
   λ e2=>ji9 hb hi lt (qa7 (jd8 e0) (jd8 e1) (jd8 e2) 0) (qa7 (jd8 e0) (jd8 e1) (jd8 e2) 1) (qa7 (jd8 e0) (jd8 e1) (jd8 e2) 2) (qa7 (jd8 e0) (jd8 e1) (jd8 e2) 3) (qa7 (jd8 e0) (jd8 e1) (jd8 e2) 4)⟩⟩⟩
end Go.Proofs.YthkidembkknoeaaDoor
namespace Go.Proofs.YthkidembkknoeaaDoor
open Go.RowKit PR QR
set_option linter.unusedVariables false
set_option linter.unusedSimpArgs false
set_option maxRecDepth 20000
theorem vr1 {W H x0 y0 x1 y1:Int} (hg:gcv x0 y0 x1 y1=true) :
  isub .i64 x1 x0=x1 - x0/\isub .i64 y1 y0=y1 - y0/\imul .i64 (x1 - x0) (y1 - y0)=(x1 - x0) * (y1 - y0)/\iadd .i64 1 (gmod W 5)=1 + gmod W 5/\iadd .i64 1 (gmod H 4)=1 + gmod H 4/\imul .i64 (1 + gmod W 5) (1 + gmod H 4)=(1 + gmod W 5) * (1 + gmod H 4)/\
  (1<=gimW W x0 x1/\gimW W x0 x1<=1024)/\(1<=gimH W H y0 y1/\gimH W H y0 y1<=1024)/\1<=gimW W x0 x1 * gimH W H y0 y1/\gimW W x0 x1 * gimH W H y0 y1<=1048576:=by
 have g:=of_decide_eq_true hg
 have e5:=jd5 W (show (0:Int) < 5 by decide)
 have e4:=jd5 H (show (0:Int) < 4 by decide)
 have mulb:∀a b:Int,1<=a->a<=1024->1<=b->b<=1024->1<=a * b/\a * b<=1048576:=λ a b a1 a2 b1 b2=>by
  have:=Int.mul_le_mul a2 b2 (by omega) (by omega)
  have:1 * 1<=a * b:=Int.mul_le_mul a1 b1 (by omega) (by omega)
  omega
 have w1:1<=gimW W x0 x1/\gimW W x0 x1<=1024:=by unfold gimW;split <;> omega
 have h1:1<=gimH W H y0 y1/\gimH W H y0 y1<=1024:=by unfold gimH;split <;> omega
 have m1:=mulb _ _ g.1.1 g.1.2 g.2.1 g.2.2
 have m2:=mulb (1 + gmod W 5) (1 + gmod H 4) (by omega) (by omega) (by omega) (by omega)
 have m3:=mulb _ _ w1.1 w1.2 h1.1 h1.2
 refine ⟨?_,?_,?_,?_,?_,?_,w1,h1,m3⟩
 ·unfold isub;rw [IntKind.wrap_i64];omega
 ·unfold isub;rw [IntKind.wrap_i64];omega
 ·unfold imul;rw [IntKind.wrap_i64];omega
 ·unfold iadd;rw [IntKind.wrap_i64];omega
 ·unfold iadd;rw [IntKind.wrap_i64];omega
 ·unfold imul;rw [IntKind.wrap_i64];omega
theorem zi6:ja6 26 vq7:=by
 intro al ans hh hq
 unfold vq7 at hh
 split at hh <;> try (simp at hh;done)
 rename_i W H S md c x0 y0 x1 y1 t
 cases en:jf4 5 c with
 | none=>simp [en] at hh
 | some pn =>
 obtain ⟨n,rn⟩:=pn
 simp only [en] at hh
 simp only [Option.some.injEq] at hh
 subst hh
 obtain ⟨q,hdn⟩:∃q:Int->Nat->Int,q=λ i j=>intC (den rn i j):=⟨_,rfl⟩
 try rw [<- hdn]
 refine jc0 (al':=[.x (.agg [.v (.int .i64 W),.v (.int .i64 H),.v (.int .i64 S),.v (.int .i64 md),.slc 5 n (.fn λ i j=>.v (.int .i64 (q i j)))]),.x (.agg [.v (.int .i64 x0),.v (.int .i64 y0),.v (.int .i64 x1),.v (.int .i64 y1)]),.x (.c (.v (.int .u16 t)))]) ⟨⟨.v _,.v _,.v _,.v _,(hdn▸jh1 en (by decide) (hq _ (by simp))),trivial⟩,⟨.v _,.v _,.v _,.v _,trivial⟩,.v _,trivial⟩ ?_
 have hq:=asked hq
 refine QR.ja2 (O:=y59) (QR.ja3 (up qu8) (QR.ja3 zi5 (QR.ja3 yh0 (QR.ja3 zi4 QR.jb1)))) mixed (QR.ja4) Tryd.func26 (by kernel_rfl) (by kernel_rfl) (by simp) ?_
 rw [ze1]
 delta zz14 zz15 zz142 zz143
 obtain ⟨_,hn,ht,hg,_⟩:=hq
 simp only [forall_eq,true_and,and_true]
 have hn:=je3 hn
 obtain ⟨z1,z2,z3,z4,z5,z6,w1,h1,m1,m2⟩:=vr1 (W:=W) (H:=H) hg
 have ri:intRow .i64 5 n (.fn λ i j=>.v (.int .i64 (q i j))):=λ i j _ _=>rfl
 have ru:∀k:Int,intRow .u16 5 k (.fn λ i j=>.v (.int .u16 (gpxV md n (λ i j=>q i j) t i j))):=λ k i j _ _=>rfl
 have i64:∀x:Int,1<=x/\x<=1024->in64 x=true:=λ x h=>ql8.2 (by omega)
 have b2:jc2 2=true:=rfl
 have sol:ieq (gmod S 2) 0=true->gimV W H S md n q x0 y0 x1 y1 t=qk7 (gimW W x0 x1) (gimH W H y0 y1) (gpxV md n q t 0 0) (gpxV md n q t 0 1) (gpxV md n q t 0 2) (gpxV md n q t 0 3) (gpxV md n q t 0 4):=λ h=>by
  unfold gimV;rw [show (gmod S 2 == 0)=true from h];rfl
 have pln:ieq (gmod S 2) 0=false->gimV W H S md n q x0 y0 x1 y1 t=jc5 (gimW W x0 x1) (gimH W H y0 y1) (gimW W x0 x1 * gimH W H y0 y1) (gpxV md n q t):=λ h=>by
  unfold gimV;rw [show (gmod S 2 == 0)=false from h];rfl
 have mx:∀x:Int,1<=x->jb8 x 0=x:=λ x h=>by unfold jb8;split <;> omega
 have fin:∀w h:Int,w=gimW W x0 x1->h=gimH W H y0 y1->ile (w * h) 1099511627776=true/\jc2 2=true/\ilt 0 (jb8 (w * h) 0)=true/\in64 w=true/\in64 h=true/\ile 0 (jb8 (w * h) 0)=true/\jb8 (w * h) 0=gimW W x0 x1 * gimH W H y0 y1:=λ w h e1 e2=>by
  subst e1 e2
  rw [mx _ m1]
  exact ⟨jb2 (by omega),rfl,ji1 (by omega),i64 _ w1,i64 _ h1,jb2 (by omega),rfl⟩
 have key:∀w h:Int,w=gimW W x0 x1->h=gimH W H y0 y1->(intRow .i64 5 n (.fn λ i j=>.v (.int .i64 (q i j)))/\ile 0 n=true/\in16 t=true/\ile (w * h) 1099511627776=true)/\jc2 2=true/\
   ja0 (ieq (gmod S 2) 0) (ilt 0 (jb8 (w * h) 0)=true/\jb4 ⟨[.agg (imC (gimV W H S md n q x0 y0 x1 y1 t))],[],[intRow .i64 5 n rn,ile 0 n=true,in16 t=true,gcv x0 y0 x1 y1=true]⟩ [.agg (imC (qk7 w h (gpxV md n q t 0 0) (gpxV md n q t 0 1) (gpxV md n q t 0 2) (gpxV md n q t 0 3) (gpxV md n q t 0 4)))] [])
    ((intRow .u16 5 (jb8 (w * h) 0) (.fn λ i j=>.v (.int .u16 (gpxV md n (λ i j=>q i j) t i j)))/\in64 w=true/\in64 h=true/\ile 0 (jb8 (w * h) 0)=true)/\
     jb4 ⟨[.agg (imC (gimV W H S md n q x0 y0 x1 y1 t))],[],[intRow .i64 5 n rn,ile 0 n=true,in16 t=true,gcv x0 y0 x1 y1=true]⟩ [.agg (imC (jc5 w h (jb8 (w * h) 0) λ i j=>gpxV md n (λ i j=>q i j) t i j))] []):=λ w h e1 e2=>by
  obtain ⟨f1,f2,f3,f4,f5,f6,f7⟩:=fin w h e1 e2
  refine ⟨⟨ri,jb2 hn,ht,f1⟩,b2,ja1.2 ⟨λ c=>⟨f3,⟨?_,trivial⟩,trivial⟩,λ c=>⟨⟨ru _,f4,f5,f6⟩,⟨?_,trivial⟩,trivial⟩⟩⟩
  ·rw [sol c,e1,e2];exact ze2 _ _ _ _ _ _ _
  ·rw [pln c,f7,e1,e2];exact vw0 λ _ _ _ _=>rfl
 refine ⟨⟨rfl,rfl⟩,rfl,ja1.2 ⟨λ c=>?_,λ c=>?_⟩⟩
 ·rw [z1,z2,z3]
  have c:=jb5 c
  exact key (x1 - x0) (y1 - y0) (by unfold gimW;rw [if_pos c]) (by unfold gimH;rw [if_pos c])
 ·rw [z4,z5,z6]
  have c:=jd8 c
  exact key (1 + gmod W 5) (1 + gmod H 4) (by unfold gimW;rw [if_neg c]) (by unfold gimH;rw [if_neg c])
end Go.Proofs.YthkidembkknoeaaDoor
namespace Go.Proofs.YthkidembkknoeaaDoor
open Go.RowKit PR QR
set_option linter.unusedVariables false
set_option linter.unusedSimpArgs false
set_option maxRecDepth 20000
theorem gp16 (n0 n3 n4:Int) {t:Int} (h:in16 t=true):0<=gpC n0 n3 n4 t/\0<=gpA n3 n4 t/\0<=gpF n4 t :=
 ⟨(qb8 n0 n3 n4 h).1,(qm5 n3 n4 h).1,(ju0 n4 h).1⟩
theorem qt4 {c0 c1 c2 a f m:Int}:pvB c0 c1 c2 a f m=true↔c0<=a/\c1<=a/\c2<=a/\a<=f/\f<=m:=by unfold pvB;rw [decide_eq_true_eq]
theorem qt5 (md n:Int) (q:Int->Nat->Int) {t:Int} (h:in16 t=true) (i:Int):pvB (gpxV md n q t i 0) (gpxV md n q t i 1) (gpxV md n q t i 2) (gpxV md n q t i 3) (gpxV md n q t i 4) t=true:=by
 have ht:=jk9.1 h
 have v:∀i,pvB (grPx n q t i 0) (grPx n q t i 1) (grPx n q t i 2) (grPx n q t i 3) (grPx n q t i 4) t=true:=λ i=>yi4 _ _ _ _ _ h
 by_cases h0:gmod md 6=0
 ·rw [<- qa5 h0,<- qa5 h0,<- qa5 h0,<- qa5 h0,<- qa5 h0]
  exact qt4.2 (by omega)
 by_cases h1:gmod md 6=1
 ·rw [<- q81 h1 (by omega),<- q81 h1 (by omega),<- q81 h1 (by omega),<- qz2 h1 (by omega),<- qz2 h1 (by omega)]
  have:=qt4.1 (v i)
  exact qt4.2 (by omega)
 by_cases h2:gmod md 6=2
 ·rw [<- qa6 h2 (i:=i) 0,<- qa6 h2 (i:=i) 1,<- qa6 h2 (i:=i) 2,<- qa6 h2 (i:=i) 3,<- qa6 h2 (i:=i) 4,<- jo3 h2 rfl 0,<- jo3 h2 rfl 1,<- jo3 h2 rfl 2,<- jo3 h2 rfl 3,<- jo3 h2 rfl 4]
  exact v 0
 ·rw [<- qa7 h0 h1 h2,<- qa7 h0 h1 h2,<- qa7 h0 h1 h2,<- qa7 h0 h1 h2,<- qa7 h0 h1 h2]
  exact v i
theorem zd5 (md n:Int) (q:Int->Nat->Int) {t:Int} (h:in16 t=true) (i:Int) (k:Nat):0<=gpxV md n q t i k:=by
 have ht:=jk9.1 h
 have v:∀i,0<=grPx n q t i k:=λ i=>by
  unfold grPx
  split
  ·exact (gp16 _ _ _ h).1
  ·exact (gp16 _ _ _ h).1
  ·exact (gp16 _ _ _ h).1
  ·exact (gp16 0 _ _ h).2.1
  ·exact (gp16 0 0 _ h).2.2
 unfold gpxV
 split
 ·omega
 split
 ·split
  ·omega
  ·exact v i
 split
 ·exact v 0
 ·exact v i
theorem vv9 (md n:Int) (q:Int->Nat->Int) {t:Int} (h:in16 t=true) (i:Int) {k:Nat} (hk:k < 5):in16 (gpxV md n q t i k)=true:=by
 have ht:=jk9.1 h
 have v:=qt4.1 (qt5 md n q h i)
 have nn:=zd5 md n q h i
 refine jk9.2 ⟨nn k,?_⟩
 have hk':k=0\/k=1\/k=2\/k=3\/k=4:=by omega
 rcases hk' with rfl | rfl | rfl | rfl | rfl <;> omega
end Go.Proofs.YthkidembkknoeaaDoor
namespace Go.Proofs.YthkidembkknoeaaDoor
open Go.RowKit PR QR
set_option linter.unusedVariables false
set_option linter.unusedSimpArgs false
set_option maxRecDepth 20000
theorem qd9 {a b:Int} (h : -9223372036854775808<=a - b/\a - b<=9223372036854775807):isub .i64 a b=a - b:=by unfold isub;exact IntWalk.i64_in _ (by omega)
theorem vo2 {a b:Int} (h : -9223372036854775808<=a + b/\a + b<=9223372036854775807):iadd .i64 a b=a + b:=by unfold iadd;exact IntWalk.i64_in _ (by omega)
end Go.Proofs.YthkidembkknoeaaDoor
