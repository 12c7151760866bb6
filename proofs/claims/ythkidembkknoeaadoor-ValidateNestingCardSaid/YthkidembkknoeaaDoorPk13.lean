import Derived.Test.YthkidembkknoeaaDoorPk11
import Derived.Test.YthkidembkknoeaaDoorPk12
namespace Go.Proofs.YthkidembkknoeaaDoor
open Go.RowKit PR QR
set_option linter.unusedVariables false
set_option linter.unusedSimpArgs false
set_option maxRecDepth 20000
theorem yd8 {m:Im} {b:Bool} (h:m.sol=b):imC m=imC ⟨m.w,m.h,b,m.c0,m.c1,m.c2,m.a,m.f,m.p0,m.p1,m.p2,m.p3,m.p4⟩:=by unfold imC;rw [h]
theorem qg7 {m:Im} {p:Pl}:plW m p=true↔plB p.w p.h p.s p.n=true∧p.w=m.w∧p.h=m.h:=by unfold plW;rw [decide_eq_true_eq]
theorem qt0 {p:Pl}:plZ p=true↔p.w=0∧p.h=0∧p.s=0∧p.n=0:=by unfold plZ;rw [decide_eq_true_eq]
theorem jd7 {a b:Int} (h:ieq a b=true):a=b:=of_decide_eq_true h
theorem je7 {a b:Int} (h:ieq a b=false):a≠b:=of_decide_eq_false h
theorem ve6 {a b:Int} (h:ine a b=true):a≠b:=by simpa [ine] using h
theorem ve7 {a b:Int} (h:ine a b=false):a=b:=by simpa [ine] using h
theorem yr3 {m:Im} (hs:m.sol=false) {k:Nat} (hk:k < 5) (h:plW m (imPl m k)=false):imF m=false:=by
  unfold imF;rw [hs]
  match k,hk with
  | 0,_=>simp [show plW m m.p0=false from h]
  | 1,_=>simp [show plW m m.p1=false from h]
  | 2,_=>simp [show plW m m.p2=false from h]
  | 3,_=>simp [show plW m m.p3=false from h]
  | 4,_=>simp [show plW m m.p4=false from h]
theorem y16 {m:Im} (hs:m.sol=true) {k:Nat} (hk:k < 5) (h:plZ (imPl m k)=false):imF m=false:=by
  unfold imF;rw [hs]
  match k,hk with
  | 0,_=>simp [show plZ m.p0=false from h]
  | 1,_=>simp [show plZ m.p1=false from h]
  | 2,_=>simp [show plZ m.p2=false from h]
  | 3,_=>simp [show plZ m.p3=false from h]
  | 4,_=>simp [show plZ m.p4=false from h]
theorem yd9 {m:Im} (hs:m.sol=false) (h:∀k:Nat,k < 5→plW m (imPl m k)=true):imF m=colZ m:=by
  unfold imF;rw [hs]
  simp [show plW m m.p0=true from h 0 (by decide),show plW m m.p1=true from h 1 (by decide),show plW m m.p2=true from h 2 (by decide),show plW m m.p3=true from h 3 (by decide),show plW m m.p4=true from h 4 (by decide)]
theorem yn6 {m:Im} (hs:m.sol=true) (h:∀k:Nat,k < 5→plZ (imPl m k)=true):imF m=true:=by
  unfold imF;rw [hs]
  simp [show plZ m.p0=true from h 0 (by decide),show plZ m.p1=true from h 1 (by decide),show plZ m.p2=true from h 2 (by decide),show plZ m.p3=true from h 3 (by decide),show plZ m.p4=true from h 4 (by decide)]
theorem zf7 {m:Im} {x y:Int} (h:imIn m x y=true) (hs:m.sol=false) {k:Nat} (hk:k < 5):inB (imPl m k).w (imPl m k).h (imPl m k).s (imPl m k).n x y=true:=by
  have h:=of_decide_eq_true h
  obtain ⟨h1,h2,h3,h4⟩:=h
  have w:plW m (imPl m k)=true:=by
    rw [← Bool.not_eq_false]
    intro c
    rw [yr3 hs hk c] at h2;simp at h2
  obtain ⟨w1,w2,w3⟩:=qg7.1 w
  exact v08.2 ⟨w1,by rw [w2];exact h3,by rw [w3];exact h4⟩
theorem ye0 {m:Im} {x y:Int} (h:imIn m x y=true) (hs:m.sol=false) {k:Nat} (hk:k < 5) :
    iadd .i64 (imul .i64 y (imPl m k).s) x=patI (imPl m k).s x y∧ile 0 (patI (imPl m k).s x y)=true∧ilt (patI (imPl m k).s x y) (imPl m k).n=true:=by
  have h':=zf7 h hs hk
  obtain ⟨p1,p2,p3,p4,p5,p6⟩:=zd9 h'
  have f':=(v08.1 h').2
  obtain ⟨e1,e2,_⟩:=at_in (s:=(imPl m k).s) (x:=x) (y:=y) (by omega) p3 p6 p4 (by omega) p5
  exact ⟨by rw [e1,e2],jb1 p1,jg9 p2⟩
theorem ye1:ja6 27 qx6:=by
  intro al ans h hq
  unfold qx6 at h
  split at h <;> try (simp at h;done)
  rename_i w h c0 c1 c2 a f
  simp only [Option.some.injEq] at h
  subst h
  have hq:=asked hq
  refine QR.ja2 (O:=(QR.orc [])) QR.jb4 mixed (QR.ja4) Tryd.func27 (by kernel_rfl) (by kernel_rfl) (by simp) ?_
  rw [yn5]
  delta zz98
  have z:Nat.blt 0 1=true:=rfl
  simp [jb5,eqXs,eqX,eqo,eqLo,eqL,eqc,veq,eqUs,imC,qj6,jo1,nilC,z]
theorem qx7 {m:Im}:imOk m=true↔fitB m.w m.h=true∧imF m=true:=by unfold imOk;rw [Bool.and_eq_true]
theorem yn7 {m:Im} {x y:Int}:imIn m x y=true↔imOk m=true∧(0≤x∧x < m.w)∧0≤y∧y < m.h:=by unfold imIn;rw [decide_eq_true_eq,qx7];exact ⟨fun ⟨a,b,c⟩=>⟨⟨a,b⟩,c⟩,fun ⟨⟨a,b⟩,c⟩=>⟨a,b,c⟩⟩
theorem qt1 {m:Im} {t:Int} (f:fitB m.w m.h=true):qs8 m t=true↔∀x y:Int,0≤x→x < m.w→0≤y→y < m.h→pxB m t x y=true:=by
  have f4:=jg6.1 f
  unfold qs8
  rw [List.all_eq_true]
  refine ⟨fun h x y x0 x1 y0 y1=>?_,fun h y hy=>List.all_eq_true.2 fun x hx=>?_⟩
  · have:=List.all_eq_true.1 (h y.toNat (List.mem_range.2 (by omega))) x.toNat (List.mem_range.2 (by omega))
    rw [show ((x.toNat:Nat):Int)=x by omega,show ((y.toNat:Nat):Int)=y by omega] at this
    exact this
  · have:=List.mem_range.1 hy
    have:=List.mem_range.1 hx
    exact h x y (by omega) (by omega) (by omega) (by omega)
theorem qe5 {m:Im} {t:Int} (f:fitB m.w m.h=true) (hs:m.sol=true):qs8 m t=pvB m.c0 m.c1 m.c2 m.a m.f t:=by
  have pb:∀x y,pxB m t x y=pvB m.c0 m.c1 m.c2 m.a m.f t:=fun x y=>by unfold pxB pxV;rw [hs];rfl
  have f4:=jg6.1 f
  rw [Bool.eq_iff_iff,qt1 f]
  exact ⟨fun h=>by rw [← pb 0 0];exact h 0 0 (by omega) (by omega) (by omega) (by omega),fun h x y _ _ _ _=>by rw [pb];exact h⟩
theorem zf8:ja6 48 vo7:=by
  intro al ans hh hq
  unfold vo7 at hh
  split at hh <;> try (simp at hh;done)
  rename_i w h c
  cases en:jf4 5 c with
  | none=>simp [en] at hh
  | some pn =>
  obtain ⟨n,rn⟩:=pn
  simp only [en] at hh
  simp only [Option.some.injEq] at hh
  subst hh
  obtain ⟨q,hdn⟩:∃q:Int→Nat→Int,q=fun i j=>intC (den rn i j):=⟨_,rfl⟩
  try rw [← hdn]
  refine jd4 (al':=[.x (.c (.v (.int .i64 w))),.x (.c (.v (.int .i64 h))),.x (.c (.slc 5 n (.fn fun i j=>.v (.int .u16 (q i j)))))]) ⟨.v _,.v _,(hdn▸jj4 en (by decide) (hq _ (by simp))),trivial⟩ ?_
  have hq:=asked hq
  refine QR.ja2 (O:=y15) (QR.ja3 yx1 QR.jb4) mixed ((fun n_=>bif Nat.beq n_ 5 then some (.rounds 6) else bif Nat.beq n_ 9 then some (.inv (qs9 w h n q)) else bif Nat.beq n_ 12 then some (.rounds 4) else none)) Tryd.func48 (by kernel_rfl) (by kernel_rfl) (by simp) ?_
  rw [zb2]
  delta zz0 zz7 zz16 zz80 zz84
  obtain ⟨_,iw,ih,hn,_⟩:=hq
  simp only [jb5,eqXs,eqX,eqo,eqLo,eqL,eqc,veq,eqUs,ja1,bnot,nilC,jk6,true_and,and_true,and_self,implies_true,true_implies,reduceCtorEq,false_implies,Bool.not_true,Bool.not_false,forall_eq,or_false,false_or,and_false,false_and,exists_false,exists_eq_right,exists_eq_right',iw,ih]
  have z1:Nat.blt 0 1=true:=rfl
  have no:jo0 w h n=false→eqLo [.v (.int .i64 0),.v (.int .i64 0),.v (.bool false),.v (.int .u16 0),.v (.int .u16 0),.v (.int .u16 0),.v (.int .u16 0),.v (.int .u16 0),.v (.int .i64 0),.v (.int .i64 0),.v (.int .i64 0),.v (.slice none 0 0),.v (.int .i64 0),.v (.int .i64 0),.v (.int .i64 0),.v (.slice none 0 0),.v (.int .i64 0),.v (.int .i64 0),.v (.int .i64 0),.v (.slice none 0 0),.v (.int .i64 0),.v (.int .i64 0),.v (.int .i64 0),.v (.slice none 0 0),.v (.int .i64 0),.v (.int .i64 0),.v (.int .i64 0),.v (.slice none 0 0)] (imC (jc4 w h n q))∧false=jo0 w h n:=by
    intro k
    have:jc4 w h n q=ve4:=by unfold jc4;rw [k];rfl
    rw [this,k]
    simp [imC,ve4,jo1,eqLo,eqo,eqc,veq,nilC,z1]
  refine ⟨fun c=>no (decide_eq_false fun k=>by rw [k.1] at c;simp at c),fun f=>?_⟩
  have f:fitB w h=true:=by simpa using f
  have w1:=qi8 f
  have f4:=jg6.1 f
  have p0:=Int.mul_nonneg (show 0≤w by omega) (show 0≤h by omega)
  have em:imul .i64 w h=w * h:=IntWalk.i64_in _ (by omega)
  rw [em]
  refine ⟨fun c=>no (decide_eq_false fun k=>ve6 c k.2),fun c=>?_⟩
  obtain rfl:=ve7 c
  have ok:jo0 w h (w * h)=true:=decide_eq_true ⟨f,rfl⟩
  have c1:ile 0 (w * h)=true:=jb1 p0
  have c2:ile (w * h) (w * h)=true:=jb1 (Int.le_refl _)
  have c3:ile (jd2 (w * h) 2) 140737488355328=true:=jb1 (by unfold jd2;omega)
  have c4:ile (w * h) 140737488355328=true:=jb1 (by omega)
  have eN:w * h=rioN w h:=rfl
  have V:∀(t:Int) (k:Nat) (i:Nat),0=rioV q 0 (Int.ofNat i) k:=fun t k i=>by
    unfold rioV;exact (if_neg (show ¬ ((i:Nat):Int) < 0 by omega)).symm
  refine ⟨⟨c1,c2,c3,c4⟩,⟨c1,c2,c3,c4⟩,⟨c1,c2,c3,c4⟩,⟨c1,c2,c3,c4⟩,⟨c1,c2,c3,c4⟩,⟨0,⟨Int.le_refl 0,p0⟩,rfl,rfl,⟨rfl,fun i _=>V 0 0 i⟩,⟨rfl,fun i _=>V 0 1 i⟩,⟨rfl,fun i _=>V 0 2 i⟩,⟨rfl,fun i _=>V 0 3 i⟩,rfl,fun i _=>V 0 4 i⟩,fun i hi=>⟨fun d=>?_,fun d=>?_⟩⟩
  · have d':=of_decide_eq_true d
    have i0:=jb1 hi.1
    have d2:ilt i (rioN w h)=true:=d
    have ia:iadd .i64 i 1=i + 1:=IntWalk.i64_in _ (by have:=hi.1;omega)
    have K:∀k (t:Nat),isel (ieq (Int.ofNat t) i) (q i k) (rioV q i (Int.ofNat t) k)=rioV q (i + 1) (Int.ofNat t) k:=fun k t=>by
      unfold rioV
      cases e:ieq (Int.ofNat t) i
      · have e:=je7 e
        rw [vd8]
        by_cases l:Int.ofNat t < i
        · rw [if_pos l,if_pos (by omega)]
        · rw [if_neg l,if_neg (by omega)]
      · have e:=jd7 e
        rw [qr3,if_pos (by omega),e]
    refine ⟨⟨i0,d2,i0,d⟩,⟨i0,d2,i0,d⟩,⟨i0,d2,i0,d⟩,⟨i0,d2,i0,d2,i0,d,i0,d⟩,i + 1,⟨by have:=hi.1;omega,by omega⟩,⟨ia,fun t _=>K 0 t,fun t _=>K 1 t,fun t _=>K 2 t,fun t _=>K 3 t,fun t _=>K 4 t⟩,?_⟩
    show ve5 _ _ < ve5 _ _
    unfold ve5;omega
  · have d:=of_decide_eq_false d
    have e:jc4 w h (w * h) q=⟨w,h,false,0,0,0,0,0,jk2 w h (w * h) q 0,jk2 w h (w * h) q 1,jk2 w h (w * h) q 2,jk2 w h (w * h) q 3,jk2 w h (w * h) q 4⟩:=by unfold jc4;rw [ok];rfl
    have K:∀k,EqC (.slc 1 (rioN w h) (.fn fun t _=>.v (.int .u16 (rioV q i t k)))) (.slc 1 (w * h) (.fn fun t _=>.v (.int .u16 (q t k)))):=fun k=>by
      refine .slc fun t j ht hj=>?_
      have ht:(t:Int) < w * h:=ht
      have:rioV q i t k=q t k:=by unfold rioV;rw [if_pos (by have:=hi.2;omega)]
      show EqC (.v (.int .u16 (rioV q i t k))) _
      rw [this];exact .v _
    rw [e]
    refine ⟨?_,ok.symm⟩
    simp only [imC,jk2,eqLo,eqo,eqc,veq,true_and,and_true,and_self]
    exact ⟨K 0,K 1,K 2,K 3,K 4⟩
end Go.Proofs.YthkidembkknoeaaDoor
namespace Go.Proofs.YthkidembkknoeaaDoor
open Go.RowKit PR QR
set_option linter.unusedVariables false
set_option linter.unusedSimpArgs false
set_option maxRecDepth 20000
theorem zb4 (w h c0 c1 c2 a f:Int):eqLo (imC (qj6 w h c0 c1 c2 a f)) (imC (qj6 w h c0 c1 c2 a f)):=by
  have z:∀r:QR.Row,EqC (.slc 1 0 r) (.slc 1 0 r):=fun r=>.slc fun i j hi _=>by omega
  simp [imC,qj6,jo1,eqLo,eqo,eqc,veq,z]
theorem ve8 {w h n:Int} {q:Int→Nat→Int} (ok:jo0 w h n=true):jc4 w h n q=⟨w,h,false,0,0,0,0,0,jk2 w h n q 0,jk2 w h n q 1,jk2 w h n q 2,jk2 w h n q 3,jk2 w h n q 4⟩:=by unfold jc4;rw [ok];rfl
theorem yr4 {w h n:Int} {q:Int→Nat→Int} (ok:jo0 w h n=false):jc4 w h n q=ve4:=by unfold jc4;rw [ok];rfl
theorem vt6 {w h n:Int} {q q':Int→Nat→Int} (H:∀(i k:Nat),(i:Int) < n→k < 5→q i k=q' i k):eqLo (imC (jc4 w h n q)) (imC (jc4 w h n q')):=by
  cases ok:jo0 w h n
  · rw [yr4 ok,yr4 ok]
    have z:∀r:QR.Row,EqC (.slc 1 0 r) (.slc 1 0 r):=fun r=>.slc fun i j hi _=>by omega
    simp [imC,ve4,jo1,eqLo,eqo,eqc,veq,z]
  · rw [ve8 ok,ve8 ok]
    have K:∀k:Nat,k < 5→EqC (.slc 1 n (.fn fun t _=>.v (.int .u16 (q t k)))) (.slc 1 n (.fn fun t _=>.v (.int .u16 (q' t k)))):=fun k hk=>by
      refine .slc fun t j ht hj=>?_
      show EqC (.v (.int .u16 (q t k))) (.v (.int .u16 (q' t k)))
      rw [H t k ht hk];exact .v _
    simp only [imC,jk2,eqLo,eqo,eqc,veq,true_and,and_true,and_self]
    exact ⟨K 0 (by decide),K 1 (by decide),K 2 (by decide),K 3 (by decide),K 4 (by decide)⟩
end Go.Proofs.YthkidembkknoeaaDoor
namespace Go.Proofs.YthkidembkknoeaaDoor
open Go.RowKit PR QR
set_option linter.unusedVariables false
set_option linter.unusedSimpArgs false
set_option maxRecDepth 20000
theorem y19 (x y:Int):isel true x y=x:=rfl
theorem y26 (x y:Int):isel false x y=y:=rfl
section
variable {md n k t i:Int} {q:Int→Nat→Int}
theorem qt2 {g:Int→Int} {v:Int} (hi:0≤i) (h:v=g i) (p:Nat) (hp:ilt (Int.ofNat p) (addZ i 1)=true):isel (ilt (Int.ofNat p) i) (g (Int.ofNat p)) (isel (ieq (subZ (Int.ofNat p) i) 0) v 0)=g (Int.ofNat p):=by
  have hp:=jh6 hp
  unfold addZ at hp
  cases e:ilt (Int.ofNat p) i
  · have e:=jy7 e
    have e2:Int.ofNat p=i:=by omega
    rw [y26,e2,show subZ i i=0 by unfold subZ;omega,qj7,y19,h]
  · rfl
theorem yn8 (hk:k≤1099511627776) (hi:ji9 k i) (lt:ilt i k=true):ile (jd2 (addZ i 1) 10) 140737488355328=true∧addZ i 1=i + 1∧iadd .i64 i 1=i + 1∧ji9 k (i + 1)∧(jt2 k (i + 1)).succ.le (jt2 k i)∧0≤i:=by
  have lt:=jh6 lt
  have h0:=hi.1
  refine ⟨jb1 (by unfold jd2 addZ;omega),rfl,?_,⟨by omega,Or.inr (by omega)⟩,?_,h0⟩
  · unfold iadd;rw [IntKind.wrap_i64];omega
  · unfold jt2;show (k - (i + 1)).toNat + 1≤(k - i).toNat;omega
theorem ye2 {j:Nat} (h:0 < n):grQ n q i j=q (i % n) j:=if_pos h
theorem ye3 {j:Nat} (h:¬ 0 < n):grQ n q i j=0:=if_neg h
theorem j09 (h:gmod md 6=0) (j:Nat):0=gpxV md n q t i j:=by unfold gpxV;rw [if_pos h]
theorem q75 (h:gmod md 6=1) {j:Nat} (hj:¬ (j=3∨j=4)):grPx n q t i j=gpxV md n q t i j:=by
  unfold gpxV;rw [if_neg (by omega),if_pos h,if_neg hj]
theorem qx8 (h:gmod md 6=1) {j:Nat} (hj:j=3∨j=4):t=gpxV md n q t i j:=by
  unfold gpxV;rw [if_neg (by omega),if_pos h,if_pos hj]
theorem ye4 {a b:Int} (h:0≤a):irem a b=a % b:=by unfold irem;exact Int.tmod_eq_emod_of_nonneg h
theorem qa1 (h:gmod md 6=2) (j:Nat):gpxV md n q t 0 j=gpxV md n q t i j:=by
  unfold gpxV;rw [if_neg (by omega),if_neg (by omega),if_pos h,if_neg (by omega),if_neg (by omega),if_pos h]
theorem jo2 (h:gmod md 6=2) (h0:i=0) (j:Nat):grPx n q t i j=gpxV md n q t i j:=by
  unfold gpxV;rw [if_neg (by omega),if_neg (by omega),if_pos h,h0]
theorem qa3 (h:gmod md 6≠0) (h1:gmod md 6≠1) (h2:gmod md 6≠2) (j:Nat):grPx n q t i j=gpxV md n q t i j:=by
  unfold gpxV;rw [if_neg h,if_neg h1,if_neg h2]
theorem ji2 (hk:k≤1099511627776) (hi:ji9 k i) (lt:ilt i k=true) {v0 v1 v2 v3 v4:Int} (h0:v0=gpxV md n q t i 0) (h1:v1=gpxV md n q t i 1) (h2:v2=gpxV md n q t i 2) (h3:v3=gpxV md n q t i 3) (h4:v4=gpxV md n q t i 4) :
    ile (jd2 (addZ i 1) 10) 140737488355328=true∧∃s,ji9 k s∧((addZ i 1=s∧iadd IntKind.i64 i 1=s)∧addZ i 1=s∧
      (((((∀p:Nat,ilt (Int.ofNat p) (addZ i 1)=true→isel (ilt (Int.ofNat p) i) (gpxV md n q t (Int.ofNat p) 0) (isel (ieq (subZ (Int.ofNat p) i) 0) v0 0)=gpxV md n q t (Int.ofNat p) 0)∧
      ∀p:Nat,ilt (Int.ofNat p) (addZ i 1)=true→isel (ilt (Int.ofNat p) i) (gpxV md n q t (Int.ofNat p) 1) (isel (ieq (subZ (Int.ofNat p) i) 0) v1 0)=gpxV md n q t (Int.ofNat p) 1)∧
      ∀p:Nat,ilt (Int.ofNat p) (addZ i 1)=true→isel (ilt (Int.ofNat p) i) (gpxV md n q t (Int.ofNat p) 2) (isel (ieq (subZ (Int.ofNat p) i) 0) v2 0)=gpxV md n q t (Int.ofNat p) 2)∧
      ∀p:Nat,ilt (Int.ofNat p) (addZ i 1)=true→isel (ilt (Int.ofNat p) i) (gpxV md n q t (Int.ofNat p) 3) (isel (ieq (subZ (Int.ofNat p) i) 0) v3 0)=gpxV md n q t (Int.ofNat p) 3)∧
      ∀p:Nat,ilt (Int.ofNat p) (addZ i 1)=true→isel (ilt (Int.ofNat p) i) (gpxV md n q t (Int.ofNat p) 4) (isel (ieq (subZ (Int.ofNat p) i) 0) v4 0)=gpxV md n q t (Int.ofNat p) 4))∧(jt2 k s).succ.le (jt2 k i):=by
  obtain ⟨b,a1,a2,g,mu,n0⟩:=yn8 hk hi lt
  exact ⟨b,i + 1,g,⟨⟨a1,a2⟩,a1,⟨⟨⟨qt2 (g:=fun p=>gpxV md n q t p 0) n0 h0,qt2 (g:=fun p=>gpxV md n q t p 1) n0 h1⟩,qt2 (g:=fun p=>gpxV md n q t p 2) n0 h2⟩,qt2 (g:=fun p=>gpxV md n q t p 3) n0 h3⟩,qt2 (g:=fun p=>gpxV md n q t p 4) n0 h4⟩,mu⟩
end
theorem zf9:ja6 47 vo8:=by
  intro al ans hh hq
  unfold vo8 at hh
  split at hh <;> try (simp at hh;done)
  rename_i md c k t
  cases en:jf4 5 c with
  | none=>simp [en] at hh
  | some pn =>
  obtain ⟨n,rn⟩:=pn
  simp only [en] at hh
  simp only [Option.some.injEq] at hh
  subst hh
  obtain ⟨q,hdn⟩:∃q:Int→Nat→Int,q=fun i j=>intC (den rn i j):=⟨_,rfl⟩
  try rw [← hdn]
  refine jd4 (al':=[.x (.agg [.v (.int .i64 md),.slc 5 n (.fn fun i j=>.v (.int .i64 (q i j)))]),.x (.c (.v (.int .i64 k))),.x (.c (.v (.int .u16 t)))]) ⟨⟨.v _,(hdn▸jj4 en (by decide) (hq _ (by simp))),trivial⟩,.v _,.v _,trivial⟩ ?_
  have hq:=asked hq
  refine QR.ja2 (O:=y18) (QR.ja3 (up qb4) (QR.ja3 yd7 QR.jb4)) mixed ((fun n_=>bif Nat.beq n_ 3 then some (.ownF [(7,none,5)] fun _=>[qg8 md n k t q]) else bif Nat.beq n_ 700011 then some (.cutF fun g=>[qg9 md n k t q (g 8)]) else none)) Tryd.func47 (by kernel_rfl) (by kernel_rfl) (by simp) ?_
  rw [zb5]
  delta zz8 zz38 zz41 zz43 zz74 zz126
  obtain ⟨_,hn,ht,hb,_⟩:=hq
  simp only [jb5,eqXs,eqX,eqo,eqLo,eqc,veq,eqUs,ja1,bnot,nilC,true_and,and_true,and_self,implies_true,true_implies,reduceCtorEq,false_implies,Bool.not_true,Bool.not_false,forall_eq,or_false,false_or,and_false,false_and,exists_false,exists_eq_right,exists_eq_right']
  have hn:=je6 hn
  have hb:=je6 hb
  have m6:jb8 6=true:=rfl
  refine ⟨⟨0,⟨Int.le_refl _,Or.inl rfl⟩,rfl,rfl,fun p h=>by have:=jh6 h;simp at this;omega⟩,fun i hi=>⟨fun lt=>⟨fun n0=>⟨?a,⟨?b,?c⟩,?r⟩,fun n0=>⟨⟨?d,?e⟩,?r2⟩⟩,?f⟩⟩
  case a=>have n1:0 < n:=of_decide_eq_true n0;unfold ine;simp;omega
  case b =>
    intro h
    have n1:0 < n:=of_decide_eq_true n0
    have l:=jh6 lt
    rw [ye4 hi.1] at h ⊢
    exact ⟨⟨jb1 (Int.emod_nonneg _ (by omega)),h⟩,0,⟨hi,l⟩,(ye2 n1).symm,(ye2 n1).symm,(ye2 n1).symm,(ye2 n1).symm,(ye2 n1).symm⟩
  case c =>
    intro h
    have n1:0 < n:=of_decide_eq_true n0
    have h:=jy7 h
    rw [ye4 hi.1] at h
    have:=Int.emod_lt_of_pos i n1
    omega
  case d =>
    intro h
    have n1:¬ 0 < n:=of_decide_eq_false n0
    have h:=jh6 h
    have:=hi.1
    omega
  case e =>
    intro h
    have n1:¬ 0 < n:=of_decide_eq_false n0
    exact ⟨0,⟨hi,jh6 lt⟩,(ye3 n1).symm,(ye3 n1).symm,(ye3 n1).symm,(ye3 n1).symm,(ye3 n1).symm⟩
  case f =>
    intro h
    have h:=jy7 h
    have g:=hi.1
    have e:jc6 k 0=i:=by
      unfold jc6
      rcases hi.2 with h | h <;> split <;> omega
    rw [e]
    exact .slc fun i j _ _=>.v _
  case r=>exact fun _ _=>⟨ht,m6,fun e0=>ji2 hb hi lt (j09 (jd7 e0) 0) (j09 (jd7 e0) 1) (j09 (jd7 e0) 2) (j09 (jd7 e0) 3) (j09 (jd7 e0) 4),fun e0 =>
      ⟨fun e1=>ji2 hb hi lt (q75 (j:=0) (jd7 e1) (by decide)) (q75 (j:=1) (jd7 e1) (by decide)) (q75 (j:=2) (jd7 e1) (by decide)) (qx8 (j:=3) (jd7 e1) (by decide)) (qx8 (j:=4) (jd7 e1) (by decide)),fun e1 =>
      ⟨fun e2=>⟨fun i0=>⟨jg9 (of_decide_eq_true i0),ji2 hb hi lt (qa1 (jd7 e2) 0) (qa1 (jd7 e2) 1) (qa1 (jd7 e2) 2) (qa1 (jd7 e2) 3) (qa1 (jd7 e2) 4)⟩,fun i0 =>
        have z:i=0:=by have:=of_decide_eq_false i0;have:=hi.1;omega
        ji2 hb hi lt (jo2 (jd7 e2) z 0) (jo2 (jd7 e2) z 1) (jo2 (jd7 e2) z 2) (jo2 (jd7 e2) z 3) (jo2 (jd7 e2) z 4)⟩,
      fun e2=>ji2 hb hi lt (qa3 (je7 e0) (je7 e1) (je7 e2) 0) (qa3 (je7 e0) (je7 e1) (je7 e2) 1) (qa3 (je7 e0) (je7 e1) (je7 e2) 2) (qa3 (je7 e0) (je7 e1) (je7 e2) 3) (qa3 (je7 e0) (je7 e1) (je7 e2) 4)⟩⟩⟩
  case r2=>exact fun _ _=>⟨ht,m6,fun e0=>ji2 hb hi lt (j09 (jd7 e0) 0) (j09 (jd7 e0) 1) (j09 (jd7 e0) 2) (j09 (jd7 e0) 3) (j09 (jd7 e0) 4),fun e0 =>
      ⟨fun e1=>ji2 hb hi lt (q75 (j:=0) (jd7 e1) (by decide)) (q75 (j:=1) (jd7 e1) (by decide)) (q75 (j:=2) (jd7 e1) (by decide)) (qx8 (j:=3) (jd7 e1) (by decide)) (qx8 (j:=4) (jd7 e1) (by decide)),fun e1 =>
      ⟨fun e2=>⟨fun i0=>⟨jg9 (of_decide_eq_true i0),ji2 hb hi lt (qa1 (jd7 e2) 0) (qa1 (jd7 e2) 1) (qa1 (jd7 e2) 2) (qa1 (jd7 e2) 3) (qa1 (jd7 e2) 4)⟩,fun i0 =>
        have z:i=0:=by have:=of_decide_eq_false i0;have:=hi.1;omega
        ji2 hb hi lt (jo2 (jd7 e2) z 0) (jo2 (jd7 e2) z 1) (jo2 (jd7 e2) z 2) (jo2 (jd7 e2) z 3) (jo2 (jd7 e2) z 4)⟩,
      fun e2=>ji2 hb hi lt (qa3 (je7 e0) (je7 e1) (je7 e2) 0) (qa3 (je7 e0) (je7 e1) (je7 e2) 1) (qa3 (je7 e0) (je7 e1) (je7 e2) 2) (qa3 (je7 e0) (je7 e1) (je7 e2) 3) (qa3 (je7 e0) (je7 e1) (je7 e2) 4)⟩⟩⟩
end Go.Proofs.YthkidembkknoeaaDoor
namespace Go.Proofs.YthkidembkknoeaaDoor
open Go.RowKit PR QR
set_option linter.unusedVariables false
set_option linter.unusedSimpArgs false
set_option maxRecDepth 20000
theorem vp0 {W H x0 y0 x1 y1:Int} (hg:gcv x0 y0 x1 y1=true) :
    isub .i64 x1 x0=x1 - x0∧isub .i64 y1 y0=y1 - y0∧imul .i64 (x1 - x0) (y1 - y0)=(x1 - x0) * (y1 - y0)∧iadd .i64 1 (gmod W 5)=1 + gmod W 5∧iadd .i64 1 (gmod H 4)=1 + gmod H 4∧imul .i64 (1 + gmod W 5) (1 + gmod H 4)=(1 + gmod W 5) * (1 + gmod H 4)∧
    (1≤gimW W x0 x1∧gimW W x0 x1≤1024)∧(1≤gimH W H y0 y1∧gimH W H y0 y1≤1024)∧1≤gimW W x0 x1 * gimH W H y0 y1∧gimW W x0 x1 * gimH W H y0 y1≤1048576:=by
  have g:=of_decide_eq_true hg
  have e5:=jc2 W (show (0:Int) < 5 by decide)
  have e4:=jc2 H (show (0:Int) < 4 by decide)
  have mulb:∀a b:Int,1≤a→a≤1024→1≤b→b≤1024→1≤a * b∧a * b≤1048576:=fun a b a1 a2 b1 b2=>by
    have:=Int.mul_le_mul a2 b2 (by omega) (by omega)
    have:1 * 1≤a * b:=Int.mul_le_mul a1 b1 (by omega) (by omega)
    omega
  have w1:1≤gimW W x0 x1∧gimW W x0 x1≤1024:=by unfold gimW;split <;> omega
  have h1:1≤gimH W H y0 y1∧gimH W H y0 y1≤1024:=by unfold gimH;split <;> omega
  have m1:=mulb _ _ g.1.1 g.1.2 g.2.1 g.2.2
  have m2:=mulb (1 + gmod W 5) (1 + gmod H 4) (by omega) (by omega) (by omega) (by omega)
  have m3:=mulb _ _ w1.1 w1.2 h1.1 h1.2
  refine ⟨?_,?_,?_,?_,?_,?_,w1,h1,m3⟩
  · unfold isub;rw [IntKind.wrap_i64];omega
  · unfold isub;rw [IntKind.wrap_i64];omega
  · unfold imul;rw [IntKind.wrap_i64];omega
  · unfold iadd;rw [IntKind.wrap_i64];omega
  · unfold iadd;rw [IntKind.wrap_i64];omega
  · unfold imul;rw [IntKind.wrap_i64];omega
theorem zg0:ja6 26 vo9:=by
  intro al ans hh hq
  unfold vo9 at hh
  split at hh <;> try (simp at hh;done)
  rename_i W H S md c x0 y0 x1 y1 t
  cases en:jf4 5 c with
  | none=>simp [en] at hh
  | some pn =>
  obtain ⟨n,rn⟩:=pn
  simp only [en] at hh
  simp only [Option.some.injEq] at hh
  subst hh
  obtain ⟨q,hdn⟩:∃q:Int→Nat→Int,q=fun i j=>intC (den rn i j):=⟨_,rfl⟩
  try rw [← hdn]
  refine jd4 (al':=[.x (.agg [.v (.int .i64 W),.v (.int .i64 H),.v (.int .i64 S),.v (.int .i64 md),.slc 5 n (.fn fun i j=>.v (.int .i64 (q i j)))]),.x (.agg [.v (.int .i64 x0),.v (.int .i64 y0),.v (.int .i64 x1),.v (.int .i64 y1)]),.x (.c (.v (.int .u16 t)))]) ⟨⟨.v _,.v _,.v _,.v _,(hdn▸jj4 en (by decide) (hq _ (by simp))),trivial⟩,⟨.v _,.v _,.v _,.v _,trivial⟩,.v _,trivial⟩ ?_
  have hq:=asked hq
  refine QR.ja2 (O:=y17) (QR.ja3 (up qb4) (QR.ja3 zf9 (QR.ja3 ye1 (QR.ja3 zf8 QR.jb4)))) mixed (QR.ja4) Tryd.func26 (by kernel_rfl) (by kernel_rfl) (by simp) ?_
  rw [zb3]
  delta zz14 zz15 zz142 zz143
  obtain ⟨_,hn,ht,hg,_⟩:=hq
  simp only [forall_eq,true_and,and_true]
  have hn:=je6 hn
  obtain ⟨z1,z2,z3,z4,z5,z6,w1,h1,m1,m2⟩:=vp0 (W:=W) (H:=H) hg
  have ri:intRow .i64 5 n (.fn fun i j=>.v (.int .i64 (q i j))):=fun i j _ _=>rfl
  have ru:∀k:Int,intRow .u16 5 k (.fn fun i j=>.v (.int .u16 (gpxV md n (fun i j=>q i j) t i j))):=fun k i j _ _=>rfl
  have i64:∀x:Int,1≤x∧x≤1024→in64 x=true:=fun x h=>qk6.2 (by omega)
  have b2:jb8 2=true:=rfl
  have sol:ieq (gmod S 2) 0=true→gimV W H S md n q x0 y0 x1 y1 t=qj6 (gimW W x0 x1) (gimH W H y0 y1) (gpxV md n q t 0 0) (gpxV md n q t 0 1) (gpxV md n q t 0 2) (gpxV md n q t 0 3) (gpxV md n q t 0 4):=fun h=>by
    unfold gimV;rw [show (gmod S 2 == 0)=true from h];rfl
  have pln:ieq (gmod S 2) 0=false→gimV W H S md n q x0 y0 x1 y1 t=jc4 (gimW W x0 x1) (gimH W H y0 y1) (gimW W x0 x1 * gimH W H y0 y1) (gpxV md n q t):=fun h=>by
    unfold gimV;rw [show (gmod S 2 == 0)=false from h];rfl
  have mx:∀x:Int,1≤x→jc6 x 0=x:=fun x h=>by unfold jc6;split <;> omega
  have fin:∀w h:Int,w=gimW W x0 x1→h=gimH W H y0 y1→ile (w * h) 1099511627776=true∧jb8 2=true∧ilt 0 (jc6 (w * h) 0)=true∧in64 w=true∧in64 h=true∧ile 0 (jc6 (w * h) 0)=true∧jc6 (w * h) 0=gimW W x0 x1 * gimH W H y0 y1:=fun w h e1 e2=>by
    subst e1 e2
    rw [mx _ m1]
    exact ⟨jb1 (by omega),rfl,jg9 (by omega),i64 _ w1,i64 _ h1,jb1 (by omega),rfl⟩
  have key:∀w h:Int,w=gimW W x0 x1→h=gimH W H y0 y1→(intRow .i64 5 n (.fn fun i j=>.v (.int .i64 (q i j)))∧ile 0 n=true∧in16 t=true∧ile (w * h) 1099511627776=true)∧jb8 2=true∧
      ja0 (ieq (gmod S 2) 0) (ilt 0 (jc6 (w * h) 0)=true∧jb5 ⟨[.agg (imC (gimV W H S md n q x0 y0 x1 y1 t))],[],[intRow .i64 5 n rn,ile 0 n=true,in16 t=true,gcv x0 y0 x1 y1=true]⟩ [.agg (imC (qj6 w h (gpxV md n q t 0 0) (gpxV md n q t 0 1) (gpxV md n q t 0 2) (gpxV md n q t 0 3) (gpxV md n q t 0 4)))] [])
        ((intRow .u16 5 (jc6 (w * h) 0) (.fn fun i j=>.v (.int .u16 (gpxV md n (fun i j=>q i j) t i j)))∧in64 w=true∧in64 h=true∧ile 0 (jc6 (w * h) 0)=true)∧
          jb5 ⟨[.agg (imC (gimV W H S md n q x0 y0 x1 y1 t))],[],[intRow .i64 5 n rn,ile 0 n=true,in16 t=true,gcv x0 y0 x1 y1=true]⟩ [.agg (imC (jc4 w h (jc6 (w * h) 0) fun i j=>gpxV md n (fun i j=>q i j) t i j))] []):=fun w h e1 e2=>by
    obtain ⟨f1,f2,f3,f4,f5,f6,f7⟩:=fin w h e1 e2
    refine ⟨⟨ri,jb1 hn,ht,f1⟩,b2,ja1.2 ⟨fun c=>⟨f3,⟨?_,trivial⟩,trivial⟩,fun c=>⟨⟨ru _,f4,f5,f6⟩,⟨?_,trivial⟩,trivial⟩⟩⟩
    · rw [sol c,e1,e2];exact zb4 _ _ _ _ _ _ _
    · rw [pln c,f7,e1,e2];exact vt6 fun _ _ _ _=>rfl
  refine ⟨⟨rfl,rfl⟩,rfl,ja1.2 ⟨fun c=>?_,fun c=>?_⟩⟩
  · rw [z1,z2,z3]
    have c:=jd7 c
    exact key (x1 - x0) (y1 - y0) (by unfold gimW;rw [if_pos c]) (by unfold gimH;rw [if_pos c])
  · rw [z4,z5,z6]
    have c:=je7 c
    exact key (1 + gmod W 5) (1 + gmod H 4) (by unfold gimW;rw [if_neg c]) (by unfold gimH;rw [if_neg c])
end Go.Proofs.YthkidembkknoeaaDoor
namespace Go.Proofs.YthkidembkknoeaaDoor
open Go.RowKit PR QR
set_option linter.unusedVariables false
set_option linter.unusedSimpArgs false
set_option maxRecDepth 20000
theorem gp16 (n0 n3 n4:Int) {t:Int} (h:in16 t=true):0≤gpC n0 n3 n4 t∧0≤gpA n3 n4 t∧0≤gpF n4 t :=
  ⟨(qb5 n0 n3 n4 h).1,(ql5 n3 n4 h).1,(jt6 n4 h).1⟩
theorem qs5 {c0 c1 c2 a f m:Int}:pvB c0 c1 c2 a f m=true↔c0≤a∧c1≤a∧c2≤a∧a≤f∧f≤m:=by unfold pvB;rw [decide_eq_true_eq]
theorem qs6 (md n:Int) (q:Int→Nat→Int) {t:Int} (h:in16 t=true) (i:Int):pvB (gpxV md n q t i 0) (gpxV md n q t i 1) (gpxV md n q t i 2) (gpxV md n q t i 3) (gpxV md n q t i 4) t=true:=by
  have ht:=jk7.1 h
  have v:∀i,pvB (grPx n q t i 0) (grPx n q t i 1) (grPx n q t i 2) (grPx n q t i 3) (grPx n q t i 4) t=true:=fun i=>yf5 _ _ _ _ _ h
  by_cases h0:gmod md 6=0
  · rw [← j09 h0,← j09 h0,← j09 h0,← j09 h0,← j09 h0]
    exact qs5.2 (by omega)
  by_cases h1:gmod md 6=1
  · rw [← q75 h1 (by omega),← q75 h1 (by omega),← q75 h1 (by omega),← qx8 h1 (by omega),← qx8 h1 (by omega)]
    have:=qs5.1 (v i)
    exact qs5.2 (by omega)
  by_cases h2:gmod md 6=2
  · rw [← qa1 h2 (i:=i) 0,← qa1 h2 (i:=i) 1,← qa1 h2 (i:=i) 2,← qa1 h2 (i:=i) 3,← qa1 h2 (i:=i) 4,← jo2 h2 rfl 0,← jo2 h2 rfl 1,← jo2 h2 rfl 2,← jo2 h2 rfl 3,← jo2 h2 rfl 4]
    exact v 0
  · rw [← qa3 h0 h1 h2,← qa3 h0 h1 h2,← qa3 h0 h1 h2,← qa3 h0 h1 h2,← qa3 h0 h1 h2]
    exact v i
theorem zb1 (md n:Int) (q:Int→Nat→Int) {t:Int} (h:in16 t=true) (i:Int) (k:Nat):0≤gpxV md n q t i k:=by
  have ht:=jk7.1 h
  have v:∀i,0≤grPx n q t i k:=fun i=>by
    unfold grPx
    split
    · exact (gp16 _ _ _ h).1
    · exact (gp16 _ _ _ h).1
    · exact (gp16 _ _ _ h).1
    · exact (gp16 0 _ _ h).2.1
    · exact (gp16 0 0 _ h).2.2
  unfold gpxV
  split
  · omega
  split
  · split
    · omega
    · exact v i
  split
  · exact v 0
  · exact v i
theorem vt5 (md n:Int) (q:Int→Nat→Int) {t:Int} (h:in16 t=true) (i:Int) {k:Nat} (hk:k < 5):in16 (gpxV md n q t i k)=true:=by
  have ht:=jk7.1 h
  have v:=qs5.1 (qs6 md n q h i)
  have nn:=zb1 md n q h i
  refine jk7.2 ⟨nn k,?_⟩
  have hk':k=0∨k=1∨k=2∨k=3∨k=4:=by omega
  rcases hk' with rfl | rfl | rfl | rfl | rfl <;> omega
end Go.Proofs.YthkidembkknoeaaDoor
namespace Go.Proofs.YthkidembkknoeaaDoor
open Go.RowKit PR QR
set_option linter.unusedVariables false
set_option linter.unusedSimpArgs false
set_option maxRecDepth 20000
theorem qd7 {a b:Int} (h : -9223372036854775808≤a - b∧a - b≤9223372036854775807):isub .i64 a b=a - b:=by unfold isub;exact IntWalk.i64_in _ (by omega)
theorem vn0 {a b:Int} (h : -9223372036854775808≤a + b∧a + b≤9223372036854775807):iadd .i64 a b=a + b:=by unfold iadd;exact IntWalk.i64_in _ (by omega)
end Go.Proofs.YthkidembkknoeaaDoor
namespace Go.Proofs.YthkidembkknoeaaDoor
open Go.RowKit PR QR
set_option linter.unusedVariables false
set_option linter.unusedSimpArgs false
set_option maxRecDepth 20000
def imR (m:Im):Prop:=imG m∧imOk m=true∧imL m=true
theorem qa4 {x:Int} (h:0≤x) (k:x≤1099511627776):in64 x=true:=qk6.2 (by omega)
theorem zb6 {w h n:Int} {q:Int→Nat→Int} {k:Nat} (ok:jo0 w h n=true) (H:∀i:Int,0≤i→i < n→in16 (q i k)=true):plG (jk2 w h n q k)∧plB w h w n=true∧plL (jk2 w h n q k)=true:=by
  have o:=of_decide_eq_true ok
  have f:=jg6.1 o.1
  have l:=qi8 o.1
  refine ⟨⟨qa4 (x:=w) (by omega) (by omega),qa4 (x:=h) (by omega) (by omega),qa4 (x:=w) (by omega) (by omega),jb1 (show 0≤n by have:=Int.mul_nonneg (show 0≤w by omega) (show 0≤h by omega);omega),fun i hi=>H i (by omega) hi⟩,v07.2 ⟨o.1,by omega,by omega,?_⟩,decide_eq_true (show n≤1099511627776 by omega)⟩
  rw [Int.sub_mul,Int.mul_comm h w];omega
theorem ye5 {w h n:Int} {q:Int→Nat→Int} (ok:jo0 w h n=true) (H:∀(i:Int) (k:Nat),0≤i→i < n→k < 5→in16 (q i k)=true):imR (jc4 w h n q):=by
  have o:=of_decide_eq_true ok
  have f:=jg6.1 o.1
  have l:=qi8 o.1
  have p:=fun (k:Nat) (hk:k < 5)=>zb6 (k:=k) ok (fun i h0 h1=>H i k h0 h1 hk)
  rw [ve8 ok]
  refine ⟨⟨⟨qa4 (x:=w) (by omega) (by omega),qa4 (x:=h) (by omega) (by omega)⟩,⟨rfl,rfl,rfl,rfl,rfl⟩,(p 0 (by decide)).1,(p 1 (by decide)).1,(p 2 (by decide)).1,(p 3 (by decide)).1,(p 4 (by decide)).1⟩,qx7.2 ⟨o.1,?_⟩,?_⟩
  · rw [yd9 rfl]
    · rfl
    · intro k hk
      have hk':k=0∨k=1∨k=2∨k=3∨k=4:=by omega
      rcases hk' with rfl | rfl | rfl | rfl | rfl <;> exact qg7.2 ⟨(p _ hk).2.1,rfl,rfl⟩
  · unfold imL
    simp only [(p 0 (by decide)).2.2,(p 1 (by decide)).2.2,(p 2 (by decide)).2.2,(p 3 (by decide)).2.2,(p 4 (by decide)).2.2,Bool.and_self]
theorem qt3 {w h n:Int} {q:Int→Nat→Int} (ok:jo0 w h n=true) {k:Nat} (hk:k < 5) (x y:Int):pxV (jc4 w h n q) k x y=q (y * w + x) k:=by
  rw [ve8 ok]
  have hk':k=0∨k=1∨k=2∨k=3∨k=4:=by omega
  rcases hk' with rfl | rfl | rfl | rfl | rfl <;> rfl
theorem y30 {w h n:Int} {q:Int→Nat→Int} (ok:jo0 w h n=true):(jc4 w h n q).w=w∧(jc4 w h n q).h=h∧(jc4 w h n q).sol=false:=by rw [ve8 ok];exact ⟨rfl,rfl,rfl⟩
theorem vp1 {w h c0 c1 c2 a f:Int} (hf:fitB w h=true) (h0:in16 c0=true) (h1:in16 c1=true) (h2:in16 c2=true) (h3:in16 a=true) (h4:in16 f=true):imR (qj6 w h c0 c1 c2 a f):=by
  have f':=jg6.1 hf
  have l:=qi8 hf
  have p:plG jo1:=⟨rfl,rfl,rfl,rfl,fun _ _=>rfl⟩
  exact ⟨⟨⟨qa4 (x:=w) (by omega) (by omega),qa4 (x:=h) (by omega) (by omega)⟩,⟨h0,h1,h2,h3,h4⟩,p,p,p,p,p⟩,qx7.2 ⟨hf,rfl⟩,rfl⟩
theorem yn9 (W H S md n:Int) (q:Int→Nat→Int) {x0 y0 x1 y1 t:Int} (ht:in16 t=true) (hg:gcv x0 y0 x1 y1=true) :
    imR (gimV W H S md n q x0 y0 x1 y1 t)∧(gimV W H S md n q x0 y0 x1 y1 t).w=gimW W x0 x1∧(gimV W H S md n q x0 y0 x1 y1 t).h=gimH W H y0 y1∧qs8 (gimV W H S md n q x0 y0 x1 y1 t) t=true:=by
  obtain ⟨_,_,_,_,_,_,w1,h1,m1,m2⟩:=vp0 (W:=W) (H:=H) hg
  have f:fitB (gimW W x0 x1) (gimH W H y0 y1)=true:=jg6.2 ⟨w1.1,h1.1,by omega⟩
  cases c:(gmod S 2 == 0)
  · have e:gimV W H S md n q x0 y0 x1 y1 t=jc4 (gimW W x0 x1) (gimH W H y0 y1) (gimW W x0 x1 * gimH W H y0 y1) (gpxV md n q t):=by unfold gimV;rw [c];rfl
    have ok:jo0 (gimW W x0 x1) (gimH W H y0 y1) (gimW W x0 x1 * gimH W H y0 y1)=true:=decide_eq_true ⟨f,rfl⟩
    rw [e]
    obtain ⟨e1,e2,e3⟩:=y30 (q:=gpxV md n q t) ok
    refine ⟨ye5 ok fun i k _ _ hk=>vt5 md n q ht i hk,e1,e2,(qt1 (by rw [e1,e2];exact f)).2 fun x y _ _ _ _=>?_⟩
    unfold pxB
    rw [qt3 ok (by decide),qt3 ok (by decide),qt3 ok (by decide),qt3 ok (by decide),qt3 ok (by decide)]
    exact qs6 md n q ht _
  · have e:gimV W H S md n q x0 y0 x1 y1 t=qj6 (gimW W x0 x1) (gimH W H y0 y1) (gpxV md n q t 0 0) (gpxV md n q t 0 1) (gpxV md n q t 0 2) (gpxV md n q t 0 3) (gpxV md n q t 0 4):=by unfold gimV;rw [c];rfl
    rw [e]
    refine ⟨vp1 f (vt5 md n q ht 0 (by decide)) (vt5 md n q ht 0 (by decide)) (vt5 md n q ht 0 (by decide)) (vt5 md n q ht 0 (by decide)) (vt5 md n q ht 0 (by decide)),rfl,rfl,?_⟩
    rw [qe5 f rfl]
    exact qs6 md n q ht 0
theorem vp2 {m:Im} {t:Int} (ok:imOk m=true) (h:qs8 m t=true):imE m t=0:=by
  have o:=qx7.1 ok
  unfold imE
  rw [o.1,o.2,h];rfl
end Go.Proofs.YthkidembkknoeaaDoor
namespace Go.Proofs.YthkidembkknoeaaDoor
open Go.RowKit PR QR
set_option linter.unusedVariables false
set_option linter.unusedSimpArgs false
structure Ov where
  kd:Int
  im:Int
  x:Int
  y:Int
  msk:Int
  mx:Int
  my:Int
  op:Int
  opr:Int
  md:Int
  iso:Bool
  kno:Bool
structure Sc where
  b:Int
  x0:Int
  y0:Int
  x1:Int
  y1:Int
  tw:Int
  th:Int
  on:Int
  ol:Int→Int
  mn:Int
  ml:Int→Im
  pn:Int
  pl:Int→Ov
def jt1 (o:Ov):List CV:=[.v (.int .i64 o.kd),.v (.int .i64 o.im),.v (.int .i64 o.x),.v (.int .i64 o.y),.v (.int .i64 o.msk),.v (.int .i64 o.mx),.v (.int .i64 o.my),.v (.int .u16 o.op),.v (.int .i64 o.opr),.v (.int .i64 o.md),.v (.bool o.iso),.v (.bool o.kno)]
def je8 (f:Int→Ov):QR.Row:=.col 0 (fun i=>.v (.int .i64 (f i).kd)) (.col 1 (fun i=>.v (.int .i64 (f i).im)) (.col 2 (fun i=>.v (.int .i64 (f i).x)) (.col 3 (fun i=>.v (.int .i64 (f i).y)) (.col 4 (fun i=>.v (.int .i64 (f i).msk)) (.col 5 (fun i=>.v (.int .i64 (f i).mx)) (.col 6 (fun i=>.v (.int .i64 (f i).my)) (.col 7 (fun i=>.v (.int .u16 (f i).op)) (.col 8 (fun i=>.v (.int .i64 (f i).opr)) (.col 9 (fun i=>.v (.int .i64 (f i).md)) (.col 10 (fun i=>.v (.bool (f i).iso)) (.col 11 (fun i=>.v (.bool (f i).kno)) (.zer []))))))))))))
def qj5 (k:Nat) (p:Int→Pl) (r:QR.Row):QR.Row:=.col k (fun i=>.v (.int .i64 (p i).w)) (.col (k + 1) (fun i=>.v (.int .i64 (p i).h)) (.col (k + 2) (fun i=>.v (.int .i64 (p i).s)) (.col (k + 3) (fun i=>.slc 1 (p i).n (.fn fun a _=>.v (.int .u16 ((p i).l a)))) r)))
def jg4 (f:Int→Im):QR.Row:=.col 0 (fun i=>.v (.int .i64 (f i).w)) (.col 1 (fun i=>.v (.int .i64 (f i).h)) (.col 2 (fun i=>.v (.bool (f i).sol)) (.col 3 (fun i=>.v (.int .u16 (f i).c0)) (.col 4 (fun i=>.v (.int .u16 (f i).c1)) (.col 5 (fun i=>.v (.int .u16 (f i).c2)) (.col 6 (fun i=>.v (.int .u16 (f i).a)) (.col 7 (fun i=>.v (.int .u16 (f i).f))
  (qj5 8 (fun i=>(f i).p0) (qj5 12 (fun i=>(f i).p1) (qj5 16 (fun i=>(f i).p2) (qj5 20 (fun i=>(f i).p3) (qj5 24 (fun i=>(f i).p4) (.zer [])))))))))))))
def ji8 (s:Sc):List CV:=[.v (.int .i64 s.b),.v (.int .i64 s.x0),.v (.int .i64 s.y0),.v (.int .i64 s.x1),.v (.int .i64 s.y1),.v (.int .i64 s.tw),.v (.int .i64 s.th),.slc 1 s.on (.fn fun i _=>.v (.int .i64 (s.ol i))),.slc 28 s.mn (jg4 s.ml),.slc 12 s.pn (je8 s.pl)]
def yy3:CV→Bool
  | .v (.bool b)=>b
  | _=>false
def slcN:CV→Int
  | .slc _ n _=>n
  | _=>0
def slcW:CV→QR.Row
  | .slc _ _ r=>r
  | _=>.zer []
def plAt (r:QR.Row) (i:Int) (k:Nat):Pl:=⟨intC (den r i k),intC (den r i (k + 1)),intC (den r i (k + 2)),slcN (den r i (k + 3)),fun a=>intC (den (slcW (den r i (k + 3))) a 0)⟩
def imAt (r:QR.Row) (i:Int):Im:=⟨intC (den r i 0),intC (den r i 1),yy3 (den r i 2),intC (den r i 3),intC (den r i 4),intC (den r i 5),intC (den r i 6),intC (den r i 7),plAt r i 8,plAt r i 12,plAt r i 16,plAt r i 20,plAt r i 24⟩
def ovAt (r:QR.Row) (i:Int):Ov:=⟨intC (den r i 0),intC (den r i 1),intC (den r i 2),intC (den r i 3),intC (den r i 4),intC (den r i 5),intC (den r i 6),intC (den r i 7),intC (den r i 8),intC (den r i 9),yy3 (den r i 10),yy3 (den r i 11)⟩
def jc5 (n:Int) (r:QR.Row):Prop:=∀i j:Nat,(i:Int) < n→j < 28→EqC (den r i j) (den (jg4 (imAt r)) i j)
def ja8 (n:Int) (r:QR.Row):Prop:=∀i j:Nat,(i:Int) < n→j < 12→EqC (den r i j) (den (je8 (ovAt r)) i j)
def ji1:List CV→Option (Sc×List Prop)
  | [.v (.int .i64 b),.v (.int .i64 x0),.v (.int .i64 y0),.v (.int .i64 x1),.v (.int .i64 y1),.v (.int .i64 tw),.v (.int .i64 th),oc,mc,pc]=>match jf4 1 oc,jf4 28 mc,jf4 12 pc with
    | some (on,o),some (mn,m),some (pn,p)=>some (⟨b,x0,y0,x1,y1,tw,th,on,fun i=>intC (den o i 0),mn,imAt m,pn,ovAt p⟩,[intRow .i64 1 on o,jc5 mn m,ja8 pn p,ile 0 on=true,ile 0 mn=true,ile 0 pn=true])
    | _,_,_=>none
  | _=>none
theorem jl1 {z:Nat} {c:CV} {n:Int} {r R:QR.Row} (h:jf4 z c=some (n,r)) (hz:0 < z) (hr:∀i j:Nat,(i:Int) < n→j < z→EqC (den r i j) (den R i j)):EqC c (.slc z n R):=by
  unfold jf4 at h
  split at h
  · rename_i z' n' r'
    cases e:Nat.beq z' z
    · rw [e] at h;simp at h
    · rw [e,cond_true,Option.some.injEq,Prod.mk.injEq] at h
      obtain ⟨rfl,rfl⟩:=h
      obtain rfl:=Nat.eq_of_beq_eq_true e
      exact .slc fun i j hi hj=>hr i j hi hj
  · rw [Option.some.injEq,Prod.mk.injEq] at h
    obtain ⟨rfl,rfl⟩:=h
    exact .nil hz rfl
  · simp at h
theorem qd9 {k:IntKind} {c:CV} {n:Int} {r:QR.Row} (h:jf4 1 c=some (n,r)) (hr:intRow k 1 n r):EqC c (.slc 1 n (.fn fun i _=>.v (.int k (intC (den r i 0))))) :=
  jl1 h (by decide) fun i j hi hj=>by
    obtain rfl:j=0:=by omega
    rw [hr i 0 hi hj];exact .v _
end Go.Proofs.YthkidembkknoeaaDoor
namespace Go.Proofs.YthkidembkknoeaaDoor
open Go.RowKit PR QR
set_option linter.unusedVariables false
def imsE (n:Int) (f g:Int→Im):Prop:=(((((((((((((((((((((((((((True∧∀i:Nat,ilt (Int.ofNat i) n=true→IntKind.i64=IntKind.i64∧(f (Int.ofNat i)).1=(g (Int.ofNat i)).1)∧∀i:Nat,ilt (Int.ofNat i) n=true→IntKind.i64=IntKind.i64∧(f (Int.ofNat i)).2=(g (Int.ofNat i)).2)∧∀i:Nat,ilt (Int.ofNat i) n=true→(f (Int.ofNat i)).3=(g (Int.ofNat i)).3)∧∀i:Nat,ilt (Int.ofNat i) n=true→IntKind.u16=IntKind.u16∧(f (Int.ofNat i)).4=(g (Int.ofNat i)).4)∧∀i:Nat,ilt (Int.ofNat i) n=true→IntKind.u16=IntKind.u16∧(f (Int.ofNat i)).5=(g (Int.ofNat i)).5)∧∀i:Nat,ilt (Int.ofNat i) n=true→IntKind.u16=IntKind.u16∧(f (Int.ofNat i)).6=(g (Int.ofNat i)).6)∧∀i:Nat,ilt (Int.ofNat i) n=true→IntKind.u16=IntKind.u16∧(f (Int.ofNat i)).7=(g (Int.ofNat i)).7)∧∀i:Nat,ilt (Int.ofNat i) n=true→IntKind.u16=IntKind.u16∧(f (Int.ofNat i)).8=(g (Int.ofNat i)).8)∧∀i:Nat,ilt (Int.ofNat i) n=true→IntKind.i64=IntKind.i64∧(f (Int.ofNat i)).9.1=(g (Int.ofNat i)).9.1)∧∀i:Nat,ilt (Int.ofNat i) n=true→IntKind.i64=IntKind.i64∧(f (Int.ofNat i)).9.2=(g (Int.ofNat i)).9.2)∧∀i:Nat,ilt (Int.ofNat i) n=true→IntKind.i64=IntKind.i64∧(f (Int.ofNat i)).9.3=(g (Int.ofNat i)).9.3)∧∀i:Nat,ilt (Int.ofNat i) n=true→EqC (CV.slc 1 (f (Int.ofNat i)).9.4 (QR.Row.fn fun (a:Int) (x:Nat)=>CV.v (Value.int .u16 ((f (Int.ofNat i)).9.5 a)))) (CV.slc 1 (g (Int.ofNat i)).9.4 (QR.Row.fn fun (a:Int) (x:Nat)=>CV.v (Value.int .u16 ((g (Int.ofNat i)).9.5 a)))))∧∀i:Nat,ilt (Int.ofNat i) n=true→IntKind.i64=IntKind.i64∧(f (Int.ofNat i)).10.1=(g (Int.ofNat i)).10.1)∧∀i:Nat,ilt (Int.ofNat i) n=true→IntKind.i64=IntKind.i64∧(f (Int.ofNat i)).10.2=(g (Int.ofNat i)).10.2)∧∀i:Nat,ilt (Int.ofNat i) n=true→IntKind.i64=IntKind.i64∧(f (Int.ofNat i)).10.3=(g (Int.ofNat i)).10.3)∧∀i:Nat,ilt (Int.ofNat i) n=true→EqC (CV.slc 1 (f (Int.ofNat i)).10.4 (QR.Row.fn fun (a:Int) (x:Nat)=>CV.v (Value.int .u16 ((f (Int.ofNat i)).10.5 a)))) (CV.slc 1 (g (Int.ofNat i)).10.4 (QR.Row.fn fun (a:Int) (x:Nat)=>CV.v (Value.int .u16 ((g (Int.ofNat i)).10.5 a)))))∧∀i:Nat,ilt (Int.ofNat i) n=true→IntKind.i64=IntKind.i64∧(f (Int.ofNat i)).11.1=(g (Int.ofNat i)).11.1)∧∀i:Nat,ilt (Int.ofNat i) n=true→IntKind.i64=IntKind.i64∧(f (Int.ofNat i)).11.2=(g (Int.ofNat i)).11.2)∧∀i:Nat,ilt (Int.ofNat i) n=true→IntKind.i64=IntKind.i64∧(f (Int.ofNat i)).11.3=(g (Int.ofNat i)).11.3)∧∀i:Nat,ilt (Int.ofNat i) n=true→EqC (CV.slc 1 (f (Int.ofNat i)).11.4 (QR.Row.fn fun (a:Int) (x:Nat)=>CV.v (Value.int .u16 ((f (Int.ofNat i)).11.5 a)))) (CV.slc 1 (g (Int.ofNat i)).11.4 (QR.Row.fn fun (a:Int) (x:Nat)=>CV.v (Value.int .u16 ((g (Int.ofNat i)).11.5 a)))))∧∀i:Nat,ilt (Int.ofNat i) n=true→IntKind.i64=IntKind.i64∧(f (Int.ofNat i)).12.1=(g (Int.ofNat i)).12.1)∧∀i:Nat,ilt (Int.ofNat i) n=true→IntKind.i64=IntKind.i64∧(f (Int.ofNat i)).12.2=(g (Int.ofNat i)).12.2)∧∀i:Nat,ilt (Int.ofNat i) n=true→IntKind.i64=IntKind.i64∧(f (Int.ofNat i)).12.3=(g (Int.ofNat i)).12.3)∧∀i:Nat,ilt (Int.ofNat i) n=true→EqC (CV.slc 1 (f (Int.ofNat i)).12.4 (QR.Row.fn fun (a:Int) (x:Nat)=>CV.v (Value.int .u16 ((f (Int.ofNat i)).12.5 a)))) (CV.slc 1 (g (Int.ofNat i)).12.4 (QR.Row.fn fun (a:Int) (x:Nat)=>CV.v (Value.int .u16 ((g (Int.ofNat i)).12.5 a)))))∧∀i:Nat,ilt (Int.ofNat i) n=true→IntKind.i64=IntKind.i64∧(f (Int.ofNat i)).13.1=(g (Int.ofNat i)).13.1)∧∀i:Nat,ilt (Int.ofNat i) n=true→IntKind.i64=IntKind.i64∧(f (Int.ofNat i)).13.2=(g (Int.ofNat i)).13.2)∧∀i:Nat,ilt (Int.ofNat i) n=true→IntKind.i64=IntKind.i64∧(f (Int.ofNat i)).13.3=(g (Int.ofNat i)).13.3)∧∀i:Nat,ilt (Int.ofNat i) n=true→EqC (CV.slc 1 (f (Int.ofNat i)).13.4 (QR.Row.fn fun (a:Int) (x:Nat)=>CV.v (Value.int .u16 ((f (Int.ofNat i)).13.5 a)))) (CV.slc 1 (g (Int.ofNat i)).13.4 (QR.Row.fn fun (a:Int) (x:Nat)=>CV.v (Value.int .u16 ((g (Int.ofNat i)).13.5 a))))
def opsE (n:Int) (f g:Int→Ov):Prop:=(((((((((((True∧∀i:Nat,ilt (Int.ofNat i) n=true→IntKind.i64=IntKind.i64∧(f (Int.ofNat i)).1=(g (Int.ofNat i)).1)∧∀i:Nat,ilt (Int.ofNat i) n=true→IntKind.i64=IntKind.i64∧(f (Int.ofNat i)).2=(g (Int.ofNat i)).2)∧∀i:Nat,ilt (Int.ofNat i) n=true→IntKind.i64=IntKind.i64∧(f (Int.ofNat i)).3=(g (Int.ofNat i)).3)∧∀i:Nat,ilt (Int.ofNat i) n=true→IntKind.i64=IntKind.i64∧(f (Int.ofNat i)).4=(g (Int.ofNat i)).4)∧∀i:Nat,ilt (Int.ofNat i) n=true→IntKind.i64=IntKind.i64∧(f (Int.ofNat i)).5=(g (Int.ofNat i)).5)∧∀i:Nat,ilt (Int.ofNat i) n=true→IntKind.i64=IntKind.i64∧(f (Int.ofNat i)).6=(g (Int.ofNat i)).6)∧∀i:Nat,ilt (Int.ofNat i) n=true→IntKind.i64=IntKind.i64∧(f (Int.ofNat i)).7=(g (Int.ofNat i)).7)∧∀i:Nat,ilt (Int.ofNat i) n=true→IntKind.u16=IntKind.u16∧(f (Int.ofNat i)).8=(g (Int.ofNat i)).8)∧∀i:Nat,ilt (Int.ofNat i) n=true→IntKind.i64=IntKind.i64∧(f (Int.ofNat i)).9=(g (Int.ofNat i)).9)∧∀i:Nat,ilt (Int.ofNat i) n=true→IntKind.i64=IntKind.i64∧(f (Int.ofNat i)).10=(g (Int.ofNat i)).10)∧∀i:Nat,ilt (Int.ofNat i) n=true→(f (Int.ofNat i)).11=(g (Int.ofNat i)).11)∧∀i:Nat,ilt (Int.ofNat i) n=true→(f (Int.ofNat i)).12=(g (Int.ofNat i)).12
end Go.Proofs.YthkidembkknoeaaDoor
