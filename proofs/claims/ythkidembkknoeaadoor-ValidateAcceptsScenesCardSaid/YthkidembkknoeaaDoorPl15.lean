import Derived.Test.YthkidembkknoeaaDoorPl14
import Derived.Test.YthkidembkknoeaaDoorPl11
import Derived.Test.YthkidembkknoeaaDoorPl13
namespace Go.Proofs.YthkidembkknoeaaDoor
open Go.RowKit PR QR
set_option linter.unusedVariables false
set_option linter.unusedSimpArgs false
set_option maxRecDepth 20000
theorem y65 (w h c0 c1 c2 a f:Int):eqLo (imC (qh6 w h c0 c1 c2 a f)) (imC (qh6 w h c0 c1 c2 a f)):=by
 have z:∀r:QR.Row,EqC (.slc 1 0 r) (.slc 1 0 r):=λ r=>.slc λ i j hi _=>by omega
 simp [imC,qh6,jn0,eqLo,eqo,eqc,veq,z]
theorem vb8 {w h n:Int} {q:Int->Nat->Int} (ok:jm9 w h n=true):jc1 w h n q=⟨w,h,false,0,0,0,0,0,jj4 w h n q 0,jj4 w h n q 1,jj4 w h n q 2,jj4 w h n q 3,jj4 w h n q 4⟩:=by unfold jc1;rw [ok];rfl
theorem yn3 {w h n:Int} {q:Int->Nat->Int} (ok:jm9 w h n=false):jc1 w h n q=vb4:=by unfold jc1;rw [ok];rfl
theorem vq6 {w h n:Int} {q q':Int->Nat->Int} (H:∀(i k:Nat),(i:Int) < n->k < 5->q i k=q' i k):eqLo (imC (jc1 w h n q)) (imC (jc1 w h n q')):=by
 cases ok:jm9 w h n
 ·rw [yn3 ok,yn3 ok]
  have z:∀r:QR.Row,EqC (.slc 1 0 r) (.slc 1 0 r):=λ r=>.slc λ i j hi _=>by omega
  simp [imC,vb4,jn0,eqLo,eqo,eqc,veq,z]
 ·rw [vb8 ok,vb8 ok]
  have K:∀k:Nat,k < 5->EqC (.slc 1 n (.fn λ t _=>.v (.int .u16 (q t k)))) (.slc 1 n (.fn λ t _=>.v (.int .u16 (q' t k)))):=λ k hk=>by
   refine .slc λ t j ht hj=>?_
   show EqC (.v (.int .u16 (q t k))) (.v (.int .u16 (q' t k)))
   rw [H t k ht hk];exact .v _
  simp only [imC,jj4,eqLo,eqo,eqc,veq,true_and,and_true,and_self]
  exact ⟨K 0 (by decide),K 1 (by decide),K 2 (by decide),K 3 (by decide),K 4 (by decide)⟩
theorem zc1 {m:Im} (hG:imG m) (k:Nat):plG (imPl m k):=by
 obtain ⟨_,_,a,b,c,d,e⟩:=hG
 match k with
 | 0=>exact a
 | 1=>exact b
 | 2=>exact c
 | 3=>exact d
 | _ + 4=>exact e
theorem yb1 {w x y:Int} (x0:0<=x) (x1:x < w):(y * w + x) / w=y/\(y * w + x) % w=x:=by
 rw [Int.add_comm,Int.add_mul_ediv_right _ _ (by omega),Int.ediv_eq_zero_of_lt x0 x1,Int.zero_add,Int.add_mul_emod_self_right,Int.emod_eq_of_lt x0 x1]
 exact ⟨rfl,rfl⟩
end Go.Proofs.YthkidembkknoeaaDoor
namespace Go.Proofs.YthkidembkknoeaaDoor
open Go.RowKit PR QR
set_option linter.unusedVariables false
set_option linter.unusedSimpArgs false
set_option maxRecDepth 20000
theorem yx3 (x y:Int):isel true x y=x:=rfl
theorem yx4 (x y:Int):isel false x y=y:=rfl
section
variable {md n k t i:Int} {q:Int->Nat->Int}
theorem qf4 {g:Int->Int} {v:Int} (hi:0<=i) (h:v=g i) (p:Nat) (hp:ilt (Int.ofNat p) (addZ i 1)=true):isel (ilt (Int.ofNat p) i) (g (Int.ofNat p)) (isel (ieq (subZ (Int.ofNat p) i) 0) v 0)=g (Int.ofNat p):=by
 have hp:=jg6 hp
 unfold addZ at hp
 cases e:ilt (Int.ofNat p) i
 ·have e:=jt7 e
  have e2:Int.ofNat p=i:=by omega
  rw [yx4,e2,show subZ i i=0 by unfold subZ;omega,qh7,yx3,h]
 ·rfl
theorem yk0 (hk:k<=1099511627776) (hi:ji5 k i) (lt:ilt i k=true):ile (jd8 (addZ i 1) 10) 140737488355328=true/\addZ i 1=i + 1/\iadd .i64 i 1=i + 1/\ji5 k (i + 1)/\(jr9 k (i + 1)).succ.le (jr9 k i)/\0<=i:=by
 have lt:=jg6 lt
 have h0:=hi.1
 refine ⟨jb4 (by unfold jd8 addZ;omega),rfl,?_,⟨by omega,Or.inr (by omega)⟩,?_,h0⟩
 ·unfold iadd;rw [IntKind.wrap_i64];omega
 ·unfold jr9;show (k - (i + 1)).toNat + 1<=(k - i).toNat;omega
theorem yb2 {j:Nat} (h:0 < n):grQ n q i j=q (i % n) j:=if_pos h
theorem yb3 {j:Nat} (h:¬ 0 < n):grQ n q i j=0:=if_neg h
theorem jy6 (h:gmod md 6=0) (j:Nat):0=gpxV md n q t i j:=by unfold gpxV;rw [if_pos h]
theorem q45 (h:gmod md 6=1) {j:Nat} (hj:¬ (j=3\/j=4)):grPx n q t i j=gpxV md n q t i j:=by
 unfold gpxV;rw [if_neg (by omega),if_pos h,if_neg hj]
theorem qv4 (h:gmod md 6=1) {j:Nat} (hj:j=3\/j=4):t=gpxV md n q t i j:=by
 unfold gpxV;rw [if_neg (by omega),if_pos h,if_pos hj]
theorem vh0 {a b:Int} (h:0<=a):irem a b=a % b:=by unfold irem;exact Int.tmod_eq_emod_of_nonneg h
theorem jy7 (h:gmod md 6=2) (j:Nat):gpxV md n q t 0 j=gpxV md n q t i j:=by
 unfold gpxV;rw [if_neg (by omega),if_neg (by omega),if_pos h,if_neg (by omega),if_neg (by omega),if_pos h]
theorem jn1 (h:gmod md 6=2) (h0:i=0) (j:Nat):grPx n q t i j=gpxV md n q t i j:=by
 unfold gpxV;rw [if_neg (by omega),if_neg (by omega),if_pos h,h0]
theorem jy8 (h:gmod md 6≠0) (h1:gmod md 6≠1) (h2:gmod md 6≠2) (j:Nat):grPx n q t i j=gpxV md n q t i j:=by
 unfold gpxV;rw [if_neg h,if_neg h1,if_neg h2]
theorem ji0 (hk:k<=1099511627776) (hi:ji5 k i) (lt:ilt i k=true) {v0 v1 v2 v3 v4:Int} (h0:v0=gpxV md n q t i 0) (h1:v1=gpxV md n q t i 1) (h2:v2=gpxV md n q t i 2) (h3:v3=gpxV md n q t i 3) (h4:v4=gpxV md n q t i 4) :
  ile (jd8 (addZ i 1) 10) 140737488355328=true/\∃s,ji5 k s/\((addZ i 1=s/\iadd IntKind.i64 i 1=s)/\addZ i 1=s/\
   (((((∀p:Nat,ilt (Int.ofNat p) (addZ i 1)=true->isel (ilt (Int.ofNat p) i) (gpxV md n q t (Int.ofNat p) 0) (isel (ieq (subZ (Int.ofNat p) i) 0) v0 0)=gpxV md n q t (Int.ofNat p) 0)/\
   ∀p:Nat,ilt (Int.ofNat p) (addZ i 1)=true->isel (ilt (Int.ofNat p) i) (gpxV md n q t (Int.ofNat p) 1) (isel (ieq (subZ (Int.ofNat p) i) 0) v1 0)=gpxV md n q t (Int.ofNat p) 1)/\
   ∀p:Nat,ilt (Int.ofNat p) (addZ i 1)=true->isel (ilt (Int.ofNat p) i) (gpxV md n q t (Int.ofNat p) 2) (isel (ieq (subZ (Int.ofNat p) i) 0) v2 0)=gpxV md n q t (Int.ofNat p) 2)/\
   ∀p:Nat,ilt (Int.ofNat p) (addZ i 1)=true->isel (ilt (Int.ofNat p) i) (gpxV md n q t (Int.ofNat p) 3) (isel (ieq (subZ (Int.ofNat p) i) 0) v3 0)=gpxV md n q t (Int.ofNat p) 3)/\
   ∀p:Nat,ilt (Int.ofNat p) (addZ i 1)=true->isel (ilt (Int.ofNat p) i) (gpxV md n q t (Int.ofNat p) 4) (isel (ieq (subZ (Int.ofNat p) i) 0) v4 0)=gpxV md n q t (Int.ofNat p) 4))/\(jr9 k s).succ.le (jr9 k i):=by
 obtain ⟨b,a1,a2,g,mu,n0⟩:=yk0 hk hi lt
 exact ⟨b,i + 1,g,⟨⟨a1,a2⟩,a1,⟨⟨⟨qf4 (g:=λ p=>gpxV md n q t p 0) n0 h0,qf4 (g:=λ p=>gpxV md n q t p 1) n0 h1⟩,qf4 (g:=λ p=>gpxV md n q t p 2) n0 h2⟩,qf4 (g:=λ p=>gpxV md n q t p 3) n0 h3⟩,qf4 (g:=λ p=>gpxV md n q t p 4) n0 h4⟩,mu⟩
end
theorem zc2:jb0 47 vm3:=by
 intro al ans hh hq
 unfold vm3 at hh
 split at hh <;> try (simp at hh;done)
 rename_i md c k t
 cases en:jf1 5 c with
 | none=>simp [en] at hh
 | some pn =>
 obtain ⟨n,rn⟩:=pn
 simp only [en] at hh
 simp only [Option.some.injEq] at hh
 subst hh
 obtain ⟨q,hdn⟩:∃q:Int->Nat->Int,q=λ i j=>intC (den rn i j):=⟨_,rfl⟩
 try rw [<- hdn]
 refine jd6 (al':=[.x (.agg [.v (.int .i64 md),.slc 5 n (.fn λ i j=>.v (.int .i64 (q i j)))]),.x (.c (.v (.int .i64 k))),.x (.c (.v (.int .u16 t)))]) ⟨⟨.v _,(hdn▸jj0 en (by decide) (hq _ (by simp))),trivial⟩,.v _,.v _,trivial⟩ ?_
 have hq:=asked hq
 refine QR.ja2 (O:=yx2) (QR.ja3 (up qj8) (QR.ja3 ya7 QR.jb2)) mixed ((λ n_=>bif Nat.beq n_ 3 then some (.ownF [(7,none,5)] λ _=>[qf2 md n k t q]) else bif Nat.beq n_ 700011 then some (.cutF λ g=>[qf3 md n k t q (g 8)]) else none)) Tryd.func47 (by kernel_rfl) (by kernel_rfl) (by simp) ?_
 rw [y66]
 delta zz8 zz38 zz41 zz43 zz74 zz126
 obtain ⟨_,hn,ht,hb,_⟩:=hq
 simp only [jb6,eqXs,eqX,eqo,eqLo,eqc,veq,eqUs,ja1,bnot,nilC,true_and,and_true,and_self,implies_true,true_implies,reduceCtorEq,false_implies,Bool.not_true,Bool.not_false,forall_eq,or_false,false_or,and_false,false_and,exists_false,exists_eq_right,exists_eq_right']
 have hn:=jg1 hn
 have hb:=jg1 hb
 have m6:jb8 6=true:=rfl
 refine ⟨⟨0,⟨Int.le_refl _,Or.inl rfl⟩,rfl,rfl,λ p h=>by have:=jg6 h;simp at this;omega⟩,λ i hi=>⟨λ lt=>⟨λ n0=>⟨?a,⟨?b,?c⟩,?r⟩,λ n0=>⟨⟨?d,?e⟩,?r2⟩⟩,?f⟩⟩
 case a=>have n1:0 < n:=of_decide_eq_true n0;unfold ine;simp;omega
 case b =>
  intro h
  have n1:0 < n:=of_decide_eq_true n0
  have l:=jg6 lt
  rw [vh0 hi.1] at h ⊢
  exact ⟨⟨jb4 (Int.emod_nonneg _ (by omega)),h⟩,0,⟨hi,l⟩,(yb2 n1).symm,(yb2 n1).symm,(yb2 n1).symm,(yb2 n1).symm,(yb2 n1).symm⟩
 case c =>
  intro h
  have n1:0 < n:=of_decide_eq_true n0
  have h:=jt7 h
  rw [vh0 hi.1] at h
  have:=Int.emod_lt_of_pos i n1
  omega
 case d =>
  intro h
  have n1:¬ 0 < n:=of_decide_eq_false n0
  have h:=jg6 h
  have:=hi.1
  omega
 case e =>
  intro h
  have n1:¬ 0 < n:=of_decide_eq_false n0
  exact ⟨0,⟨hi,jg6 lt⟩,(yb3 n1).symm,(yb3 n1).symm,(yb3 n1).symm,(yb3 n1).symm,(yb3 n1).symm⟩
 case f =>
  intro h
  have h:=jt7 h
  have g:=hi.1
  have e:jc2 k 0=i:=by
   unfold jc2
   rcases hi.2 with h | h <;> split <;> omega
  rw [e]
  exact .slc λ i j _ _=>.v _
 case r=>exact λ _ _=>⟨ht,m6,λ e0=>ji0 hb hi lt (jy6 (jd2 e0) 0) (jy6 (jd2 e0) 1) (jy6 (jd2 e0) 2) (jy6 (jd2 e0) 3) (jy6 (jd2 e0) 4),λ e0 =>
   ⟨λ e1=>ji0 hb hi lt (q45 (j:=0) (jd2 e1) (by decide)) (q45 (j:=1) (jd2 e1) (by decide)) (q45 (j:=2) (jd2 e1) (by decide)) (qv4 (j:=3) (jd2 e1) (by decide)) (qv4 (j:=4) (jd2 e1) (by decide)),λ e1 =>
   ⟨λ e2=>⟨λ i0=>⟨jl0 (of_decide_eq_true i0),ji0 hb hi lt (jy7 (jd2 e2) 0) (jy7 (jd2 e2) 1) (jy7 (jd2 e2) 2) (jy7 (jd2 e2) 3) (jy7 (jd2 e2) 4)⟩,λ i0 =>
    have z:i=0:=by have:=of_decide_eq_false i0;have:=hi.1;omega
    ji0 hb hi lt (jn1 (jd2 e2) z 0) (jn1 (jd2 e2) z 1) (jn1 (jd2 e2) z 2) (jn1 (jd2 e2) z 3) (jn1 (jd2 e2) z 4)⟩,
   λ e2=>ji0 hb hi lt (jy8 (je4 e0) (je4 e1) (je4 e2) 0) (jy8 (je4 e0) (je4 e1) (je4 e2) 1) (jy8 (je4 e0) (je4 e1) (je4 e2) 2) (jy8 (je4 e0) (je4 e1) (je4 e2) 3) (jy8 (je4 e0) (je4 e1) (je4 e2) 4)⟩⟩⟩
 case r2=>exact λ _ _=>⟨ht,m6,λ e0=>ji0 hb hi lt (jy6 (jd2 e0) 0) (jy6 (jd2 e0) 1) (jy6 (jd2 e0) 2) (jy6 (jd2 e0) 3) (jy6 (jd2 e0) 4),λ e0 =>
   ⟨λ e1=>ji0 hb hi lt (q45 (j:=0) (jd2 e1) (by decide)) (q45 (j:=1) (jd2 e1) (by decide)) (q45 (j:=2) (jd2 e1) (by decide)) (qv4 (j:=3) (jd2 e1) (by decide)) (qv4 (j:=4) (jd2 e1) (by decide)),λ e1 =>
   ⟨λ e2=>⟨λ i0=>⟨jl0 (of_decide_eq_true i0),ji0 hb hi lt (jy7 (jd2 e2) 0) (jy7 (jd2 e2) 1) (jy7 (jd2 e2) 2) (jy7 (jd2 e2) 3) (jy7 (jd2 e2) 4)⟩,λ i0 =>
    have z:i=0:=by have:=of_decide_eq_false i0;have:=hi.1;omega
    ji0 hb hi lt (jn1 (jd2 e2) z 0) (jn1 (jd2 e2) z 1) (jn1 (jd2 e2) z 2) (jn1 (jd2 e2) z 3) (jn1 (jd2 e2) z 4)⟩,
   λ e2=>ji0 hb hi lt (jy8 (je4 e0) (je4 e1) (je4 e2) 0) (jy8 (je4 e0) (je4 e1) (je4 e2) 1) (jy8 (je4 e0) (je4 e1) (je4 e2) 2) (jy8 (je4 e0) (je4 e1) (je4 e2) 3) (jy8 (je4 e0) (je4 e1) (je4 e2) 4)⟩⟩⟩
end Go.Proofs.YthkidembkknoeaaDoor
namespace Go.Proofs.YthkidembkknoeaaDoor
open Go.RowKit PR QR
set_option linter.unusedVariables false
set_option linter.unusedSimpArgs false
set_option maxRecDepth 20000
theorem vm6 {W H x0 y0 x1 y1:Int} (hg:gcv x0 y0 x1 y1=true) :
  isub .i64 x1 x0=x1 - x0/\isub .i64 y1 y0=y1 - y0/\imul .i64 (x1 - x0) (y1 - y0)=(x1 - x0) * (y1 - y0)/\iadd .i64 1 (gmod W 5)=1 + gmod W 5/\iadd .i64 1 (gmod H 4)=1 + gmod H 4/\imul .i64 (1 + gmod W 5) (1 + gmod H 4)=(1 + gmod W 5) * (1 + gmod H 4)/\
  (1<=gimW W x0 x1/\gimW W x0 x1<=1024)/\(1<=gimH W H y0 y1/\gimH W H y0 y1<=1024)/\1<=gimW W x0 x1 * gimH W H y0 y1/\gimW W x0 x1 * gimH W H y0 y1<=1048576:=by
 have g:=of_decide_eq_true hg
 have e5:=jc6 W (show (0:Int) < 5 by decide)
 have e4:=jc6 H (show (0:Int) < 4 by decide)
 have mulb:∀a b:Int,1<=a->a<=1024->1<=b->b<=1024->1<=a * b/\a * b<=1048576:=λ a b a1 a2 b1 b2=>by
  have:=Int.mul_le_mul a2 b2 (by omega) (by omega)
  have:1 * 1<=a * b:=Int.mul_le_mul a1 b1 (by omega) (by omega)
  omega
 have w1:1<=gimW W x0 x1/\gimW W x0 x1<=1024:=by unfold gimW;split <;> omega
 have h1:1<=gimH W H y0 y1/\gimH W H y0 y1<=1024:=by unfold gimH;split <;> omega
 have m1:=mulb _ _ g.1.1 g.1.2 g.2.1 g.2.2
 have m2:=mulb (1 + gmod W 5) (1 + gmod H 4) (by omega) (by omega) (by omega) (by omega)
 have m3:=mulb _ _ w1.1 w1.2 h1.1 h1.2
 refine ⟨?_,?_,?_,?_,?_,?_,w1,h1,m3⟩
 ·unfold isub;rw [IntKind.wrap_i64];omega
 ·unfold isub;rw [IntKind.wrap_i64];omega
 ·unfold imul;rw [IntKind.wrap_i64];omega
 ·unfold iadd;rw [IntKind.wrap_i64];omega
 ·unfold iadd;rw [IntKind.wrap_i64];omega
 ·unfold imul;rw [IntKind.wrap_i64];omega
theorem zc3:jb0 26 vm4:=by
 intro al ans hh hq
 unfold vm4 at hh
 split at hh <;> try (simp at hh;done)
 rename_i W H S md c x0 y0 x1 y1 t
 cases en:jf1 5 c with
 | none=>simp [en] at hh
 | some pn =>
 obtain ⟨n,rn⟩:=pn
 simp only [en] at hh
 simp only [Option.some.injEq] at hh
 subst hh
 obtain ⟨q,hdn⟩:∃q:Int->Nat->Int,q=λ i j=>intC (den rn i j):=⟨_,rfl⟩
 try rw [<- hdn]
 refine jd6 (al':=[.x (.agg [.v (.int .i64 W),.v (.int .i64 H),.v (.int .i64 S),.v (.int .i64 md),.slc 5 n (.fn λ i j=>.v (.int .i64 (q i j)))]),.x (.agg [.v (.int .i64 x0),.v (.int .i64 y0),.v (.int .i64 x1),.v (.int .i64 y1)]),.x (.c (.v (.int .u16 t)))]) ⟨⟨.v _,.v _,.v _,.v _,(hdn▸jj0 en (by decide) (hq _ (by simp))),trivial⟩,⟨.v _,.v _,.v _,.v _,trivial⟩,.v _,trivial⟩ ?_
 have hq:=asked hq
 refine QR.ja2 (O:=yx1) (QR.ja3 (up qj8) (QR.ja3 zc2 (QR.ja3 yb0 (QR.ja3 zc0 QR.jb2)))) mixed (QR.ja4) Tryd.func26 (by kernel_rfl) (by kernel_rfl) (by simp) ?_
 rw [y64]
 delta zz14 zz15 zz142 zz143
 obtain ⟨_,hn,ht,hg,_⟩:=hq
 simp only [forall_eq,true_and,and_true]
 have hn:=jg1 hn
 obtain ⟨z1,z2,z3,z4,z5,z6,w1,h1,m1,m2⟩:=vm6 (W:=W) (H:=H) hg
 have ri:intRow .i64 5 n (.fn λ i j=>.v (.int .i64 (q i j))):=λ i j _ _=>rfl
 have ru:∀k:Int,intRow .u16 5 k (.fn λ i j=>.v (.int .u16 (gpxV md n (λ i j=>q i j) t i j))):=λ k i j _ _=>rfl
 have i64:∀x:Int,1<=x/\x<=1024->in64 x=true:=λ x h=>qi9.2 (by omega)
 have b2:jb8 2=true:=rfl
 have sol:ieq (gmod S 2) 0=true->gimV W H S md n q x0 y0 x1 y1 t=qh6 (gimW W x0 x1) (gimH W H y0 y1) (gpxV md n q t 0 0) (gpxV md n q t 0 1) (gpxV md n q t 0 2) (gpxV md n q t 0 3) (gpxV md n q t 0 4):=λ h=>by
  unfold gimV;rw [show (gmod S 2 == 0)=true from h];rfl
 have pln:ieq (gmod S 2) 0=false->gimV W H S md n q x0 y0 x1 y1 t=jc1 (gimW W x0 x1) (gimH W H y0 y1) (gimW W x0 x1 * gimH W H y0 y1) (gpxV md n q t):=λ h=>by
  unfold gimV;rw [show (gmod S 2 == 0)=false from h];rfl
 have mx:∀x:Int,1<=x->jc2 x 0=x:=λ x h=>by unfold jc2;split <;> omega
 have fin:∀w h:Int,w=gimW W x0 x1->h=gimH W H y0 y1->ile (w * h) 1099511627776=true/\jb8 2=true/\ilt 0 (jc2 (w * h) 0)=true/\in64 w=true/\in64 h=true/\ile 0 (jc2 (w * h) 0)=true/\jc2 (w * h) 0=gimW W x0 x1 * gimH W H y0 y1:=λ w h e1 e2=>by
  subst e1 e2
  rw [mx _ m1]
  exact ⟨jb4 (by omega),rfl,jl0 (by omega),i64 _ w1,i64 _ h1,jb4 (by omega),rfl⟩
 have key:∀w h:Int,w=gimW W x0 x1->h=gimH W H y0 y1->(intRow .i64 5 n (.fn λ i j=>.v (.int .i64 (q i j)))/\ile 0 n=true/\in16 t=true/\ile (w * h) 1099511627776=true)/\jb8 2=true/\
   ja0 (ieq (gmod S 2) 0) (ilt 0 (jc2 (w * h) 0)=true/\jb6 ⟨[.agg (imC (gimV W H S md n q x0 y0 x1 y1 t))],[],[intRow .i64 5 n rn,ile 0 n=true,in16 t=true,gcv x0 y0 x1 y1=true]⟩ [.agg (imC (qh6 w h (gpxV md n q t 0 0) (gpxV md n q t 0 1) (gpxV md n q t 0 2) (gpxV md n q t 0 3) (gpxV md n q t 0 4)))] [])
    ((intRow .u16 5 (jc2 (w * h) 0) (.fn λ i j=>.v (.int .u16 (gpxV md n (λ i j=>q i j) t i j)))/\in64 w=true/\in64 h=true/\ile 0 (jc2 (w * h) 0)=true)/\
     jb6 ⟨[.agg (imC (gimV W H S md n q x0 y0 x1 y1 t))],[],[intRow .i64 5 n rn,ile 0 n=true,in16 t=true,gcv x0 y0 x1 y1=true]⟩ [.agg (imC (jc1 w h (jc2 (w * h) 0) λ i j=>gpxV md n (λ i j=>q i j) t i j))] []):=λ w h e1 e2=>by
  obtain ⟨f1,f2,f3,f4,f5,f6,f7⟩:=fin w h e1 e2
  refine ⟨⟨ri,jb4 hn,ht,f1⟩,b2,ja1.2 ⟨λ c=>⟨f3,⟨?_,trivial⟩,trivial⟩,λ c=>⟨⟨ru _,f4,f5,f6⟩,⟨?_,trivial⟩,trivial⟩⟩⟩
  ·rw [sol c,e1,e2];exact y65 _ _ _ _ _ _ _
  ·rw [pln c,f7,e1,e2];exact vq6 λ _ _ _ _=>rfl
 refine ⟨⟨rfl,rfl⟩,rfl,ja1.2 ⟨λ c=>?_,λ c=>?_⟩⟩
 ·rw [z1,z2,z3]
  have c:=jd2 c
  exact key (x1 - x0) (y1 - y0) (by unfold gimW;rw [if_pos c]) (by unfold gimH;rw [if_pos c])
 ·rw [z4,z5,z6]
  have c:=je4 c
  exact key (1 + gmod W 5) (1 + gmod H 4) (by unfold gimW;rw [if_neg c]) (by unfold gimH;rw [if_neg c])
end Go.Proofs.YthkidembkknoeaaDoor
namespace Go.Proofs.YthkidembkknoeaaDoor
open Go.RowKit PR QR
set_option linter.unusedVariables false
set_option linter.unusedSimpArgs false
set_option maxRecDepth 20000
section
variable {p:Pl} {k i:Int}
theorem jy9 (h:plB p.w p.h p.s p.n=true) (hw:in64 p.w=true) :
  (1<=p.w/\p.w<=16777216)/\(1<=p.h/\p.h<=16777216)/\(p.w<=gstS p k/\gstS p k<=p.w + 3)/\(0<=gstN p k/\gstN p k<=67108864)/\iadd .i64 p.w (gmod k 4)=gstS p k/\imul .i64 (gstS p k) p.h=gstN p k/\p.w<=p.s/\p.s<=16777216/\(p.h - 1) * p.s + p.w<=p.n:=by
 obtain ⟨f,h1,h2,h3⟩:=qu6.1 h
 have l:=qb3 f
 have f:=jg0.1 f
 have g:=jc6 k (show (0:Int) < 4 by decide)
 have s1:p.w<=gstS p k/\gstS p k<=p.w + 3:=by unfold gstS;omega
 have n0:=Int.mul_nonneg (show 0<=gstS p k by omega) (show 0<=p.h by omega)
 have n1:gstS p k * p.h<=(4 * p.w) * p.h:=Int.mul_le_mul_of_nonneg_right (by omega) (by omega)
 rw [Int.mul_assoc] at n1
 have n2:gstS p k * p.h<=67108864:=by omega
 refine ⟨⟨f.1,l.1⟩,⟨f.2.1,l.2⟩,s1,⟨n0,n2⟩,?_,?_,h1,h2,h3⟩
 ·unfold iadd;rw [IntKind.wrap_i64];unfold gstS at *;omega
 ·unfold imul;rw [IntKind.wrap_i64];show _=gstS p k * p.h;omega
theorem yx5 {v:Int} (i0:0<=i) (hv:v=gstL p k i) (q:Nat) (hq:ilt (Int.ofNat q) (addZ i 1)=true):isel (ilt (Int.ofNat q) i) (gstL p k (Int.ofNat q)) (isel (ieq (subZ (Int.ofNat q) i) 0) v 0)=gstL p k (Int.ofNat q) :=
 qf4 (g:=gstL p k) i0 hv q hq
theorem yn4 (h:plB p.w p.h p.s p.n=true) (hw:in64 p.w=true) (hi:jd3 p k i) (lt:i < gstN p k) {v:Int} (hv:v=gstL p k i) :
  ile (jd8 (addZ i 1) 2) 140737488355328=true/\∃s,jd3 p k s/\(iadd .i64 i 1=s/\addZ i 1=s/\addZ i 1=s/\∀q:Nat,ilt (Int.ofNat q) (addZ i 1)=true->isel (ilt (Int.ofNat q) i) (gstL p k (Int.ofNat q)) (isel (ieq (subZ (Int.ofNat q) i) 0) v 0)=gstL p k (Int.ofNat q))/\(jg7 p k s).succ.le (jg7 p k i):=by
 obtain ⟨_,_,_,n,_⟩:=jy9 (k:=k) h hw
 have i0:=hi.1
 refine ⟨jb4 (by unfold jd8 addZ;omega),i + 1,⟨by omega,by omega⟩,⟨?_,rfl,rfl,yx5 i0 hv⟩,?_⟩
 ·unfold iadd;rw [IntKind.wrap_i64];omega
 ·unfold jg7;show (gstN p k - (i + 1)).toNat + 1<=(gstN p k - i).toNat;omega
theorem yx6 {a b:Int} (h:0<=a):a.tdiv b=a / b:=Int.tdiv_eq_ediv_of_nonneg h
theorem ju2 (h:plB p.w p.h p.s p.n=true) (hw:in64 p.w=true) (hi:jd3 p k i) (lt:ilt i (imul .i64 (gstS p k) p.h)=true) :
  ine (gstS p k) 0=true/\
  (ilt (irem i (gstS p k)) p.w=true->(ile 0 (iadd .i64 (imul .i64 (iquo .i64 i (gstS p k)) p.s) (irem i (gstS p k)))=true/\ilt (iadd .i64 (imul .i64 (iquo .i64 i (gstS p k)) p.s) (irem i (gstS p k))) p.n=true/\ine (gstS p k) 0=true)/\
   ile (jd8 (addZ i 1) 2) 140737488355328=true/\∃s,jd3 p k s/\(iadd .i64 i 1=s/\addZ i 1=s/\addZ i 1=s/\∀q:Nat,ilt (Int.ofNat q) (addZ i 1)=true->isel (ilt (Int.ofNat q) i) (gstL p k (Int.ofNat q)) (isel (ieq (subZ (Int.ofNat q) i) 0) (p.l (iadd .i64 (imul .i64 (iquo .i64 i (gstS p k)) p.s) (irem i (gstS p k)))) 0)=gstL p k (Int.ofNat q))/\(jg7 p k s).succ.le (jg7 p k i))/\
  (ilt (irem i (gstS p k)) p.w=false->ile (jd8 (addZ i 1) 2) 140737488355328=true/\∃s,jd3 p k s/\(iadd .i64 i 1=s/\addZ i 1=s/\addZ i 1=s/\∀q:Nat,ilt (Int.ofNat q) (addZ i 1)=true->isel (ilt (Int.ofNat q) i) (gstL p k (Int.ofNat q)) (isel (ieq (subZ (Int.ofNat q) i) 0) (jf8 .u16 (iadd .i64 40000 i)) 0)=gstL p k (Int.ofNat q))/\(jg7 p k s).succ.le (jg7 p k i)):=by
 obtain ⟨w1,h1,s1,n,e1,e2,g1,g2,g3⟩:=jy9 (k:=k) h hw
 rw [e2] at lt
 have lt:=jg6 lt
 have i0:=hi.1
 have sp:0 < gstS p k:=by omega
 have er:irem i (gstS p k)=i % gstS p k:=vh0 i0
 have r0:=Int.emod_nonneg i (show gstS p k≠0 by omega)
 have r1:=Int.emod_lt_of_pos i sp
 have d0:=Int.ediv_nonneg i0 (show 0<=gstS p k by omega)
 have d1:i / gstS p k < p.h:=Int.ediv_lt_of_lt_mul sp (by rw [Int.mul_comm];exact lt)
 have m0:=Int.mul_nonneg d0 (show 0<=p.s by omega)
 have m1:i / gstS p k * p.s<=(p.h - 1) * p.s:=Int.mul_le_mul_of_nonneg_right (by omega) (by omega)
 have sz:=vy5 h1.1 h1.2 (show 0<=p.s by omega) g2 (show 0<=p.w by omega) w1.2
 have eq:iquo .i64 i (gstS p k)=i / gstS p k:=by
  unfold iquo
  rw [yx6 i0,IntKind.wrap_i64]
  have:i / gstS p k<=i:=Int.ediv_le_self _ i0
  omega
 have nz:ine (gstS p k) 0=true:=by unfold ine;simp;omega
 rw [er,eq]
 refine ⟨nz,λ c=>?_,λ c=>?_⟩
 ·have c:=jg6 c
  have b1:i / gstS p k * p.s + i % gstS p k < p.n:=by omega
  have eA:imul .i64 (i / gstS p k) p.s=i / gstS p k * p.s:=by unfold imul;rw [IntKind.wrap_i64];omega
  have eB:iadd .i64 (i / gstS p k * p.s) (i % gstS p k)=i / gstS p k * p.s + i % gstS p k:=by unfold iadd;rw [IntKind.wrap_i64];omega
  rw [eA,eB]
  refine ⟨⟨jb4 (by omega),jl0 b1,nz⟩,yn4 h hw hi lt ?_⟩
  unfold gstL gstP
  simp only
  rw [if_pos c]
 ·have c:=jt7 c
  refine yn4 h hw hi lt ?_
  unfold gstL gstP
  simp only
  rw [if_neg (by omega)]
  have:iadd .i64 40000 i=40000 + i:=by unfold iadd;rw [IntKind.wrap_i64];omega
  rw [this]
theorem qq7 (h:plB p.w p.h p.s p.n=true) (hw:in64 p.w=true) (hi:jd3 p k i) (ge:ilt i (imul .i64 (gstS p k) p.h)=false):i=gstN p k:=by
 obtain ⟨_,_,_,_,_,e2,_⟩:=jy9 (k:=k) h hw
 rw [e2] at ge
 have ge:=jt7 ge
 have:=hi.2
 omega
end
theorem yb4 (m:Im):eqLo (imC m) (imC m):=by
 have K:∀p:Pl,EqC (.slc 1 p.n (.fn λ i _=>.v (.int .u16 (p.l i)))) (.slc 1 p.n (.fn λ i _=>.v (.int .u16 (p.l i)))):=λ p=>.slc λ i j _ _=>.v _
 simp only [imC,eqLo,eqo,eqc,veq,true_and,and_true,and_self]
 exact ⟨K m.p0,K m.p1,K m.p2,K m.p3,K m.p4⟩
theorem zc4:jb0 11 vm5:=by
 intro al ans hh hq
 unfold vm5 at hh
 split at hh <;> try (simp at hh;done)
 rename_i l x
 cases em:jj7 l with
 | none=>simp [em] at hh
 | some p =>
 obtain ⟨m,A⟩:=p
 simp only [em] at hh
 simp only [Option.some.injEq] at hh
 subst hh
 have hG:imG m:=hq _ (by simp)
 have hok:imOk m=true:=hq _ (by simp)
 refine jd6 (al':=[.x (.agg (imC m)),.x (.c (.v (.int .i64 x)))]) ⟨qf0 em λ p hp=>hq p (by simp [hp]),.v _,trivial⟩ ?_
 cases hs:m.sol
 ·rw [qq5 hs]
  refine QR.ja2 (O:=vq7) (QR.ja3 (up qj8) QR.jb2) mixed (λ n_=>bif Nat.beq n_ 4 then some (.rounds 6) else bif Nat.beq n_ 9 then some (.ownF [(7,some 3,1)] λ g=>qv5 m x (g 999999)) else none) Tryd.func11 (by kernel_rfl) (by kernel_rfl) (by simp) ?_
  rw [yx9]
  delta zz0 zz4 zz23 zz29 zz36 zz37 zz39 zz42 zz45 zz51 zz52 zz56 zz57 zz59 zz65 zz66 zz67 zz68 zz69 zz71 zz75 zz78 zz88 zz89 zz90 zz91 zz92 zz97 zz117 zz118 zz119 zz121 zz122 zz123 zz124 zz125 zz135 zz136 zz137 zz138 zz139 zz157 zz165 zz174
  simp only [jb6,eqXs,eqX,eqo,eqLo,eqL,eqc,veq,eqUs,ja1,bnot,nilC,true_and,and_true,and_self,implies_true,true_implies,reduceCtorEq,false_implies,Bool.not_true,Bool.not_false,forall_eq,or_false,false_or,and_false,false_and,exists_false]
  obtain ⟨_,_,⟨w0,_⟩,⟨w1,_⟩,⟨w2,_⟩,⟨w3,_⟩,w4,_⟩:=hG
  have hF:=(jr8.1 hok).2
  unfold imF at hF
  rw [hs] at hF
  simp only [cond_false,Bool.and_eq_true,plW,decide_eq_true_eq] at hF
  obtain ⟨⟨b0,_⟩,⟨b1,_⟩,⟨b2,_⟩,⟨b3,_⟩,⟨b4,_⟩,_⟩:=hF
  have ini:∀{p:Pl} {k:Int},plB p.w p.h p.s p.n=true->in64 p.w=true->iadd .i64 p.w (gmod k 4)=gstS p k/\(0:Int)<=gstN p k:=λ h hw=>⟨(jy9 h hw).2.2.2.2.1,(jy9 h hw).2.2.2.1.1⟩
  have none:∀i:Nat,ilt (Int.ofNat i) 0=true->False:=λ i h=>by have:=jg6 h;simp at this;omega
  have i0:=ini (k:=iadd .i64 x 0) b0 w0
  have i1:=ini (k:=iadd .i64 x 1) b1 w1
  have i2:=ini (k:=iadd .i64 x 2) b2 w2
  have i3:=ini (k:=iadd .i64 x 3) b3 w3
  have i4:=ini (k:=iadd .i64 x 4) b4 w4
  refine ⟨rfl,⟨0,⟨Int.le_refl _,i0.2⟩,by and_intros <;> first | rfl | exact i0.1 | exact none⟩,λ i hi=>⟨ju2 b0 w0 hi,λ e=>?_⟩⟩
  have z0:=qq7 b0 w0 hi e
  refine ⟨rfl,⟨0,⟨Int.le_refl _,i1.2⟩,by and_intros <;> first | rfl | exact z0 | exact i1.1 | exact none⟩,λ i hi=>⟨ju2 b1 w1 hi,λ e=>?_⟩⟩
  have z1:=qq7 b1 w1 hi e
  refine ⟨rfl,⟨0,⟨Int.le_refl _,i2.2⟩,by and_intros <;> first | rfl | exact z1 | exact i2.1 | exact none⟩,λ i hi=>⟨ju2 b2 w2 hi,λ e=>?_⟩⟩
  have z2:=qq7 b2 w2 hi e
  refine ⟨rfl,⟨0,⟨Int.le_refl _,i3.2⟩,by and_intros <;> first | rfl | exact z2 | exact i3.1 | exact none⟩,λ i hi=>⟨ju2 b3 w3 hi,λ e=>?_⟩⟩
  have z3:=qq7 b3 w3 hi e
  refine ⟨rfl,⟨0,⟨Int.le_refl _,i4.2⟩,by and_intros <;> first | rfl | exact z3 | exact i4.1 | exact none⟩,λ i hi=>⟨ju2 b4 w4 hi,λ e=>?_⟩⟩
  have z4:=qq7 b4 w4 hi e
  have eg:gstV m x=⟨m.w,m.h,false,m.c0,m.c1,m.c2,m.a,m.f,gstP m.p0 (iadd .i64 x 0),gstP m.p1 (iadd .i64 x 1),gstP m.p2 (iadd .i64 x 2),gstP m.p3 (iadd .i64 x 3),gstP m.p4 (iadd .i64 x 4)⟩:=by unfold gstV;rw [hs];rfl
  rw [eg,z4]
  exact yb4 (⟨m.w,m.h,false,m.c0,m.c1,m.c2,m.a,m.f,gstP m.p0 (iadd .i64 x 0),gstP m.p1 (iadd .i64 x 1),gstP m.p2 (iadd .i64 x 2),gstP m.p3 (iadd .i64 x 3),gstP m.p4 (iadd .i64 x 4)⟩:Im)
 ·rw [qq5 hs]
  refine QR.ja2 (O:=vq7) (QR.ja3 (up qj8) QR.jb2) mixed (λ n_=>bif Nat.beq n_ 4 then some (.rounds 6) else bif Nat.beq n_ 9 then some (.ownF [(7,some 3,1)] λ g=>qv5 m x (g 999999)) else none) Tryd.func11 (by kernel_rfl) (by kernel_rfl) (by simp) ?_
  rw [yx8]
  delta zz2
  have e:gstV m x=m:=by unfold gstV;rw [hs];rfl
  have q:eqLo (imC ⟨m.w,m.h,true,m.c0,m.c1,m.c2,m.a,m.f,m.p0,m.p1,m.p2,m.p3,m.p4⟩) (imC m):=by
   rw [<- qq5 hs];exact yb4 m
  exact ⟨trivial,trivial,trivial,trivial,⟨by rw [e];exact q,trivial⟩,trivial⟩
end Go.Proofs.YthkidembkknoeaaDoor
namespace Go.Proofs.YthkidembkknoeaaDoor
open Go.RowKit PR QR
set_option linter.unusedVariables false
set_option linter.unusedSimpArgs false
set_option maxRecDepth 20000
theorem gp16 (n0 n3 n4:Int) {t:Int} (h:in16 t=true):0<=gpC n0 n3 n4 t/\0<=gpA n3 n4 t/\0<=gpF n4 t :=
 ⟨(j02 n0 n3 n4 h).1,(qj9 n3 n4 h).1,(jo8 n4 h).1⟩
theorem qe9 {c0 c1 c2 a f m:Int}:pvB c0 c1 c2 a f m=true↔c0<=a/\c1<=a/\c2<=a/\a<=f/\f<=m:=by unfold pvB;rw [decide_eq_true_eq]
theorem qq3 (md n:Int) (q:Int->Nat->Int) {t:Int} (h:in16 t=true) (i:Int):pvB (gpxV md n q t i 0) (gpxV md n q t i 1) (gpxV md n q t i 2) (gpxV md n q t i 3) (gpxV md n q t i 4) t=true:=by
 have ht:=ji1.1 h
 have v:∀i,pvB (grPx n q t i 0) (grPx n q t i 1) (grPx n q t i 2) (grPx n q t i 3) (grPx n q t i 4) t=true:=λ i=>yc5 _ _ _ _ _ h
 by_cases h0:gmod md 6=0
 ·rw [<- jy6 h0,<- jy6 h0,<- jy6 h0,<- jy6 h0,<- jy6 h0]
  exact qe9.2 (by omega)
 by_cases h1:gmod md 6=1
 ·rw [<- q45 h1 (by omega),<- q45 h1 (by omega),<- q45 h1 (by omega),<- qv4 h1 (by omega),<- qv4 h1 (by omega)]
  have:=qe9.1 (v i)
  exact qe9.2 (by omega)
 by_cases h2:gmod md 6=2
 ·rw [<- jy7 h2 (i:=i) 0,<- jy7 h2 (i:=i) 1,<- jy7 h2 (i:=i) 2,<- jy7 h2 (i:=i) 3,<- jy7 h2 (i:=i) 4,<- jn1 h2 rfl 0,<- jn1 h2 rfl 1,<- jn1 h2 rfl 2,<- jn1 h2 rfl 3,<- jn1 h2 rfl 4]
  exact v 0
 ·rw [<- jy8 h0 h1 h2,<- jy8 h0 h1 h2,<- jy8 h0 h1 h2,<- jy8 h0 h1 h2,<- jy8 h0 h1 h2]
  exact v i
theorem y62 (md n:Int) (q:Int->Nat->Int) {t:Int} (h:in16 t=true) (i:Int) (k:Nat):0<=gpxV md n q t i k:=by
 have ht:=ji1.1 h
 have v:∀i,0<=grPx n q t i k:=λ i=>by
  unfold grPx
  split
  ·exact (gp16 _ _ _ h).1
  ·exact (gp16 _ _ _ h).1
  ·exact (gp16 _ _ _ h).1
  ·exact (gp16 0 _ _ h).2.1
  ·exact (gp16 0 0 _ h).2.2
 unfold gpxV
 split
 ·omega
 split
 ·split
  ·omega
  ·exact v i
 split
 ·exact v 0
 ·exact v i
theorem vq5 (md n:Int) (q:Int->Nat->Int) {t:Int} (h:in16 t=true) (i:Int) {k:Nat} (hk:k < 5):in16 (gpxV md n q t i k)=true:=by
 have ht:=ji1.1 h
 have v:=qe9.1 (qq3 md n q h i)
 have nn:=y62 md n q h i
 refine ji1.2 ⟨nn k,?_⟩
 have hk':k=0\/k=1\/k=2\/k=3\/k=4:=by omega
 rcases hk' with rfl | rfl | rfl | rfl | rfl <;> omega
end Go.Proofs.YthkidembkknoeaaDoor
namespace Go.Proofs.YthkidembkknoeaaDoor
open Go.RowKit PR QR
set_option linter.unusedVariables false
set_option linter.unusedSimpArgs false
set_option maxRecDepth 20000
theorem qa9 {a b:Int} (h : -9223372036854775808<=a - b/\a - b<=9223372036854775807):isub .i64 a b=a - b:=by unfold isub;exact IntWalk.i64_in _ (by omega)
theorem vk5 {a b:Int} (h : -9223372036854775808<=a + b/\a + b<=9223372036854775807):iadd .i64 a b=a + b:=by unfold iadd;exact IntWalk.i64_in _ (by omega)
end Go.Proofs.YthkidembkknoeaaDoor
namespace Go.Proofs.YthkidembkknoeaaDoor
open Go.RowKit PR QR
set_option linter.unusedVariables false
set_option linter.unusedSimpArgs false
set_option maxRecDepth 20000
def imR (m:Im):Prop:=imG m/\imOk m=true/\imL m=true
theorem ju3 {x:Int} (h:0<=x) (k:x<=1099511627776):in64 x=true:=qi9.2 (by omega)
theorem y67 {w h n:Int} {q:Int->Nat->Int} {k:Nat} (ok:jm9 w h n=true) (H:∀i:Int,0<=i->i < n->in16 (q i k)=true):plG (jj4 w h n q k)/\plB w h w n=true/\plL (jj4 w h n q k)=true:=by
 have o:=of_decide_eq_true ok
 have f:=jg0.1 o.1
 have l:=qb3 o.1
 refine ⟨⟨ju3 (x:=w) (by omega) (by omega),ju3 (x:=h) (by omega) (by omega),ju3 (x:=w) (by omega) (by omega),jb4 (show 0<=n by have:=Int.mul_nonneg (show 0<=w by omega) (show 0<=h by omega);omega),λ i hi=>H i (by omega) hi⟩,qu6.2 ⟨o.1,by omega,by omega,?_⟩,decide_eq_true (show n<=1099511627776 by omega)⟩
 rw [Int.sub_mul,Int.mul_comm h w];omega
theorem yb5 {w h n:Int} {q:Int->Nat->Int} (ok:jm9 w h n=true) (H:∀(i:Int) (k:Nat),0<=i->i < n->k < 5->in16 (q i k)=true):imR (jc1 w h n q):=by
 have o:=of_decide_eq_true ok
 have f:=jg0.1 o.1
 have l:=qb3 o.1
 have p:=λ (k:Nat) (hk:k < 5)=>y67 (k:=k) ok (λ i h0 h1=>H i k h0 h1 hk)
 rw [vb8 ok]
 refine ⟨⟨⟨ju3 (x:=w) (by omega) (by omega),ju3 (x:=h) (by omega) (by omega)⟩,⟨rfl,rfl,rfl,rfl,rfl⟩,(p 0 (by decide)).1,(p 1 (by decide)).1,(p 2 (by decide)).1,(p 3 (by decide)).1,(p 4 (by decide)).1⟩,jr8.2 ⟨o.1,?_⟩,?_⟩
 ·rw [q44 rfl]
  ·rfl
  ·intro k hk
   have hk':k=0\/k=1\/k=2\/k=3\/k=4:=by omega
   rcases hk' with rfl | rfl | rfl | rfl | rfl <;> exact ju0.2 ⟨(p _ hk).2.1,rfl,rfl⟩
 ·unfold imL
  simp only [(p 0 (by decide)).2.2,(p 1 (by decide)).2.2,(p 2 (by decide)).2.2,(p 3 (by decide)).2.2,(p 4 (by decide)).2.2,Bool.and_self]
theorem qq8 {w h n:Int} {q:Int->Nat->Int} (ok:jm9 w h n=true) {k:Nat} (hk:k < 5) (x y:Int):pxV (jc1 w h n q) k x y=q (y * w + x) k:=by
 rw [vb8 ok]
 have hk':k=0\/k=1\/k=2\/k=3\/k=4:=by omega
 rcases hk' with rfl | rfl | rfl | rfl | rfl <;> rfl
theorem yx7 {w h n:Int} {q:Int->Nat->Int} (ok:jm9 w h n=true):(jc1 w h n q).w=w/\(jc1 w h n q).h=h/\(jc1 w h n q).sol=false:=by rw [vb8 ok];exact ⟨rfl,rfl,rfl⟩
theorem q46 {w h c0 c1 c2 a f:Int} (hf:fitB w h=true) (h0:in16 c0=true) (h1:in16 c1=true) (h2:in16 c2=true) (h3:in16 a=true) (h4:in16 f=true):imR (qh6 w h c0 c1 c2 a f):=by
 have f':=jg0.1 hf
 have l:=qb3 hf
 have p:plG jn0:=⟨rfl,rfl,rfl,rfl,λ _ _=>rfl⟩
 exact ⟨⟨⟨ju3 (x:=w) (by omega) (by omega),ju3 (x:=h) (by omega) (by omega)⟩,⟨h0,h1,h2,h3,h4⟩,p,p,p,p,p⟩,jr8.2 ⟨hf,rfl⟩,rfl⟩
theorem vm7 (W H S md n:Int) (q:Int->Nat->Int) {x0 y0 x1 y1 t:Int} (ht:in16 t=true) (hg:gcv x0 y0 x1 y1=true) :
  imR (gimV W H S md n q x0 y0 x1 y1 t)/\(gimV W H S md n q x0 y0 x1 y1 t).w=gimW W x0 x1/\(gimV W H S md n q x0 y0 x1 y1 t).h=gimH W H y0 y1/\qc8 (gimV W H S md n q x0 y0 x1 y1 t) t=true:=by
 obtain ⟨_,_,_,_,_,_,w1,h1,m1,m2⟩:=vm6 (W:=W) (H:=H) hg
 have f:fitB (gimW W x0 x1) (gimH W H y0 y1)=true:=jg0.2 ⟨w1.1,h1.1,by omega⟩
 cases c:(gmod S 2 == 0)
 ·have e:gimV W H S md n q x0 y0 x1 y1 t=jc1 (gimW W x0 x1) (gimH W H y0 y1) (gimW W x0 x1 * gimH W H y0 y1) (gpxV md n q t):=by unfold gimV;rw [c];rfl
  have ok:jm9 (gimW W x0 x1) (gimH W H y0 y1) (gimW W x0 x1 * gimH W H y0 y1)=true:=decide_eq_true ⟨f,rfl⟩
  rw [e]
  obtain ⟨e1,e2,e3⟩:=yx7 (q:=gpxV md n q t) ok
  refine ⟨yb5 ok λ i k _ _ hk=>vq5 md n q ht i hk,e1,e2,(ju1 (by rw [e1,e2];exact f)).2 λ x y _ _ _ _=>?_⟩
  unfold pxB
  rw [qq8 ok (by decide),qq8 ok (by decide),qq8 ok (by decide),qq8 ok (by decide),qq8 ok (by decide)]
  exact qq3 md n q ht _
 ·have e:gimV W H S md n q x0 y0 x1 y1 t=qh6 (gimW W x0 x1) (gimH W H y0 y1) (gpxV md n q t 0 0) (gpxV md n q t 0 1) (gpxV md n q t 0 2) (gpxV md n q t 0 3) (gpxV md n q t 0 4):=by unfold gimV;rw [c];rfl
  rw [e]
  refine ⟨q46 f (vq5 md n q ht 0 (by decide)) (vq5 md n q ht 0 (by decide)) (vq5 md n q ht 0 (by decide)) (vq5 md n q ht 0 (by decide)) (vq5 md n q ht 0 (by decide)),rfl,rfl,?_⟩
  rw [qc9 f rfl]
  exact qq3 md n q ht 0
theorem y68 {p:Pl} {k:Int} (h:plB p.w p.h p.s p.n=true) (hs:p.w<=1024/\p.h<=1024) (hp:plG p):plG (gstP p k)/\plB p.w p.h (gstS p k) (gstN p k)=true/\plL (gstP p k)=true:=by
 obtain ⟨w1,h1,s1,n,_,_,g1,g2,g3⟩:=jy9 (k:=k) h hp.1
 have f:=(qu6.1 h).1
 refine ⟨⟨hp.1,hp.2.1,ju3 (x:=gstS p k) (by omega) (by omega),jb4 n.1,λ i hi=>?_⟩,qu6.2 ⟨f,s1.1,by omega,?_⟩,decide_eq_true (show gstN p k<=1099511627776 by omega)⟩
 ·have hi:(i:Int) < gstS p k * p.h:=hi
  show in16 (if (i:Int) % gstS p k < p.w then p.l ((i:Int) / gstS p k * p.s + (i:Int) % gstS p k) else jf8 .u16 (40000 + i))=true
  split
  ·rename_i c
   have sp:0 < gstS p k:=by omega
   have r0:=Int.emod_nonneg (i:Int) (show gstS p k≠0 by omega)
   have d0:=Int.ediv_nonneg (show (0:Int)<=i by omega) (show 0<=gstS p k by omega)
   have d1:(i:Int) / gstS p k < p.h:=Int.ediv_lt_of_lt_mul sp (by rw [Int.mul_comm];exact hi)
   have m0:=Int.mul_nonneg d0 (show 0<=p.s by omega)
   have m1:(i:Int) / gstS p k * p.s<=(p.h - 1) * p.s:=Int.mul_le_mul_of_nonneg_right (by omega) (by omega)
   have:=hp.2.2.2.2 ((i:Int) / gstS p k * p.s + (i:Int) % gstS p k).toNat (by omega)
   rw [Int.toNat_of_nonneg (by omega)] at this
   exact this
  ·exact vr3 _
 ·show (p.h - 1) * gstS p k + p.w<=gstS p k * p.h
  rw [Int.sub_mul,Int.mul_comm p.h];omega
theorem vb9 {p:Pl} {k x y:Int} (h:plB p.w p.h p.s p.n=true) (hp:plG p) (hx:0<=x/\x < p.w):(gstP p k).l (patI (gstP p k).s x y)=p.l (patI p.s x y):=by
 obtain ⟨w1,h1,s1,n,_⟩:=jy9 (k:=k) h hp.1
 show (if (y * gstS p k + x) % gstS p k < p.w then p.l ((y * gstS p k + x) / gstS p k * p.s + (y * gstS p k + x) % gstS p k) else _)=p.l (y * p.s + x)
 obtain ⟨e1,e2⟩:=yb1 (w:=gstS p k) (x:=x) (y:=y) hx.1 (by omega)
 rw [e1,e2,if_pos hx.2]
theorem y69 (m:Im) (more:Int) (hs:m.sol=false):gstV m more=⟨m.w,m.h,false,m.c0,m.c1,m.c2,m.a,m.f,gstP m.p0 (iadd .i64 more 0),gstP m.p1 (iadd .i64 more 1),gstP m.p2 (iadd .i64 more 2),gstP m.p3 (iadd .i64 more 3),gstP m.p4 (iadd .i64 more 4)⟩:=by unfold gstV;rw [hs];rfl
theorem y70 {m:Im} (ok:imOk m=true) (hs:m.sol=false) {k:Nat} (hk:k < 5):plW m (imPl m k)=true:=by
 cases e:plW m (imPl m k) with
 | true=>rfl
 | false=>have:=ya8 hs hk e;rw [(jr8.1 ok).2] at this;simp at this
theorem y71 {m:Im} (ok:imOk m=true) (hs:m.sol=false):colZ m=true:=by
 rw [<- q44 hs (λ k hk=>y70 ok hs hk)];exact (jr8.1 ok).2
theorem yk1 {m:Im} (more:Int) (h:imR m) (hw:m.w<=1024) (hh:m.h<=1024) :
  imR (gstV m more)/\(gstV m more).w=m.w/\(gstV m more).h=m.h/\∀(k:Nat) (x y:Int),k < 5->0<=x->x < m.w->0<=y->y < m.h->pxV (gstV m more) k x y=pxV m k x y:=by
 obtain ⟨g,ok,hl⟩:=h
 cases hs:m.sol
 ·have w:=λ (k:Nat) (hk:k < 5)=>ju0.1 (y70 ok hs hk)
  have pg:=λ (k:Nat)=>zc1 g k
  have r:=λ (k:Nat) (hk:k < 5) (z:Int)=>y68 (p:=imPl m k) (k:=z) (w k hk).1 (by have:=w k hk;omega) (pg k)
  have o:=jr8.1 ok
  rw [y69 m more hs]
  refine ⟨⟨⟨g.1,g.2.1,(r 0 (by decide) _).1,(r 1 (by decide) _).1,(r 2 (by decide) _).1,(r 3 (by decide) _).1,(r 4 (by decide) _).1⟩,jr8.2 ⟨o.1,?_⟩,?_⟩,rfl,rfl,?_⟩
  ·rw [q44 rfl]
   ·have c:colZ m=true:=y71 ok hs
    exact c
   ·intro k hk
    have hk':k=0\/k=1\/k=2\/k=3\/k=4:=by omega
    rcases hk' with rfl | rfl | rfl | rfl | rfl <;> exact ju0.2 ⟨(r _ hk _).2.1,(w _ hk).2⟩
  ·unfold imL
   have a:=(r 0 (by decide) (iadd .i64 more 0)).2.2
   have b:=(r 1 (by decide) (iadd .i64 more 1)).2.2
   have c:=(r 2 (by decide) (iadd .i64 more 2)).2.2
   have d:=(r 3 (by decide) (iadd .i64 more 3)).2.2
   have e:=(r 4 (by decide) (iadd .i64 more 4)).2.2
   rw [show plL (gstP m.p0 (iadd .i64 more 0))=true from a,show plL (gstP m.p1 (iadd .i64 more 1))=true from b,show plL (gstP m.p2 (iadd .i64 more 2))=true from c,show plL (gstP m.p3 (iadd .i64 more 3))=true from d,show plL (gstP m.p4 (iadd .i64 more 4))=true from e]
   rfl
  ·intro k x y hk x0 x1 y0 y1
   unfold pxV
   rw [hs]
   have hk':k=0\/k=1\/k=2\/k=3\/k=4:=by omega
   rcases hk' with rfl | rfl | rfl | rfl | rfl
   ·exact vb9 (p:=m.p0) (w 0 hk).1 (pg 0) ⟨x0,by have:m.p0.w=m.w:=(w 0 hk).2.1;omega⟩
   ·exact vb9 (p:=m.p1) (w 1 hk).1 (pg 1) ⟨x0,by have:m.p1.w=m.w:=(w 1 hk).2.1;omega⟩
   ·exact vb9 (p:=m.p2) (w 2 hk).1 (pg 2) ⟨x0,by have:m.p2.w=m.w:=(w 2 hk).2.1;omega⟩
   ·exact vb9 (p:=m.p3) (w 3 hk).1 (pg 3) ⟨x0,by have:m.p3.w=m.w:=(w 3 hk).2.1;omega⟩
   ·exact vb9 (p:=m.p4) (w 4 hk).1 (pg 4) ⟨x0,by have:m.p4.w=m.w:=(w 4 hk).2.1;omega⟩
 ·have e:gstV m more=m:=by unfold gstV;rw [hs];rfl
  rw [e]
  exact ⟨⟨g,ok,hl⟩,rfl,rfl,λ _ _ _ _ _ _ _ _=>rfl⟩
def imPx (m n:Im):Prop:=m.w=n.w/\m.h=n.h/\∀(k:Nat) (x y:Int),k < 5->0<=x->x < n.w->0<=y->y < n.h->pxV m k x y=pxV n k x y
theorem y72 {m n:Im} (h:imPx m n) (f:fitB n.w n.h=true) (t:Int):qc8 m t=qc8 n t:=by
 have e:∀x y:Int,0<=x->x < n.w->0<=y->y < n.h->pxB m t x y=pxB n t x y:=λ x y h0 h1 h2 h3=>by
  unfold pxB
  rw [h.2.2 0 x y (by decide) h0 h1 h2 h3,h.2.2 1 x y (by decide) h0 h1 h2 h3,h.2.2 2 x y (by decide) h0 h1 h2 h3,h.2.2 3 x y (by decide) h0 h1 h2 h3,h.2.2 4 x y (by decide) h0 h1 h2 h3]
 rw [Bool.eq_iff_iff,ju1 (by rw [h.1,h.2.1];exact f),ju1 f,h.1,h.2.1]
 exact ⟨λ H x y h0 h1 h2 h3=>by rw [<- e x y h0 h1 h2 h3];exact H x y h0 h1 h2 h3,λ H x y h0 h1 h2 h3=>by rw [e x y h0 h1 h2 h3];exact H x y h0 h1 h2 h3⟩
theorem q47 {m:Im} {t:Int} (ok:imOk m=true) (h:qc8 m t=true):imE m t=0:=by
 have o:=jr8.1 ok
 unfold imE
 rw [o.1,o.2,h];rfl
end Go.Proofs.YthkidembkknoeaaDoor
