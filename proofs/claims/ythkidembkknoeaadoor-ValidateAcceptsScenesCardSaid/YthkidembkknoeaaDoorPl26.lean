import Derived.Test.YthkidembkknoeaaDoorPl11
import Derived.Test.YthkidembkknoeaaDoorPl24
import Derived.Test.YthkidembkknoeaaDoorPl16
import Derived.Test.YthkidembkknoeaaDoorPl25
import Derived.Test.YthkidembkknoeaaDoorPl17
import Derived.Test.YthkidembkknoeaaDoorPl23
import Derived.Test.YthkidembkknoeaaDoorPl15
namespace Go.Proofs.YthkidembkknoeaaDoor
open Go.RowKit PR QR
set_option linter.unusedVariables false
set_option linter.unusedSimpArgs false
set_option maxRecDepth 20000
theorem igtN (a b:Int):igt a b=!(ile a b):=by unfold igt ile;rw [<- decide_not];exact decide_eq_decide.2 (by omega)
theorem igeN (a b:Int):ige a b=!(ilt a b):=by unfold ige ilt;rw [<- decide_not];exact decide_eq_decide.2 (by omega)
theorem igeL (a b:Int):ige a b=ile b a:=rfl
theorem ineN (a b:Int):ine a b=!(ieq a b):=rfl
theorem vp9 (b:Bool):bnot b=!b:=by cases b <;> rfl
theorem y41 (a b:Bool):band a b=(a && b):=by cases a <;> cases b <;> rfl
theorem za7 (n:Int):jh7 n=(ile (-1048576) n && ile n 1048576):=by
 unfold jh7 ile
 rw [<- Bool.decide_and]
theorem v04:jb0 57 jv5:=by
 intro al ans h hq
 unfold jv5 at h
 split at h <;> try (simp at h;done)
 rename_i n
 simp only [Option.some.injEq] at h
 subst h
 have hq:=asked hq
 refine QR.ja2 (O:=(QR.orc [])) QR.jb2 mixed (QR.ja4) Tryd.func57 (by kernel_rfl) (by kernel_rfl) (by simp) ?_
 rw [yg6]
 simp only [ja1,jb6,eqXs,eqX,eqo,eqLo,eqc,veq,eqUs,true_and,and_true,za7,igeL]
 cases ile (-1048576) n <;> simp
theorem za8 {a b c d:Int} (h:plcB a b c d=true):reB a b c d=false/\(c - a) * (d - b)<=16777216/\jh7 a=true/\jh7 b=true:=by
 unfold plcB at h
 simp only [Bool.and_eq_true,decide_eq_true_eq] at h
 exact ⟨h.1.1,h.1.2,h.2.1,h.2.2⟩
theorem za9 {a b c d:Int}:plcB a b c d=(!(reB a b c d) && (ile (raV a b c d) 16777216 && (jh7 a && jh7 b))):=by
 unfold plcB raV
 cases h:reB a b c d
 ·simp [ile]
 ·simp
theorem y42 {a b c d:Int}:igt (raV a b c d) 0=!(reB a b c d):=by
 unfold raV
 cases h:reB a b c d
 ·obtain ⟨_,h1,h2⟩:=re_f.1 h
  have:=Int.mul_pos (show 0 < c - a by omega) (show 0 < d - b by omega)
  simp [igt,this]
 ·simp [igt]
theorem yu8:jb0 32 q08:=by
 intro al ans h hq
 unfold q08 at h
 split at h <;> try (simp at h;done)
 rename_i a b c d
 simp only [Option.some.injEq] at h
 subst h
 have hq:=asked hq
 refine QR.ja2 (O:=vf7) (QR.ja3 ys9 (QR.ja3 v04 QR.jb2)) mixed (QR.ja4) Tryd.func32 (by kernel_rfl) (by kernel_rfl) (by simp) ?_
 rw [yg7]
 simp only [ja1,jb6,eqXs,eqX,eqo,eqLo,eqc,veq,eqUs,true_and,and_true,forall_eq,za9,y42]
 cases reB a b c d <;> cases ile (raV a b c d) 16777216 <;> cases jh7 a <;> simp
theorem v05 (m:Int) (l:Int->Int) (n:Int) (hm:ile 0 m=true) (A:List Prop):jj5 Tryd.prog 34 [.x (.c (.slc 1 m (.fn λ i _=>.v (.int .i64 (l i))))),.x (.c (.v (.int .i64 n)))] ⟨[.c (.v (.bool (ordB m l n)))],[],A⟩:=by
 refine QR.ja2 (O:=vf8) (QR.ja3 yj3 QR.jb2) mixed QR.ja4 Tryd.func34 (by kernel_rfl) (by kernel_rfl) (by simp) ?_
 rw [yg8]
 have W:intRow .i64 1 m (.fn λ i _=>.v (.int .i64 (l i))):=jh3 _ _ _
 simp only [ja1,jb6,eqXs,eqX,eqo,eqLo,eqc,veq,eqUs,true_and,and_true,forall_eq,ordB]
 refine ⟨λ c=>by rw [c];rfl,λ c=>⟨⟨W,hm⟩,by rw [c];rfl⟩⟩
theorem yu9:jb0 34 q09:=by
 intro al ans hh hq
 unfold q09 at hh
 split at hh <;> try (simp at hh;done)
 rename_i c n
 cases e:jf1 1 c with
 | none=>rw [e] at hh;simp at hh
 | some p =>
  obtain ⟨m,r⟩:=p
  rw [e] at hh
  simp only [Option.some.injEq] at hh
  subst hh
  obtain ⟨hr,hm,_⟩:=asked hq
  exact jd6 (al':=[.x (.c (.slc 1 m (.fn λ i _=>.v (.int .i64 (intC (den r i 0)))))),.x (.c (.v (.int .i64 n)))]) ⟨qp7 e hr,.v _,trivial⟩ (v05 _ _ _ hm _)
theorem v06 {a b c d w h:Int} (k:tiB a b c d w h=true) (p:plcB a b c d=true):(1<=tiX a b c d w h * tiY a b c d w h/\tiX a b c d w h * tiY a b c d w h<=16777216)/\imul .i64 (tiX a b c d w h) (tiY a b c d w h)=tiX a b c d w h * tiY a b c d w h:=by
 have f:=yi2 k
 have g:=yi3 k
 obtain ⟨_,⟨w1,w2⟩,h1,h2⟩:=yv9 k
 have d1:=(jk6 w1 w2).1
 have d2:=(jk6 h1 h2).1
 rw [<- f] at d1
 rw [<- g] at d2
 have m1:=Int.mul_le_mul d1.2 d2.2 (by omega) (by omega)
 have m2:=Int.mul_le_mul d1.1 d2.1 (by omega) (by omega)
 have q:=(za8 p).2.1
 refine ⟨⟨by omega,by omega⟩,IntWalk.i64_in _ (by omega)⟩
theorem zb0 {l:Int->Int} {n:Int} (h:1<=n/\n<=16777216):orB 0 (λ i _=>l i) n=true:=by
 refine qe7.2 ⟨⟨by omega,by omega⟩,Or.inl rfl,⟨by omega,by omega⟩,λ j j0 j1=>?_⟩
 simp only [vq1]
 exact ⟨⟨j0,j1⟩,λ k k0 k1=>by omega⟩
theorem y43 {m:Int} {l:Int->Int} {n:Int} (h:1<=n/\n<=16777216):orB m (λ i _=>l i) n=ordB m l n:=by
 unfold ordB
 cases c:ieq m 0
 ·rfl
 ·obtain rfl:=of_decide_eq_true c
  exact zb0 h
theorem yh1 (s:Sc) (h0:0<=s.on) (A:List Prop):jj5 Tryd.prog 15 [.x (.agg (jk1 s))] ⟨[.c (.v (.int .i64 (frV s)))],[],A⟩:=by
 refine QR.ja2 (O:=v01) (QR.ja3 vg9 (QR.ja3 yu8 (QR.ja3 yi8 (QR.ja3 yu9 QR.jb2)))) mixed QR.ja4 Tryd.func15 (by kernel_rfl) (by kernel_rfl) (by simp) ?_
 rw [yu4]
 have VT:∀e,frV s=e->jb6 ⟨[.c (.v (.int .i64 (frV s)))],[],A⟩ [.c (.v (.int .i64 e))] []:=λ e h=>by rw [h];simp [jb6,eqXs,eqX,eqo,eqLo,eqc,veq,eqUs]
 generalize jb6 ⟨[.c (.v (.int .i64 (frV s)))],[],A⟩=V at *
 simp only [forall_eq,true_and,and_true,implies_true,ja1,vp9,igtN]
 have W:intRow .i64 1 s.on (.fn λ i _=>.v (.int .i64 (s.ol i))):=jh3 _ _ _
 have le:=jb4 h0
 unfold frV at VT
 refine ⟨λ c=>VT _ (by simp_all),λ c1=>⟨λ c=>VT _ (by simp_all),λ c2=>⟨λ c=>VT _ (by simp_all),λ c3=>⟨⟨W,le⟩,?_⟩⟩⟩⟩
 have c2:plcB s.x0 s.y0 s.x1 s.y1=true:=by simpa using c2
 have c3:tiB s.x0 s.y0 s.x1 s.y1 s.tw s.th=true:=by simpa using c3
 have m:=(v06 c3 c2).2
 refine ⟨λ c=>VT _ ?_,λ c4=>⟨λ c=>VT _ ?_,λ c5=>⟨λ c=>VT _ ?_,λ c6=>VT _ ?_⟩⟩⟩
 all_goals (try rw [m] at c);(try rw [m] at c4);simp_all
theorem v07:jb0 15 qh0:=by
 intro al ans h hq
 unfold qh0 at h
 split at h <;> try (simp at h;done)
 rename_i l
 cases e:jj6 l with
 | none=>simp [e] at h
 | some p =>
  obtain ⟨s,A⟩:=p
  rw [e] at h
  simp only [Option.some.injEq] at h
  subst h
  obtain ⟨q,h4,h5,h6⟩:=qp5 e hq
  exact jd6 (al':=[.x (.agg (jk1 s))]) ⟨q,trivial⟩ (yh1 s h4 _)
theorem vf9 {l:List CV} {o:Ov} (h:qb9 l=some o):l=qp6 o:=by
 unfold qb9 at h
 split at h <;> simp at h
 subst h;rfl
theorem yh2 (a:Bool):beq' a false=!a:=by cases a <;> rfl
theorem y44 {o:Ov}:decide (o.im=0/\o.x=0/\o.y=0/\o.msk=0/\o.mx=0/\o.my=0/\o.op=0/\o.opr=0/\o.md=0)=(ieq o.im 0 && (ieq o.x 0 && (ieq o.y 0 && (ieq o.msk 0 && (ieq o.mx 0 && (ieq o.my 0 && (ieq o.op 0 && (ieq o.opr 0 && ieq o.md 0)))))))):=by
 simp only [Bool.decide_and];rfl
theorem yv0 {o:Ov}:decide (o.im=0/\o.x=0/\o.y=0)=(ieq o.im 0 && (ieq o.x 0 && ieq o.y 0)):=by
 simp only [Bool.decide_and];rfl
theorem yv1 {o:Ov}:decide (o.msk=0->o.mx=0/\o.my=0)=(!(ieq o.msk 0) || (ieq o.mx 0 && ieq o.my 0)):=by
 unfold ieq
 rw [Bool.eq_iff_iff]
 simp only [decide_eq_true_eq,Bool.or_eq_true,Bool.not_eq_true',beq_eq_false_iff_ne,Bool.and_eq_true,beq_iff_eq]
 omega
theorem y45:jb0 41 vk9:=by
 intro al ans h hq
 unfold vk9 at h
 split at h <;> try (simp at h;done)
 rename_i l
 cases e:qb9 l with
 | none=>simp [e] at h
 | some o =>
  rw [e] at h
  simp only [Option.some.injEq] at h
  subst h
  rw [vf9 e]
  obtain ⟨k1,k3,_⟩:=asked hq
  refine QR.ja2 (O:=QR.orc []) QR.jb2 mixed QR.ja4 Tryd.func41 (by kernel_rfl) (by kernel_rfl) (by simp) ?_
  rw [yu5]
  simp only [ja1,jb6,eqXs,eqX,eqo,eqLo,eqc,veq,eqUs,true_and,and_true,uzB,y44,yv0,yv1,y41,ineN,yh2]
  have k1:=jg1 k1
  have k3:=jg1 k3
  rcases (by omega:o.kd=1\/o.kd=2\/o.kd=3) with q | q | q <;> rw [q]
  ·cases o.iso <;> cases o.kno <;> cases ieq o.msk 0 <;> cases ieq o.mx 0 <;> simp [ieq]
  ·cases ieq o.im 0 <;> cases ieq o.x 0 <;> cases ieq o.y 0 <;> cases ieq o.msk 0 <;> cases ieq o.mx 0 <;> simp [ieq]
  ·simp [ieq,Bool.and_assoc]
theorem zb1 {o:Ov} {n:Int}:refB o n=((!(ieq o.kd 1) || (ile 0 o.im && ilt o.im n)) && (ile 0 o.msk && ile o.msk n)):=by
 unfold refB ieq ile ilt
 rw [Bool.eq_iff_iff]
 simp only [decide_eq_true_eq,Bool.or_eq_true,Bool.not_eq_true',beq_eq_false_iff_ne,Bool.and_eq_true,beq_iff_eq]
 omega
theorem iltN (a b:Int):ilt a b=!(ile b a):=by unfold ilt ile;rw [<- decide_not];exact decide_eq_decide.2 (by omega)
theorem yv2:jb0 67 q14:=by
 intro al ans h hq
 unfold q14 at h
 split at h <;> try (simp at h;done)
 rename_i l n
 cases e:qb9 l with
 | none=>simp [e] at h
 | some o =>
  rw [e] at h
  simp only [Option.some.injEq] at h
  subst h
  rw [vf9 e]
  refine QR.ja2 (O:=QR.orc []) QR.jb2 mixed QR.ja4 Tryd.func67 (by kernel_rfl) (by kernel_rfl) (by simp) ?_
  rw [yg9]
  simp only [ja1,jb6,eqXs,eqX,eqo,eqLo,eqc,veq,eqUs,true_and,and_true,zb1,igeN,iltN]
  cases ieq o.kd 1 <;> cases ile 0 o.im <;> cases ile n o.im <;> cases ile 0 o.msk <;> simp
theorem v08 (k:Int) (g:Int->Ov) (h0:0<=k) (hk:k<=9223372036854775807) (A:List Prop):jj5 Tryd.prog 70 [.x (.c (.slc 12 k (jh4 g)))] ⟨[.c (.v (.bool (anyB k (jm8 g k))))],[],A⟩:=by
 refine QR.ja2 (O:=QR.orc []) QR.jb2 mixed QR.ja4 Tryd.func70 (by kernel_rfl) (by kernel_rfl) (by simp) ?_
 rw [yh0]
 simp only [ja1,jb6,eqXs,eqX,eqo,eqLo,eqc,veq,eqUs,true_and,and_true,forall_eq,anyB,jm8]
 refine ⟨λ c=>by rw [c];rfl,λ c=>?_⟩
 have c1:=je4 c
 have s1:isub .i64 k 1=k - 1:=IntWalk.i64_in _ (by omega)
 rw [s1,c,cond_false]
 refine ⟨⟨jb4 (by omega),jl0 (by omega)⟩,λ d=>?_,λ d=>?_⟩ <;> rw [d] <;> simp [vp9]
theorem yv3:jb0 70 q15:=by
 intro al ans h hq
 unfold q15 at h
 split at h <;> try (simp at h;done)
 rename_i c
 cases e:jf1 12 c with
 | none=>simp [e] at h
 | some p =>
  obtain ⟨k,r⟩:=p
  rw [e] at h
  simp only [Option.some.injEq] at h
  subst h
  obtain ⟨hr,h0,h1,_⟩:=asked hq
  exact jd6 (al':=[.x (.c (.slc 12 k (jh4 (ovAt r))))]) ⟨jn9 e (by decide) hr,trivial⟩ (v08 k (ovAt r) (jg1 h0) (jg1 h1) _)
theorem yv4 (m:Int):seqB (qz3 m) (bs [])=!(decide (1<=m/\m<=12)):=by
 have:=ve9 (m:=m)
 rw [vp9] at this
 rw [show opB m=decide (1<=m/\m<=12) from rfl] at this
 rw [<- this,Bool.not_not]
theorem yv5 (m:Int):seqB (qo7 m) (bs [])=!(decide (1<=m/\m<=12)):=by
 have:=ve8 (m:=m)
 rw [vp9] at this
 rw [<- this,Bool.not_not]
theorem yh3 (o:Ov) (s:Sc) (k:Int) (g:Int->Ov) (h0:0<=k) (hk:k<=9223372036854775807) (A:List Prop):jj5 Tryd.prog 42 [.x (.agg (qp6 o)),.x (.agg (jk1 s)),.x (.c (.slc 12 k (jh4 g)))] ⟨[.c (.v (.int .i64 (elE s.b s.mn o k (jm8 g k))))],[],A⟩:=by
 refine QR.ja2 (O:=v02) (QR.ja3 vg9 (QR.ja3 yv2 (QR.ja3 v04 (QR.ja3 yr3 (QR.ja3 yr0 (QR.ja3 yv3 QR.jb2)))))) mixed QR.ja4 Tryd.func42 (by kernel_rfl) (by kernel_rfl) (by simp) ?_
 rw [yu6]
 have VT:∀e,elE s.b s.mn o k (jm8 g k)=e->jb6 ⟨[.c (.v (.int .i64 (elE s.b s.mn o k (jm8 g k))))],[],A⟩ [.c (.v (.int .i64 e))] []:=λ e h=>by rw [h];simp [jb6,eqXs,eqX,eqo,eqLo,eqc,veq,eqUs]
 generalize jb6 ⟨[.c (.v (.int .i64 (elE s.b s.mn o k (jm8 g k))))],[],A⟩=V at *
 have O:=q06 k g
 have z0:=jb4 h0
 have z1:=jb4 hk
 simp only [forall_eq,true_and,and_true,implies_true,ja1,vp9,igtN,igeL,ineN,yv4,yv5]
 unfold elE at VT
 rw [show (λ i=>g i)=g from rfl]
 generalize jm8 g k=q at *
 generalize decide (1<=o.opr/\o.opr<=12)=bo at *
 generalize decide (1<=o.md/\o.md<=12)=bm at *
 refine ⟨λ c=>VT _ (by simp_all),λ c1=>⟨λ c=>VT _ (by simp_all),λ c2=>⟨λ c=>VT _ (by simp_all),λ c3=>⟨λ c=>VT _ (by simp_all),λ c4=>⟨λ c=>VT _ (by simp_all),λ c5=>⟨λ c=>VT _ (by simp_all),λ c6=>⟨λ c=>VT _ (by simp_all),λ c7=>⟨λ c=>VT _ (by simp_all),λ c8=>?_⟩⟩⟩⟩⟩⟩⟩⟩
 refine ⟨λ c9=>⟨⟨O,z0,z1⟩,λ c=>VT _ (by simp_all),λ c10=>⟨λ c11=>⟨λ c=>VT _ (by simp_all),λ c=>VT _ (by simp_all)⟩,λ c=>VT _ (by simp_all)⟩⟩,λ c9=>⟨λ c11=>⟨λ c=>VT _ (by simp_all),λ c=>VT _ (by simp_all)⟩,λ c=>VT _ (by simp_all)⟩⟩
theorem y46 {l:List CV} {s:Sc} {A:List Prop} {c:CV} {k:Int} {r:QR.Row} (e:jj6 l=some (s,A)) (e2:jf1 12 c=some (k,r)) (hA:∀p∈A,p) (hr:jd7 k r):eqCs l (jk1 s)/\EqC c (.slc 12 k (jh4 (ovAt r)))/\0<=s.on/\0<=s.mn/\0<=s.pn:=by
 obtain ⟨q,h4,h5,h6⟩:=qp5 e hA
 exact ⟨q,jn9 e2 (by decide) hr,h4,h5,h6⟩
theorem y47:jb0 42 vl0:=by
 intro al ans h hq
 unfold vl0 at h
 split at h <;> try (simp at h;done)
 rename_i q l c
 split at h <;> try (simp at h;done)
 rename_i o s A k r e1 e2 e3
 simp only [Option.some.injEq] at h
 subst h
 obtain ⟨hr,h0,h1,hA⟩:=ym7 hq
 obtain ⟨q1,q2,h4,h5,h6⟩:=y46 e2 e3 hA hr
 rw [vf9 e1]
 exact jd6 (al':=[.x (.agg (qp6 o)),.x (.agg (jk1 s)),.x (.c (.slc 12 k (jh4 (ovAt r))))]) ⟨⟨.v _,.v _,.v _,.v _,.v _,.v _,.v _,.v _,.v _,.v _,.v _,.v _,trivial⟩,q1,q2,trivial⟩ (yh3 o s k (ovAt r) (jg1 h0) (jg1 h1) _)
theorem yh4 (s:Sc) (i k:Int) (g:Int->Ov) (h0:0<=k) (hk:k<=9223372036854775807) (ho:0<=s.on) (hm:0<=s.mn) (hp:0<=s.pn) (A:List Prop):jj5 Tryd.prog 21 [.x (.agg (jk1 s)),.x (.c (.v (.int .i64 i))),.x (.c (.slc 12 k (jh4 g)))] ⟨[.c (.v (.int .i64 (opV s i k g)))],[],A⟩:=by
 refine QR.ja2 (O:=v03) (QR.ja3 y45 (QR.ja3 y47 QR.jb2)) mixed QR.ja4 Tryd.func21 (by kernel_rfl) (by kernel_rfl) (by simp) ?_
 rw [yu7]
 delta zz942
 have VT:∀e,opV s i k g=e->jb6 ⟨[.c (.v (.int .i64 (opV s i k g)))],[],A⟩ [.c (.v (.int .i64 e))] []:=λ e h=>by rw [h];simp [jb6,eqXs,eqX,eqo,eqLo,eqc,veq,eqUs]
 generalize jb6 ⟨[.c (.v (.int .i64 (opV s i k g)))],[],A⟩=V at *
 have AE:jd7 k (jh4 g)/\ile 0 k=true/\ile k 9223372036854775807=true/\intRow .i64 1 s.on (.fn λ i _=>.v (.int .i64 (s.ol i)))/\jh6 s.mn (jr3 s.ml)/\jd7 s.pn (jh4 s.pl)/\ile 0 s.on=true/\ile 0 s.mn=true/\ile 0 s.pn=true:=⟨q06 k g,jb4 h0,jb4 hk,jh3 _ _ _,vp8 _ _,q06 _ _,jb4 ho,jb4 hm,jb4 hp⟩
 simp only [forall_eq,true_and,and_true,implies_true,ja1,vp9,igtN,igeN,ineN]
 rw [show (λ i=>g i)=g from rfl]
 unfold opV at VT
 have E:∀a:Int,0<=i->i < s.pn->(∀e,opE s.b s.mn (s.pl i) k (jm8 g k)=e->V [.c (.v (.int .i64 e))] []):=λ _ a b e he=>VT e (by rw [decide_eq_true ⟨a,b⟩,cond_true];exact he)
 refine ⟨λ c=>VT _ ?_,λ c0=>⟨λ c=>VT _ ?_,λ c1=>?_⟩⟩
 ·rw [decide_eq_false (by have:=of_decide_eq_true c;omega)];rfl
 ·rw [decide_eq_false (by have:=jt7 (by simpa using c);omega)];rfl
 have i0:0<=i:=jt7 c0
 have i1:i < s.pn:=jg6 (by simpa using c1)
 have E:=E 0 i0 i1
 have body:(1<=(s.pl i).kd/\(s.pl i).kd<=3)->(ile 1 (s.pl i).kd=true/\ile (s.pl i).kd 3=true)/\((!(uzB (s.pl i)))=true->V [.c (.v (.int .i64 10))] [])/\((!(uzB (s.pl i)))=false->((!(ieq (s.pl i).kd 3))=true->(jd7 k (jh4 g)/\ile 0 k=true/\ile k 9223372036854775807=true/\intRow .i64 1 s.on (.fn λ i _=>.v (.int .i64 (s.ol i)))/\jh6 s.mn (jr3 s.ml)/\jd7 s.pn (jh4 s.pl)/\ile 0 s.on=true/\ile 0 s.mn=true/\ile 0 s.pn=true)/\V [.c (.v (.int .i64 (elE s.b s.mn (s.pl i) k (jm8 g k))))] [])/\((!(ieq (s.pl i).kd 3))=false->(ieq k 0=true->V [.c (.v (.int .i64 18))] [])/\(ieq k 0=false->V [.c (.v (.int .i64 0))] []))):=by
  intro kd
  unfold opE at E
  rw [decide_eq_true kd,cond_true] at E
  refine ⟨⟨jb4 kd.1,jb4 kd.2⟩,λ c=>E _ (by simp_all),λ c1=>⟨λ c2=>⟨AE,E _ (by simp_all)⟩,λ c2=>⟨λ c3=>E _ (by simp_all),λ c3=>E _ (by simp_all)⟩⟩⟩
 refine ⟨⟨jb4 i0,jl0 i1⟩,λ d1=>⟨λ d2=>⟨λ d3=>E _ ?_,λ d3=>body ?_⟩,λ d2=>body ?_⟩,λ d1=>body ?_⟩
 ·have d1:=je4 (by simpa using d1)
  have d2:=je4 (by simpa using d2)
  have d3:=je4 (by simpa using d3)
  unfold opE
  rw [decide_eq_false (by omega)];rfl
 ·have:=jd2 (show ieq (s.pl i).kd 3=true by simpa using d3);omega
 ·have:=jd2 (show ieq (s.pl i).kd 2=true by simpa using d2);omega
 ·have:=jd2 (show ieq (s.pl i).kd 1=true by simpa using d1);omega
theorem y48:jb0 21 vl1:=by
 intro al ans h hq
 unfold vl1 at h
 split at h <;> try (simp at h;done)
 rename_i l i c
 split at h <;> try (simp at h;done)
 rename_i s A k r e2 e3
 simp only [Option.some.injEq] at h
 subst h
 obtain ⟨hr,h0,h1,hA⟩:=ym7 hq
 obtain ⟨q1,q2,h4,h5,h6⟩:=y46 e2 e3 hA hr
 exact jd6 (al':=[.x (.agg (jk1 s)),.x (.c (.v (.int .i64 i))),.x (.c (.slc 12 k (jh4 (ovAt r))))]) ⟨q1,.v _,q2,trivial⟩ (yh4 s i k (ovAt r) (jg1 h0) (jg1 h1) h4 h5 h6 _)
end Go.Proofs.YthkidembkknoeaaDoor
namespace Go.Proofs.YthkidembkknoeaaDoor
open Go.RowKit PR QR
set_option linter.unusedVariables false
set_option linter.unusedSimpArgs false
set_option maxRecDepth 20000
theorem v88 (f:Int->Ov):∀i:Nat,(stk f i).length<=i
 | 0=>Nat.le_refl _
 | i + 1=>by
  have h:=v88 f i
  unfold stk
  cases ieq (f i).kd 2
  ·rw [cond_false]
   cases ieq (f i).kd 3
   ·exact Nat.le_succ_of_le h
   ·rw [cond_true,List.length_dropLast];omega
  ·rw [cond_true,List.length_append];exact Nat.succ_le_succ h
theorem yh7 (s:Sc) {i:Int} (h:0<=i):0<=lenO (stkI s i)/\lenO (stkI s i)<=i:=by
 have:=v88 s.pl i.toNat
 unfold lenO stkI
 omega
theorem ym8 (s:Sc) {i:Int} (h:0<=i):stkI s (i + 1)=bif ieq (s.pl i).kd 2 then stkI s i ++ [s.pl i] else bif ieq (s.pl i).kd 3 then (stkI s i).dropLast else stkI s i:=by
 unfold stkI
 rw [show (i + 1).toNat=i.toNat + 1 by omega]
 show (bif ieq (s.pl (i.toNat:Int)).kd 2 then _ else _)=_
 rw [Int.toNat_of_nonneg h]
theorem yh8 (s:Sc) {i:Int} (h:0<=i) (n:vsE s i.toNat=none):vsE s (i + 1).toNat=bif ieq (vopI s i) 0 then none else some (vopI s i,i):=by
 rw [show (i + 1).toNat=i.toNat + 1 by omega]
 show (match vsE s i.toNat with | some e=>some e | none=>bif ieq (vopI s (i.toNat:Int)) 0 then none else some (vopI s (i.toNat:Int),(i.toNat:Int)))=_
 rw [n,Int.toNat_of_nonneg h]
theorem ym9 (s:Sc) {e:Int×Int}:∀{k n:Nat},vsE s k=some e->k<=n->vsE s n=some e
 | k,0,h,l=>by rw [show k=0 by omega] at h;exact h
 | k,n + 1,h,l=>by
  by_cases q:k=n + 1
  ·subst q;exact h
  ·have:=ym9 s h (show k<=n by omega)
   unfold vsE;rw [this]
theorem yn0 (s:Sc) {i:Int} (h:0<=i) (n:qh5 s i.toNat=none):qh5 s (i + 1).toNat=bif ieq (imE (s.ml i) (smV s.b)) 0 then none else some (imE (s.ml i) (smV s.b),i):=by
 rw [show (i + 1).toNat=i.toNat + 1 by omega]
 show (match qh5 s i.toNat with | some e=>some e | none=>bif ieq (imE (s.ml (i.toNat:Int)) (smV s.b)) 0 then none else some (imE (s.ml (i.toNat:Int)) (smV s.b),(i.toNat:Int)))=_
 rw [n,Int.toNat_of_nonneg h]
theorem v90 (s:Sc) {e:Int×Int}:∀{k n:Nat},qh5 s k=some e->k<=n->qh5 s n=some e
 | k,0,h,l=>by rw [show k=0 by omega] at h;exact h
 | k,n + 1,h,l=>by
  by_cases q:k=n + 1
  ·subst q;exact h
  ·have:=v90 s h (show k<=n by omega)
   unfold qh5;rw [this]
theorem v92 (s:Sc) {i:Int} (h:0<=i) (hi:i < s.pn) (n:vsE s i.toNat=none) (e:vopI s i≠0):vsP s=(vopI s i,i):=by
 have a:=yh8 s h n
 rw [show ieq (vopI s i) 0=false from decide_eq_false e,cond_false] at a
 unfold vsP
 rw [ym9 s a (show (i + 1).toNat<=s.pn.toNat by omega)]
theorem vg2 (s:Sc) (n:vsE s s.pn.toNat=none):vsP s=bif ieq (lenO (stkI s s.pn)) 0 then (0,0) else (18,s.pn):=by
 unfold vsP;rw [n]
theorem yh9 {s:Sc} {i:Int} (h:0<=i) (hi:i < s.pn) (e:vopI s i=0) (k:ieq (s.pl i).kd 3=true):lenO (stkI s i)≠0:=by
 intro z
 unfold vopI opV opE at e
 rw [decide_eq_true (show 0<=i/\i < s.pn from ⟨h,hi⟩),cond_true,decide_eq_true (by have:=jd2 k;omega),cond_true,k,z] at e
 cases q:uzB (s.pl i) <;> rw [q] at e <;> simp [ieq] at e
theorem v94 (s:Sc) (h0:0<=s.on) (h1:0<=s.mn) (h2:0<=s.pn) (h3:s.pn<=4096) (A:List Prop):jj5 Tryd.prog 31 [.x (.agg (jk1 s))] ⟨[.c (.v (.int .i64 (qb7 s))),.c (.v (.int .i64 (qb8 s)))],[],A⟩:=by
 refine QR.ja2 (O:=vg0) (QR.ja3 QR.vv5 (QR.ja3 y48 QR.jb2)) mixed (λ n=>bif Nat.beq n 3 then some (.ownF [(4,none,12)] λ _=>[q18 s]) else none) Tryd.func31 (by kernel_rfl) (by kernel_rfl) (by simp) ?_
 rw [yh5]
 delta zz943 zz944 zz945 zz947 zz948 zz949 opsE
 have VT:∀a b,vsP s=(a,b)->jb6 ⟨[.c (.v (.int .i64 (qb7 s))),.c (.v (.int .i64 (qb8 s)))],[],A⟩ [.c (.v (.int .i64 a)),.c (.v (.int .i64 b))] []:=λ a b h=>by
  unfold qb7 qb8;rw [h];simp [jb6,eqXs,eqX,eqo,eqLo,eqc,veq,eqUs]
 generalize jb6 ⟨[.c (.v (.int .i64 (qb7 s))),.c (.v (.int .i64 (qb8 s)))],[],A⟩=V at *
 have W:intRow .i64 1 s.on (.fn λ i _=>.v (.int .i64 (s.ol i))):=jh3 _ _ _
 have I:=vp8 s.mn s.ml
 have O:=q06 s.pn s.pl
 have z0:=jb4 h0
 have z1:=jb4 h1
 have z2:=jb4 h2
 have mu:∀i:Int,0<=i->i < s.pn->(je5 s.pn (i + 1)).succ.le (je5 s.pn i):=λ i a b=>by
  show je5 s.pn (i + 1) < je5 s.pn i
  unfold je5;omega
 simp only [forall_eq,true_and,and_true,and_self,implies_true,or_false,false_or,false_and,and_false,exists_const,exists_false,ja1,vk2,vk1,va1,false_implies]
 refine ⟨⟨0,⟨⟨Int.le_refl 0,h2⟩,rfl⟩,⟨rfl,rfl⟩,rfl⟩,λ i hi=>?_⟩
 obtain ⟨⟨i0,i1⟩,no⟩:=hi
 obtain ⟨l0,l1⟩:=yh7 s i0
 have S:=ym8 s i0
 rw [show opV s i (lenO (stkI s i)) (λ i_2=>nthO (stkI s i) i_2)=vopI s i from rfl]
 refine ⟨λ c=>?_,λ c=>?_⟩
 ·have lt:=jg6 c
  have ia:iadd .i64 i 1=i + 1:=IntWalk.i64_in _ (by omega)
  rw [ia]
  have ag:jd7 (lenO (stkI s i)) (jh4 (nthO (stkI s i))):=q06 _ _
  refine ⟨⟨jb4 i0,c⟩,⟨ag,jb4 l0,jb4 (by omega),W,I,O,z0,z1,z2⟩,λ d=>VT _ _ (v92 s i0 lt no (vb6 d)),λ d=>?_⟩
  have ok:vopI s i=0:=vb7 d
  have nx:voI s (i + 1):=⟨⟨by omega,by omega⟩,by rw [yh8 s i0 no,ok];rfl⟩
  refine ⟨λ k=>?_,λ k=>⟨λ k3=>?_,λ k3=>?_⟩⟩
  ·rw [k,cond_true] at S
   refine ⟨jb4 (by unfold jd8 addZ;omega),i + 1,nx,?_⟩
   rw [S,jv2]
   refine ⟨⟨⟨rfl,rfl⟩,rfl,?_⟩,mu i i0 lt⟩
   repeat' apply And.intro
   all_goals (intro n hn;rcases jv3 (stkI s i) (s.pl i) n hn with ⟨k1,k2⟩ | ⟨k1,k2,k3⟩ <;> first | (rw [k1,k2];rfl) | (rw [k1,k2,k3];rfl))
  ·rw [k,k3,cond_false,cond_true] at S
   have g0:0 < lenO (stkI s i):=by have:=yh9 i0 lt ok k3;omega
   have is1:isub .i64 (lenO (stkI s i)) 1=lenO (stkI s i) - 1:=IntWalk.i64_in _ (by omega)
   rw [is1]
   refine ⟨⟨jb4 (by omega),jb4 (by omega)⟩,i + 1,nx,?_⟩
   rw [S,qo9 _ g0]
   refine ⟨⟨⟨rfl,rfl⟩,rfl,?_⟩,mu i i0 lt⟩
   repeat' apply And.intro
   all_goals (intro n hn;rw [va2 _ rfl n hn])
  ·rw [k,k3,cond_false,cond_false] at S
   refine ⟨i + 1,nx,?_⟩
   rw [S]
   refine ⟨⟨⟨rfl,rfl⟩,rfl,?_⟩,mu i i0 lt⟩
   repeat' apply And.intro
   all_goals (intro n hn;rfl)
 ·have e:i=s.pn:=by have:=jt7 c;omega
  subst e
  have E:=vg2 s no
  refine ⟨λ d=>VT _ _ ?_,λ d=>VT _ _ ?_⟩
  ·rw [E,show ieq (lenO (stkI s s.pn)) 0=false from decide_eq_false (by have:lenO (stkI s s.pn) > 0:=of_decide_eq_true d;omega)];rfl
  ·rw [E,show ieq (lenO (stkI s s.pn)) 0=true from decide_eq_true (by have:¬ lenO (stkI s s.pn) > 0:=of_decide_eq_false d;omega)];rfl
theorem y49 {s:Sc} (h:frV s=0):s.mn<=64/\s.pn<=4096:=by
 unfold frV at h
 cases a:smOk s.b <;> cases b:plcB s.x0 s.y0 s.x1 s.y1 <;> cases c:tiB s.x0 s.y0 s.x1 s.y1 s.tw s.th <;> cases d:ordB s.on s.ol (tiX s.x0 s.y0 s.x1 s.y1 s.tw s.th * tiY s.x0 s.y0 s.x1 s.y1 s.tw s.th) <;> cases e:ile s.mn 64 <;> cases f:ile s.pn 4096 <;> rw [a,b,c,d,e,f] at h <;> first | exact ⟨jg1 e,jg1 f⟩ | (simp at h)
theorem v95:jb0 31 qe6:=by
 intro al ans h hq
 unfold qe6 at h
 split at h <;> try (simp at h;done)
 rename_i l
 cases e:jj6 l with
 | none=>simp [e] at h
 | some p =>
  obtain ⟨s,A⟩:=p
  rw [e] at h
  simp only [Option.some.injEq] at h
  subst h
  have h3:ile s.pn 4096=true:=hq _ (by simp)
  obtain ⟨q,h4,h5,h6⟩:=qp5 e (λ p hp=>hq p (by simp [hp]))
  exact jd6 (al':=[.x (.agg (jk1 s))]) ⟨q,trivial⟩ (v94 s h4 h5 h6 (jg1 h3) _)
theorem qu9 (s:Sc) (h0:0<=s.on) (h1:0<=s.mn) (h2:0<=s.pn) (A:List Prop):jj5 Tryd.prog 13 [.x (.agg (jk1 s))] ⟨[.c (.v (.int .i64 (chkE s))),.c (.v (.int .i64 (chkN s)))],[],A⟩:=by
 refine QR.ja2 (O:=q20) (QR.ja3 v07 (QR.ja3 v95 QR.jb2)) mixed QR.ja4 Tryd.func13 (by kernel_rfl) (by kernel_rfl) (by simp) ?_
 rw [v09]
 delta zz944 zz945 zz950
 have VT:∀a b,chkE s=a->chkN s=b->jb6 ⟨[.c (.v (.int .i64 (chkE s))),.c (.v (.int .i64 (chkN s)))],[],A⟩ [.c (.v (.int .i64 a)),.c (.v (.int .i64 b))] []:=λ a b h k=>by
  rw [h,k];simp [jb6,eqXs,eqX,eqo,eqLo,eqc,veq,eqUs]
 generalize jb6 ⟨[.c (.v (.int .i64 (chkE s))),.c (.v (.int .i64 (chkN s)))],[],A⟩=V at *
 have W:intRow .i64 1 s.on (.fn λ i _=>.v (.int .i64 (s.ol i))):=jh3 _ _ _
 have I:=vp8 s.mn s.ml
 have O:=q06 s.pn s.pl
 have z0:=jb4 h0
 have z1:=jb4 h1
 have z2:=jb4 h2
 simp only [forall_eq,true_and,and_true,implies_true,ja1]
 unfold chkE chkN at VT
 refine ⟨⟨W,I,O,z0,z1,z2⟩,λ c=>?_,λ c=>?_⟩
 ·have n:ieq (frV s) 0=false:=decide_eq_false (vb6 c)
  rw [n] at VT
  exact VT _ _ rfl rfl
 ·have n:frV s=0:=vb7 c
  rw [n] at VT
  exact ⟨⟨jb4 (y49 n).2,W,I,O,z0,z1,z2⟩,VT _ _ rfl rfl⟩
theorem yi0:jb0 13 qj0:=by
 intro al ans h hq
 unfold qj0 at h
 split at h <;> try (simp at h;done)
 rename_i l
 cases e:jj6 l with
 | none=>simp [e] at h
 | some p =>
  obtain ⟨s,A⟩:=p
  rw [e] at h
  simp only [Option.some.injEq] at h
  subst h
  obtain ⟨q,h4,h5,h6⟩:=qp5 e hq
  exact jd6 (al':=[.x (.agg (jk1 s))]) ⟨q,trivial⟩ (qu9 s h4 h5 h6 _)
theorem va9 (s:Sc) (h0:0<=s.on) (h1:0<=s.mn) (h2:0<=s.pn) (hg:imsG s) (A:List Prop):jj5 Tryd.prog 12 [.x (.agg (jk1 s))] ⟨[.c (.v (.int .i64 (chE s))),.c (.v (.int .i64 (chN s)))],[],A⟩:=by
 refine QR.ja2 (O:=vg1) (QR.ja3 v07 (QR.ja3 vg9 (QR.ja3 a_iv (QR.ja3 v95 QR.jb2)))) mixed (λ n=>bif Nat.beq n 6 then some (.inv (q19 s)) else none) Tryd.func12 (by kernel_rfl) (by kernel_rfl) (by simp) ?_
 rw [yh6]
 delta zz943 zz944 zz945 zz946 zz950 opsE
 have VT:∀a b,chP s=(a,b)->jb6 ⟨[.c (.v (.int .i64 (chE s))),.c (.v (.int .i64 (chN s)))],[],A⟩ [.c (.v (.int .i64 a)),.c (.v (.int .i64 b))] []:=λ a b h=>by
  unfold chE chN;rw [h];simp [jb6,eqXs,eqX,eqo,eqLo,eqc,veq,eqUs]
 generalize jb6 ⟨[.c (.v (.int .i64 (chE s))),.c (.v (.int .i64 (chN s)))],[],A⟩=V at *
 have W:intRow .i64 1 s.on (.fn λ i _=>.v (.int .i64 (s.ol i))):=jh3 _ _ _
 have I:=vp8 s.mn s.ml
 have O:=q06 s.pn s.pl
 have z0:=jb4 h0
 have z1:=jb4 h1
 have z2:=jb4 h2
 have mu:∀i:Int,0<=i->i < s.mn->(je5 s.mn (i + 1)).succ.le (je5 s.mn i):=λ i a b=>by
  show je5 s.mn (i + 1) < je5 s.mn i
  unfold je5;omega
 simp only [forall_eq,true_and,and_true,and_self,implies_true,or_false,false_or,false_and,and_false,exists_const,exists_false,ja1,vk2,vk1,va1,false_implies]
 unfold chP at VT
 refine ⟨⟨W,I,O,z0,z1,z2⟩,λ c=>VT _ _ (by rw [show ieq (frV s) 0=false from decide_eq_false (vb6 c)];rfl),λ c=>?_⟩
 have fr:frV s=0:=vb7 c
 obtain ⟨m64,p4⟩:=y49 fr
 rw [fr,show ieq (0:Int) 0=true from rfl,cond_true] at VT
 refine ⟨⟨0,⟨⟨Int.le_refl 0,h1⟩,rfl⟩,rfl⟩,λ i hi=>?_⟩
 obtain ⟨⟨i0,i1⟩,no⟩:=hi
 refine ⟨λ c=>?_,λ c=>?_⟩
 ·have lt:=jg6 c
  have ia:iadd .i64 i 1=i + 1:=IntWalk.i64_in _ (by omega)
  rw [ia]
  have gi:imG (s.ml i):=by have:=hg i.toNat (by omega);rwa [Int.toNat_of_nonneg i0] at this
  have st:=yn0 s i0 no
  have er:ine (imE (s.ml i) (smV s.b)) 0=true->V [.c (.v (.int .i64 (imE (s.ml i) (smV s.b)))),.c (.v (.int .i64 i))] []:=λ d=>VT _ _ (by
   rw [show ieq (imE (s.ml i) (smV s.b)) 0=false from decide_eq_false (vb6 d),cond_false] at st
   rw [v90 s st (show (i + 1).toNat<=s.mn.toNat by omega)])
  have nx:ine (imE (s.ml i) (smV s.b)) 0=false->viI s (i + 1):=λ d=>⟨⟨by omega,by omega⟩,by rw [st,show imE (s.ml i) (smV s.b)=0 from vb7 d];rfl⟩
  refine ⟨⟨jb4 i0,c⟩,⟨gi,jh3 _ _ _,jh3 _ _ _,jh3 _ _ _,jh3 _ _ _,jh3 _ _ _⟩,er,λ d=>⟨i + 1,nx d,rfl,mu i i0 lt⟩⟩
 ·have e:i=s.mn:=by have:=jt7 c;omega
  subst e
  rw [no] at VT
  exact ⟨⟨jb4 p4,W,I,O,z0,z1,z2⟩,VT _ _ rfl⟩
theorem yv6:jb0 12 q17:=by
 intro al ans h hq
 unfold q17 at h
 split at h <;> try (simp at h;done)
 rename_i l
 cases e:jj6 l with
 | none=>simp [e] at h
 | some p =>
  obtain ⟨s,A⟩:=p
  rw [e] at h
  simp only [Option.some.injEq] at h
  subst h
  have hg:imsG s:=hq _ (by simp)
  obtain ⟨q,h4,h5,h6⟩:=qp5 e (λ p hp=>hq p (by simp [hp]))
  exact jd6 (al':=[.x (.agg (jk1 s))]) ⟨q,trivial⟩ (va9 s h4 h5 h6 hg _)
end Go.Proofs.YthkidembkknoeaaDoor
namespace Go.Proofs.YthkidembkknoeaaDoor
open Go.RowKit PR QR
set_option linter.unusedVariables false
set_option linter.unusedSimpArgs false
set_option maxRecDepth 20000
theorem yn1 {b x0 y0 x1 y1 tw th n:Int} {pc:CV} {r:QR.Row} (e:jf1 12 pc=some (n,r)) (hr:jd7 n r):eqCs [.v (.int .i64 b),.v (.int .i64 x0),.v (.int .i64 y0),.v (.int .i64 x1),.v (.int .i64 y1),.v (.int .i64 tw),.v (.int .i64 th),.v (.slice none 0 0),.v (.slice none 0 0),pc] (jk1 (scR b x0 y0 x1 y1 tw th n r)) :=
 ⟨.v _,.v _,.v _,.v _,.v _,.v _,.v _,.nil (by decide) rfl,.nil (by decide) rfl,jn9 e (by decide) hr,trivial⟩
theorem y50:jb0 12 vl2:=by
 intro al ans h hq
 unfold vl2 at h
 split at h <;> try (simp at h;done)
 rename_i b x0 y0 x1 y1 tw th pc
 cases e:jf1 12 pc with
 | none=>simp [e] at h
 | some p =>
  obtain ⟨n,r⟩:=p
  simp only [e,Option.some.injEq] at h
  subst h
  obtain ⟨hr,h0,_⟩:=asked hq
  refine jd6 (al':=[.x (.agg (jk1 (scR b x0 y0 x1 y1 tw th n r)))]) ⟨yn1 e hr,trivial⟩ (va9 _ (Int.le_refl 0) (Int.le_refl 0) (jg1 h0) (λ i hi=>?_) _)
  have hi:(i:Int) < 0:=hi
  omega
theorem yv7:jb0 13 q21:=by
 intro al ans h hq
 unfold q21 at h
 split at h <;> try (simp at h;done)
 rename_i b x0 y0 x1 y1 tw th pc
 cases e:jf1 12 pc with
 | none=>simp [e] at h
 | some p =>
  obtain ⟨n,r⟩:=p
  simp only [e,Option.some.injEq] at h
  subst h
  obtain ⟨hr,h0,_⟩:=asked hq
  exact jd6 (al':=[.x (.agg (jk1 (scR b x0 y0 x1 y1 tw th n r)))]) ⟨yn1 e hr,trivial⟩ (qu9 _ (Int.le_refl 0) (Int.le_refl 0) (jg1 h0) _)
theorem vl3 (n:Int) (r:QR.Row) (h:n<=4096):frV (scR 8 0 0 1 1 1 1 n r)=0:=by
 have a:smOk 8=true:=by decide
 have b:plcB 0 0 1 1=true:=by decide
 have c:tiB 0 0 1 1 1 1=true:=by decide
 show (bif smOk 8 then bif plcB 0 0 1 1 then bif tiB 0 0 1 1 1 1 then bif ordB 0 _ _ then bif ile 0 64 && ile n 4096 then 0 else 5 else 4 else 3 else 2 else 1)=_
 rw [a,b,c,jb4 h];rfl
theorem v97:jb0 14 q25:=by
 intro al ans h hq
 unfold q25 at h
 split at h <;> try (simp at h;done)
 skip
 simp only [Option.some.injEq] at h
 subst h
 have hq:=asked hq
 refine QR.ja2 (O:=v96) (QR.ja3 y50 (QR.ja3 yv7 QR.jb2)) mixed (QR.ja4) Tryd.func14 (by kernel_rfl) (by kernel_rfl) (by simp) ?_
 rw [vq0]
 delta zz951 zz952
 simp only [forall_eq,true_and,and_true,ja1]
 have c0:chRE 8 0 0 1 1 1 1 0 (.zer [])=0:=by unfold chRE chE chP;rw [vl3 _ _ (by decide)];rfl
 generalize hP:QR.Row.upd (QR.Row.upd (QR.Row.upd (QR.Row.upd (QR.Row.upd (QR.Row.upd (QR.Row.upd (QR.Row.upd (QR.Row.upd (QR.Row.upd (QR.Row.upd (QR.Row.upd (QR.Row.zer [Value.int .i64 0,Value.int .i64 0,Value.int .i64 0,Value.int .i64 0,Value.int .i64 0,Value.int .i64 0,Value.int .i64 0,Value.int .u16 0,Value.int .i64 0,Value.int .i64 0,Value.bool false,Value.bool false]) 0 0 (CV.v (Value.int .i64 3))) 0 1 (CV.v (Value.int .i64 0))) 0 2 (CV.v (Value.int .i64 0))) 0 3 (CV.v (Value.int .i64 0))) 0 4 (CV.v (Value.int .i64 0))) 0 5 (CV.v (Value.int .i64 0))) 0 6 (CV.v (Value.int .i64 0))) 0 7 (CV.v (Value.int .u16 0))) 0 8 (CV.v (Value.int .i64 0))) 0 9 (CV.v (Value.int .i64 0))) 0 10 (CV.v (Value.bool false))) 0 11 (CV.v (Value.bool false))=P
 generalize hQ:QR.Row.upd (QR.Row.upd (QR.Row.upd (QR.Row.upd (QR.Row.upd (QR.Row.upd (QR.Row.upd (QR.Row.upd (QR.Row.upd (QR.Row.upd (QR.Row.upd (QR.Row.upd (QR.Row.zer [Value.int .i64 0,Value.int .i64 0,Value.int .i64 0,Value.int .i64 0,Value.int .i64 0,Value.int .i64 0,Value.int .i64 0,Value.int .u16 0,Value.int .i64 0,Value.int .i64 0,Value.bool false,Value.bool false]) 0 0 (CV.v (Value.int .i64 2))) 0 1 (CV.v (Value.int .i64 0))) 0 2 (CV.v (Value.int .i64 0))) 0 3 (CV.v (Value.int .i64 0))) 0 4 (CV.v (Value.int .i64 0))) 0 5 (CV.v (Value.int .i64 0))) 0 6 (CV.v (Value.int .i64 0))) 0 7 (CV.v (Value.int .u16 0))) 0 8 (CV.v (Value.int .i64 4))) 0 9 (CV.v (Value.int .i64 1))) 0 10 (CV.v (Value.bool false))) 0 11 (CV.v (Value.bool false))=Q
 have oP:ovAt P 0=⟨3,0,0,0,0,0,0,0,0,0,false,false⟩:=by subst hP;rfl
 have oQ:ovAt Q 0=⟨2,0,0,0,0,0,0,0,4,1,false,false⟩:=by subst hQ;rfl
 have rP:jd7 1 P:=λ i j hi hj=>by
  obtain rfl:i=0:=by omega
  subst hP
  match j,hj with
  | 0,_ | 1,_ | 2,_ | 3,_ | 4,_ | 5,_ | 6,_ | 7,_ | 8,_ | 9,_ | 10,_ | 11,_=>exact .v _
  | n + 12,h=>omega
 have rQ:jd7 1 Q:=λ i j hi hj=>by
  obtain rfl:i=0:=by omega
  subst hQ
  match j,hj with
  | 0,_ | 1,_ | 2,_ | 3,_ | 4,_ | 5,_ | 6,_ | 7,_ | 8,_ | 9,_ | 10,_ | 11,_=>exact .v _
  | n + 12,h=>omega
 clear hP hQ
 have vP:vopI (scR 8 0 0 1 1 1 1 1 P) 0=18:=by
  show opE 8 0 (ovAt P 0) 0 _=18
  rw [oP];rfl
 have vQ:vopI (scR 8 0 0 1 1 1 1 1 Q) 0=0:=by
  show opE 8 0 (ovAt Q 0) 0 _=0
  rw [oQ];rfl
 have pP:=v92 (scR 8 0 0 1 1 1 1 1 P) (Int.le_refl 0) (show (0:Int) < 1 by decide) rfl (by rw [vP];decide)
 have nQ:vsE (scR 8 0 0 1 1 1 1 1 Q) 1=none:=(yh8 (scR 8 0 0 1 1 1 1 1 Q) (Int.le_refl 0) rfl).trans (by rw [vQ];rfl)
 have pQ:=vg2 (scR 8 0 0 1 1 1 1 1 Q) nQ
 have sQ:stkI (scR 8 0 0 1 1 1 1 1 Q) 1=[ovAt Q 0]:=(ym8 (scR 8 0 0 1 1 1 1 1 Q) (Int.le_refl 0)).trans (by
  show (bif ieq (ovAt Q 0).kd 2 then [] ++ [ovAt Q 0] else _)=_
  rw [oQ];rfl)
 rw [show (scR 8 0 0 1 1 1 1 1 Q).pn=1 from rfl,sQ] at pQ
 have c1:chP (scR 8 0 0 1 1 1 1 1 P)=(18,0):=by unfold chP;rw [vl3 _ _ (by decide),show qh5 (scR 8 0 0 1 1 1 1 1 P) (scR 8 0 0 1 1 1 1 1 P).mn.toNat=none from rfl,pP,vP];rfl
 have c2:chRE 8 0 0 1 1 1 1 1 P=18:=congrArg Prod.fst c1
 have c3:chRN 8 0 0 1 1 1 1 1 P=0:=congrArg Prod.snd c1
 have c4:ckRE 8 0 0 1 1 1 1 1 Q=18:=by unfold ckRE chkE qb7;rw [vl3 _ _ (by decide),pQ];rfl
 have c5:ckRN 8 0 0 1 1 1 1 1 Q=1:=by unfold ckRN chkN qb8;rw [vl3 _ _ (by decide),pQ];rfl
 simp only [c0,c2,c3,c4,c5,show ieq (0:Int) 0=true from rfl,show ieq (18:Int) 18=true from rfl,show ieq (1:Int) 1=true from rfl]
 refine ⟨λ i j hi _=>by omega,rP,rQ,?_⟩
 simp [jb6,eqXs,eqX,eqo,eqLo,eqc,veq,eqUs]
end Go.Proofs.YthkidembkknoeaaDoor
namespace Go.Proofs.YthkidembkknoeaaDoor
open Go.RowKit PR QR
set_option linter.unusedVariables false
set_option linter.unusedSimpArgs false
set_option maxRecDepth 20000
theorem zb2 (s:Sn) (h0:0<=s.m) (h1:0<=s.pn) (h2:0<=s.rn):scW (gscV s):=by
 have n:=jy4 s
 have tl:=q96 s
 have M:=qo8 s
 have N:=qz5 h1
 have cv:=vx1 s
 obtain ⟨f1,f2,f3,f4,f5⟩:=qz7 h1 h2 (lenO (gstB s (gstE s)))
 have pN:0<=pmN s.m (gscA s)/\pmN s.m (gscA s)<=gscA s:=by unfold pmN;split <;> omega
 have p:1 * 1<=gscW s * gscH s:=Int.mul_le_mul n.2.2.1.1 n.2.2.2.1.1 (by omega) (by omega)
 have q:gscW s * gscH s<=5 * 4:=Int.mul_le_mul n.2.2.1.2 n.2.2.2.1.2 (by omega) (by omega)
 have r:reB (gscX s) (gscY s) (jd4 s) (jd5 s)=false:=re_f.2 ⟨⟨by unfold F30;omega,by unfold F30;omega,by unfold F30;omega,by unfold F30;omega⟩,by omega,by omega⟩
 have pl:plcB (gscX s) (gscY s) (jd4 s) (jd5 s)=true:=by
  unfold plcB jh7
  rw [decide_eq_true (show reB (gscX s) (gscY s) (jd4 s) (jd5 s)=false/\(jd4 s - gscX s) * (jd5 s - gscY s)<=16777216 from ⟨r,by rw [show jd4 s - gscX s=gscW s by omega,show jd5 s - gscY s=gscH s by omega];omega⟩),decide_eq_true (by omega),decide_eq_true (by omega)];rfl
 have ti:tiB (gscX s) (gscY s) (jd4 s) (jd5 s) (gscT s) (gscU s)=true:=decide_eq_true ⟨r,by omega,by omega⟩
 have sm:smOk (isel (igt (gscM s) 255) 16 8)=true/\smV (isel (igt (gscM s) 255) 16 8)=gscM s:=by
  rcases M.2 with e | e <;> rw [e] <;> exact ⟨by decide,by decide⟩
 refine ⟨⟨sm.1,pl,ti,?_⟩,?_,?_,λ i a b=>?_,?_⟩
 ·show ordB (pmN s.m (gscA s)) (gscO s) (tiX (gscX s) (gscY s) (jd4 s) (jd5 s) (gscT s) (gscU s) * tiY (gscX s) (gscY s) (jd4 s) (jd5 s) (gscT s) (gscU s))=true
  have e:gscA s=tiX (gscX s) (gscY s) (jd4 s) (jd5 s) (gscT s) (gscU s) * tiY (gscX s) (gscY s) (jd4 s) (jd5 s) (gscT s) (gscU s):=(v06 ti pl).2
  rw [<- e,<- y43 (by omega)]
  exact yw5 s.m (λ a _=>s.ol a) (n:=gscA s) (by omega) (by omega)
 ·show 0<=pmN s.m (gscA s)/\pmN s.m (gscA s)<=100;omega
 ·show 1<=gscN s/\gscN s<=4;omega
 ·show imG (gscQ s i)/\imE (gscQ s i) (smV (isel (igt (gscM s) 255) 16 8))=0
  rw [sm.2]
  unfold gscQ
  cases ieq s.pn 0
  ·rw [cond_false]
   obtain ⟨g1,g2,g3,g4⟩:=vm7 (s.pq i).W (s.pq i).H (s.pq i).S (s.pq i).md (s.pq i).n (s.pq i).q M.1 cv
   exact ⟨g1.1,q47 g1.2.1 g4⟩
  ·rw [cond_true]
   have f:=jg0.2 (show 1<=gscW s/\1<=gscH s/\gscW s * gscH s<=16777216 from ⟨by omega,by omega,by omega⟩)
   have g:=q46 (c1:=0) (c2:=0) f M.1 rfl rfl M.1 M.1
   refine ⟨g.1,q47 g.2.1 ?_⟩
   rw [qc9 f rfl]
   have m0:=ji1.1 M.1
   exact qe9.2 ⟨Int.le_refl _,m0.1,m0.1,Int.le_refl _,Int.le_refl _⟩
 ·show 0<=lenO (gstF s (lenO (gstB s (gstE s))))/\lenO (gstF s (lenO (gstB s (gstE s))))<=100
  have:=f2 f4
  omega
theorem fr_W {s:Sc} (h:scW s) (k:Int) (f:Int->Ov) (hk:k<=4096) (m:Int) (g:Int->Im) (hm:m<=64):frV ⟨s.b,s.x0,s.y0,s.x1,s.y1,s.tw,s.th,s.on,s.ol,m,g,k,f⟩=0:=by
 obtain ⟨⟨a,b,c,d⟩,_⟩:=h
 show (bif smOk s.b then bif plcB s.x0 s.y0 s.x1 s.y1 then bif tiB s.x0 s.y0 s.x1 s.y1 s.tw s.th then bif ordB s.on s.ol (tiX s.x0 s.y0 s.x1 s.y1 s.tw s.th * tiY s.x0 s.y0 s.x1 s.y1 s.tw s.th) then bif ile m 64 && ile k 4096 then 0 else 5 else 4 else 3 else 2 else 1)=_
 rw [a,b,c,d,jb4 hm,jb4 hk];rfl
end Go.Proofs.YthkidembkknoeaaDoor
namespace Go.Proofs.YthkidembkknoeaaDoor
open Go.RowKit PR QR
set_option linter.unusedVariables false
set_option linter.unusedSimpArgs false
set_option maxRecDepth 20000
theorem y51 (n:Int) (f:Int->Rw):jy3 n (vw8 f):=λ i j hi hj=>by
 have hj':j=0\/j=1\/j=2\/j=3\/j=4\/j=5\/j=6\/j=7\/j=8\/j=9\/j=10:=by omega
 rcases hj' with rfl | rfl | rfl | rfl | rfl | rfl | rfl | rfl | rfl | rfl | rfl <;> exact .v _
theorem vl4 (s:Sc):∀n:Nat,(∀i:Int,0<=i->i < n->vopI s i=0)->vsE s n=none
 | 0,_=>rfl
 | n + 1,h=>by
  have a:=vl4 s n λ i a b=>h i a (by omega)
  have e:=yh8 s (i:=(n:Int)) (by omega) (by rw [Int.toNat_natCast];exact a)
  rw [show ((n:Int) + 1).toNat=n + 1 by omega,h n (by omega) (by omega)] at e
  exact e
end Go.Proofs.YthkidembkknoeaaDoor
