import Derived.Test.YthkidembkknoeaaDoorPk11
import Derived.Test.YthkidembkknoeaaDoorPk21
namespace Go.Proofs.YthkidembkknoeaaDoor
open Go.RowKit PR QR
set_option linter.unusedVariables false
set_option linter.unusedSimpArgs false
set_option maxRecDepth 20000
theorem igtN (a b:Int):igt a b=!(ile a b):=by unfold igt ile;rw [← decide_not];exact decide_eq_decide.2 (by omega)
theorem igeN (a b:Int):ige a b=!(ilt a b):=by unfold ige ilt;rw [← decide_not];exact decide_eq_decide.2 (by omega)
theorem igeL (a b:Int):ige a b=ile b a:=rfl
theorem ineN (a b:Int):ine a b=!(ieq a b):=rfl
theorem q47 (b:Bool):bnot b=!b:=by cases b <;> rfl
theorem y82 (a b:Bool):band a b=(a && b):=by cases a <;> cases b <;> rfl
theorem y83 (n:Int):jg1 n=(ile (-1048576) n && ile n 1048576):=by
  unfold jg1 ile
  rw [← Bool.decide_and]
theorem ya8:ja6 57 jx2:=by
  intro al ans h hq
  unfold jx2 at h
  split at h <;> try (simp at h;done)
  rename_i n
  simp only [Option.some.injEq] at h
  subst h
  have hq:=asked hq
  refine QR.ja2 (O:=(QR.orc [])) QR.jb4 mixed (QR.ja4) Tryd.func57 (by kernel_rfl) (by kernel_rfl) (by simp) ?_
  rw [yj9]
  simp only [ja1,jb5,eqXs,eqX,eqo,eqLo,eqc,veq,eqUs,true_and,and_true,y83,igeL]
  cases ile (-1048576) n <;> simp
theorem yy8:ja6 39 q40:=by
  intro al ans h hq
  unfold q40 at h
  split at h <;> try (simp at h;done)
  rename_i n
  simp only [Option.some.injEq] at h
  subst h
  have hq:=asked hq
  refine QR.ja2 (O:=(QR.orc [])) QR.jb4 mixed (QR.ja4) Tryd.func39 (by kernel_rfl) (by kernel_rfl) (by simp) ?_
  rw [y81]
  have e:ilt n (-1048576)=!(ile (-1048576) n):=by unfold ilt ile;rw [← decide_not];exact decide_eq_decide.2 (by omega)
  simp only [ja1,jb5,eqXs,eqX,eqo,eqLo,eqc,veq,eqUs,true_and,and_true,y83,igtN,e,q47]
  cases ile (-1048576) n <;> simp
theorem ze4 {a b c d:Int} (h:plcB a b c d=true):reB a b c d=false∧(c - a) * (d - b)≤16777216∧jg1 a=true∧jg1 b=true:=by
  unfold plcB at h
  simp only [Bool.and_eq_true,decide_eq_true_eq] at h
  exact ⟨h.1.1,h.1.2,h.2.1,h.2.2⟩
theorem ze5 {a b c d:Int}:plcB a b c d=(!(reB a b c d) && (ile (raV a b c d) 16777216 && (jg1 a && jg1 b))):=by
  unfold plcB raV
  cases h:reB a b c d
  · simp [ile]
  · simp
theorem y84 {a b c d:Int}:igt (raV a b c d) 0=!(reB a b c d):=by
  unfold raV
  cases h:reB a b c d
  · obtain ⟨_,h1,h2⟩:=re_f.1 h
    have:=Int.mul_pos (show 0 < c - a by omega) (show 0 < d - b by omega)
    simp [igt,this]
  · simp [igt]
theorem yy9:ja6 32 q41:=by
  intro al ans h hq
  unfold q41 at h
  split at h <;> try (simp at h;done)
  rename_i a b c d
  simp only [Option.some.injEq] at h
  subst h
  have hq:=asked hq
  refine QR.ja2 (O:=vi6) (QR.ja3 yw9 (QR.ja3 ya8 QR.jb4)) mixed (QR.ja4) Tryd.func32 (by kernel_rfl) (by kernel_rfl) (by simp) ?_
  rw [yk0]
  simp only [ja1,jb5,eqXs,eqX,eqo,eqLo,eqc,veq,eqUs,true_and,and_true,forall_eq,ze5,y84]
  cases reB a b c d <;> cases ile (raV a b c d) 16777216 <;> cases jg1 a <;> simp
theorem ya9 (m:Int) (l:Int→Int) (n:Int) (hm:ile 0 m=true) (A:List Prop):jk0 Tryd.prog 34 [.x (.c (.slc 1 m (.fn fun i _=>.v (.int .i64 (l i))))),.x (.c (.v (.int .i64 n)))] ⟨[.c (.v (.bool (ordB m l n)))],[],A⟩:=by
  refine QR.ja2 (O:=vi7) (QR.ja3 yn0 QR.jb4) mixed QR.ja4 Tryd.func34 (by kernel_rfl) (by kernel_rfl) (by simp) ?_
  rw [yk1]
  have W:intRow .i64 1 m (.fn fun i _=>.v (.int .i64 (l i))):=ji7 _ _ _
  simp only [ja1,jb5,eqXs,eqX,eqo,eqLo,eqc,veq,eqUs,true_and,and_true,forall_eq,ordB]
  refine ⟨fun c=>by rw [c];rfl,fun c=>⟨⟨W,hm⟩,by rw [c];rfl⟩⟩
theorem yz0:ja6 34 q42:=by
  intro al ans hh hq
  unfold q42 at hh
  split at hh <;> try (simp at hh;done)
  rename_i c n
  cases e:jf4 1 c with
  | none=>rw [e] at hh;simp at hh
  | some p =>
    obtain ⟨m,r⟩:=p
    rw [e] at hh
    simp only [Option.some.injEq] at hh
    subst hh
    obtain ⟨hr,hm,_⟩:=asked hq
    exact jd4 (al':=[.x (.c (.slc 1 m (.fn fun i _=>.v (.int .i64 (intC (den r i 0)))))),.x (.c (.v (.int .i64 n)))]) ⟨qd9 e hr,.v _,trivial⟩ (ya9 _ _ _ hm _)
theorem yb0 {a b c d w h:Int} (k:tiB a b c d w h=true) (p:plcB a b c d=true):(1≤tiX a b c d w h * tiY a b c d w h∧tiX a b c d w h * tiY a b c d w h≤16777216)∧imul .i64 (tiX a b c d w h) (tiY a b c d w h)=tiX a b c d w h * tiY a b c d w h:=by
  have f:=yl9 k
  have g:=ym0 k
  obtain ⟨_,⟨w1,w2⟩,h1,h2⟩:=y04 k
  have d1:=(jl2 w1 w2).1
  have d2:=(jl2 h1 h2).1
  rw [← f] at d1
  rw [← g] at d2
  have m1:=Int.mul_le_mul d1.2 d2.2 (by omega) (by omega)
  have m2:=Int.mul_le_mul d1.1 d2.1 (by omega) (by omega)
  have q:=(ze4 p).2.1
  refine ⟨⟨by omega,by omega⟩,IntWalk.i64_in _ (by omega)⟩
theorem ze6 {l:Int→Int} {n:Int} (h:1≤n∧n≤16777216):orB 0 (fun i _=>l i) n=true:=by
  refine qg4.2 ⟨⟨by omega,by omega⟩,Or.inl rfl,⟨by omega,by omega⟩,fun j j0 j1=>?_⟩
  simp only [vt1]
  exact ⟨⟨j0,j1⟩,fun k k0 k1=>by omega⟩
theorem y85 {m:Int} {l:Int→Int} {n:Int} (h:1≤n∧n≤16777216):orB m (fun i _=>l i) n=ordB m l n:=by
  unfold ordB
  cases c:ieq m 0
  · rfl
  · obtain rfl:=of_decide_eq_true c
    exact ze6 h
theorem yk6 (s:Sc) (h0:0≤s.on) (A:List Prop):jk0 Tryd.prog 15 [.x (.agg (ji8 s))] ⟨[.c (.v (.int .i64 (frV s)))],[],A⟩:=by
  refine QR.ja2 (O:=ya5) (QR.ja3 vj8 (QR.ja3 yy9 (QR.ja3 ym5 (QR.ja3 yz0 QR.jb4)))) mixed QR.ja4 Tryd.func15 (by kernel_rfl) (by kernel_rfl) (by simp) ?_
  rw [yy4]
  have VT:∀e,frV s=e→jb5 ⟨[.c (.v (.int .i64 (frV s)))],[],A⟩ [.c (.v (.int .i64 e))] []:=fun e h=>by rw [h];simp [jb5,eqXs,eqX,eqo,eqLo,eqc,veq,eqUs]
  generalize jb5 ⟨[.c (.v (.int .i64 (frV s)))],[],A⟩=V at *
  simp only [forall_eq,true_and,and_true,implies_true,ja1,q47,igtN]
  have W:intRow .i64 1 s.on (.fn fun i _=>.v (.int .i64 (s.ol i))):=ji7 _ _ _
  have le:=jb1 h0
  unfold frV at VT
  refine ⟨fun c=>VT _ (by simp_all),fun c1=>⟨fun c=>VT _ (by simp_all),fun c2=>⟨fun c=>VT _ (by simp_all),fun c3=>⟨⟨W,le⟩,?_⟩⟩⟩⟩
  have c2:plcB s.x0 s.y0 s.x1 s.y1=true:=by simpa using c2
  have c3:tiB s.x0 s.y0 s.x1 s.y1 s.tw s.th=true:=by simpa using c3
  have m:=(yb0 c3 c2).2
  refine ⟨fun c=>VT _ ?_,fun c4=>⟨fun c=>VT _ ?_,fun c5=>⟨fun c=>VT _ ?_,fun c6=>VT _ ?_⟩⟩⟩
  all_goals (try rw [m] at c);(try rw [m] at c4);simp_all
theorem yb1:ja6 15 qi9:=by
  intro al ans h hq
  unfold qi9 at h
  split at h <;> try (simp at h;done)
  rename_i l
  cases e:ji1 l with
  | none=>simp [e] at h
  | some p =>
    obtain ⟨s,A⟩:=p
    rw [e] at h
    simp only [Option.some.injEq] at h
    subst h
    obtain ⟨q,h4,h5,h6⟩:=qr5 e hq
    exact jd4 (al':=[.x (.agg (ji8 s))]) ⟨q,trivial⟩ (yk6 s h4 _)
theorem q48 {l:List CV} {o:Ov} (h:jt0 l=some o):l=jt1 o:=by
  unfold jt0 at h
  split at h <;> simp at h
  subst h;rfl
theorem vn6 (a:Bool):beq' a false=!a:=by cases a <;> rfl
theorem yk7 (a:Bool):beq' a a=true:=by cases a <;> rfl
theorem yz1 (a:Int):ieq a a=true:=by simp [ieq]
theorem yq6 {o:Ov}:decide (o.im=0∧o.x=0∧o.y=0∧o.msk=0∧o.mx=0∧o.my=0∧o.op=0∧o.opr=0∧o.md=0)=(ieq o.im 0 && (ieq o.x 0 && (ieq o.y 0 && (ieq o.msk 0 && (ieq o.mx 0 && (ieq o.my 0 && (ieq o.op 0 && (ieq o.opr 0 && ieq o.md 0)))))))):=by
  simp only [Bool.decide_and];rfl
theorem yb2 {o:Ov}:decide (o.im=0∧o.x=0∧o.y=0)=(ieq o.im 0 && (ieq o.x 0 && ieq o.y 0)):=by
  simp only [Bool.decide_and];rfl
theorem yb3 {o:Ov}:decide (o.msk=0→o.mx=0∧o.my=0)=(!(ieq o.msk 0) || (ieq o.mx 0 && ieq o.my 0)):=by
  unfold ieq
  rw [Bool.eq_iff_iff]
  simp only [decide_eq_true_eq,Bool.or_eq_true,Bool.not_eq_true',beq_eq_false_iff_ne,Bool.and_eq_true,beq_iff_eq]
  omega
theorem y86:ja6 41 vn4:=by
  intro al ans h hq
  unfold vn4 at h
  split at h <;> try (simp at h;done)
  rename_i l
  cases e:jt0 l with
  | none=>simp [e] at h
  | some o =>
    rw [e] at h
    simp only [Option.some.injEq] at h
    subst h
    rw [q48 e]
    obtain ⟨k1,k3,_⟩:=asked hq
    refine QR.ja2 (O:=QR.orc []) QR.jb4 mixed QR.ja4 Tryd.func41 (by kernel_rfl) (by kernel_rfl) (by simp) ?_
    rw [yy5]
    simp only [ja1,jb5,eqXs,eqX,eqo,eqLo,eqc,veq,eqUs,true_and,and_true,uzB,yq6,yb2,yb3,y82,ineN,vn6]
    have k1:=je6 k1
    have k3:=je6 k3
    rcases (by omega:o.kd=1∨o.kd=2∨o.kd=3) with q | q | q <;> rw [q]
    · cases o.iso <;> cases o.kno <;> cases ieq o.msk 0 <;> cases ieq o.mx 0 <;> simp [ieq]
    · cases ieq o.im 0 <;> cases ieq o.x 0 <;> cases ieq o.y 0 <;> cases ieq o.msk 0 <;> cases ieq o.mx 0 <;> simp [ieq]
    · simp [ieq,Bool.and_assoc]
theorem yz2:ja6 43 q43:=by
  intro al ans h hq
  unfold q43 at h
  split at h <;> try (simp at h;done)
  rename_i l
  cases e:jt0 l with
  | none=>simp [e] at h
  | some o =>
    rw [e] at h
    simp only [Option.some.injEq] at h
    subst h
    rw [q48 e]
    obtain ⟨k1,k3,_⟩:=asked hq
    refine QR.ja2 (O:=QR.orc []) QR.jb4 mixed QR.ja4 Tryd.func43 (by kernel_rfl) (by kernel_rfl) (by simp) ?_
    rw [yk2]
    simp only [ja1,jb5,eqXs,eqX,eqo,eqLo,eqc,veq,eqUs,true_and,and_true,uzB,yq6,yb2,yb3,y82,ineN,vn6,yk7,yz1,q47]
    have k1:=je6 k1
    have k3:=je6 k3
    rcases (by omega:o.kd=1∨o.kd=2∨o.kd=3) with q | q | q <;> rw [q]
    · cases o.iso <;> cases o.kno <;> cases ieq o.msk 0 <;> cases ieq o.mx 0 <;> simp [ieq]
    · cases ieq o.im 0 <;> cases ieq o.x 0 <;> cases ieq o.y 0 <;> cases ieq o.msk 0 <;> cases ieq o.mx 0 <;> simp [ieq]
    · simp [ieq,Bool.and_assoc]
theorem y87 {o:Ov} {n:Int}:refB o n=((!(ieq o.kd 1) || (ile 0 o.im && ilt o.im n)) && (ile 0 o.msk && ile o.msk n)):=by
  unfold refB ieq ile ilt
  rw [Bool.eq_iff_iff]
  simp only [decide_eq_true_eq,Bool.or_eq_true,Bool.not_eq_true',beq_eq_false_iff_ne,Bool.and_eq_true,beq_iff_eq]
  omega
theorem iltN (a b:Int):ilt a b=!(ile b a):=by unfold ilt ile;rw [← decide_not];exact decide_eq_decide.2 (by omega)
theorem yz3:ja6 67 q44:=by
  intro al ans h hq
  unfold q44 at h
  split at h <;> try (simp at h;done)
  rename_i l n
  cases e:jt0 l with
  | none=>simp [e] at h
  | some o =>
    rw [e] at h
    simp only [Option.some.injEq] at h
    subst h
    rw [q48 e]
    refine QR.ja2 (O:=QR.orc []) QR.jb4 mixed QR.ja4 Tryd.func67 (by kernel_rfl) (by kernel_rfl) (by simp) ?_
    rw [yk3]
    simp only [ja1,jb5,eqXs,eqX,eqo,eqLo,eqc,veq,eqUs,true_and,and_true,y87,igeN,iltN]
    cases ieq o.kd 1 <;> cases ile 0 o.im <;> cases ile n o.im <;> cases ile 0 o.msk <;> simp
theorem yb4 (k:Int) (g:Int→Ov) (h0:0≤k) (hk:k≤9223372036854775807) (A:List Prop):jk0 Tryd.prog 70 [.x (.c (.slc 12 k (je8 g)))] ⟨[.c (.v (.bool (anyB k (jl6 g k))))],[],A⟩:=by
  refine QR.ja2 (O:=QR.orc []) QR.jb4 mixed QR.ja4 Tryd.func70 (by kernel_rfl) (by kernel_rfl) (by simp) ?_
  rw [yk4]
  simp only [ja1,jb5,eqXs,eqX,eqo,eqLo,eqc,veq,eqUs,true_and,and_true,forall_eq,anyB,jl6]
  refine ⟨fun c=>by rw [c];rfl,fun c=>?_⟩
  have c1:=je7 c
  have s1:isub .i64 k 1=k - 1:=IntWalk.i64_in _ (by omega)
  rw [s1,c,cond_false]
  refine ⟨⟨jb1 (by omega),jg9 (by omega)⟩,fun d=>?_,fun d=>?_⟩ <;> rw [d] <;> simp [q47]
theorem yz4:ja6 70 q45:=by
  intro al ans h hq
  unfold q45 at h
  split at h <;> try (simp at h;done)
  rename_i c
  cases e:jf4 12 c with
  | none=>simp [e] at h
  | some p =>
    obtain ⟨k,r⟩:=p
    rw [e] at h
    simp only [Option.some.injEq] at h
    subst h
    obtain ⟨hr,h0,h1,_⟩:=asked hq
    exact jd4 (al':=[.x (.c (.slc 12 k (je8 (ovAt r))))]) ⟨jl1 e (by decide) hr,trivial⟩ (yb4 k (ovAt r) (je6 h0) (je6 h1) _)
theorem yz5 (m:Int):seqB (qj4 m) (bs [])=!(decide (1≤m∧m≤12)):=by
  have:=qq6 (m:=m)
  rw [q47] at this
  rw [show opB m=decide (1≤m∧m≤12) from rfl] at this
  rw [← this,Bool.not_not]
theorem yz6 (m:Int):seqB (qd5 m) (bs [])=!(decide (1≤m∧m≤12)):=by
  have:=qq5 (m:=m)
  rw [q47] at this
  rw [← this,Bool.not_not]
theorem yk8 (o:Ov) (s:Sc) (k:Int) (g:Int→Ov) (h0:0≤k) (hk:k≤9223372036854775807) (A:List Prop):jk0 Tryd.prog 42 [.x (.agg (jt1 o)),.x (.agg (ji8 s)),.x (.c (.slc 12 k (je8 g)))] ⟨[.c (.v (.int .i64 (elE s.b s.mn o k (jl6 g k))))],[],A⟩:=by
  refine QR.ja2 (O:=ya6) (QR.ja3 vj8 (QR.ja3 yz3 (QR.ja3 ya8 (QR.ja3 yv4 (QR.ja3 yv0 (QR.ja3 yz4 QR.jb4)))))) mixed QR.ja4 Tryd.func42 (by kernel_rfl) (by kernel_rfl) (by simp) ?_
  rw [yy6]
  have VT:∀e,elE s.b s.mn o k (jl6 g k)=e→jb5 ⟨[.c (.v (.int .i64 (elE s.b s.mn o k (jl6 g k))))],[],A⟩ [.c (.v (.int .i64 e))] []:=fun e h=>by rw [h];simp [jb5,eqXs,eqX,eqo,eqLo,eqc,veq,eqUs]
  generalize jb5 ⟨[.c (.v (.int .i64 (elE s.b s.mn o k (jl6 g k))))],[],A⟩=V at *
  have O:=qg2 k g
  have z0:=jb1 h0
  have z1:=jb1 hk
  simp only [forall_eq,true_and,and_true,implies_true,ja1,q47,igtN,igeL,ineN,yz5,yz6]
  unfold elE at VT
  rw [show (fun i=>g i)=g from rfl]
  generalize jl6 g k=q at *
  generalize decide (1≤o.opr∧o.opr≤12)=bo at *
  generalize decide (1≤o.md∧o.md≤12)=bm at *
  refine ⟨fun c=>VT _ (by simp_all),fun c1=>⟨fun c=>VT _ (by simp_all),fun c2=>⟨fun c=>VT _ (by simp_all),fun c3=>⟨fun c=>VT _ (by simp_all),fun c4=>⟨fun c=>VT _ (by simp_all),fun c5=>⟨fun c=>VT _ (by simp_all),fun c6=>⟨fun c=>VT _ (by simp_all),fun c7=>⟨fun c=>VT _ (by simp_all),fun c8=>?_⟩⟩⟩⟩⟩⟩⟩⟩
  refine ⟨fun c9=>⟨⟨O,z0,z1⟩,fun c=>VT _ (by simp_all),fun c10=>⟨fun c11=>⟨fun c=>VT _ (by simp_all),fun c=>VT _ (by simp_all)⟩,fun c=>VT _ (by simp_all)⟩⟩,fun c9=>⟨fun c11=>⟨fun c=>VT _ (by simp_all),fun c=>VT _ (by simp_all)⟩,fun c=>VT _ (by simp_all)⟩⟩
theorem yz7 {l:List CV} {s:Sc} {A:List Prop} {c:CV} {k:Int} {r:QR.Row} (e:ji1 l=some (s,A)) (e2:jf4 12 c=some (k,r)) (hA:∀p∈A,p) (hr:ja8 k r):eqCs l (ji8 s)∧EqC c (.slc 12 k (je8 (ovAt r)))∧0≤s.on∧0≤s.mn∧0≤s.pn:=by
  obtain ⟨q,h4,h5,h6⟩:=qr5 e hA
  exact ⟨q,jl1 e2 (by decide) hr,h4,h5,h6⟩
theorem y88:ja6 42 vn5:=by
  intro al ans h hq
  unfold vn5 at h
  split at h <;> try (simp at h;done)
  rename_i q l c
  split at h <;> try (simp at h;done)
  rename_i o s A k r e1 e2 e3
  simp only [Option.some.injEq] at h
  subst h
  obtain ⟨hr,h0,h1,hA⟩:=ya4 hq
  obtain ⟨q1,q2,h4,h5,h6⟩:=yz7 e2 e3 hA hr
  rw [q48 e1]
  exact jd4 (al':=[.x (.agg (jt1 o)),.x (.agg (ji8 s)),.x (.c (.slc 12 k (je8 (ovAt r))))]) ⟨⟨.v _,.v _,.v _,.v _,.v _,.v _,.v _,.v _,.v _,.v _,.v _,.v _,trivial⟩,q1,q2,trivial⟩ (yk8 o s k (ovAt r) (je6 h0) (je6 h1) _)
theorem yk9 (s:Sc) (i k:Int) (g:Int→Ov) (h0:0≤k) (hk:k≤9223372036854775807) (ho:0≤s.on) (hm:0≤s.mn) (hp:0≤s.pn) (A:List Prop):jk0 Tryd.prog 21 [.x (.agg (ji8 s)),.x (.c (.v (.int .i64 i))),.x (.c (.slc 12 k (je8 g)))] ⟨[.c (.v (.int .i64 (opV s i k g)))],[],A⟩:=by
  refine QR.ja2 (O:=ya7) (QR.ja3 y86 (QR.ja3 y88 QR.jb4)) mixed QR.ja4 Tryd.func21 (by kernel_rfl) (by kernel_rfl) (by simp) ?_
  rw [yy7]
  delta zz942
  have VT:∀e,opV s i k g=e→jb5 ⟨[.c (.v (.int .i64 (opV s i k g)))],[],A⟩ [.c (.v (.int .i64 e))] []:=fun e h=>by rw [h];simp [jb5,eqXs,eqX,eqo,eqLo,eqc,veq,eqUs]
  generalize jb5 ⟨[.c (.v (.int .i64 (opV s i k g)))],[],A⟩=V at *
  have AE:ja8 k (je8 g)∧ile 0 k=true∧ile k 9223372036854775807=true∧intRow .i64 1 s.on (.fn fun i _=>.v (.int .i64 (s.ol i)))∧jc5 s.mn (jg4 s.ml)∧ja8 s.pn (je8 s.pl)∧ile 0 s.on=true∧ile 0 s.mn=true∧ile 0 s.pn=true:=⟨qg2 k g,jb1 h0,jb1 hk,ji7 _ _ _,vd9 _ _,qg2 _ _,jb1 ho,jb1 hm,jb1 hp⟩
  simp only [forall_eq,true_and,and_true,implies_true,ja1,q47,igtN,igeN,ineN]
  rw [show (fun i=>g i)=g from rfl]
  unfold opV at VT
  have E:∀a:Int,0≤i→i < s.pn→(∀e,opE s.b s.mn (s.pl i) k (jl6 g k)=e→V [.c (.v (.int .i64 e))] []):=fun _ a b e he=>VT e (by rw [decide_eq_true ⟨a,b⟩,cond_true];exact he)
  refine ⟨fun c=>VT _ ?_,fun c0=>⟨fun c=>VT _ ?_,fun c1=>?_⟩⟩
  · rw [decide_eq_false (by have:=of_decide_eq_true c;omega)];rfl
  · rw [decide_eq_false (by have:=jy7 (by simpa using c);omega)];rfl
  have i0:0≤i:=jy7 c0
  have i1:i < s.pn:=jh6 (by simpa using c1)
  have E:=E 0 i0 i1
  have body:(1≤(s.pl i).kd∧(s.pl i).kd≤3)→(ile 1 (s.pl i).kd=true∧ile (s.pl i).kd 3=true)∧((!(uzB (s.pl i)))=true→V [.c (.v (.int .i64 10))] [])∧((!(uzB (s.pl i)))=false→((!(ieq (s.pl i).kd 3))=true→(ja8 k (je8 g)∧ile 0 k=true∧ile k 9223372036854775807=true∧intRow .i64 1 s.on (.fn fun i _=>.v (.int .i64 (s.ol i)))∧jc5 s.mn (jg4 s.ml)∧ja8 s.pn (je8 s.pl)∧ile 0 s.on=true∧ile 0 s.mn=true∧ile 0 s.pn=true)∧V [.c (.v (.int .i64 (elE s.b s.mn (s.pl i) k (jl6 g k))))] [])∧((!(ieq (s.pl i).kd 3))=false→(ieq k 0=true→V [.c (.v (.int .i64 18))] [])∧(ieq k 0=false→V [.c (.v (.int .i64 0))] []))):=by
    intro kd
    unfold opE at E
    rw [decide_eq_true kd,cond_true] at E
    refine ⟨⟨jb1 kd.1,jb1 kd.2⟩,fun c=>E _ (by simp_all),fun c1=>⟨fun c2=>⟨AE,E _ (by simp_all)⟩,fun c2=>⟨fun c3=>E _ (by simp_all),fun c3=>E _ (by simp_all)⟩⟩⟩
  refine ⟨⟨jb1 i0,jg9 i1⟩,fun d1=>⟨fun d2=>⟨fun d3=>E _ ?_,fun d3=>body ?_⟩,fun d2=>body ?_⟩,fun d1=>body ?_⟩
  · have d1:=je7 (by simpa using d1)
    have d2:=je7 (by simpa using d2)
    have d3:=je7 (by simpa using d3)
    unfold opE
    rw [decide_eq_false (by omega)];rfl
  · have:=jd7 (show ieq (s.pl i).kd 3=true by simpa using d3);omega
  · have:=jd7 (show ieq (s.pl i).kd 2=true by simpa using d2);omega
  · have:=jd7 (show ieq (s.pl i).kd 1=true by simpa using d1);omega
theorem yb5:ja6 21 jy8:=by
  intro al ans h hq
  unfold jy8 at h
  split at h <;> try (simp at h;done)
  rename_i l i c
  split at h <;> try (simp at h;done)
  rename_i s A k r e2 e3
  simp only [Option.some.injEq] at h
  subst h
  obtain ⟨hr,h0,h1,hA⟩:=ya4 hq
  obtain ⟨q1,q2,h4,h5,h6⟩:=yz7 e2 e3 hA hr
  exact jd4 (al':=[.x (.agg (ji8 s)),.x (.c (.v (.int .i64 i))),.x (.c (.slc 12 k (je8 (ovAt r))))]) ⟨q1,.v _,q2,trivial⟩ (yk9 s i k (ovAt r) (je6 h0) (je6 h1) h4 h5 h6 _)
theorem yb6 (s:Sc) (i k:Int) (g:Int→Ov) (h0:0≤k) (hk:k≤9223372036854775807) (A:List Prop):jk0 Tryd.prog 22 [.x (.agg (ji8 s)),.x (.c (.v (.int .i64 i))),.x (.c (.slc 12 k (je8 g)))] ⟨[.c (.v (.int .i64 (opV s i k g)))],[],A⟩:=by
  refine QR.ja2 (O:=vi8) (QR.ja3 yz2 (QR.ja3 yn3 (QR.ja3 yy8 (QR.ja3 y66 (QR.ja3 yi2 QR.jb4))))) mixed QR.ja4 Tryd.func22 (by kernel_rfl) (by kernel_rfl) (by simp) ?_
  rw [yk5]
  have VT:∀e,opV s i k g=e→jb5 ⟨[.c (.v (.int .i64 (opV s i k g)))],[],A⟩ [.c (.v (.int .i64 e))] []:=fun e h=>by rw [h];simp [jb5,eqXs,eqX,eqo,eqLo,eqc,veq,eqUs]
  generalize jb5 ⟨[.c (.v (.int .i64 (opV s i k g)))],[],A⟩=V at *
  have kn:∀m:Int,band (ige m 1) (ile m 12)=decide (1≤m∧m≤12):=fun m=>vz2
  simp only [forall_eq,true_and,and_true,implies_true,ja1,kn]
  simp only [q47,igtN,igeN,ineN,iltN,Bool.not_not]
  unfold opV at VT
  have E:(∀e,0≤i→i < s.pn→opE s.b s.mn (s.pl i) k (jl6 g k)=e→V [.c (.v (.int .i64 e))] []):=fun e a b he=>VT e (by rw [decide_eq_true ⟨a,b⟩,cond_true];exact he)
  refine ⟨fun c=>VT _ ?_,fun c0=>⟨fun c=>VT _ ?_,fun c1=>?_⟩⟩
  · rw [decide_eq_false (by have:=of_decide_eq_false (show ile 0 i=false by simpa using c);omega)];rfl
  · rw [decide_eq_false (by have:=je6 c;omega)];rfl
  have i0:0≤i:=je6 (by simpa using c0)
  have i1:i < s.pn:=by have:=of_decide_eq_false c1;omega
  have E:=fun e=>E e i0 i1
  refine ⟨⟨jb1 i0,by rw [show ile s.pn i=false from c1];rfl⟩,fun c=>E _ ?_,fun c2=>⟨fun c=>E _ ?_,fun c3=>?_⟩⟩
  · unfold opE
    rw [decide_eq_false (by have:=of_decide_eq_false (show ile 1 (s.pl i).kd=false by simpa using c);omega)];rfl
  · unfold opE
    rw [decide_eq_false (by have:=of_decide_eq_false (show ile (s.pl i).kd 3=false by simpa using c);omega)];rfl
  have k1:1≤(s.pl i).kd:=je6 (by simpa using c2)
  have k3:(s.pl i).kd≤3:=je6 (by simpa using c3)
  unfold opE at E
  rw [decide_eq_true (show 1≤(s.pl i).kd∧(s.pl i).kd≤3 from ⟨k1,k3⟩),cond_true] at E
  refine ⟨⟨jb1 k1,jb1 k3⟩,fun c=>E _ (by simp_all),fun c4=>⟨fun c5=>⟨fun c=>E _ (by simp_all),fun c=>E _ (by simp_all)⟩,fun c5=>?_⟩⟩
  have c4:uzB (s.pl i)=true:=by simpa using c4
  rw [c4,cond_true,c5,cond_false] at E
  have R:=y87 (o:=s.pl i) (n:=s.mn)
  simp only [iltN] at R
  have K:ieq k 0=ile k 0:=by unfold ieq ile;rw [Bool.eq_iff_iff];simp;omega
  unfold elE anyB at E
  rw [R,K] at E
  clear VT R K kn
  refine (fun (T:(!(ieq (s.pl i).kd 1) || (ile 0 (s.pl i).im && !(ile s.mn (s.pl i).im)))=true→_)=>⟨fun c=>⟨fun d=>E _ (by simp_all),fun d=>⟨fun d=>E _ (by simp_all),fun d2=>T (by simp_all)⟩⟩,fun c=>T (by simp_all)⟩) ?ex
  intro t
  rw [t,Bool.true_and] at E
  clear c2 c3 c4 c5 t
  refine ⟨fun c=>E _ (by simp_all),fun c1=>⟨fun c=>E _ (by simp_all),fun c2=>?_⟩⟩
  rw [show (ile 0 (s.pl i).msk && ile (s.pl i).msk s.mn)=true by simp_all,cond_true] at E
  clear c1 c2
  refine ⟨fun c=>E _ (by simp_all),fun c1=>⟨fun c=>E _ (by simp_all),fun c2=>⟨fun c=>E _ (by simp_all),fun c3=>⟨fun c=>E _ (by simp_all),fun c4=>?_⟩⟩⟩⟩
  rw [show (jg1 (s.pl i).x && jg1 (s.pl i).y && jg1 (s.pl i).mx && jg1 (s.pl i).my)=true by simp_all,cond_true] at E
  clear c1 c2 c3 c4
  generalize decide (1≤(s.pl i).opr∧(s.pl i).opr≤12)=bo at *
  generalize decide (1≤(s.pl i).md∧(s.pl i).md≤12)=bm at *
  refine ⟨fun c=>E _ (by simp_all),fun c1=>⟨fun c=>E _ (by simp_all),fun c2=>⟨fun c=>E _ (by simp_all),fun c3=>?_⟩⟩⟩
  rw [show ile (s.pl i).op (smV s.b)=true by simp_all,show bo=true by simp_all,show bm=true by simp_all,cond_true,cond_true,cond_true] at E
  clear c1 c2 c3
  refine (fun (T:(ieq (s.pl i).opr 4 || bif ile k 0 then true else (jl6 g k).iso && !(jl6 g k).kno)=true→_)=>⟨fun c=>⟨fun d=>?_,fun d=>T (by simp_all)⟩,fun c=>T (by simp_all)⟩) ?ex2
  · intro t
    rw [t,cond_true] at E
    refine ⟨fun c=>⟨fun d=>E _ (by simp_all),fun d=>E _ (by simp_all)⟩,fun c=>E _ (by simp_all)⟩
  · have d:=of_decide_eq_false (show ile k 0=false by simpa using d)
    have s1:isub .i64 k 1=k - 1:=IntWalk.i64_in _ (by omega)
    have l0:ile 0 (k - 1)=true:=jb1 (by omega)
    have l1:(!(ile k (k - 1)))=true:=by rw [show ile k (k - 1)=false from decide_eq_false (by omega)];rfl
    have l2:ile k 0=false:=decide_eq_false d
    rw [s1]
    have e1:jl6 g k=g (k - 1):=rfl
    rw [e1] at E T
    refine ⟨fun c1=>⟨⟨l0,l1⟩,E _ (by simp_all)⟩,fun c1=>⟨⟨l0,l1,l0,l1⟩,fun c2=>E _ (by simp_all),fun c2=>T (by simp_all)⟩⟩
theorem yb7:ja6 22 jy8:=by
  intro al ans h hq
  unfold jy8 at h
  split at h <;> try (simp at h;done)
  rename_i l i c
  split at h <;> try (simp at h;done)
  rename_i s A k r e2 e3
  simp only [Option.some.injEq] at h
  subst h
  obtain ⟨hr,h0,h1,hA⟩:=ya4 hq
  obtain ⟨q1,q2,h4,h5,h6⟩:=yz7 e2 e3 hA hr
  exact jd4 (al':=[.x (.agg (ji8 s)),.x (.c (.v (.int .i64 i))),.x (.c (.slc 12 k (je8 (ovAt r))))]) ⟨q1,.v _,q2,trivial⟩ (yb6 s i k (ovAt r) (je6 h0) (je6 h1) _)
end Go.Proofs.YthkidembkknoeaaDoor
