import Derived.Test.YthkidembkknoeaaDoorPk11
import Derived.Test.YthkidembkknoeaaDoorPk16
import Derived.Test.YthkidembkknoeaaDoorPk15
namespace Go.Proofs.YthkidembkknoeaaDoor
open Go.RowKit PR QR
set_option linter.unusedVariables false
set_option linter.unusedSimpArgs false
set_option maxRecDepth 20000
theorem zg1 (m:Im):imFt m=bif fitB m.w m.h then (bif imF m then 0 else 7) else 6:=rfl
theorem va_e {m:Im}:vaW m=(bif m.sol then 1 else m.w)∧vaH m=bif m.sol then 1 else m.h:=⟨rfl,rfl⟩
theorem zc0 {m:Im} (f:fitB m.w m.h=true):(1≤vaW m∧vaW m≤m.w)∧1≤vaH m∧vaH m≤m.h:=by
  have f4:=jg6.1 f
  rw [va_e.1,va_e.2]
  cases m.sol <;> simp <;> omega
theorem yr7 {m:Im} {t:Int} (f:fitB m.w m.h=true):qs8 m t=true↔∀x y:Int,0≤x→x < vaW m→0≤y→y < vaH m→pxB m t x y=true:=by
  have f4:=jg6.1 f
  rw [va_e.1,va_e.2]
  cases hs:m.sol
  · exact qt1 f
  · have pb:∀x y,pxB m t x y=pvB m.c0 m.c1 m.c2 m.a m.f t:=fun x y=>by unfold pxB pxV;rw [hs];rfl
    rw [qe5 f hs]
    exact ⟨fun h x y _ _ _ _=>by rw [pb];exact h,fun h=>by have:=h 0 0 (by omega) (by simp) (by omega) (by simp);rwa [pb] at this⟩
theorem y43 {w h:Int} {p:List (List Int)} (hp:qe6 0 0 w h p) (hw:1≤w) {x y:Int} (hx:0≤x∧x < w) (hy:0≤y∧y < h) : [x,y]∈p:=by
  obtain ⟨h1,h2⟩:=hp
  rw [Int.sub_zero,Int.sub_zero] at h1
  have m0:=Int.mul_nonneg hy.1 (show 0≤w by omega)
  have m1:=Int.mul_le_mul_of_nonneg_right (show y≤h - 1 by omega) (show 0≤w by omega)
  have m2:(h - 1) * w=h * w - w:=by rw [Int.sub_mul,Int.one_mul]
  have hl:(y * w + x).toNat < p.length:=by unfold lnI at h1;omega
  have e:=h2 _ _ (List.getElem?_eq_getElem hl)
  have:ye8 0 0 w (y * w + x).toNat=[x,y]:=by
    unfold ye8
    rw [Int.toNat_of_nonneg (by omega),Int.sub_zero,Int.add_comm (y * w),Int.add_mul_emod_self_right,Int.emod_eq_of_lt hx.1 hx.2,Int.add_mul_ediv_right _ _ (by omega),Int.ediv_eq_zero_of_lt hx.1 hx.2,Int.zero_add,Int.zero_add,Int.zero_add]
  rw [this] at e
  rw [← e]
  exact List.getElem_mem hl
theorem zg2 {m:Im} (ok:imOk m=true) {x y:Int} (hx:0≤x∧x < vaW m) (hy:0≤y∧y < vaH m):imIn m x y=true:=by
  have:=zc0 (qx7.1 ok).1
  exact yn7.2 ⟨ok,⟨hx.1,by omega⟩,hy.1,by omega⟩
theorem a_iv:ja6 30 yn4:=by
  intro al ans hh hq
  unfold yn4 at hh
  split at hh <;> try (simp at hh;done)
  rename_i l t
  cases em:jn9 l with
  | none=>simp [em] at hh
  | some pm =>
  obtain ⟨m,Am⟩:=pm
  simp only [em] at hh
  simp only [Option.some.injEq] at hh
  subst hh
  refine jd4 (al':=[.x (.agg (imC m)),.x (.c (.v (.int .u16 t)))]) ⟨qs7 em fun p hp=>hq p (by simp [hp]),.v _,trivial⟩ ?_
  have hq:=asked hq
  refine QR.q36 (O:=yf0) (QR.ja3 yo5 (QR.ja3 y40 (QR.ja3 zb7 (QR.ja3 yd6 (QR.ja3 yo4 QR.jb4))))) mixed ((QR.ja4)) ((fun n=>bif Nat.beq n 7 then some (vf2 m t) else none)) v94 Tryd.func30 (by kernel_rfl) (by kernel_rfl) (by simp) ?_
  rw [yo7]
  delta zz1 zz12 zz44 zz108
  have hG:=hq.1
  have e:imE m t=bif fitB m.w m.h then (bif imF m then (bif qs8 m t then 0 else 8) else 7) else 6:=rfl
  generalize imE m t=b at e ⊢
  have ef:=zg1 m
  cases f:fitB m.w m.h
  · rw [f] at e ef
    simp [qt4,jb5,eqXs,eqX,eqo,eqLo,eqL,eqc,veq,eqUs,ja1,bnot,jk6,hG,f,e,ef,ine]
  cases g:imF m
  · rw [f,g] at e ef
    simp [qt4,jb5,eqXs,eqX,eqo,eqLo,eqL,eqc,veq,eqUs,ja1,bnot,jk6,hG,f,g,e,ef,ine]
  rw [f,g] at e ef
  have ok:=qx7.2 ⟨f,g⟩
  have v1:=zc0 f
  have w1:=qi8 f
  have it:=zb9 (a:=0) (b:=0) (c:=vaW m) (d:=vaH m) ⟨by omega,by omega,by omega⟩ ⟨by omega,by omega,by omega⟩
  simp only [qt4,jb5,eqXs,eqX,eqo,eqLo,eqL,eqc,veq,eqUs,ja1,bnot,jk6,hG,f,g,ef,cond_true,ine,bne_self_eq_false,true_and,and_true,and_self,implies_true,true_implies,reduceCtorEq,false_implies,Bool.not_true,Bool.not_false,forall_eq,or_false,exists_eq_right,exists_eq_right',Bool.false_eq_true]
  refine ⟨it,fun v ⟨x,y,e,_⟩=>(by rw [e];rfl),fun v hv=>(by simp at hv),fun pre v hg hl hv=>?_,fun pre hp hg=>?_⟩
  · obtain ⟨x,y,rfl,hx,hy⟩:=hv
    have hx':nthI [x,y] 0=x:=rfl
    have hy':nthI [x,y] 1=y:=rfl
    rw [hx',hy']
    refine ⟨zg2 ok hx hy,fun h=>?_,fun h u hu=>?_⟩
    · have:qs8 m t=false:=by
        rw [← Bool.not_eq_true,yr7 f]
        intro k
        have k:pvB _ _ _ _ _ _=true:=k x y hx.1 hx.2 hy.1 hy.2
        rw [k] at h;simp at h
      rw [e,this];rfl
    · unfold jx8 at hu
      rcases List.mem_append.1 hu with hu | hu
      · exact hg u hu
      · simp only [List.mem_singleton] at hu
        subst hu
        show pvB _ _ _ _ _ _=true
        rw [hx',hy']
        cases q:pvB (pxV m 0 x y) (pxV m 1 x y) (pxV m 2 x y) (pxV m 3 x y) (pxV m 4 x y) t
        · rw [q] at h;simp at h
        · rfl
  · have:qs8 m t=true:=by
      rw [yr7 f]
      intro x y x0 x1 y0 y1
      exact hg _ (y43 hp (by omega) ⟨x0,x1⟩ ⟨y0,y1⟩)
    rw [e,this];rfl
end Go.Proofs.YthkidembkknoeaaDoor
namespace Go.Proofs.YthkidembkknoeaaDoor
open Go.RowKit PR QR
structure Rw where
  kd:Int
  im:Int
  x:Int
  y:Int
  msk:Int
  mx:Int
  my:Int
  op:Int
  opr:Int
  md:Int
  fl:Int
structure Pc where
  W:Int
  H:Int
  S:Int
  md:Int
  n:Int
  q:Int→Nat→Int
structure Sn where
  b:Int
  x:Int
  y:Int
  w:Int
  h:Int
  tw:Int
  th:Int
  m:Int
  ol:Int→Int
  pn:Int
  pq:Int→Pc
  rn:Int
  rq:Int→Rw
structure Dx where
  b:Bool
  m:List Int
  i:Int
  n:Int
  on:Int
  ol:Int→Int
  mn:Int
  ml:Int→Im
  pn:Int
  pl:Int→Ov
end Go.Proofs.YthkidembkknoeaaDoor
namespace Go.Proofs.YthkidembkknoeaaDoor
open Go.RowKit PR QR
set_option linter.unusedVariables false
set_option linter.unusedSimpArgs false
set_option maxRecDepth 20000
theorem zf5 {m i:Int} (l:Int→Nat→Int) (h0:0≤i):atV m (l i 0) i=pmA m l i.toNat:=by
  unfold atV pmA
  rw [Int.toNat_of_nonneg h0]
  by_cases c:i < m
  · rw [if_pos ⟨h0,c⟩,if_pos c]
  · rw [if_neg (fun k=>c k.2),if_neg c]
theorem yd3 {m n i:Int} {l:Int→Nat→Int} (h0:0≤i) (h1:i < n) (hn:n≤64) (q:Nat) (hq:ilt (Int.ofNat q) (addZ (subZ (pmKI m l n i) 0) (subZ (subZ n i) (iadd .i64 (pmKI m l n i) 1)))=true) :
    isel (ilt (Int.ofNat q) (subZ (pmKI m l n i) 0)) (pmR m l n i (addZ (Int.ofNat q) 0)) (pmR m l n i (addZ (subZ (Int.ofNat q) (subZ (pmKI m l n i) 0)) (iadd .i64 (pmKI m l n i) 1)))=pmR m l n (i + 1) (Int.ofNat q):=by
  obtain ⟨_,k2,k3⟩:=vo4 m l h0 h1
  have e1:iadd .i64 (pmKI m l n i) 1=pmKI m l n i + 1:=IntWalk.i64_in _ (by omega)
  have q0:(0:Int)≤Int.ofNat q:=Int.natCast_nonneg q
  rw [e1]
  unfold addZ subZ
  rw [Int.sub_zero,Int.add_zero,show Int.ofNat q - pmKI m l n i + (pmKI m l n i + 1)=Int.ofNat q + 1 by omega,← ym7 (a:=Int.ofNat q) m l h0 h1 q0]
  by_cases c:Int.ofNat q < pmKI m l n i
  · rw [jg9 c,qr3,if_pos c]
  · rw [jn6 (by omega),vd8,if_neg c]
theorem y08 {m n i:Int} {l:Int→Nat→Int} (h0:0≤i) (h1:i < n) (q:Nat) (hq:ilt (Int.ofNat q) (addZ i 1)=true) :
    isel (ilt (Int.ofNat q) i) (pmO m l n i (Int.ofNat q)) (isel (ieq (subZ (Int.ofNat q) i) 0) (pmR m l n i (pmKI m l n i)) 0)=pmO m l n (i + 1) (Int.ofNat q):=by
  have hq:Int.ofNat q < i + 1:=jh6 hq
  rw [← vo5 (a:=Int.ofNat q) m l h0 h1 (Int.natCast_nonneg q) hq]
  by_cases c:Int.ofNat q < i
  · rw [jg9 c,qr3,if_pos c]
  · have e:Int.ofNat q=i:=by omega
    rw [jn6 (by omega),vd8,if_neg c,e]
    unfold subZ
    rw [Int.sub_self,show ieq 0 0=true from rfl,qr3]
theorem y09:ja6 25 q69:=by
  intro al ans hh hq
  unfold q69 at hh
  split at hh <;> try (simp at hh;done)
  rename_i c n
  cases em:jf4 1 c with
  | none=>simp [em] at hh
  | some pm =>
  obtain ⟨m,rm⟩:=pm
  simp only [em] at hh
  simp only [Option.some.injEq] at hh
  subst hh
  obtain ⟨l,hdm⟩:∃l:Int→Nat→Int,l=fun i j=>intC (den rm i j):=⟨_,rfl⟩
  try rw [← hdm]
  refine jd4 (al':=[.x (.c (.slc 1 m (.fn fun i j=>.v (.int .i64 (l i j))))),.x (.c (.v (.int .i64 n)))]) ⟨(hdm▸jj4 em (by decide) (hq _ (by simp))),.v _,trivial⟩ ?_
  have hq:=asked hq
  refine QR.ja2 (O:=vj5) (QR.ja3 a_at (QR.ja3 (up qb4) QR.jb4)) mixed ((fun k=>bif Nat.beq k 5 then some (.inv (q70 m l n)) else bif Nat.beq k 10 then some (.invs [qs2 m l n,qs3 m l n]) else none)) Tryd.func25 (by kernel_rfl) (by kernel_rfl) (by simp) ?_
  rw [ym3]
  obtain ⟨hr,hm,hn,_⟩:=hq
  have hn':=je6 hn
  simp only [forall_eq]
  by_cases c1:m=0
  · have z:pmN m n=0:=by unfold pmN pmB;simp [c1]
    subst c1
    simp [jb5,eqXs,eqX,eqo,eqLo,eqL,eqc,veq,eqUs,ja1,nilC,z,qj7]
  have d1:ieq m 0=false:=by unfold ieq;exact decide_eq_false c1
  by_cases c2:n≤64
  rotate_left
  · have z:pmN m n=0:=by unfold pmN pmB;simp [c1,c2]
    have d2:igt n 64=true:=by rw [ya3];simp [c2]
    simp [jb5,eqXs,eqX,eqo,eqLo,eqL,eqc,veq,eqUs,ja1,nilC,z,d1,d2]
  have z:pmN m n=n:=by unfold pmN pmB;simp [c1,c2]
  have d2:igt n 64=false:=by rw [ya3];simp [c2]
  have f1:ile n n=true:=jb1 (Int.le_refl n)
  have f2:ile (jd2 n 8) 140737488355328=true:=jb1 (by unfold jd2;omega)
  have f3:ile n 140737488355328=true:=jb1 (by omega)
  have mu:∀i:Int,i < n→Nat.le (Nat.succ (pfMu n (i + 1))) (pfMu n i):=fun i h=>by show pfMu n (i + 1) < pfMu n i;unfold pfMu;omega
  have ia:∀i:Int,0≤i→i < n→iadd .i64 i 1=i + 1:=fun i h0 h1=>IntWalk.i64_in _ (by omega)
  simp only [jb5,eqXs,eqX,eqo,eqLo,eqL,eqc,veq,eqUs,ja1,d1,d2,hn,f1,f2,f3,z,nilC,qr2,true_and,and_true,and_self,implies_true,reduceCtorEq,false_implies,true_implies,Bool.false_eq_true,or_false,false_or,false_and,and_false,exists_false]
  have eK:∀i,0≤i→gmod (atV m (l i 0) i) (subZ n i)=pmKI m l n i:=fun i h=>by rw [zf5 l h];rfl
  have step:∀i,0≤i→i < n→(jb8 (subZ n i)=true∧ile (jd2 (addZ i 1) 8) 140737488355328=true∧ile 0 (pmKI m l n i)=true∧ilt (pmKI m l n i) (subZ n i)=true)∧
      (ile (jd2 (addZ (subZ (pmKI m l n i) 0) (subZ (subZ n i) (iadd .i64 (pmKI m l n i) 1))) 8) 140737488355328=true∧ile 0 (iadd .i64 (pmKI m l n i) 1)=true∧ile (iadd .i64 (pmKI m l n i) 1) (subZ n i)=true∧ile (subZ n i) (subZ n i)=true∧ile (jd2 (subZ (pmKI m l n i) 0) 8) 140737488355328=true∧ile 0 (pmKI m l n i)=true∧ile (pmKI m l n i) (subZ n i)=true)∧
      addZ (subZ (pmKI m l n i) 0) (subZ (subZ n i) (iadd .i64 (pmKI m l n i) 1))=subZ n (i + 1):=by
    intro i i0 i1
    obtain ⟨_,k2,k3⟩:=vo4 m l i0 i1
    have e1:iadd .i64 (pmKI m l n i) 1=pmKI m l n i + 1:=IntWalk.i64_in _ (by omega)
    rw [e1]
    refine ⟨⟨decide_eq_true (by unfold subZ;omega),jb1 (by unfold jd2 addZ;omega),jb1 k2,jg9 (by unfold subZ;omega)⟩,⟨jb1 (by unfold jd2 addZ subZ;omega),jb1 (by omega),jb1 (by unfold subZ;omega),jb1 (Int.le_refl _),jb1 (by unfold jd2 subZ;omega),jb1 k2,jb1 (by unfold subZ;omega)⟩,by unfold addZ subZ;omega⟩
  have sub0:n=subZ n 0:=by unfold subZ;omega
  refine ⟨⟨0,⟨Int.le_refl 0,hn'⟩,rfl,fun q hq=>?_⟩,fun i hi=>⟨fun c=>?_,fun c=>?_⟩⟩
  · have:(0:Int)≤Int.ofNat q:=Int.natCast_nonneg q
    unfold pfV;rw [if_neg (by omega)]
  · have lt:=jh6 c
    have i0:=hi.1
    refine ⟨⟨jb1 i0,c⟩,i + 1,⟨by omega,by omega⟩,⟨ia i i0 lt,fun q hq=>?_⟩,mu i lt⟩
    unfold pfV
    by_cases e:Int.ofNat q=i
    · rw [e,qj7,qr3,if_pos (by omega)]
    · rw [show ieq (Int.ofNat q) i=false from decide_eq_false e,vd8]
      by_cases c2:Int.ofNat q < i
      · rw [if_pos c2,if_pos (by omega)]
      · rw [if_neg c2,if_neg (by omega)]
  · have e:n=i:=by have:=jy7 c;have:=hi.2;omega
    subst e
    refine ⟨⟨0,⟨⟨Int.le_refl 0,hn'⟩,rfl⟩,⟨sub0,rfl⟩,sub0,fun q hq=>?_⟩,fun i hi=>?_,fun i hi=>?_⟩
    · have h0:(0:Int)≤Int.ofNat q:=Int.natCast_nonneg q
      have h1:=jh6 hq
      rw [zf4 m l h0 h1]
      unfold pfV
      rw [if_pos h1]
    · obtain ⟨⟨i0,i1⟩,rfl⟩:=hi
      refine ⟨fun c=>?_,fun c=>?_⟩
      · have lt:0 < n:=by have:=of_decide_eq_true c;unfold subZ at this;omega
        obtain ⟨⟨s1,_,s3,s4⟩,s5,s6⟩:=step 0 (Int.le_refl 0) lt
        rw [eK 0 (Int.le_refl 0)]
        refine ⟨s1,⟨s3,s4⟩,s5,1,⟨⟨by omega,by omega⟩,Int.le_refl 1⟩,⟨⟨s6,rfl,rfl⟩,⟨s6,fun q hq=>yd3 (Int.le_refl 0) lt c2 q hq⟩,rfl,fun q hq=>?_⟩,mu 0 lt⟩
        have q1:Int.ofNat q=0:=by have h0:(0:Int)≤Int.ofNat q:=Int.natCast_nonneg q;have:=jh6 hq;omega
        rw [q1,qj7,qr3]
        have:=vo5 (a:=0) m l (Int.le_refl 0) lt (Int.le_refl 0) (by decide)
        rw [if_neg (by decide)] at this
        exact this
      · have:¬ subZ n 0 > 0:=of_decide_eq_false c
        exact ⟨rfl,by unfold subZ at this;omega⟩
    · obtain ⟨⟨i0,i1⟩,i2⟩:=hi
      refine ⟨fun c=>?_,fun c=>?_⟩
      · have lt:i < n:=by have:=of_decide_eq_true c;unfold subZ at this;omega
        obtain ⟨⟨s1,s2,s3,s4⟩,s5,s6⟩:=step i i0 lt
        rw [eK i i0]
        exact ⟨s1,⟨s2,s3,s4⟩,s5,i + 1,⟨⟨by omega,by omega⟩,by omega⟩,⟨⟨s6,rfl,ia i i0 lt⟩,⟨s6,fun q hq=>yd3 i0 lt c2 q hq⟩,rfl,fun q hq=>y08 i0 lt q hq⟩,mu i lt⟩
      · have:¬ subZ n i > 0:=of_decide_eq_false c
        have e:n=i:=by unfold subZ at this;omega
        subst e
        refine .slc fun q j hq hj=>?_
        have e2:pmO m (fun i _=>intC (den rm i 0)) n n q=pmO m l n n q:=by rw [hdm];rfl
        show EqC (.v (.int .i64 (pmO m l n n q))) (.v (.int .i64 (pmO m (fun i _=>intC (den rm i 0)) n n q)))
        rw [e2]
        exact .v _
end Go.Proofs.YthkidembkknoeaaDoor
