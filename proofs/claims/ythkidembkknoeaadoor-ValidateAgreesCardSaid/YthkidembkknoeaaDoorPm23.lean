import Derived.Test.YthkidembkknoeaaDoorPm21
import Derived.Test.YthkidembkknoeaaDoorPm15
import Derived.Test.YthkidembkknoeaaDoorPm17
import Derived.Test.YthkidembkknoeaaDoorPm11
import Derived.Test.YthkidembkknoeaaDoorPm22
namespace Go.Proofs.YthkidembkknoeaaDoor
open Go.RowKit PR QR
set_option linter.unusedVariables false
set_option linter.unusedSimpArgs false
theorem vi3 (s:Sn):in16 (gscM s)=true/\(gscM s=255\/gscM s=65535):=by
 unfold gscM q87
 split <;> exact ⟨by decide,by omega⟩
theorem qr7 (s:Sn):(-6<=gscX s/\gscX s<=6)/\(-6<=gscY s/\gscY s<=6)/\(1<=gscW s/\gscW s<=5)/\(1<=gscH s/\gscH s<=4)/\jd9 s=gscX s + gscW s/\je0 s=gscY s + gscH s/\(1<=gscT s/\gscT s<=gscW s)/\(1<=gscU s/\gscU s<=gscH s):=by
 have a:=jd5 s.x (k:=13) (by omega)
 have b:=jd5 s.y (k:=13) (by omega)
 have c:=jd5 s.w (k:=5) (by omega)
 have d:=jd5 s.h (k:=4) (by omega)
 have eX:gscX s=gmod s.x 13 - 6:=IntWalk.i64_in _ (by omega)
 have eY:gscY s=gmod s.y 13 - 6:=IntWalk.i64_in _ (by omega)
 have eW:gscW s=1 + gmod s.w 5:=IntWalk.i64_in _ (by omega)
 have eH:gscH s=1 + gmod s.h 4:=IntWalk.i64_in _ (by omega)
 have t:=jd5 s.tw (k:=gscW s) (by omega)
 have u:=jd5 s.th (k:=gscH s) (by omega)
 have eT:gscT s=1 + gmod s.tw (gscW s):=IntWalk.i64_in _ (by omega)
 have eU:gscU s=1 + gmod s.th (gscH s):=IntWalk.i64_in _ (by omega)
 have e1:jd9 s=gscX s + gscW s:=IntWalk.i64_in _ (by omega)
 have e2:je0 s=gscY s + gscH s:=IntWalk.i64_in _ (by omega)
 omega
theorem yt1 (s:Sn):gcv (gscX s) (gscY s) (jd9 s) (je0 s)=true:=by
 have:=qr7 s
 exact decide_eq_true (by omega)
theorem vd4 (s:Sn):1<=gscA s/\gscA s<=20:=by
 have n:=qr7 s
 have k:tiB (gscX s) (gscY s) (jd9 s) (je0 s) (gscT s) (gscU s)=true:=by
  refine decide_eq_true ⟨re_f.2 ?_,by omega,by omega⟩
  unfold F30
  omega
 have f:=yp0 k
 have g:=yp1 k
 have d1:=(jl4 (u:=jd9 s - gscX s) (w:=gscT s) (by omega) (by omega)).1
 have d2:=(jl4 (u:=je0 s - gscY s) (w:=gscU s) (by omega) (by omega)).1
 rw [<- f] at d1
 rw [<- g] at d2
 have m1:=Int.mul_le_mul (show tiX (gscX s) (gscY s) (jd9 s) (je0 s) (gscT s) (gscU s)<=5 by omega) (show tiY (gscX s) (gscY s) (jd9 s) (je0 s) (gscT s) (gscU s)<=4 by omega) (by omega) (by omega)
 have m2:1 * 1<=tiX (gscX s) (gscY s) (jd9 s) (je0 s) (gscT s) (gscU s) * tiY (gscX s) (gscY s) (jd9 s) (je0 s) (gscT s) (gscU s):=Int.mul_le_mul d1.1 d2.1 (by omega) (by omega)
 have:gscA s=tiX (gscX s) (gscY s) (jd9 s) (je0 s) (gscT s) (gscU s) * tiY (gscX s) (gscY s) (jd9 s) (je0 s) (gscT s) (gscU s):=IntWalk.i64_in _ (by omega)
 omega
def ovG (o:Ov):Prop:=zb7 o=true/\in16 o.op=true
theorem yy7 {n c:Int} (h : -6<=c/\c<=6) : -100<=goff n c/\goff n c<=100:=by
 unfold goff
 have a:=jd5 (iquo .i64 n 3) (k:=9) (by omega)
 have e1:iadd .i64 c (gmod (iquo .i64 n 3) 9)=c + gmod (iquo .i64 n 3) 9:=IntWalk.i64_in _ (by omega)
 have e2:isub .i64 (c + gmod (iquo .i64 n 3) 9) 4=c + gmod (iquo .i64 n 3) 9 - 4:=IntWalk.i64_in _ (by omega)
 rw [e1,e2]
 cases ieq (gmod n 3) 0
 ·rw [jp3];omega
 ·rw [jk3];omega
theorem js8 {b:Bool} {x y l h:Int} (hx:l<=x/\x<=h) (hy:l<=y/\y<=h):l<=isel b x y/\isel b x y<=h:=by
 cases b
 ·exact hy
 ·exact hx
theorem ya3 {n:Int} (h:0<=n/\n<=255):qs4 n 1 false=true:=decide_eq_true (show 0<=n/\n < 256 by omega)
theorem yl6 {n:Int} (h : -2147483648<=n/\n<=2147483647):qs4 n 4 true=true:=decide_eq_true (show -2147483648<=n/\n < 2147483648 by omega)
theorem yy8 {x:Int} {k:Int} (h:0 < k) (hk:k<=100):1<=iadd .i64 1 (gmod x k)/\iadd .i64 1 (gmod x k)<=100:=by
 have a:=jd5 x h
 have:iadd .i64 1 (gmod x k)=1 + gmod x k:=IntWalk.i64_in _ (by omega)
 omega
theorem yl7 (r:Rw) (push:Bool) {k x0 y0:Int} (free:Bool) {t:Int} (hk:1<=k/\k<=100) (hx : -6<=x0/\x0<=6) (hy : -6<=y0/\y0<=6) (ht:in16 t=true):ovG (gopV r push k x0 y0 free t):=by
 have m:=jd5 r.im (k:=k) (by omega)
 have z:∀{n c:Int},-6<=c/\c<=6->-2147483648<=goff n c/\goff n c<=2147483647:=λ {n c} h=>by have:=yy7 (n:=n) h;omega
 have a1:∀{x k:Int},0 < k->k<=100->0<=iadd .i64 1 (gmod x k)/\iadd .i64 1 (gmod x k)<=255:=λ {x k} h1 h2=>by have:=yy8 (x:=x) h1 h2;omega
 refine ⟨?_,?_⟩
 ·unfold zb7 gopV
  simp only [Bool.and_eq_true]
  exact ⟨ya3 (js8 (by omega) (by omega)),ya3 (js8 (by omega) (by omega)),ya3 (js8 (a1 (by omega) (by omega)) (by omega)),ya3 (js8 (a1 (by omega) (by omega)) (by omega)),ya3 (js8 (a1 (by omega) (by omega)) (by omega)),yl6 (js8 (by omega) (z hx)),yl6 (js8 (by omega) (z hy)),yl6 (js8 (z hx) (by omega)),yl6 (js8 (z hy) (by omega))⟩
 ·show in16 (isel (ieq (gmod r.op 2) 0) (gsV (iquo .i64 r.op 2) t) t)=true
  cases ieq (gmod r.op 2) 0
  ·exact ht
  ·exact qz7 _ ht
theorem vn8:ovG qv6:=⟨by decide,by decide⟩
theorem vi4 {s:Sn} (h:0<=s.pn):1<=gscN s/\gscN s<=4:=by
 unfold gscN
 cases c:ieq s.pn 0
 ·have:s.pn≠0:=of_decide_eq_false c
  rw [cond_false];omega
 ·rw [cond_true];omega
theorem za3 (s:Sn) (i:Nat):gst s (i + 1)=bif band (ieq (gmod (s.rq i).kd 8) 0) (ilt 0 (lenO (gst s i).2)) then ((gst s i).1 ++ [qv6],(gst s i).2.dropLast)
  else ((gst s i).1 ++ [gnew s (gst s i).2 i],bif ieq (gnew s (gst s i).2 i).kd 2 then (gst s i).2 ++ [gnew s (gst s i).2 i] else (gst s i).2):=rfl
theorem vi5 {s:Sn} (h:0<=s.pn):∀i:Nat,(∀o∈(gst s i).1,ovG o)/\(∀o∈(gst s i).2,ovG o)/\(gst s i).1.length=i/\(gst s i).2.length<=i
 | 0=>⟨by simp [gst],by simp [gst],rfl,Nat.le_refl _⟩
 | i + 1=>by
  obtain ⟨h1,h2,h3,h4⟩:=vi5 h i
  have n:=qr7 s
  have k:=vi4 h
  have g:ovG (gnew s (gst s i).2 i):=yl7 _ _ _ (by omega) n.1 n.2.1 (vi3 s).1
  rw [za3]
  cases band (ieq (gmod (s.rq i).kd 8) 0) (ilt 0 (lenO (gst s i).2))
  ·rw [cond_false]
   refine ⟨λ o ho=>?_,λ o ho=>?_,by simp [h3],?_⟩
   ·rcases List.mem_append.1 ho with ho | ho
    ·exact h1 o ho
    ·rw [List.mem_singleton.1 ho];exact g
   ·cases q:ieq (gnew s (gst s i).2 i).kd 2
    ·rw [q] at ho;exact h2 o ho
    ·rw [q] at ho
     rcases List.mem_append.1 ho with ho | ho
     ·exact h2 o ho
     ·rw [List.mem_singleton.1 ho];exact g
   ·cases ieq (gnew s (gst s i).2 i).kd 2
    ·exact Nat.le_succ_of_le h4
    ·rw [cond_true,List.length_append];exact Nat.succ_le_succ h4
  ·rw [cond_true]
   refine ⟨λ o ho=>?_,λ o ho=>h2 o ((List.dropLast_sublist _).subset ho),by simp [h3],by simp;omega⟩
   rcases List.mem_append.1 ho with ho | ho
   ·exact h1 o ho
   ·rw [List.mem_singleton.1 ho];exact vn8
theorem vn9 {s:Sn} (h:0<=s.pn) (hr:0<=s.rn) (j:Int):(∀o∈gstF s j,ovG o)/\(0<=j->lenO (gstF s j)=gstE s + j)/\(0<=gstE s/\gstE s<=9)/\0<=lenO (gstB s (gstE s))/\lenO (gstB s (gstE s))<=gstE s:=by
 obtain ⟨h1,h2,h3,h4⟩:=vi5 h (gstE s).toNat
 have e:0<=gstE s/\gstE s<=9:=by unfold gstE;omega
 refine ⟨λ o ho=>?_,λ h0=>?_,e,?_,?_⟩
 ·rcases List.mem_append.1 ho with ho | ho
  ·exact h1 o ho
  ·rw [(List.mem_replicate.1 ho).2];exact vn8
 ·show (((gst s (gstE s).toNat).1 ++ List.replicate j.toNat qv6).length:Int)=_
  rw [List.length_append,h3,List.length_replicate];omega
 ·show (0:Int)<=((gst s (gstE s).toNat).2.length:Int);omega
 ·show ((gst s (gstE s).toNat).2.length:Int)<=_;omega
end Go.Proofs.YthkidembkknoeaaDoor
namespace Go.Proofs.YthkidembkknoeaaDoor
open Go.RowKit PR QR
set_option linter.unusedVariables false
set_option linter.unusedSimpArgs false
set_option maxRecDepth 20000
theorem za2:ja6 49 vn6:=by
 intro al ans h hq
 unfold vn6 at h
 split at h <;> try (simp at h;done)
 rename_i n c
 simp only [Option.some.injEq] at h
 subst h
 have hq:=asked hq
 refine QR.ja2 (O:=(QR.orc [(20,QR.qg4 jo4)])) (QR.ja3 (up qu8) QR.jb1) mixed (QR.ja4) Tryd.func49 (by kernel_rfl) (by kernel_rfl) (by simp) ?_
 rw [yy4]
 have m3:jc2 3=true:=rfl
 have m9:jc2 9=true:=rfl
 simp only [forall_eq,true_and,and_true,ja1,jb4,eqXs,eqX,eqo,eqLo,eqc,veq,eqUs,m3,m9]
 unfold goff
 exact ⟨λ c=>by rw [c];rfl,λ c=>by rw [c];rfl⟩
theorem yy6 (r:Rw) (push:Bool) (k x0 y0 x1 y1:Int) (free:Bool) (t:Int) (hk:jc2 k=true) (ht:in16 t=true) (A:List Prop):ji5 Tryd.prog 28 [.x (.agg (vd1 r)),.x (.c (.v (.bool push))),.x (.c (.v (.int .i64 k))),.x (.agg [.v (.int .i64 x0),.v (.int .i64 y0),.v (.int .i64 x1),.v (.int .i64 y1)]),.x (.c (.v (.bool free))),.x (.c (.v (.int .u16 t)))] ⟨[.agg (j07 (gopV r push k x0 y0 free t))],[],A⟩:=by
 refine QR.ja2 (O:=yy5) (QR.ja3 (up qu8) (QR.ja3 za2 (QR.ja3 qz0 QR.jb1))) mixed (ya2 r push k x0 y0 x1 y1 free t) Tryd.func28 (by kernel_rfl) (by kernel_rfl) (by simp) ?_
 have V:∀o:Ov,o=gopV r push k x0 y0 free t->jb4 ⟨[.agg (j07 (gopV r push k x0 y0 free t))],[],A⟩ [.agg (j07 o)] []:=λ o e=>by
  rw [e]
  exact ⟨⟨⟨⟨rfl,rfl⟩,⟨rfl,rfl⟩,⟨rfl,rfl⟩,⟨rfl,rfl⟩,⟨rfl,rfl⟩,⟨rfl,rfl⟩,⟨rfl,rfl⟩,⟨rfl,rfl⟩,⟨rfl,rfl⟩,⟨rfl,rfl⟩,rfl,rfl,trivial⟩,trivial⟩,trivial⟩
 rw [za1]
 generalize jb4 _=W at *
 have m:jc2 2=true/\jc2 3=true/\jc2 4=true/\jc2 12=true:=⟨rfl,rfl,rfl,rfl⟩
 simp only [forall_eq,true_and,and_true,implies_true,exists_const,m,hk,ht,forall_const]
 unfold gopV
 simp +contextual [ja1,isel,band]
 exact V _ rfl
theorem zg4:ja6 28 yl5:=by
 intro al ans hh hq
 unfold yl5 at hh
 split at hh <;> try (simp at hh;done)
 rename_i kd im x y msk mx my op opr md fl push k x0 y0 x1 y1 free t
 simp only [Option.some.injEq] at hh
 subst hh
 exact yy6 ⟨kd,im,x,y,msk,mx,my,op,opr,md,fl⟩ push k x0 y0 x1 y1 free t (hq _ (by simp)) (hq _ (by simp)) _
end Go.Proofs.YthkidembkknoeaaDoor
namespace Go.Proofs.YthkidembkknoeaaDoor
open Go.RowKit PR QR
set_option linter.unusedVariables false
set_option linter.unusedSimpArgs false
set_option maxRecDepth 20000
theorem za4 (n:Int) (f:Int->Pc):j04 n (ya0 f):=λ i j hi hj=>by
 have hj':j=0\/j=1\/j=2\/j=3\/j=4:=by omega
 rcases hj' with rfl | rfl | rfl | rfl | rfl
 ·exact .v _
 ·exact .v _
 ·exact .v _
 ·exact .v _
 ·exact .slc λ _ _ _ _=>.v _
theorem yl8 {z:Nat} {c:CV} {q:Int×QR.Row} (h:jf4 z c=some q):je2 c=[]:=by
 unfold jf4 at h
 split at h <;> first | rfl | simp at h
theorem qg7 {c:CV} {z:Nat} {n:Int} {r:QR.Row} {q:Int×QR.Row} {z':Nat} (e:jf4 z' c=some q) (h:EqC c (.slc z n r)):eqG c (.slc z n r):=yt0 h (yl8 e) rfl
theorem yz1 {l:List CV} {s:Sn} {A:List Prop} (h:vd3 l=some (s,A)) (ha:∀p∈A,p):yx6 (.x (.agg l)) (.x (.agg (qv5 s)))/\vd2 s.pn s.pq/\0<=s.m/\0<=s.pn/\0<=s.rn:=by
 unfold vd3 at h
 split at h <;> try (simp at h;done)
 rename_i b x y w h' tw th oc pc rc
 split at h <;> try (simp at h;done)
 rename_i m o pn p rn r e1 e2 e3
 simp only [Option.some.injEq,Prod.mk.injEq] at h
 obtain ⟨rfl,rfl⟩:=h
 have h1:intRow .i64 1 m o:=ha _ (by simp)
 have h2:j04 pn p:=ha _ (by simp)
 have h3:j05 rn r:=ha _ (by simp)
 have h4:vd2 pn (pcAt p):=ha _ (by simp)
 have h5:ile 0 m=true:=ha _ (by simp)
 have h6:ile 0 pn=true:=ha _ (by simp)
 have h7:ile 0 rn=true:=ha _ (by simp)
 refine ⟨⟨jv8 _,jv8 _,jv8 _,jv8 _,jv8 _,jv8 _,jv8 _,qg7 e1 (qe3 e1 h1),qg7 e2 (jl2 e2 (by decide) h2),qg7 e3 (jl2 e3 (by decide) h3),trivial⟩,h4,je3 h5,je3 h6,je3 h7⟩
theorem qr8 (k:IntKind) (z:Nat) (n:Int) (f:Int->Nat->Int):EqC (.slc z n (.fn λ a b=>.v (.int k (f a b)))) (.slc z n (.fn λ a b=>.v (.int k (f a b))))=True:=eq_true (.slc λ _ _ _ _=>.v _)
theorem qr9 (k:IntKind) (z:Nat) (n:Int) (f:Int->Int):EqC (.slc z n (.fn λ a _=>.v (.int k (f a)))) (.slc z n (.fn λ a _=>.v (.int k (f a))))=True:=eq_true (.slc λ _ _ _ _=>.v _)
theorem qj7 (n:Nat):(ilt (Int.ofNat n) 0=true)=False:=eq_false λ h=>by have:Int.ofNat n < 0:=of_decide_eq_true h;have:=Int.natCast_nonneg n;simp at *;omega
theorem ya5 {i:Int} (n:Nat) (h:ilt (Int.ofNat n) (addZ i 1)=true):ilt (Int.ofNat n) i=true\/(ilt (Int.ofNat n) i=false/\ieq (subZ (Int.ofNat n) i) 0=true/\Int.ofNat n=i):=by
 have h:Int.ofNat n < i + 1:=of_decide_eq_true h
 by_cases c:Int.ofNat n < i
 ·exact Or.inl (ji1 c)
 ·exact Or.inr ⟨decide_eq_false c,by unfold subZ;rw [show Int.ofNat n - i=0 by omega];rfl,by omega⟩
theorem yz2 (l:List Ov):0<=lenO l:=by unfold lenO;omega
theorem js9 (l:List Ov) (o:Ov):lenO (l ++ [o])=lenO l + 1:=by unfold lenO;simp
theorem jt0 (l:List Ov) (o:Ov) (n:Nat) (h:ilt (Int.ofNat n) (addZ (lenO l) 1)=true):(ilt (Int.ofNat n) (lenO l)=true/\nthO (l ++ [o]) (Int.ofNat n)=nthO l (Int.ofNat n))\/(ilt (Int.ofNat n) (lenO l)=false/\ieq (subZ (Int.ofNat n) (lenO l)) 0=true/\nthO (l ++ [o]) (Int.ofNat n)=o):=by
 rcases ya5 n h with k | ⟨k1,k2,k3⟩
 ·refine Or.inl ⟨k,?_⟩
  have k:(n:Int) < (l.length:Int):=of_decide_eq_true k
  unfold nthO
  rw [List.getD_eq_getElem?_getD,List.getD_eq_getElem?_getD]
  show ((l ++ [o])[n]?).getD _=(l[n]?).getD _
  rw [List.getElem?_append_left (by omega)]
 ·refine Or.inr ⟨k1,k2,?_⟩
  have k3:(n:Int)=(l.length:Int):=k3
  unfold nthO
  rw [List.getD_eq_getElem?_getD]
  show ((l ++ [o])[n]?).getD _=o
  rw [show n=l.length by omega]
  simp
theorem zg5 (s:Sn) {i:Int} (h:0<=i):(gstA s (i + 1),gstB s (i + 1))=bif band (ieq (gmod (s.rq i).kd 8) 0) (ilt 0 (lenO (gstB s i))) then (gstA s i ++ [qv6],(gstB s i).dropLast) else (gstA s i ++ [gnew s (gstB s i) i],bif ieq (gnew s (gstB s i) i).kd 2 then gstB s i ++ [gnew s (gstB s i) i] else gstB s i):=by
 have e:(i + 1).toNat=i.toNat + 1:=by omega
 have t:((i.toNat:Nat):Int)=i:=Int.toNat_of_nonneg h
 have g:=za3 s i.toNat
 rw [t] at g
 unfold gstA gstB
 rw [e,g]
theorem qs0 (l:List Ov) {k:Int} (hk:k=lenO l - 1) (n:Nat) (h:ilt (Int.ofNat n) k=true):nthO l.dropLast (Int.ofNat n)=nthO l (Int.ofNat n):=by
 have h:(n:Int) < k:=of_decide_eq_true h
 unfold lenO at hk
 unfold nthO
 rw [List.getD_eq_getElem?_getD,List.getD_eq_getElem?_getD]
 show (l.dropLast[n]?).getD _=(l[n]?).getD _
 rw [List.getElem?_dropLast,if_pos (by omega)]
theorem qs1 (l:List Ov) (h:0 < lenO l):lenO l.dropLast=lenO l - 1:=by
 unfold lenO at *
 rw [List.length_dropLast];omega
theorem yz3 {s:Sn} (h:0<=s.pn) {i:Int} (h0:0<=i):lenO (gstA s i)=i/\lenO (gstB s i)<=i:=by
 obtain ⟨_,_,a,b⟩:=vi5 h i.toNat
 unfold gstA gstB lenO
 omega
theorem za5 (s:Sn):gstF s 0=gstA s (gstE s):=List.append_nil _
theorem za6 (s:Sn) {j:Int} (h:0<=j):gstF s (j + 1)=gstF s j ++ [qv6]:=by
 unfold gstF
 rw [show (j + 1).toNat=j.toNat + 1 by omega,List.replicate_succ',List.append_assoc]
theorem yl9 (s:Sn) (hg:vd2 s.pn s.pq) (h0:0<=s.m) (h1:0<=s.pn) (h2:0<=s.rn) (A:List Prop):QR.q02 Tryd.prog 10 [.x (.agg (qv5 s))] ⟨[.agg (ya1 (gscV s))],[],A⟩:=by
 refine QR.qd7 (O:=yy9) (QR.ja3 QR.q39 (QR.ja3 (up qu8) (QR.ja3 y56 (QR.ja3 vq0 (QR.ja3 y53 (QR.ja3 zi6 (QR.ja3 yh0 (QR.ja3 zg4 QR.jb1)))))))) mixed (ya4 s) Tryd.func10 (by kernel_rfl) (by kernel_rfl) ?_
 rw [yz0]
 delta zz315 zz901 zz902 zz904 zz905 zz906 zz907 zz908 zz909 zz910 zz911 imsE opsE
 generalize hV:vc6 _=V
 have m13:jc2 13=true:=rfl
 have m5:jc2 5=true:=rfl
 have m4:jc2 4=true:=rfl
 have m8:jc2 8=true:=rfl
 have n:=qr7 s
 have mW:jc2 (gscW s)=true:=decide_eq_true (by omega)
 have mH:jc2 (gscH s)=true:=decide_eq_true (by omega)
 have cv:=yt1 s
 have tl:=vd4 s
 have M:=vi3 s
 have N:=vi4 h1
 have eM:q87 s.b=gscM s:=rfl
 have eX:isub .i64 (gmod s.x 13) 6=gscX s:=rfl
 have eY:isub .i64 (gmod s.y 13) 6=gscY s:=rfl
 have eW:iadd .i64 1 (gmod s.w 5)=gscW s:=rfl
 have eH:iadd .i64 1 (gmod s.h 4)=gscH s:=rfl
 have eX1:iadd .i64 (gscX s) (gscW s)=jd9 s:=rfl
 have eY1:iadd .i64 (gscY s) (gscH s)=je0 s:=rfl
 have eT:iadd .i64 1 (gmod s.tw (gscW s))=gscT s:=rfl
 have eU:iadd .i64 1 (gmod s.th (gscH s))=gscU s:=rfl
 have eA:imul .i64 (tiX (gscX s) (gscY s) (jd9 s) (je0 s) (gscT s) (gscU s)) (tiY (gscX s) (gscY s) (jd9 s) (je0 s) (gscT s) (gscU s))=gscA s:=rfl
 have eI:∀i,gimV (s.pq i).W (s.pq i).H (s.pq i).S (s.pq i).md (s.pq i).n (s.pq i).q (gscX s) (gscY s) (jd9 s) (je0 s) (gscM s)=gscI s i:=λ _=>rfl
 have mu:∀i n:Int,0<=i->i < n->(je1 n (i + 1)).succ.le (je1 n i):=λ i n a b=>by
  show je1 n (i + 1) < je1 n i
  unfold je1;omega
 simp only [eI,forall_eq,true_and,and_true,and_self,implies_true,or_false,false_or,false_and,and_false,exists_const,exists_false,ja1,m13,m5,m4,m8,eM,eX,eY,eW,eH,eX1,eY1,eT,eU,eA,mW,mH,qr9,qr8,qj7,false_implies,cv,M.1]
 refine ⟨⟨λ c=>by rw [c];rfl,λ c=>by rw [c];rfl⟩,λ _ _=>⟨⟨λ i j _ _=>rfl,jb2 h0,jb2 (by omega)⟩,⟨0,⟨by omega,by omega,by omega⟩,rfl,rfl,λ _ _=>rfl,rfl⟩,λ i hi=>?_⟩⟩
 obtain ⟨i0,i1,i4⟩:=hi
 refine (λ (E:(ilt i s.pn=false\/ilt i 4=false)->_)=>⟨λ c=>⟨?rd,λ d=>E (Or.inr d)⟩,λ c=>E (Or.inl c)⟩) ?ex
 case rd =>
  intro d
  have lt:=ji8 c
  have lt4:=ji8 d
  have ia:iadd .i64 i 1=i + 1:=IntWalk.i64_in _ (by omega)
  rw [ia]
  refine ⟨⟨jb2 (by unfold jd2 addZ;omega),λ a j _ _=>rfl,jb2 (hg i i0 lt),jb2 i0,c⟩,i + 1,⟨by omega,by omega,by omega⟩,⟨rfl,rfl,rfl,?_⟩,mu i 4 i0 lt4⟩
  repeat' apply And.intro
  all_goals (intro n hn;rcases ya5 n hn with k | ⟨k1,k2,k3⟩ <;> first | (rw [k];rfl) | (rw [k];exact EqC.slc λ _ _ _ _=>.v _) | (rw [k1,k2,k3];rfl) | (rw [k1,k2,k3];exact EqC.slc λ _ _ _ _=>.v _))
 intro hx
 have ex:i=min s.pn 4:=by
  rcases hx with hx | hx
  ·have:=of_decide_eq_false hx;omega
  ·have:=of_decide_eq_false hx;omega
 refine ⟨⟨λ c=>?_,λ c=>?_⟩,λ _ _=>⟨⟨0,⟨by omega,h2,by omega⟩,⟨rfl,rfl⟩,rfl,rfl,rfl⟩,λ i hi=>?_⟩⟩
 ·have z:i=0:=jb5 c
  have pz:ieq s.pn 0=true:=by rw [show s.pn=0 by omega];rfl
  have N1:gscN s=1:=by unfold gscN;rw [pz];rfl
  have Q1:∀a,gscQ s a=qk7 (gscW s) (gscH s) (gscM s) 0 0 (gscM s) (gscM s):=λ a=>by unfold gscQ;rw [pz];rfl
  subst z
  refine ⟨jb2 (by unfold jd2 addZ;omega),N1.symm,N1.symm,?_⟩
  repeat' apply And.intro
  all_goals (intro n hn;rw [Q1];rcases ya5 n hn with k | ⟨k1,k2,k3⟩ <;> first | (exfalso;rw [qj7] at k;exact k) | (rw [k1,k2];rfl) | (rw [k1,k2];exact EqC.slc λ _ _ _ _=>.v _))
 ·have z:i≠0:=of_decide_eq_false c
  have pz:ieq s.pn 0=false:=decide_eq_false (by omega)
  have N1:gscN s=i:=by unfold gscN;rw [pz,ex];rfl
  have Q1:∀a,gscQ s a=gscI s a:=λ a=>by unfold gscQ;rw [pz];rfl
  refine ⟨N1.symm,N1.symm,?_⟩
  repeat' apply And.intro
  all_goals (intro n hn;rw [Q1];try (first | rfl | exact EqC.slc λ _ _ _ _=>.v _))
 clear hx ex i0 i1 i4
 obtain ⟨i0,ir,i9⟩:=hi
 have lA:=yz3 h1 i0
 have nB:=yz2 (gstB s i)
 have G:=zg5 s i0
 refine (λ (E3:(ilt i s.rn=false\/ilt i 9=false)->_)=>⟨λ c=>⟨?rd3,λ d=>E3 (Or.inr d)⟩,λ c=>E3 (Or.inl c)⟩) ?ex3
 case rd3 =>
  intro d
  have lt:=ji8 c
  have lt9:=ji8 d
  have ia:iadd .i64 i 1=i + 1:=IntWalk.i64_in _ (by omega)
  refine ⟨⟨jb2 i0,c⟩,?_⟩
  refine (λ (E:(ieq (gmod (s.rq i).kd 8) 0=false\/igt (lenO (gstB s i)) 0=false)->_)=>⟨λ k=>⟨?tr,λ g=>E (Or.inr g)⟩,λ k=>E (Or.inl k)⟩) ?fr
  case tr =>
   intro g
   have g0:0 < lenO (gstB s i):=of_decide_eq_true g
   have is1:isub .i64 (lenO (gstB s i)) 1=lenO (gstB s i) - 1:=IntWalk.i64_in _ (by omega)
   rw [k,ji1 g0] at G
   have gA:gstA s (i + 1)=gstA s i ++ [qv6]:=congrArg Prod.fst G
   have gB:gstB s (i + 1)=(gstB s i).dropLast:=congrArg Prod.snd G
   rw [is1,ia]
   refine ⟨jb2 (by unfold jd2 addZ;omega),⟨jb2 (by omega),jb2 (by omega)⟩,i + 1,⟨by omega,by omega,by omega⟩,?_⟩
   rw [gA,gB,js9,qs1 _ g0]
   refine ⟨⟨⟨rfl,rfl⟩,rfl,⟨rfl,?_⟩,rfl,?_⟩,mu i 9 i0 lt9⟩
   ·repeat' apply And.intro
    all_goals (intro n hn;rcases jt0 (gstA s i) qv6 n hn with ⟨k1,k2⟩ | ⟨k1,k2,k3⟩ <;> first | (rw [k1,k2];rfl) | (rw [k1,k2,k3];rfl))
   ·repeat' apply And.intro
    all_goals (intro n hn;rw [qs0 _ rfl n hn])
  case fr =>
   intro hx
   have hC:gsC s i:=⟨⟨i0,lt,lt9⟩,by
    rcases hx with hx | hx
    ·rw [hx];rfl
    ·rw [show ilt 0 (lenO (gstB s i))=false from hx];cases ieq (gmod (s.rq i).kd 8) 0 <;> rfl⟩
   have is1:isub .i64 (lenO (gstB s i)) 1=lenO (gstB s i) - 1:=IntWalk.i64_in _ (by omega)
   rw [is1]
   refine ⟨⟨λ z=>⟨hC,by unfold jj9;rw [z];rfl⟩,λ z=>?_⟩,λ _ _=>?_⟩
   ·have nz:lenO (gstB s i)≠0:=of_decide_eq_false z
    have a1:ile 0 (lenO (gstB s i) - 1)=true:=jb2 (by omega)
    have a2:ilt (lenO (gstB s i) - 1) (lenO (gstB s i))=true:=ji1 (by omega)
    exact ⟨λ q=>⟨⟨a1,a2,a1,a2⟩,hC,by unfold jj9;rw [z,q];rfl⟩,λ q=>⟨⟨a1,a2⟩,hC,by unfold jj9;rw [z,q];rfl⟩⟩
   ·have eN:gopV (s.rq i) (ilt (gmod (s.rq i).kd 8) 3) (gscN s) (gscX s) (gscY s) (jj9 (gstB s i)) (gscM s)=gnew s (gstB s i) i:=rfl
    simp only [eN]
    rw [hC.2,cond_false] at G
    have gA:gstA s (i + 1)=gstA s i ++ [gnew s (gstB s i) i]:=congrArg Prod.fst G
    have gB:gstB s (i + 1)=bif ieq (gnew s (gstB s i) i).kd 2 then gstB s i ++ [gnew s (gstB s i) i] else gstB s i:=congrArg Prod.snd G
    rw [ia]
    refine ⟨⟨decide_eq_true (by omega),jb2 i0,c⟩,jb2 (by unfold jd2 addZ;omega),λ q=>⟨jb2 (by unfold jd2 addZ;omega),i + 1,⟨by omega,by omega,by omega⟩,?_⟩,λ q=>⟨i + 1,⟨by omega,by omega,by omega⟩,?_⟩⟩
    ·rw [q,cond_true] at gB
     rw [gA,gB,js9,js9]
     refine ⟨⟨⟨rfl,rfl⟩,rfl,⟨rfl,?_⟩,rfl,?_⟩,mu i 9 i0 lt9⟩
     ·repeat' apply And.intro
      all_goals (intro n hn;rcases jt0 (gstA s i) (gnew s (gstB s i) i) n hn with ⟨k1,k2⟩ | ⟨k1,k2,k3⟩ <;> first | (rw [k1,k2];rfl) | (rw [k1,k2,k3];rfl))
     ·repeat' apply And.intro
      all_goals (intro n hn;rcases jt0 (gstB s i) (gnew s (gstB s i) i) n hn with ⟨k1,k2⟩ | ⟨k1,k2,k3⟩ <;> first | (rw [k1,k2];rfl) | (rw [k1,k2,k3];rfl))
    ·rw [q,cond_false] at gB
     rw [gA,gB,js9]
     refine ⟨⟨⟨rfl,rfl⟩,rfl,⟨rfl,?_⟩,rfl,?_⟩,mu i 9 i0 lt9⟩
     ·repeat' apply And.intro
      all_goals (intro n hn;rcases jt0 (gstA s i) (gnew s (gstB s i) i) n hn with ⟨k1,k2⟩ | ⟨k1,k2,k3⟩ <;> first | (rw [k1,k2];rfl) | (rw [k1,k2,k3];rfl))
     ·repeat' apply And.intro
      all_goals (intro n hn;rfl)
 clear G
 intro hx
 have ex:gstE s=i:=by
  unfold gstE
  rcases hx with hx | hx
  ·have:=of_decide_eq_false hx;omega
  ·have:=of_decide_eq_false hx;omega
 subst ex
 have lF:=λ j=>(vn9 h1 h2 j).2.1
 refine ⟨⟨0,⟨by omega,by omega⟩,?_⟩,λ j hj=>?_⟩
 ·rw [za5]
  refine ⟨⟨rfl,rfl⟩,rfl,⟨rfl,?_⟩,rfl,?_⟩
  ·repeat' apply And.intro
   all_goals (intro n hn;rfl)
  ·repeat' apply And.intro
   all_goals (intro n hn;rfl)
 ·obtain ⟨j0,j1⟩:=hj
  have lj:=lF j j0
  refine ⟨λ c=>?_,λ c=>?_⟩
  ·have lt:=ji8 c
   have ja:iadd .i64 j 1=j + 1:=IntWalk.i64_in _ (by omega)
   rw [ja]
   refine ⟨jb2 (by unfold jd2 addZ;omega),j + 1,⟨by omega,by omega⟩,?_⟩
   rw [za6 s j0,js9]
   refine ⟨⟨rfl,rfl,rfl,?_⟩,mu j _ j0 lt⟩
   repeat' apply And.intro
   all_goals (intro n hn;rcases jt0 (gstF s j) qv6 n hn with ⟨k1,k2⟩ | ⟨k1,k2,k3⟩ <;> first | (rw [k1,k2];rfl) | (rw [k1,k2,k3];rfl))
  ·have e:j=lenO (gstB s (gstE s)):=by have:=of_decide_eq_false c;omega
   subst e
   rw [<- hV]
   refine ⟨⟨⟨⟨rfl,rfl⟩,⟨rfl,rfl⟩,⟨rfl,rfl⟩,⟨rfl,rfl⟩,⟨rfl,rfl⟩,⟨rfl,rfl⟩,⟨rfl,rfl⟩,?_,?_,?_,trivial⟩,trivial⟩,trivial⟩
   ·exact EqC.slc λ _ _ _ _=>.v _
   ·exact EqC.slc λ a j ha hj=>qg9 (gscN s) (gscQ s) a j ha hj
   ·exact EqC.slc λ a j ha hj=>j06 (lenO (gstF s (lenO (gstB s (gstE s))))) (nthO (gstF s (lenO (gstB s (gstE s))))) a j ha hj
theorem za7:vc8 10 vn7:=by
 intro al ans hh hq
 unfold vn7 at hh
 split at hh <;> try (simp at hh;done)
 rename_i l
 cases e:vd3 l with
 | none=>simp [e] at hh
 | some p =>
  obtain ⟨s,A⟩:=p
  rw [e] at hh
  simp only [Option.some.injEq] at hh
  subst hh
  obtain ⟨q,hg,h0,h1,h2⟩:=yz1 e hq
  exact QR.qx7 (al':=[.x (.agg (qv5 s))]) ⟨q,trivial⟩ (yl9 s hg h0 h1 h2 _)
end Go.Proofs.YthkidembkknoeaaDoor
