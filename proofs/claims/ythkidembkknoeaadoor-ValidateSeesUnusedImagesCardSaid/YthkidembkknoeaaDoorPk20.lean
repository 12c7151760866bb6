import Derived.Test.YthkidembkknoeaaDoorPk18
import Derived.Test.YthkidembkknoeaaDoorPk13
import Derived.Test.YthkidembkknoeaaDoorPk15
import Derived.Test.YthkidembkknoeaaDoorPk11
import Derived.Test.YthkidembkknoeaaDoorPk19
namespace Go.Proofs.YthkidembkknoeaaDoor
open Go.RowKit PR QR
set_option linter.unusedVariables false
set_option linter.unusedSimpArgs false
theorem vh8 (s:Sn):in16 (gscM s)=true∧(gscM s=255∨gscM s=65535):=by
  unfold gscM q80
  split <;> exact ⟨by decide,by omega⟩
theorem qq7 (s:Sn):(-6≤gscX s∧gscX s≤6)∧(-6≤gscY s∧gscY s≤6)∧(1≤gscW s∧gscW s≤5)∧(1≤gscH s∧gscH s≤4)∧jd8 s=gscX s + gscW s∧jd9 s=gscY s + gscH s∧(1≤gscT s∧gscT s≤gscW s)∧(1≤gscU s∧gscU s≤gscH s):=by
  have a:=jc2 s.x (k:=13) (by omega)
  have b:=jc2 s.y (k:=13) (by omega)
  have c:=jc2 s.w (k:=5) (by omega)
  have d:=jc2 s.h (k:=4) (by omega)
  have eX:gscX s=gmod s.x 13 - 6:=IntWalk.i64_in _ (by omega)
  have eY:gscY s=gmod s.y 13 - 6:=IntWalk.i64_in _ (by omega)
  have eW:gscW s=1 + gmod s.w 5:=IntWalk.i64_in _ (by omega)
  have eH:gscH s=1 + gmod s.h 4:=IntWalk.i64_in _ (by omega)
  have t:=jc2 s.tw (k:=gscW s) (by omega)
  have u:=jc2 s.th (k:=gscH s) (by omega)
  have eT:gscT s=1 + gmod s.tw (gscW s):=IntWalk.i64_in _ (by omega)
  have eU:gscU s=1 + gmod s.th (gscH s):=IntWalk.i64_in _ (by omega)
  have e1:jd8 s=gscX s + gscW s:=IntWalk.i64_in _ (by omega)
  have e2:jd9 s=gscY s + gscH s:=IntWalk.i64_in _ (by omega)
  omega
theorem yq3 (s:Sn):gcv (gscX s) (gscY s) (jd8 s) (jd9 s)=true:=by
  have:=qq7 s
  exact decide_eq_true (by omega)
theorem vc6 (s:Sn):1≤gscA s∧gscA s≤20:=by
  have n:=qq7 s
  have k:tiB (gscX s) (gscY s) (jd8 s) (jd9 s) (gscT s) (gscU s)=true:=by
    refine decide_eq_true ⟨re_f.2 ?_,by omega,by omega⟩
    unfold F30
    omega
  have f:=yl9 k
  have g:=ym0 k
  have d1:=(jl2 (u:=jd8 s - gscX s) (w:=gscT s) (by omega) (by omega)).1
  have d2:=(jl2 (u:=jd9 s - gscY s) (w:=gscU s) (by omega) (by omega)).1
  rw [← f] at d1
  rw [← g] at d2
  have m1:=Int.mul_le_mul (show tiX (gscX s) (gscY s) (jd8 s) (jd9 s) (gscT s) (gscU s)≤5 by omega) (show tiY (gscX s) (gscY s) (jd8 s) (jd9 s) (gscT s) (gscU s)≤4 by omega) (by omega) (by omega)
  have m2:1 * 1≤tiX (gscX s) (gscY s) (jd8 s) (jd9 s) (gscT s) (gscU s) * tiY (gscX s) (gscY s) (jd8 s) (jd9 s) (gscT s) (gscU s):=Int.mul_le_mul d1.1 d2.1 (by omega) (by omega)
  have:gscA s=tiX (gscX s) (gscY s) (jd8 s) (jd9 s) (gscT s) (gscU s) * tiY (gscX s) (gscY s) (jd8 s) (jd9 s) (gscT s) (gscU s):=IntWalk.i64_in _ (by omega)
  omega
def ovG (o:Ov):Prop:=y80 o=true∧in16 o.op=true
theorem yv8 {n c:Int} (h : -6≤c∧c≤6) : -100≤goff n c∧goff n c≤100:=by
  unfold goff
  have a:=jc2 (iquo .i64 n 3) (k:=9) (by omega)
  have e1:iadd .i64 c (gmod (iquo .i64 n 3) 9)=c + gmod (iquo .i64 n 3) 9:=IntWalk.i64_in _ (by omega)
  have e2:isub .i64 (c + gmod (iquo .i64 n 3) 9) 4=c + gmod (iquo .i64 n 3) 9 - 4:=IntWalk.i64_in _ (by omega)
  rw [e1,e2]
  cases ieq (gmod n 3) 0
  · rw [vd8];omega
  · rw [qr3];omega
theorem js2 {b:Bool} {x y l h:Int} (hx:l≤x∧x≤h) (hy:l≤y∧y≤h):l≤isel b x y∧isel b x y≤h:=by
  cases b
  · exact hy
  · exact hx
theorem vz7 {n:Int} (h:0≤n∧n≤255):qr4 n 1 false=true:=decide_eq_true (show 0≤n∧n < 256 by omega)
theorem yi7 {n:Int} (h : -2147483648≤n∧n≤2147483647):qr4 n 4 true=true:=decide_eq_true (show -2147483648≤n∧n < 2147483648 by omega)
theorem yv9 {x:Int} {k:Int} (h:0 < k) (hk:k≤100):1≤iadd .i64 1 (gmod x k)∧iadd .i64 1 (gmod x k)≤100:=by
  have a:=jc2 x h
  have:iadd .i64 1 (gmod x k)=1 + gmod x k:=IntWalk.i64_in _ (by omega)
  omega
theorem yi8 (r:Rw) (push:Bool) {k x0 y0:Int} (free:Bool) {t:Int} (hk:1≤k∧k≤100) (hx : -6≤x0∧x0≤6) (hy : -6≤y0∧y0≤6) (ht:in16 t=true):ovG (gopV r push k x0 y0 free t):=by
  have m:=jc2 r.im (k:=k) (by omega)
  have z:∀{n c:Int},-6≤c∧c≤6→-2147483648≤goff n c∧goff n c≤2147483647:=fun {n c} h=>by have:=yv8 (n:=n) h;omega
  have a1:∀{x k:Int},0 < k→k≤100→0≤iadd .i64 1 (gmod x k)∧iadd .i64 1 (gmod x k)≤255:=fun {x k} h1 h2=>by have:=yv9 (x:=x) h1 h2;omega
  refine ⟨?_,?_⟩
  · unfold y80 gopV
    simp only [Bool.and_eq_true]
    exact ⟨vz7 (js2 (by omega) (by omega)),vz7 (js2 (by omega) (by omega)),vz7 (js2 (a1 (by omega) (by omega)) (by omega)),vz7 (js2 (a1 (by omega) (by omega)) (by omega)),vz7 (js2 (a1 (by omega) (by omega)) (by omega)),yi7 (js2 (by omega) (z hx)),yi7 (js2 (by omega) (z hy)),yi7 (js2 (z hx) (by omega)),yi7 (js2 (z hy) (by omega))⟩
  · show in16 (isel (ieq (gmod r.op 2) 0) (gsV (iquo .i64 r.op 2) t) t)=true
    cases ieq (gmod r.op 2) 0
    · exact ht
    · exact qy3 _ ht
theorem vm4:ovG qu4:=⟨by decide,by decide⟩
theorem vh9 {s:Sn} (h:0≤s.pn):1≤gscN s∧gscN s≤4:=by
  unfold gscN
  cases c:ieq s.pn 0
  · have:s.pn≠0:=of_decide_eq_false c
    rw [cond_false];omega
  · rw [cond_true];omega
theorem y69 (s:Sn) (i:Nat):gst s (i + 1)=bif band (ieq (gmod (s.rq i).kd 8) 0) (ilt 0 (lenO (gst s i).2)) then ((gst s i).1 ++ [qu4],(gst s i).2.dropLast)
    else ((gst s i).1 ++ [gnew s (gst s i).2 i],bif ieq (gnew s (gst s i).2 i).kd 2 then (gst s i).2 ++ [gnew s (gst s i).2 i] else (gst s i).2):=rfl
theorem vi0 {s:Sn} (h:0≤s.pn):∀i:Nat,(∀o∈(gst s i).1,ovG o)∧(∀o∈(gst s i).2,ovG o)∧(gst s i).1.length=i∧(gst s i).2.length≤i
  | 0=>⟨by simp [gst],by simp [gst],rfl,Nat.le_refl _⟩
  | i + 1=>by
    obtain ⟨h1,h2,h3,h4⟩:=vi0 h i
    have n:=qq7 s
    have k:=vh9 h
    have g:ovG (gnew s (gst s i).2 i):=yi8 _ _ _ (by omega) n.1 n.2.1 (vh8 s).1
    rw [y69]
    cases band (ieq (gmod (s.rq i).kd 8) 0) (ilt 0 (lenO (gst s i).2))
    · rw [cond_false]
      refine ⟨fun o ho=>?_,fun o ho=>?_,by simp [h3],?_⟩
      · rcases List.mem_append.1 ho with ho | ho
        · exact h1 o ho
        · rw [List.mem_singleton.1 ho];exact g
      · cases q:ieq (gnew s (gst s i).2 i).kd 2
        · rw [q] at ho;exact h2 o ho
        · rw [q] at ho
          rcases List.mem_append.1 ho with ho | ho
          · exact h2 o ho
          · rw [List.mem_singleton.1 ho];exact g
      · cases ieq (gnew s (gst s i).2 i).kd 2
        · exact Nat.le_succ_of_le h4
        · rw [cond_true,List.length_append];exact Nat.succ_le_succ h4
    · rw [cond_true]
      refine ⟨fun o ho=>?_,fun o ho=>h2 o ((List.dropLast_sublist _).subset ho),by simp [h3],by simp;omega⟩
      rcases List.mem_append.1 ho with ho | ho
      · exact h1 o ho
      · rw [List.mem_singleton.1 ho];exact vm4
theorem vm5 {s:Sn} (h:0≤s.pn) (hr:0≤s.rn) (j:Int):(∀o∈gstF s j,ovG o)∧(0≤j→lenO (gstF s j)=gstE s + j)∧(0≤gstE s∧gstE s≤9)∧0≤lenO (gstB s (gstE s))∧lenO (gstB s (gstE s))≤gstE s:=by
  obtain ⟨h1,h2,h3,h4⟩:=vi0 h (gstE s).toNat
  have e:0≤gstE s∧gstE s≤9:=by unfold gstE;omega
  refine ⟨fun o ho=>?_,fun h0=>?_,e,?_,?_⟩
  · rcases List.mem_append.1 ho with ho | ho
    · exact h1 o ho
    · rw [(List.mem_replicate.1 ho).2];exact vm4
  · show (((gst s (gstE s).toNat).1 ++ List.replicate j.toNat qu4).length:Int)=_
    rw [List.length_append,h3,List.length_replicate];omega
  · show (0:Int)≤((gst s (gstE s).toNat).2.length:Int);omega
  · show ((gst s (gstE s).toNat).2.length:Int)≤_;omega
end Go.Proofs.YthkidembkknoeaaDoor
namespace Go.Proofs.YthkidembkknoeaaDoor
open Go.RowKit PR QR
set_option linter.unusedVariables false
set_option linter.unusedSimpArgs false
set_option maxRecDepth 20000
theorem y68:ja6 49 vm3:=by
  intro al ans h hq
  unfold vm3 at h
  split at h <;> try (simp at h;done)
  rename_i n c
  simp only [Option.some.injEq] at h
  subst h
  have hq:=asked hq
  refine QR.ja2 (O:=(QR.orc [(20,QR.jx6 jj8)])) (QR.ja3 (up qb4) QR.jb4) mixed (QR.ja4) Tryd.func49 (by kernel_rfl) (by kernel_rfl) (by simp) ?_
  rw [yv5]
  have m3:jb8 3=true:=rfl
  have m9:jb8 9=true:=rfl
  simp only [forall_eq,true_and,and_true,ja1,jb5,eqXs,eqX,eqo,eqLo,eqc,veq,eqUs,m3,m9]
  unfold goff
  exact ⟨fun c=>by rw [c];rfl,fun c=>by rw [c];rfl⟩
theorem yv7 (r:Rw) (push:Bool) (k x0 y0 x1 y1:Int) (free:Bool) (t:Int) (hk:jb8 k=true) (ht:in16 t=true) (A:List Prop):jk0 Tryd.prog 28 [.x (.agg (vc3 r)),.x (.c (.v (.bool push))),.x (.c (.v (.int .i64 k))),.x (.agg [.v (.int .i64 x0),.v (.int .i64 y0),.v (.int .i64 x1),.v (.int .i64 y1)]),.x (.c (.v (.bool free))),.x (.c (.v (.int .u16 t)))] ⟨[.agg (jt1 (gopV r push k x0 y0 free t))],[],A⟩:=by
  refine QR.ja2 (O:=yv6) (QR.ja3 (up qb4) (QR.ja3 y68 (QR.ja3 qx5 QR.jb4))) mixed (vz6 r push k x0 y0 x1 y1 free t) Tryd.func28 (by kernel_rfl) (by kernel_rfl) (by simp) ?_
  have V:∀o:Ov,o=gopV r push k x0 y0 free t→jb5 ⟨[.agg (jt1 (gopV r push k x0 y0 free t))],[],A⟩ [.agg (jt1 o)] []:=fun o e=>by
    rw [e]
    exact ⟨⟨⟨⟨rfl,rfl⟩,⟨rfl,rfl⟩,⟨rfl,rfl⟩,⟨rfl,rfl⟩,⟨rfl,rfl⟩,⟨rfl,rfl⟩,⟨rfl,rfl⟩,⟨rfl,rfl⟩,⟨rfl,rfl⟩,⟨rfl,rfl⟩,rfl,rfl,trivial⟩,trivial⟩,trivial⟩
  rw [y67]
  generalize jb5 _=W at *
  have m:jb8 2=true∧jb8 3=true∧jb8 4=true∧jb8 12=true:=⟨rfl,rfl,rfl,rfl⟩
  simp only [forall_eq,true_and,and_true,implies_true,exists_const,m,hk,ht,forall_const]
  unfold gopV
  simp +contextual [ja1,isel,band]
  exact V _ rfl
theorem zd6:ja6 28 yi6:=by
  intro al ans hh hq
  unfold yi6 at hh
  split at hh <;> try (simp at hh;done)
  rename_i kd im x y msk mx my op opr md fl push k x0 y0 x1 y1 free t
  simp only [Option.some.injEq] at hh
  subst hh
  exact yv7 ⟨kd,im,x,y,msk,mx,my,op,opr,md,fl⟩ push k x0 y0 x1 y1 free t (hq _ (by simp)) (hq _ (by simp)) _
end Go.Proofs.YthkidembkknoeaaDoor
namespace Go.Proofs.YthkidembkknoeaaDoor
open Go.RowKit PR QR
set_option linter.unusedVariables false
set_option linter.unusedSimpArgs false
set_option maxRecDepth 20000
theorem vm6 (n:Int) (f:Int→Pc):jh9 n (vc5 f):=fun i j hi hj=>by
  have hj':j=0∨j=1∨j=2∨j=3∨j=4:=by omega
  rcases hj' with rfl | rfl | rfl | rfl | rfl
  · exact .v _
  · exact .v _
  · exact .v _
  · exact .v _
  · exact .slc fun _ _ _ _=>.v _
theorem yi9 {z:Nat} {c:CV} {q:Int×QR.Row} (h:jf4 z c=some q):je1 c=[]:=by
  unfold jf4 at h
  split at h <;> first | rfl | simp at h
theorem vi1 {c:CV} {z:Nat} {n:Int} {r:QR.Row} {q:Int×QR.Row} {z':Nat} (e:jf4 z' c=some q) (h:EqC c (.slc z n r)):eqG c (.slc z n r):=yq2 h (yi9 e) rfl
theorem yw2 {l:List CV} {s:Sn} {A:List Prop} (h:qi6 l=some (s,A)) (ha:∀p∈A,p):y62 (.x (.agg l)) (.x (.agg (qu3 s)))∧jv4 s.pn s.pq∧0≤s.m∧0≤s.pn∧0≤s.rn:=by
  unfold qi6 at h
  split at h <;> try (simp at h;done)
  rename_i b x y w h' tw th oc pc rc
  split at h <;> try (simp at h;done)
  rename_i m o pn p rn r e1 e2 e3
  simp only [Option.some.injEq,Prod.mk.injEq] at h
  obtain ⟨rfl,rfl⟩:=h
  have h1:intRow .i64 1 m o:=ha _ (by simp)
  have h2:jh9 pn p:=ha _ (by simp)
  have h3:ji0 rn r:=ha _ (by simp)
  have h4:jv4 pn (pcAt p):=ha _ (by simp)
  have h5:ile 0 m=true:=ha _ (by simp)
  have h6:ile 0 pn=true:=ha _ (by simp)
  have h7:ile 0 rn=true:=ha _ (by simp)
  refine ⟨⟨vi5 _,vi5 _,vi5 _,vi5 _,vi5 _,vi5 _,vi5 _,vi1 e1 (qd9 e1 h1),vi1 e2 (jl1 e2 (by decide) h2),vi1 e3 (jl1 e3 (by decide) h3),trivial⟩,h4,je6 h5,je6 h6,je6 h7⟩
theorem qq8 (k:IntKind) (z:Nat) (n:Int) (f:Int→Nat→Int):EqC (.slc z n (.fn fun a b=>.v (.int k (f a b)))) (.slc z n (.fn fun a b=>.v (.int k (f a b))))=True:=eq_true (.slc fun _ _ _ _=>.v _)
theorem qq9 (k:IntKind) (z:Nat) (n:Int) (f:Int→Int):EqC (.slc z n (.fn fun a _=>.v (.int k (f a)))) (.slc z n (.fn fun a _=>.v (.int k (f a))))=True:=eq_true (.slc fun _ _ _ _=>.v _)
theorem qi7 (n:Nat):(ilt (Int.ofNat n) 0=true)=False:=eq_false fun h=>by have:Int.ofNat n < 0:=of_decide_eq_true h;have:=Int.natCast_nonneg n;simp at *;omega
theorem vz9 {i:Int} (n:Nat) (h:ilt (Int.ofNat n) (addZ i 1)=true):ilt (Int.ofNat n) i=true∨(ilt (Int.ofNat n) i=false∧ieq (subZ (Int.ofNat n) i) 0=true∧Int.ofNat n=i):=by
  have h:Int.ofNat n < i + 1:=of_decide_eq_true h
  by_cases c:Int.ofNat n < i
  · exact Or.inl (jg9 c)
  · exact Or.inr ⟨decide_eq_false c,by unfold subZ;rw [show Int.ofNat n - i=0 by omega];rfl,by omega⟩
theorem yw3 (l:List Ov):0≤lenO l:=by unfold lenO;omega
theorem js3 (l:List Ov) (o:Ov):lenO (l ++ [o])=lenO l + 1:=by unfold lenO;simp
theorem jx0 (l:List Ov) (o:Ov) (n:Nat) (h:ilt (Int.ofNat n) (addZ (lenO l) 1)=true):(ilt (Int.ofNat n) (lenO l)=true∧nthO (l ++ [o]) (Int.ofNat n)=nthO l (Int.ofNat n))∨(ilt (Int.ofNat n) (lenO l)=false∧ieq (subZ (Int.ofNat n) (lenO l)) 0=true∧nthO (l ++ [o]) (Int.ofNat n)=o):=by
  rcases vz9 n h with k | ⟨k1,k2,k3⟩
  · refine Or.inl ⟨k,?_⟩
    have k:(n:Int) < (l.length:Int):=of_decide_eq_true k
    unfold nthO
    rw [List.getD_eq_getElem?_getD,List.getD_eq_getElem?_getD]
    show ((l ++ [o])[n]?).getD _=(l[n]?).getD _
    rw [List.getElem?_append_left (by omega)]
  · refine Or.inr ⟨k1,k2,?_⟩
    have k3:(n:Int)=(l.length:Int):=k3
    unfold nthO
    rw [List.getD_eq_getElem?_getD]
    show ((l ++ [o])[n]?).getD _=o
    rw [show n=l.length by omega]
    simp
theorem zd7 (s:Sn) {i:Int} (h:0≤i):(gstA s (i + 1),gstB s (i + 1))=bif band (ieq (gmod (s.rq i).kd 8) 0) (ilt 0 (lenO (gstB s i))) then (gstA s i ++ [qu4],(gstB s i).dropLast) else (gstA s i ++ [gnew s (gstB s i) i],bif ieq (gnew s (gstB s i) i).kd 2 then gstB s i ++ [gnew s (gstB s i) i] else gstB s i):=by
  have e:(i + 1).toNat=i.toNat + 1:=by omega
  have t:((i.toNat:Nat):Int)=i:=Int.toNat_of_nonneg h
  have g:=y69 s i.toNat
  rw [t] at g
  unfold gstA gstB
  rw [e,g]
theorem vd1 (l:List Ov) {k:Int} (hk:k=lenO l - 1) (n:Nat) (h:ilt (Int.ofNat n) k=true):nthO l.dropLast (Int.ofNat n)=nthO l (Int.ofNat n):=by
  have h:(n:Int) < k:=of_decide_eq_true h
  unfold lenO at hk
  unfold nthO
  rw [List.getD_eq_getElem?_getD,List.getD_eq_getElem?_getD]
  show (l.dropLast[n]?).getD _=(l[n]?).getD _
  rw [List.getElem?_dropLast,if_pos (by omega)]
theorem qr0 (l:List Ov) (h:0 < lenO l):lenO l.dropLast=lenO l - 1:=by
  unfold lenO at *
  rw [List.length_dropLast];omega
theorem yw4 {s:Sn} (h:0≤s.pn) {i:Int} (h0:0≤i):lenO (gstA s i)=i∧lenO (gstB s i)≤i:=by
  obtain ⟨_,_,a,b⟩:=vi0 h i.toNat
  unfold gstA gstB lenO
  omega
theorem y70 (s:Sn):gstF s 0=gstA s (gstE s):=List.append_nil _
theorem y71 (s:Sn) {j:Int} (h:0≤j):gstF s (j + 1)=gstF s j ++ [qu4]:=by
  unfold gstF
  rw [show (j + 1).toNat=j.toNat + 1 by omega,List.replicate_succ',List.append_assoc]
theorem yj0 (s:Sn) (hg:jv4 s.pn s.pq) (h0:0≤s.m) (h1:0≤s.pn) (h2:0≤s.rn) (A:List Prop):QR.q86 Tryd.prog 10 [.x (.agg (qu3 s))] ⟨[.agg (vs7 (gscV s))],[],A⟩:=by
  refine QR.q25 (O:=yw0) (QR.ja3 QR.vx9 (QR.ja3 (up qb4) (QR.ja3 y12 (QR.ja3 ym1 (QR.ja3 y09 (QR.ja3 zg0 (QR.ja3 ye1 (QR.ja3 zd6 QR.jb4)))))))) mixed (vz8 s) Tryd.func10 (by kernel_rfl) (by kernel_rfl) ?_
  rw [yw1]
  delta zz315 zz901 zz902 zz904 zz905 zz906 zz907 zz908 zz909 zz910 zz911 imsE opsE
  generalize hV:vl9 _=V
  have m13:jb8 13=true:=rfl
  have m5:jb8 5=true:=rfl
  have m4:jb8 4=true:=rfl
  have m8:jb8 8=true:=rfl
  have n:=qq7 s
  have mW:jb8 (gscW s)=true:=decide_eq_true (by omega)
  have mH:jb8 (gscH s)=true:=decide_eq_true (by omega)
  have cv:=yq3 s
  have tl:=vc6 s
  have M:=vh8 s
  have N:=vh9 h1
  have eM:q80 s.b=gscM s:=rfl
  have eX:isub .i64 (gmod s.x 13) 6=gscX s:=rfl
  have eY:isub .i64 (gmod s.y 13) 6=gscY s:=rfl
  have eW:iadd .i64 1 (gmod s.w 5)=gscW s:=rfl
  have eH:iadd .i64 1 (gmod s.h 4)=gscH s:=rfl
  have eX1:iadd .i64 (gscX s) (gscW s)=jd8 s:=rfl
  have eY1:iadd .i64 (gscY s) (gscH s)=jd9 s:=rfl
  have eT:iadd .i64 1 (gmod s.tw (gscW s))=gscT s:=rfl
  have eU:iadd .i64 1 (gmod s.th (gscH s))=gscU s:=rfl
  have eA:imul .i64 (tiX (gscX s) (gscY s) (jd8 s) (jd9 s) (gscT s) (gscU s)) (tiY (gscX s) (gscY s) (jd8 s) (jd9 s) (gscT s) (gscU s))=gscA s:=rfl
  have eI:∀i,gimV (s.pq i).W (s.pq i).H (s.pq i).S (s.pq i).md (s.pq i).n (s.pq i).q (gscX s) (gscY s) (jd8 s) (jd9 s) (gscM s)=gscI s i:=fun _=>rfl
  have mu:∀i n:Int,0≤i→i < n→(je0 n (i + 1)).succ.le (je0 n i):=fun i n a b=>by
    show je0 n (i + 1) < je0 n i
    unfold je0;omega
  simp only [eI,forall_eq,true_and,and_true,and_self,implies_true,or_false,false_or,false_and,and_false,exists_const,exists_false,ja1,m13,m5,m4,m8,eM,eX,eY,eW,eH,eX1,eY1,eT,eU,eA,mW,mH,qq9,qq8,qi7,false_implies,cv,M.1]
  refine ⟨⟨fun c=>by rw [c];rfl,fun c=>by rw [c];rfl⟩,fun _ _=>⟨⟨fun i j _ _=>rfl,jb1 h0,jb1 (by omega)⟩,⟨0,⟨by omega,by omega,by omega⟩,rfl,rfl,fun _ _=>rfl,rfl⟩,fun i hi=>?_⟩⟩
  obtain ⟨i0,i1,i4⟩:=hi
  refine (fun (E:(ilt i s.pn=false∨ilt i 4=false)→_)=>⟨fun c=>⟨?rd,fun d=>E (Or.inr d)⟩,fun c=>E (Or.inl c)⟩) ?ex
  case rd =>
    intro d
    have lt:=jh6 c
    have lt4:=jh6 d
    have ia:iadd .i64 i 1=i + 1:=IntWalk.i64_in _ (by omega)
    rw [ia]
    refine ⟨⟨jb1 (by unfold jd2 addZ;omega),fun a j _ _=>rfl,jb1 (hg i i0 lt),jb1 i0,c⟩,i + 1,⟨by omega,by omega,by omega⟩,⟨rfl,rfl,rfl,?_⟩,mu i 4 i0 lt4⟩
    repeat' apply And.intro
    all_goals (intro n hn;rcases vz9 n hn with k | ⟨k1,k2,k3⟩ <;> first | (rw [k];rfl) | (rw [k];exact EqC.slc fun _ _ _ _=>.v _) | (rw [k1,k2,k3];rfl) | (rw [k1,k2,k3];exact EqC.slc fun _ _ _ _=>.v _))
  intro hx
  have ex:i=min s.pn 4:=by
    rcases hx with hx | hx
    · have:=of_decide_eq_false hx;omega
    · have:=of_decide_eq_false hx;omega
  refine ⟨⟨fun c=>?_,fun c=>?_⟩,fun _ _=>⟨⟨0,⟨by omega,h2,by omega⟩,⟨rfl,rfl⟩,rfl,rfl,rfl⟩,fun i hi=>?_⟩⟩
  · have z:i=0:=jd7 c
    have pz:ieq s.pn 0=true:=by rw [show s.pn=0 by omega];rfl
    have N1:gscN s=1:=by unfold gscN;rw [pz];rfl
    have Q1:∀a,gscQ s a=qj6 (gscW s) (gscH s) (gscM s) 0 0 (gscM s) (gscM s):=fun a=>by unfold gscQ;rw [pz];rfl
    subst z
    refine ⟨jb1 (by unfold jd2 addZ;omega),N1.symm,N1.symm,?_⟩
    repeat' apply And.intro
    all_goals (intro n hn;rw [Q1];rcases vz9 n hn with k | ⟨k1,k2,k3⟩ <;> first | (exfalso;rw [qi7] at k;exact k) | (rw [k1,k2];rfl) | (rw [k1,k2];exact EqC.slc fun _ _ _ _=>.v _))
  · have z:i≠0:=of_decide_eq_false c
    have pz:ieq s.pn 0=false:=decide_eq_false (by omega)
    have N1:gscN s=i:=by unfold gscN;rw [pz,ex];rfl
    have Q1:∀a,gscQ s a=gscI s a:=fun a=>by unfold gscQ;rw [pz];rfl
    refine ⟨N1.symm,N1.symm,?_⟩
    repeat' apply And.intro
    all_goals (intro n hn;rw [Q1];try (first | rfl | exact EqC.slc fun _ _ _ _=>.v _))
  clear hx ex i0 i1 i4
  obtain ⟨i0,ir,i9⟩:=hi
  have lA:=yw4 h1 i0
  have nB:=yw3 (gstB s i)
  have G:=zd7 s i0
  refine (fun (E3:(ilt i s.rn=false∨ilt i 9=false)→_)=>⟨fun c=>⟨?rd3,fun d=>E3 (Or.inr d)⟩,fun c=>E3 (Or.inl c)⟩) ?ex3
  case rd3 =>
    intro d
    have lt:=jh6 c
    have lt9:=jh6 d
    have ia:iadd .i64 i 1=i + 1:=IntWalk.i64_in _ (by omega)
    refine ⟨⟨jb1 i0,c⟩,?_⟩
    refine (fun (E:(ieq (gmod (s.rq i).kd 8) 0=false∨igt (lenO (gstB s i)) 0=false)→_)=>⟨fun k=>⟨?tr,fun g=>E (Or.inr g)⟩,fun k=>E (Or.inl k)⟩) ?fr
    case tr =>
      intro g
      have g0:0 < lenO (gstB s i):=of_decide_eq_true g
      have is1:isub .i64 (lenO (gstB s i)) 1=lenO (gstB s i) - 1:=IntWalk.i64_in _ (by omega)
      rw [k,jg9 g0] at G
      have gA:gstA s (i + 1)=gstA s i ++ [qu4]:=congrArg Prod.fst G
      have gB:gstB s (i + 1)=(gstB s i).dropLast:=congrArg Prod.snd G
      rw [is1,ia]
      refine ⟨jb1 (by unfold jd2 addZ;omega),⟨jb1 (by omega),jb1 (by omega)⟩,i + 1,⟨by omega,by omega,by omega⟩,?_⟩
      rw [gA,gB,js3,qr0 _ g0]
      refine ⟨⟨⟨rfl,rfl⟩,rfl,⟨rfl,?_⟩,rfl,?_⟩,mu i 9 i0 lt9⟩
      · repeat' apply And.intro
        all_goals (intro n hn;rcases jx0 (gstA s i) qu4 n hn with ⟨k1,k2⟩ | ⟨k1,k2,k3⟩ <;> first | (rw [k1,k2];rfl) | (rw [k1,k2,k3];rfl))
      · repeat' apply And.intro
        all_goals (intro n hn;rw [vd1 _ rfl n hn])
    case fr =>
      intro hx
      have hC:gsC s i:=⟨⟨i0,lt,lt9⟩,by
        rcases hx with hx | hx
        · rw [hx];rfl
        · rw [show ilt 0 (lenO (gstB s i))=false from hx];cases ieq (gmod (s.rq i).kd 8) 0 <;> rfl⟩
      have is1:isub .i64 (lenO (gstB s i)) 1=lenO (gstB s i) - 1:=IntWalk.i64_in _ (by omega)
      rw [is1]
      refine ⟨⟨fun z=>⟨hC,by unfold jj5;rw [z];rfl⟩,fun z=>?_⟩,fun _ _=>?_⟩
      · have nz:lenO (gstB s i)≠0:=of_decide_eq_false z
        have a1:ile 0 (lenO (gstB s i) - 1)=true:=jb1 (by omega)
        have a2:ilt (lenO (gstB s i) - 1) (lenO (gstB s i))=true:=jg9 (by omega)
        exact ⟨fun q=>⟨⟨a1,a2,a1,a2⟩,hC,by unfold jj5;rw [z,q];rfl⟩,fun q=>⟨⟨a1,a2⟩,hC,by unfold jj5;rw [z,q];rfl⟩⟩
      · have eN:gopV (s.rq i) (ilt (gmod (s.rq i).kd 8) 3) (gscN s) (gscX s) (gscY s) (jj5 (gstB s i)) (gscM s)=gnew s (gstB s i) i:=rfl
        simp only [eN]
        rw [hC.2,cond_false] at G
        have gA:gstA s (i + 1)=gstA s i ++ [gnew s (gstB s i) i]:=congrArg Prod.fst G
        have gB:gstB s (i + 1)=bif ieq (gnew s (gstB s i) i).kd 2 then gstB s i ++ [gnew s (gstB s i) i] else gstB s i:=congrArg Prod.snd G
        rw [ia]
        refine ⟨⟨decide_eq_true (by omega),jb1 i0,c⟩,jb1 (by unfold jd2 addZ;omega),fun q=>⟨jb1 (by unfold jd2 addZ;omega),i + 1,⟨by omega,by omega,by omega⟩,?_⟩,fun q=>⟨i + 1,⟨by omega,by omega,by omega⟩,?_⟩⟩
        · rw [q,cond_true] at gB
          rw [gA,gB,js3,js3]
          refine ⟨⟨⟨rfl,rfl⟩,rfl,⟨rfl,?_⟩,rfl,?_⟩,mu i 9 i0 lt9⟩
          · repeat' apply And.intro
            all_goals (intro n hn;rcases jx0 (gstA s i) (gnew s (gstB s i) i) n hn with ⟨k1,k2⟩ | ⟨k1,k2,k3⟩ <;> first | (rw [k1,k2];rfl) | (rw [k1,k2,k3];rfl))
          · repeat' apply And.intro
            all_goals (intro n hn;rcases jx0 (gstB s i) (gnew s (gstB s i) i) n hn with ⟨k1,k2⟩ | ⟨k1,k2,k3⟩ <;> first | (rw [k1,k2];rfl) | (rw [k1,k2,k3];rfl))
        · rw [q,cond_false] at gB
          rw [gA,gB,js3]
          refine ⟨⟨⟨rfl,rfl⟩,rfl,⟨rfl,?_⟩,rfl,?_⟩,mu i 9 i0 lt9⟩
          · repeat' apply And.intro
            all_goals (intro n hn;rcases jx0 (gstA s i) (gnew s (gstB s i) i) n hn with ⟨k1,k2⟩ | ⟨k1,k2,k3⟩ <;> first | (rw [k1,k2];rfl) | (rw [k1,k2,k3];rfl))
          · repeat' apply And.intro
            all_goals (intro n hn;rfl)
  clear G
  intro hx
  have ex:gstE s=i:=by
    unfold gstE
    rcases hx with hx | hx
    · have:=of_decide_eq_false hx;omega
    · have:=of_decide_eq_false hx;omega
  subst ex
  have lF:=fun j=>(vm5 h1 h2 j).2.1
  refine ⟨⟨0,⟨by omega,by omega⟩,?_⟩,fun j hj=>?_⟩
  · rw [y70]
    refine ⟨⟨rfl,rfl⟩,rfl,⟨rfl,?_⟩,rfl,?_⟩
    · repeat' apply And.intro
      all_goals (intro n hn;rfl)
    · repeat' apply And.intro
      all_goals (intro n hn;rfl)
  · obtain ⟨j0,j1⟩:=hj
    have lj:=lF j j0
    refine ⟨fun c=>?_,fun c=>?_⟩
    · have lt:=jh6 c
      have ja:iadd .i64 j 1=j + 1:=IntWalk.i64_in _ (by omega)
      rw [ja]
      refine ⟨jb1 (by unfold jd2 addZ;omega),j + 1,⟨by omega,by omega⟩,?_⟩
      rw [y71 s j0,js3]
      refine ⟨⟨rfl,rfl,rfl,?_⟩,mu j _ j0 lt⟩
      repeat' apply And.intro
      all_goals (intro n hn;rcases jx0 (gstF s j) qu4 n hn with ⟨k1,k2⟩ | ⟨k1,k2,k3⟩ <;> first | (rw [k1,k2];rfl) | (rw [k1,k2,k3];rfl))
    · have e:j=lenO (gstB s (gstE s)):=by have:=of_decide_eq_false c;omega
      subst e
      rw [← hV]
      refine ⟨⟨⟨⟨rfl,rfl⟩,⟨rfl,rfl⟩,⟨rfl,rfl⟩,⟨rfl,rfl⟩,⟨rfl,rfl⟩,⟨rfl,rfl⟩,⟨rfl,rfl⟩,?_,?_,?_,trivial⟩,trivial⟩,trivial⟩
      · exact EqC.slc fun _ _ _ _=>.v _
      · exact EqC.slc fun a j ha hj=>vd9 (gscN s) (gscQ s) a j ha hj
      · exact EqC.slc fun a j ha hj=>qg2 (lenO (gstF s (lenO (gstB s (gstE s))))) (nthO (gstF s (lenO (gstB s (gstE s))))) a j ha hj
theorem vm7:vy7 10 qd6:=by
  intro al ans hh hq
  unfold qd6 at hh
  split at hh <;> try (simp at hh;done)
  rename_i l
  cases e:qi6 l with
  | none=>simp [e] at hh
  | some p =>
    obtain ⟨s,A⟩:=p
    rw [e] at hh
    simp only [Option.some.injEq] at hh
    subst hh
    obtain ⟨q,hg,h0,h1,h2⟩:=yw2 e hq
    exact QR.vs6 (al':=[.x (.agg (qu3 s))]) ⟨q,trivial⟩ (yj0 s hg h0 h1 h2 _)
end Go.Proofs.YthkidembkknoeaaDoor
