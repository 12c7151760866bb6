import Derived.Test.YthkidembkknoeaaDoorPm11
import Derived.Test.YthkidembkknoeaaDoorPm15
import Derived.Test.YthkidembkknoeaaDoorPm26
import Derived.Test.YthkidembkknoeaaDoorPm25
import Derived.Test.YthkidembkknoeaaDoorPm18
import Derived.Test.YthkidembkknoeaaDoorPm23
namespace Go.Proofs.YthkidembkknoeaaDoor
open Go.RowKit PR QR
set_option linter.unusedVariables false
set_option linter.unusedSimpArgs false
set_option maxRecDepth 20000
theorem ye6 (f:Int->Ov):∀i:Nat,(stk f i).length<=i
 | 0=>Nat.le_refl _
 | i + 1=>by
  have h:=ye6 f i
  unfold stk
  cases ieq (f i).kd 2
  ·rw [cond_false]
   cases ieq (f i).kd 3
   ·exact Nat.le_succ_of_le h
   ·rw [cond_true,List.length_dropLast];omega
  ·rw [cond_true,List.length_append];exact Nat.succ_le_succ h
theorem vp1 (s:Sc) {i:Int} (h:0<=i):0<=lenO (stkI s i)/\lenO (stkI s i)<=i:=by
 have:=ye6 s.pl i.toNat
 unfold lenO stkI
 omega
theorem ye7 (s:Sc) {i:Int} (h:0<=i):stkI s (i + 1)=bif ieq (s.pl i).kd 2 then stkI s i ++ [s.pl i] else bif ieq (s.pl i).kd 3 then (stkI s i).dropLast else stkI s i:=by
 unfold stkI
 rw [show (i + 1).toNat=i.toNat + 1 by omega]
 show (bif ieq (s.pl (i.toNat:Int)).kd 2 then _ else _)=_
 rw [Int.toNat_of_nonneg h]
theorem yo3 (s:Sc) {i:Int} (h:0<=i) (n:vsE s i.toNat=none):vsE s (i + 1).toNat=bif ieq (vopI s i) 0 then none else some (vopI s i,i):=by
 rw [show (i + 1).toNat=i.toNat + 1 by omega]
 show (match vsE s i.toNat with | some e=>some e | none=>bif ieq (vopI s (i.toNat:Int)) 0 then none else some (vopI s (i.toNat:Int),(i.toNat:Int)))=_
 rw [n,Int.toNat_of_nonneg h]
theorem yt7 (s:Sc) {e:Int×Int}:∀{k n:Nat},vsE s k=some e->k<=n->vsE s n=some e
 | k,0,h,l=>by rw [show k=0 by omega] at h;exact h
 | k,n + 1,h,l=>by
  by_cases q:k=n + 1
  ·subst q;exact h
  ·have:=yt7 s h (show k<=n by omega)
   unfold vsE;rw [this]
theorem yt8 (s:Sc) {i:Int} (h:0<=i) (n:qv7 s i.toNat=none):qv7 s (i + 1).toNat=bif ieq (imE (s.ml i) (smV s.b)) 0 then none else some (imE (s.ml i) (smV s.b),i):=by
 rw [show (i + 1).toNat=i.toNat + 1 by omega]
 show (match qv7 s i.toNat with | some e=>some e | none=>bif ieq (imE (s.ml (i.toNat:Int)) (smV s.b)) 0 then none else some (imE (s.ml (i.toNat:Int)) (smV s.b),(i.toNat:Int)))=_
 rw [n,Int.toNat_of_nonneg h]
theorem vj9 (s:Sc) {e:Int×Int}:∀{k n:Nat},qv7 s k=some e->k<=n->qv7 s n=some e
 | k,0,h,l=>by rw [show k=0 by omega] at h;exact h
 | k,n + 1,h,l=>by
  by_cases q:k=n + 1
  ·subst q;exact h
  ·have:=vj9 s h (show k<=n by omega)
   unfold qv7;rw [this]
theorem vk0 (s:Sc) {i:Int} (h:0<=i) (hi:i < s.pn) (n:vsE s i.toNat=none) (e:vopI s i≠0):vsP s=(vopI s i,i):=by
 have a:=yo3 s h n
 rw [show ieq (vopI s i) 0=false from decide_eq_false e,cond_false] at a
 unfold vsP
 rw [yt7 s a (show (i + 1).toNat<=s.pn.toNat by omega)]
theorem vk1 (s:Sc) (n:vsE s s.pn.toNat=none):vsP s=bif ieq (lenO (stkI s s.pn)) 0 then (0,0) else (18,s.pn):=by
 unfold vsP;rw [n]
theorem vp2 {s:Sc} {i:Int} (h:0<=i) (hi:i < s.pn) (e:vopI s i=0) (k:ieq (s.pl i).kd 3=true):lenO (stkI s i)≠0:=by
 intro z
 unfold vopI opV opE at e
 rw [decide_eq_true (show 0<=i/\i < s.pn from ⟨h,hi⟩),cond_true,decide_eq_true (by have:=jb5 k;omega),cond_true,k,z] at e
 cases q:uzB (s.pl i) <;> rw [q] at e <;> simp [ieq] at e
theorem ye8 (s:Sc) (h0:0<=s.on) (h1:0<=s.mn) (h2:0<=s.pn) (h3:s.pn<=4096) (A:List Prop):ji5 Tryd.prog 31 [.x (.agg (jf6 s))] ⟨[.c (.v (.int .i64 (qe4 s))),.c (.v (.int .i64 (qe5 s)))],[],A⟩:=by
 refine QR.ja2 (O:=vj7) (QR.ja3 QR.q39 (QR.ja3 zc6 QR.jb1)) mixed (λ n=>bif Nat.beq n 3 then some (.ownF [(4,none,12)] λ _=>[q58 s]) else none) Tryd.func31 (by kernel_rfl) (by kernel_rfl) (by simp) ?_
 rw [yo1]
 delta zz943 zz944 zz945 zz947 zz948 zz949 opsE
 have VT:∀a b,vsP s=(a,b)->jb4 ⟨[.c (.v (.int .i64 (qe4 s))),.c (.v (.int .i64 (qe5 s)))],[],A⟩ [.c (.v (.int .i64 a)),.c (.v (.int .i64 b))] []:=λ a b h=>by
  unfold qe4 qe5;rw [h];simp [jb4,eqXs,eqX,eqo,eqLo,eqc,veq,eqUs]
 generalize jb4 ⟨[.c (.v (.int .i64 (qe4 s))),.c (.v (.int .i64 (qe5 s)))],[],A⟩=V at *
 have W:intRow .i64 1 s.on (.fn λ i _=>.v (.int .i64 (s.ol i))):=jf9 _ _ _
 have I:=qg9 s.mn s.ml
 have O:=j06 s.pn s.pl
 have z0:=jb2 h0
 have z1:=jb2 h1
 have z2:=jb2 h2
 have mu:∀i:Int,0<=i->i < s.pn->(je1 s.pn (i + 1)).succ.le (je1 s.pn i):=λ i a b=>by
  show je1 s.pn (i + 1) < je1 s.pn i
  unfold je1;omega
 simp only [forall_eq,true_and,and_true,and_self,implies_true,or_false,false_or,false_and,and_false,exists_const,exists_false,ja1,qr9,qr8,qj7,false_implies]
 refine ⟨⟨0,⟨⟨Int.le_refl 0,h2⟩,rfl⟩,⟨rfl,rfl⟩,rfl⟩,λ i hi=>?_⟩
 obtain ⟨⟨i0,i1⟩,no⟩:=hi
 obtain ⟨l0,l1⟩:=vp1 s i0
 have S:=ye7 s i0
 rw [show opV s i (lenO (stkI s i)) (λ i_2=>nthO (stkI s i) i_2)=vopI s i from rfl]
 refine ⟨λ c=>?_,λ c=>?_⟩
 ·have lt:=ji8 c
  have ia:iadd .i64 i 1=i + 1:=IntWalk.i64_in _ (by omega)
  rw [ia]
  have ag:jc9 (lenO (stkI s i)) (jf3 (nthO (stkI s i))):=j06 _ _
  refine ⟨⟨jb2 i0,c⟩,⟨ag,jb2 l0,jb2 (by omega),W,I,O,z0,z1,z2⟩,λ d=>VT _ _ (vk0 s i0 lt no (jp5 d)),λ d=>?_⟩
  have ok:vopI s i=0:=jp6 d
  have nx:voI s (i + 1):=⟨⟨by omega,by omega⟩,by rw [yo3 s i0 no,ok];rfl⟩
  refine ⟨λ k=>?_,λ k=>⟨λ k3=>?_,λ k3=>?_⟩⟩
  ·rw [k,cond_true] at S
   refine ⟨jb2 (by unfold jd2 addZ;omega),i + 1,nx,?_⟩
   rw [S,js9]
   refine ⟨⟨⟨rfl,rfl⟩,rfl,?_⟩,mu i i0 lt⟩
   repeat' apply And.intro
   all_goals (intro n hn;rcases jt0 (stkI s i) (s.pl i) n hn with ⟨k1,k2⟩ | ⟨k1,k2,k3⟩ <;> first | (rw [k1,k2];rfl) | (rw [k1,k2,k3];rfl))
  ·rw [k,k3,cond_false,cond_true] at S
   have g0:0 < lenO (stkI s i):=by have:=vp2 i0 lt ok k3;omega
   have is1:isub .i64 (lenO (stkI s i)) 1=lenO (stkI s i) - 1:=IntWalk.i64_in _ (by omega)
   rw [is1]
   refine ⟨⟨jb2 (by omega),jb2 (by omega)⟩,i + 1,nx,?_⟩
   rw [S,qs1 _ g0]
   refine ⟨⟨⟨rfl,rfl⟩,rfl,?_⟩,mu i i0 lt⟩
   repeat' apply And.intro
   all_goals (intro n hn;rw [qs0 _ rfl n hn])
  ·rw [k,k3,cond_false,cond_false] at S
   refine ⟨i + 1,nx,?_⟩
   rw [S]
   refine ⟨⟨⟨rfl,rfl⟩,rfl,?_⟩,mu i i0 lt⟩
   repeat' apply And.intro
   all_goals (intro n hn;rfl)
 ·have e:i=s.pn:=by have:=jy6 c;omega
  subst e
  have E:=vk1 s no
  refine ⟨λ d=>VT _ _ ?_,λ d=>VT _ _ ?_⟩
  ·rw [E,show ieq (lenO (stkI s s.pn)) 0=false from decide_eq_false (by have:lenO (stkI s s.pn) > 0:=of_decide_eq_true d;omega)];rfl
  ·rw [E,show ieq (lenO (stkI s s.pn)) 0=true from decide_eq_true (by have:¬ lenO (stkI s s.pn) > 0:=of_decide_eq_false d;omega)];rfl
theorem yo4 {s:Sc} (h:frV s=0):s.mn<=64/\s.pn<=4096:=by
 unfold frV at h
 cases a:smOk s.b <;> cases b:plcB s.x0 s.y0 s.x1 s.y1 <;> cases c:tiB s.x0 s.y0 s.x1 s.y1 s.tw s.th <;> cases d:ordB s.on s.ol (tiX s.x0 s.y0 s.x1 s.y1 s.tw s.th * tiY s.x0 s.y0 s.x1 s.y1 s.tw s.th) <;> cases e:ile s.mn 64 <;> cases f:ile s.pn 4096 <;> rw [a,b,c,d,e,f] at h <;> first | exact ⟨je3 e,je3 f⟩ | (simp at h)
theorem vv0 (s:Sc) (h0:0<=s.on) (h1:0<=s.mn) (h2:0<=s.pn) (A:List Prop):ji5 Tryd.prog 18 [.x (.agg (jf6 s))] ⟨[.c (.v (.int .i64 (chkE s))),.c (.v (.int .i64 (chkN s)))],[],A⟩:=by
 refine QR.ja2 (O:=q60) (QR.ja3 QR.q39 (QR.ja3 y43 (QR.ja3 vj6 QR.jb1))) mixed (λ n=>bif Nat.beq n 6 then some (.ownF [(5,none,12)] λ _=>[qh2 s]) else none) Tryd.func18 (by kernel_rfl) (by kernel_rfl) (by simp) ?_
 rw [ye3]
 delta zz943 zz944 zz945 zz947 zz948 zz949 zz950 opsE
 have VT:∀a b,(bif ieq (frV s) 0 then vsP s else (frV s,0))=(a,b)->jb4 ⟨[.c (.v (.int .i64 (chkE s))),.c (.v (.int .i64 (chkN s)))],[],A⟩ [.c (.v (.int .i64 a)),.c (.v (.int .i64 b))] []:=λ a b h=>by
  unfold chkE chkN qe4 qe5
  cases q:ieq (frV s) 0 <;> rw [q] at h <;> simp only [cond_true,cond_false] at h ⊢
  ·obtain ⟨rfl,rfl⟩:=Prod.mk.inj h;simp [jb4,eqXs,eqX,eqo,eqLo,eqc,veq,eqUs]
  ·rw [h];simp [jb4,eqXs,eqX,eqo,eqLo,eqc,veq,eqUs]
 generalize jb4 ⟨[.c (.v (.int .i64 (chkE s))),.c (.v (.int .i64 (chkN s)))],[],A⟩=V at *
 have W:intRow .i64 1 s.on (.fn λ i _=>.v (.int .i64 (s.ol i))):=jf9 _ _ _
 have I:=qg9 s.mn s.ml
 have O:=j06 s.pn s.pl
 have z0:=jb2 h0
 have z1:=jb2 h1
 have z2:=jb2 h2
 have mu:∀i:Int,0<=i->i < s.pn->(je1 s.pn (i + 1)).succ.le (je1 s.pn i):=λ i a b=>by
  show je1 s.pn (i + 1) < je1 s.pn i
  unfold je1;omega
 simp only [forall_eq,true_and,and_true,and_self,implies_true,or_false,false_or,false_and,and_false,exists_const,exists_false,ja1,qr9,qr8,qj7,false_implies]
 refine ⟨⟨W,I,O,z0,z1,z2⟩,λ c=>VT _ _ (by rw [show ieq (frV s) 0=false from decide_eq_false (jp5 c)];rfl),λ c=>?_⟩
 have fr:frV s=0:=jp6 c
 have h3:=(yo4 fr).2
 rw [fr,show ieq (0:Int) 0=true from rfl,cond_true] at VT
 refine ⟨⟨0,⟨⟨Int.le_refl 0,h2⟩,rfl⟩,⟨rfl,rfl⟩,rfl⟩,λ i hi=>?_⟩
 obtain ⟨⟨i0,i1⟩,no⟩:=hi
 obtain ⟨l0,l1⟩:=vp1 s i0
 have S:=ye7 s i0
 rw [show opV s i (lenO (stkI s i)) (λ i_2=>nthO (stkI s i) i_2)=vopI s i from rfl]
 refine ⟨λ c=>?_,λ c=>?_⟩
 ·have lt:=ji8 c
  have ia:iadd .i64 i 1=i + 1:=IntWalk.i64_in _ (by omega)
  rw [ia]
  have ag:jc9 (lenO (stkI s i)) (jf3 (nthO (stkI s i))):=j06 _ _
  refine ⟨⟨ag,jb2 l0,jb2 (by omega),W,I,O,z0,z1,z2⟩,λ d=>VT _ _ (vk0 s i0 lt no (jp5 d)),λ d=>⟨⟨jb2 i0,c⟩,?_⟩⟩
  have ok:vopI s i=0:=jp6 d
  have nx:voI s (i + 1):=⟨⟨by omega,by omega⟩,by rw [yo3 s i0 no,ok];rfl⟩
  refine ⟨λ k=>?_,λ k=>⟨λ k3=>?_,λ k3=>?_⟩⟩
  ·rw [k,cond_true] at S
   refine ⟨⟨jb2 (by unfold jd2 addZ;omega),jb2 i0,c⟩,i + 1,nx,?_⟩
   rw [S,js9]
   refine ⟨⟨⟨rfl,rfl⟩,rfl,?_⟩,mu i i0 lt⟩
   repeat' apply And.intro
   all_goals (intro n hn;rcases jt0 (stkI s i) (s.pl i) n hn with ⟨k1,k2⟩ | ⟨k1,k2,k3⟩ <;> first | (rw [k1,k2];rfl) | (rw [k1,k2,k3];rfl))
  ·rw [k,k3,cond_false,cond_true] at S
   have g0:0 < lenO (stkI s i):=by have:=vp2 i0 lt ok k3;omega
   have is1:isub .i64 (lenO (stkI s i)) 1=lenO (stkI s i) - 1:=IntWalk.i64_in _ (by omega)
   rw [is1]
   refine ⟨⟨jb2 (by omega),jb2 (by omega)⟩,i + 1,nx,?_⟩
   rw [S,qs1 _ g0]
   refine ⟨⟨⟨rfl,rfl⟩,rfl,?_⟩,mu i i0 lt⟩
   repeat' apply And.intro
   all_goals (intro n hn;rw [qs0 _ rfl n hn])
  ·rw [k,k3,cond_false,cond_false] at S
   refine ⟨i + 1,nx,?_⟩
   rw [S]
   refine ⟨⟨⟨rfl,rfl⟩,rfl,?_⟩,mu i i0 lt⟩
   repeat' apply And.intro
   all_goals (intro n hn;rfl)
 ·have e:i=s.pn:=by have:=jy6 c;omega
  subst e
  have E:=vk1 s no
  refine ⟨λ d=>VT _ _ ?_,λ d=>VT _ _ ?_⟩
  ·rw [E,show ieq (lenO (stkI s s.pn)) 0=false from decide_eq_false (by have:lenO (stkI s s.pn) > 0:=of_decide_eq_true d;omega)];rfl
  ·rw [E,show ieq (lenO (stkI s s.pn)) 0=true from decide_eq_true (by have:¬ lenO (stkI s s.pn) > 0:=of_decide_eq_false d;omega)];rfl
theorem ye9:ja6 31 qh1:=by
 intro al ans h hq
 unfold qh1 at h
 split at h <;> try (simp at h;done)
 rename_i l
 cases e:jg8 l with
 | none=>simp [e] at h
 | some p =>
  obtain ⟨s,A⟩:=p
  rw [e] at h
  simp only [Option.some.injEq] at h
  subst h
  have h3:ile s.pn 4096=true:=hq _ (by simp)
  obtain ⟨q,h4,h5,h6⟩:=jv9 e (λ p hp=>hq p (by simp [hp]))
  exact jc0 (al':=[.x (.agg (jf6 s))]) ⟨q,trivial⟩ (ye8 s h4 h5 h6 (je3 h3) _)
theorem vp3:ja6 18 jm5:=by
 intro al ans h hq
 unfold jm5 at h
 split at h <;> try (simp at h;done)
 rename_i l
 cases e:jg8 l with
 | none=>simp [e] at h
 | some p =>
  obtain ⟨s,A⟩:=p
  rw [e] at h
  simp only [Option.some.injEq] at h
  subst h
  obtain ⟨q,h4,h5,h6⟩:=jv9 e hq
  exact jc0 (al':=[.x (.agg (jf6 s))]) ⟨q,trivial⟩ (vv0 s h4 h5 h6 _)
theorem qy8 (s:Sc) (h0:0<=s.on) (h1:0<=s.mn) (h2:0<=s.pn) (A:List Prop):ji5 Tryd.prog 13 [.x (.agg (jf6 s))] ⟨[.c (.v (.int .i64 (chkE s))),.c (.v (.int .i64 (chkN s)))],[],A⟩:=by
 refine QR.ja2 (O:=q61) (QR.ja3 yd7 (QR.ja3 ye9 QR.jb1)) mixed QR.ja4 Tryd.func13 (by kernel_rfl) (by kernel_rfl) (by simp) ?_
 rw [ye4]
 delta zz944 zz945 zz950
 have VT:∀a b,chkE s=a->chkN s=b->jb4 ⟨[.c (.v (.int .i64 (chkE s))),.c (.v (.int .i64 (chkN s)))],[],A⟩ [.c (.v (.int .i64 a)),.c (.v (.int .i64 b))] []:=λ a b h k=>by
  rw [h,k];simp [jb4,eqXs,eqX,eqo,eqLo,eqc,veq,eqUs]
 generalize jb4 ⟨[.c (.v (.int .i64 (chkE s))),.c (.v (.int .i64 (chkN s)))],[],A⟩=V at *
 have W:intRow .i64 1 s.on (.fn λ i _=>.v (.int .i64 (s.ol i))):=jf9 _ _ _
 have I:=qg9 s.mn s.ml
 have O:=j06 s.pn s.pl
 have z0:=jb2 h0
 have z1:=jb2 h1
 have z2:=jb2 h2
 simp only [forall_eq,true_and,and_true,implies_true,ja1]
 unfold chkE chkN at VT
 refine ⟨⟨W,I,O,z0,z1,z2⟩,λ c=>?_,λ c=>?_⟩
 ·have n:ieq (frV s) 0=false:=decide_eq_false (jp5 c)
  rw [n] at VT
  exact VT _ _ rfl rfl
 ·have n:frV s=0:=jp6 c
  rw [n] at VT
  exact ⟨⟨jb2 (yo4 n).2,W,I,O,z0,z1,z2⟩,VT _ _ rfl rfl⟩
theorem yo5:ja6 13 jm5:=by
 intro al ans h hq
 unfold jm5 at h
 split at h <;> try (simp at h;done)
 rename_i l
 cases e:jg8 l with
 | none=>simp [e] at h
 | some p =>
  obtain ⟨s,A⟩:=p
  rw [e] at h
  simp only [Option.some.injEq] at h
  subst h
  obtain ⟨q,h4,h5,h6⟩:=jv9 e hq
  exact jc0 (al':=[.x (.agg (jf6 s))]) ⟨q,trivial⟩ (qy8 s h4 h5 h6 _)
theorem ve5 (s:Sc) (h0:0<=s.on) (h1:0<=s.mn) (h2:0<=s.pn) (hg:imsG s) (A:List Prop):ji5 Tryd.prog 12 [.x (.agg (jf6 s))] ⟨[.c (.v (.int .i64 (chE s))),.c (.v (.int .i64 (chN s)))],[],A⟩:=by
 refine QR.ja2 (O:=vj8) (QR.ja3 yd7 (QR.ja3 vk9 (QR.ja3 a_iv (QR.ja3 ye9 QR.jb1)))) mixed (λ n=>bif Nat.beq n 6 then some (.inv (q59 s)) else none) Tryd.func12 (by kernel_rfl) (by kernel_rfl) (by simp) ?_
 rw [yo2]
 delta zz943 zz944 zz945 zz946 zz950 opsE
 have VT:∀a b,chP s=(a,b)->jb4 ⟨[.c (.v (.int .i64 (chE s))),.c (.v (.int .i64 (chN s)))],[],A⟩ [.c (.v (.int .i64 a)),.c (.v (.int .i64 b))] []:=λ a b h=>by
  unfold chE chN;rw [h];simp [jb4,eqXs,eqX,eqo,eqLo,eqc,veq,eqUs]
 generalize jb4 ⟨[.c (.v (.int .i64 (chE s))),.c (.v (.int .i64 (chN s)))],[],A⟩=V at *
 have W:intRow .i64 1 s.on (.fn λ i _=>.v (.int .i64 (s.ol i))):=jf9 _ _ _
 have I:=qg9 s.mn s.ml
 have O:=j06 s.pn s.pl
 have z0:=jb2 h0
 have z1:=jb2 h1
 have z2:=jb2 h2
 have mu:∀i:Int,0<=i->i < s.mn->(je1 s.mn (i + 1)).succ.le (je1 s.mn i):=λ i a b=>by
  show je1 s.mn (i + 1) < je1 s.mn i
  unfold je1;omega
 simp only [forall_eq,true_and,and_true,and_self,implies_true,or_false,false_or,false_and,and_false,exists_const,exists_false,ja1,qr9,qr8,qj7,false_implies]
 unfold chP at VT
 refine ⟨⟨W,I,O,z0,z1,z2⟩,λ c=>VT _ _ (by rw [show ieq (frV s) 0=false from decide_eq_false (jp5 c)];rfl),λ c=>?_⟩
 have fr:frV s=0:=jp6 c
 obtain ⟨m64,p4⟩:=yo4 fr
 rw [fr,show ieq (0:Int) 0=true from rfl,cond_true] at VT
 refine ⟨⟨0,⟨⟨Int.le_refl 0,h1⟩,rfl⟩,rfl⟩,λ i hi=>?_⟩
 obtain ⟨⟨i0,i1⟩,no⟩:=hi
 refine ⟨λ c=>?_,λ c=>?_⟩
 ·have lt:=ji8 c
  have ia:iadd .i64 i 1=i + 1:=IntWalk.i64_in _ (by omega)
  rw [ia]
  have gi:imG (s.ml i):=by have:=hg i.toNat (by omega);rwa [Int.toNat_of_nonneg i0] at this
  have st:=yt8 s i0 no
  have er:ine (imE (s.ml i) (smV s.b)) 0=true->V [.c (.v (.int .i64 (imE (s.ml i) (smV s.b)))),.c (.v (.int .i64 i))] []:=λ d=>VT _ _ (by
   rw [show ieq (imE (s.ml i) (smV s.b)) 0=false from decide_eq_false (jp5 d),cond_false] at st
   rw [vj9 s st (show (i + 1).toNat<=s.mn.toNat by omega)])
  have nx:ine (imE (s.ml i) (smV s.b)) 0=false->viI s (i + 1):=λ d=>⟨⟨by omega,by omega⟩,by rw [st,show imE (s.ml i) (smV s.b)=0 from jp6 d];rfl⟩
  refine ⟨⟨jb2 i0,c⟩,⟨gi,jf9 _ _ _,jf9 _ _ _,jf9 _ _ _,jf9 _ _ _,jf9 _ _ _⟩,er,λ d=>⟨i + 1,nx d,rfl,mu i i0 lt⟩⟩
 ·have e:i=s.mn:=by have:=jy6 c;omega
  subst e
  rw [no] at VT
  exact ⟨⟨jb2 p4,W,I,O,z0,z1,z2⟩,VT _ _ rfl⟩
theorem y44:ja6 12 j08:=by
 intro al ans h hq
 unfold j08 at h
 split at h <;> try (simp at h;done)
 rename_i l
 cases e:jg8 l with
 | none=>simp [e] at h
 | some p =>
  obtain ⟨s,A⟩:=p
  rw [e] at h
  simp only [Option.some.injEq] at h
  subst h
  have hg:imsG s:=hq _ (by simp)
  obtain ⟨q,h4,h5,h6⟩:=jv9 e (λ p hp=>hq p (by simp [hp]))
  exact jc0 (al':=[.x (.agg (jf6 s))]) ⟨q,trivial⟩ (ve5 s h4 h5 h6 hg _)
theorem vv1 (s:Sc) (h0:0<=s.on) (h1:0<=s.mn) (h2:0<=s.pn) (hg:imsG s) (A:List Prop):ji5 Tryd.prog 17 [.x (.agg (jf6 s))] ⟨[.c (.v (.int .i64 (chE s))),.c (.v (.int .i64 (chN s)))],[],A⟩:=by
 refine QR.ja2 (O:=q62) (QR.ja3 vj6 (QR.ja3 q79 (QR.ja3 ze0 (QR.ja3 vp3 QR.jb1)))) mixed (λ n=>bif Nat.beq n 6 then some (.inv (qh3 s)) else none) Tryd.func17 (by kernel_rfl) (by kernel_rfl) (by simp) ?_
 rw [ye5]
 delta zz943 zz944 zz945 zz950 opsE
 have VT:∀a b,chP s=(a,b)->jb4 ⟨[.c (.v (.int .i64 (chE s))),.c (.v (.int .i64 (chN s)))],[],A⟩ [.c (.v (.int .i64 a)),.c (.v (.int .i64 b))] []:=λ a b h=>by
  unfold chE chN;rw [h];simp [jb4,eqXs,eqX,eqo,eqLo,eqc,veq,eqUs]
 generalize jb4 ⟨[.c (.v (.int .i64 (chE s))),.c (.v (.int .i64 (chN s)))],[],A⟩=V at *
 have W:intRow .i64 1 s.on (.fn λ i _=>.v (.int .i64 (s.ol i))):=jf9 _ _ _
 have I:=qg9 s.mn s.ml
 have O:=j06 s.pn s.pl
 have z0:=jb2 h0
 have z1:=jb2 h1
 have z2:=jb2 h2
 have mu:∀i:Int,0<=i->i < s.mn->(je1 s.mn (i + 1)).succ.le (je1 s.mn i):=λ i a b=>by
  show je1 s.mn (i + 1) < je1 s.mn i
  unfold je1;omega
 simp only [forall_eq,true_and,and_true,and_self,implies_true,or_false,false_or,false_and,and_false,exists_const,exists_false,ja1,qr9,qr8,qj7,false_implies]
 unfold chP at VT
 refine ⟨⟨W,I,O,z0,z1,z2⟩,λ c=>VT _ _ (by rw [show ieq (frV s) 0=false from decide_eq_false (jp5 c)];rfl),λ c=>?_⟩
 have fr:frV s=0:=jp6 c
 obtain ⟨m64,p4⟩:=yo4 fr
 rw [fr,show ieq (0:Int) 0=true from rfl,cond_true] at VT
 refine ⟨⟨0,⟨⟨Int.le_refl 0,h1⟩,rfl⟩,rfl⟩,λ i hi=>?_⟩
 obtain ⟨⟨i0,i1⟩,no⟩:=hi
 refine ⟨λ c=>?_,λ c=>?_⟩
 ·have lt:=ji8 c
  have ia:iadd .i64 i 1=i + 1:=IntWalk.i64_in _ (by omega)
  rw [ia]
  have gi:imG (s.ml i):=by have:=hg i.toNat (by omega);rwa [Int.toNat_of_nonneg i0] at this
  have st:=yt8 s i0 no
  have er:ine (imE (s.ml i) (smV s.b)) 0=true->V [.c (.v (.int .i64 (imE (s.ml i) (smV s.b)))),.c (.v (.int .i64 i))] []:=λ d=>VT _ _ (by
   rw [show ieq (imE (s.ml i) (smV s.b)) 0=false from decide_eq_false (jp5 d),cond_false] at st
   rw [vj9 s st (show (i + 1).toNat<=s.mn.toNat by omega)])
  have nx:ine (imE (s.ml i) (smV s.b)) 0=false->viI s (i + 1):=λ d=>⟨⟨by omega,by omega⟩,by rw [st,show imE (s.ml i) (smV s.b)=0 from jp6 d];rfl⟩
  refine ⟨⟨gi,jf9 _ _ _,jf9 _ _ _,jf9 _ _ _,jf9 _ _ _,jf9 _ _ _,jb2 i0,c⟩,er,λ d=>⟨i + 1,nx d,rfl,mu i i0 lt⟩⟩
 ·have e:i=s.mn:=by have:=jy6 c;omega
  subst e
  rw [no] at VT
  exact ⟨⟨W,I,O,z0,z1,z2⟩,VT _ _ (by unfold chkE chkN;rw [fr];rfl)⟩
theorem yo6:ja6 17 j08:=by
 intro al ans h hq
 unfold j08 at h
 split at h <;> try (simp at h;done)
 rename_i l
 cases e:jg8 l with
 | none=>simp [e] at h
 | some p =>
  obtain ⟨s,A⟩:=p
  rw [e] at h
  simp only [Option.some.injEq] at h
  subst h
  have hg:imsG s:=hq _ (by simp)
  obtain ⟨q,h4,h5,h6⟩:=jv9 e (λ p hp=>hq p (by simp [hp]))
  exact jc0 (al':=[.x (.agg (jf6 s))]) ⟨q,trivial⟩ (vv1 s h4 h5 h6 hg _)
end Go.Proofs.YthkidembkknoeaaDoor
namespace Go.Proofs.YthkidembkknoeaaDoor
open Go.RowKit PR QR
set_option linter.unusedVariables false
set_option linter.unusedSimpArgs false
set_option maxRecDepth 20000
theorem yt9 {b x0 y0 x1 y1 tw th n:Int} {pc:CV} {r:QR.Row} (e:jf4 12 pc=some (n,r)) (hr:jc9 n r):eqCs [.v (.int .i64 b),.v (.int .i64 x0),.v (.int .i64 y0),.v (.int .i64 x1),.v (.int .i64 y1),.v (.int .i64 tw),.v (.int .i64 th),.v (.slice none 0 0),.v (.slice none 0 0),pc] (jf6 (scR b x0 y0 x1 y1 tw th n r)) :=
 ⟨.v _,.v _,.v _,.v _,.v _,.v _,.v _,.nil (by decide) rfl,.nil (by decide) rfl,jl2 e (by decide) hr,trivial⟩
theorem zc7:ja6 12 vp4:=by
 intro al ans h hq
 unfold vp4 at h
 split at h <;> try (simp at h;done)
 rename_i b x0 y0 x1 y1 tw th pc
 cases e:jf4 12 pc with
 | none=>simp [e] at h
 | some p =>
  obtain ⟨n,r⟩:=p
  simp only [e,Option.some.injEq] at h
  subst h
  obtain ⟨hr,h0,_⟩:=asked hq
  refine jc0 (al':=[.x (.agg (jf6 (scR b x0 y0 x1 y1 tw th n r)))]) ⟨yt9 e hr,trivial⟩ (ve5 _ (Int.le_refl 0) (Int.le_refl 0) (je3 h0) (λ i hi=>?_) _)
  have hi:(i:Int) < 0:=hi
  omega
theorem y45:ja6 13 q63:=by
 intro al ans h hq
 unfold q63 at h
 split at h <;> try (simp at h;done)
 rename_i b x0 y0 x1 y1 tw th pc
 cases e:jf4 12 pc with
 | none=>simp [e] at h
 | some p =>
  obtain ⟨n,r⟩:=p
  simp only [e,Option.some.injEq] at h
  subst h
  obtain ⟨hr,h0,_⟩:=asked hq
  exact jc0 (al':=[.x (.agg (jf6 (scR b x0 y0 x1 y1 tw th n r)))]) ⟨yt9 e hr,trivial⟩ (qy8 _ (Int.le_refl 0) (Int.le_refl 0) (je3 h0) _)
theorem vp5 (n:Int) (r:QR.Row) (h:n<=4096):frV (scR 8 0 0 1 1 1 1 n r)=0:=by
 have a:smOk 8=true:=by decide
 have b:plcB 0 0 1 1=true:=by decide
 have c:tiB 0 0 1 1 1 1=true:=by decide
 show (bif smOk 8 then bif plcB 0 0 1 1 then bif tiB 0 0 1 1 1 1 then bif ordB 0 _ _ then bif ile 0 64 && ile n 4096 then 0 else 5 else 4 else 3 else 2 else 1)=_
 rw [a,b,c,jb2 h];rfl
theorem yf1:ja6 14 q64:=by
 intro al ans h hq
 unfold q64 at h
 split at h <;> try (simp at h;done)
 skip
 simp only [Option.some.injEq] at h
 subst h
 have hq:=asked hq
 refine QR.ja2 (O:=yf0) (QR.ja3 zc7 (QR.ja3 y45 QR.jb1)) mixed (QR.ja4) Tryd.func14 (by kernel_rfl) (by kernel_rfl) (by simp) ?_
 rw [vv2]
 delta zz951 zz952
 simp only [forall_eq,true_and,and_true,ja1]
 have c0:chRE 8 0 0 1 1 1 1 0 (.zer [])=0:=by unfold chRE chE chP;rw [vp5 _ _ (by decide)];rfl
 generalize hP:QR.Row.upd (QR.Row.upd (QR.Row.upd (QR.Row.upd (QR.Row.upd (QR.Row.upd (QR.Row.upd (QR.Row.upd (QR.Row.upd (QR.Row.upd (QR.Row.upd (QR.Row.upd (QR.Row.zer [Value.int .i64 0,Value.int .i64 0,Value.int .i64 0,Value.int .i64 0,Value.int .i64 0,Value.int .i64 0,Value.int .i64 0,Value.int .u16 0,Value.int .i64 0,Value.int .i64 0,Value.bool false,Value.bool false]) 0 0 (CV.v (Value.int .i64 3))) 0 1 (CV.v (Value.int .i64 0))) 0 2 (CV.v (Value.int .i64 0))) 0 3 (CV.v (Value.int .i64 0))) 0 4 (CV.v (Value.int .i64 0))) 0 5 (CV.v (Value.int .i64 0))) 0 6 (CV.v (Value.int .i64 0))) 0 7 (CV.v (Value.int .u16 0))) 0 8 (CV.v (Value.int .i64 0))) 0 9 (CV.v (Value.int .i64 0))) 0 10 (CV.v (Value.bool false))) 0 11 (CV.v (Value.bool false))=P
 generalize hQ:QR.Row.upd (QR.Row.upd (QR.Row.upd (QR.Row.upd (QR.Row.upd (QR.Row.upd (QR.Row.upd (QR.Row.upd (QR.Row.upd (QR.Row.upd (QR.Row.upd (QR.Row.upd (QR.Row.zer [Value.int .i64 0,Value.int .i64 0,Value.int .i64 0,Value.int .i64 0,Value.int .i64 0,Value.int .i64 0,Value.int .i64 0,Value.int .u16 0,Value.int .i64 0,Value.int .i64 0,Value.bool false,Value.bool false]) 0 0 (CV.v (Value.int .i64 2))) 0 1 (CV.v (Value.int .i64 0))) 0 2 (CV.v (Value.int .i64 0))) 0 3 (CV.v (Value.int .i64 0))) 0 4 (CV.v (Value.int .i64 0))) 0 5 (CV.v (Value.int .i64 0))) 0 6 (CV.v (Value.int .i64 0))) 0 7 (CV.v (Value.int .u16 0))) 0 8 (CV.v (Value.int .i64 4))) 0 9 (CV.v (Value.int .i64 1))) 0 10 (CV.v (Value.bool false))) 0 11 (CV.v (Value.bool false))=Q
 have oP:ovAt P 0=⟨3,0,0,0,0,0,0,0,0,0,false,false⟩:=by subst hP;rfl
 have oQ:ovAt Q 0=⟨2,0,0,0,0,0,0,0,4,1,false,false⟩:=by subst hQ;rfl
 have rP:jc9 1 P:=λ i j hi hj=>by
  obtain rfl:i=0:=by omega
  subst hP
  match j,hj with
  | 0,_ | 1,_ | 2,_ | 3,_ | 4,_ | 5,_ | 6,_ | 7,_ | 8,_ | 9,_ | 10,_ | 11,_=>exact .v _
  | n + 12,h=>omega
 have rQ:jc9 1 Q:=λ i j hi hj=>by
  obtain rfl:i=0:=by omega
  subst hQ
  match j,hj with
  | 0,_ | 1,_ | 2,_ | 3,_ | 4,_ | 5,_ | 6,_ | 7,_ | 8,_ | 9,_ | 10,_ | 11,_=>exact .v _
  | n + 12,h=>omega
 clear hP hQ
 have vP:vopI (scR 8 0 0 1 1 1 1 1 P) 0=18:=by
  show opE 8 0 (ovAt P 0) 0 _=18
  rw [oP];rfl
 have vQ:vopI (scR 8 0 0 1 1 1 1 1 Q) 0=0:=by
  show opE 8 0 (ovAt Q 0) 0 _=0
  rw [oQ];rfl
 have pP:=vk0 (scR 8 0 0 1 1 1 1 1 P) (Int.le_refl 0) (show (0:Int) < 1 by decide) rfl (by rw [vP];decide)
 have nQ:vsE (scR 8 0 0 1 1 1 1 1 Q) 1=none:=(yo3 (scR 8 0 0 1 1 1 1 1 Q) (Int.le_refl 0) rfl).trans (by rw [vQ];rfl)
 have pQ:=vk1 (scR 8 0 0 1 1 1 1 1 Q) nQ
 have sQ:stkI (scR 8 0 0 1 1 1 1 1 Q) 1=[ovAt Q 0]:=(ye7 (scR 8 0 0 1 1 1 1 1 Q) (Int.le_refl 0)).trans (by
  show (bif ieq (ovAt Q 0).kd 2 then [] ++ [ovAt Q 0] else _)=_
  rw [oQ];rfl)
 rw [show (scR 8 0 0 1 1 1 1 1 Q).pn=1 from rfl,sQ] at pQ
 have c1:chP (scR 8 0 0 1 1 1 1 1 P)=(18,0):=by unfold chP;rw [vp5 _ _ (by decide),show qv7 (scR 8 0 0 1 1 1 1 1 P) (scR 8 0 0 1 1 1 1 1 P).mn.toNat=none from rfl,pP,vP];rfl
 have c2:chRE 8 0 0 1 1 1 1 1 P=18:=congrArg Prod.fst c1
 have c3:chRN 8 0 0 1 1 1 1 1 P=0:=congrArg Prod.snd c1
 have c4:ckRE 8 0 0 1 1 1 1 1 Q=18:=by unfold ckRE chkE qe4;rw [vp5 _ _ (by decide),pQ];rfl
 have c5:ckRN 8 0 0 1 1 1 1 1 Q=1:=by unfold ckRN chkN qe5;rw [vp5 _ _ (by decide),pQ];rfl
 simp only [c0,c2,c3,c4,c5,show ieq (0:Int) 0=true from rfl,show ieq (18:Int) 18=true from rfl,show ieq (1:Int) 1=true from rfl]
 refine ⟨λ i j hi _=>by omega,rP,rQ,?_⟩
 simp [jb4,eqXs,eqX,eqo,eqLo,eqc,veq,eqUs]
end Go.Proofs.YthkidembkknoeaaDoor
namespace Go.Proofs.YthkidembkknoeaaDoor
open Go.RowKit PR QR
set_option linter.unusedVariables false
set_option linter.unusedSimpArgs false
set_option maxRecDepth 20000
theorem zh3 (s:Sn) (h0:0<=s.m) (h1:0<=s.pn) (h2:0<=s.rn):scW (gscV s):=by
 have n:=qr7 s
 have tl:=vd4 s
 have M:=vi3 s
 have N:=vi4 h1
 have cv:=yt1 s
 obtain ⟨f1,f2,f3,f4,f5⟩:=vn9 h1 h2 (lenO (gstB s (gstE s)))
 have pN:0<=pmN s.m (gscA s)/\pmN s.m (gscA s)<=gscA s:=by unfold pmN;split <;> omega
 have p:1 * 1<=gscW s * gscH s:=Int.mul_le_mul n.2.2.1.1 n.2.2.2.1.1 (by omega) (by omega)
 have q:gscW s * gscH s<=5 * 4:=Int.mul_le_mul n.2.2.1.2 n.2.2.2.1.2 (by omega) (by omega)
 have r:reB (gscX s) (gscY s) (jd9 s) (je0 s)=false:=re_f.2 ⟨⟨by unfold F30;omega,by unfold F30;omega,by unfold F30;omega,by unfold F30;omega⟩,by omega,by omega⟩
 have pl:plcB (gscX s) (gscY s) (jd9 s) (je0 s)=true:=by
  unfold plcB jg4
  rw [decide_eq_true (show reB (gscX s) (gscY s) (jd9 s) (je0 s)=false/\(jd9 s - gscX s) * (je0 s - gscY s)<=16777216 from ⟨r,by rw [show jd9 s - gscX s=gscW s by omega,show je0 s - gscY s=gscH s by omega];omega⟩),decide_eq_true (by omega),decide_eq_true (by omega)];rfl
 have ti:tiB (gscX s) (gscY s) (jd9 s) (je0 s) (gscT s) (gscU s)=true:=decide_eq_true ⟨r,by omega,by omega⟩
 have sm:smOk (isel (igt (gscM s) 255) 16 8)=true/\smV (isel (igt (gscM s) 255) 16 8)=gscM s:=by
  rcases M.2 with e | e <;> rw [e] <;> exact ⟨by decide,by decide⟩
 refine ⟨⟨sm.1,pl,ti,?_⟩,?_,?_,λ i a b=>?_,?_⟩
 ·show ordB (pmN s.m (gscA s)) (gscO s) (tiX (gscX s) (gscY s) (jd9 s) (je0 s) (gscT s) (gscU s) * tiY (gscX s) (gscY s) (jd9 s) (je0 s) (gscT s) (gscU s))=true
  have e:gscA s=tiX (gscX s) (gscY s) (jd9 s) (je0 s) (gscT s) (gscU s) * tiY (gscX s) (gscY s) (jd9 s) (je0 s) (gscT s) (gscU s):=(q56 ti pl).2
  rw [<- e,<- yt5 (by omega)]
  exact y54 s.m (λ a _=>s.ol a) (n:=gscA s) (by omega) (by omega)
 ·show 0<=pmN s.m (gscA s)/\pmN s.m (gscA s)<=100;omega
 ·show 1<=gscN s/\gscN s<=4;omega
 ·show imG (gscQ s i)/\imE (gscQ s i) (smV (isel (igt (gscM s) 255) 16 8))=0
  rw [sm.2]
  unfold gscQ
  cases ieq s.pn 0
  ·rw [cond_false]
   obtain ⟨g1,g2,g3,g4⟩:=yq6 (s.pq i).W (s.pq i).H (s.pq i).S (s.pq i).md (s.pq i).n (s.pq i).q M.1 cv
   exact ⟨g1.1,vr3 g1.2.1 g4⟩
  ·rw [cond_true]
   have f:=jg7.2 (show 1<=gscW s/\1<=gscH s/\gscW s * gscH s<=16777216 from ⟨by omega,by omega,by omega⟩)
   have g:=vr2 (c1:=0) (c2:=0) f M.1 rfl rfl M.1 M.1
   refine ⟨g.1,vr3 g.2.1 ?_⟩
   rw [qf0 f rfl]
   have m0:=jk9.1 M.1
   exact qt4.2 ⟨Int.le_refl _,m0.1,m0.1,Int.le_refl _,Int.le_refl _⟩
 ·show 0<=lenO (gstF s (lenO (gstB s (gstE s))))/\lenO (gstF s (lenO (gstB s (gstE s))))<=100
  have:=f2 f4
  omega
end Go.Proofs.YthkidembkknoeaaDoor
namespace Go.Proofs.YthkidembkknoeaaDoor
open Go.RowKit PR QR
set_option linter.unusedVariables false
set_option linter.unusedSimpArgs false
set_option maxRecDepth 20000
theorem zc8 (n:Int) (f:Int->Rw):j05 n (v99 f):=λ i j hi hj=>by
 have hj':j=0\/j=1\/j=2\/j=3\/j=4\/j=5\/j=6\/j=7\/j=8\/j=9\/j=10:=by omega
 rcases hj' with rfl | rfl | rfl | rfl | rfl | rfl | rfl | rfl | rfl | rfl | rfl <;> exact .v _
end Go.Proofs.YthkidembkknoeaaDoor
