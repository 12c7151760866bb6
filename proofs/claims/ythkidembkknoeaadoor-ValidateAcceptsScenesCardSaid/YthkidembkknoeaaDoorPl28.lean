import Derived.Test.YthkidembkknoeaaDoorPl11
import Derived.Test.YthkidembkknoeaaDoorPl16
import Derived.Test.YthkidembkknoeaaDoorPl27
namespace Go.Proofs.YthkidembkknoeaaDoor
open Go.RowKit PR QR
set_option linter.unusedVariables false
set_option linter.unusedSimpArgs false
set_option maxRecDepth 20000
theorem yn2 (s:Sc) (f:Int->Im):∀n:Nat,vsE ⟨s.b,s.x0,s.y0,s.x1,s.y1,s.tw,s.th,s.on,s.ol,s.mn,f,s.pn,s.pl⟩ n=vsE s n
 | 0=>rfl
 | n + 1=>by
  have a:=yn2 s f n
  unfold vsE
  rw [a];rfl
theorem y53 (s:Sc) (f:Int->Im):vsP ⟨s.b,s.x0,s.y0,s.x1,s.y1,s.tw,s.th,s.on,s.ol,s.mn,f,s.pn,s.pl⟩=vsP s:=by
 unfold vsP
 rw [yn2];rfl
theorem y54 {s:Sc} (h:scA s) (k:Int) {a:Int} (a0:0<=a) (a1:a < s.mn):imG (gstV (s.ml a) k)/\imE (gstV (s.ml a) k) (smV s.b)=0:=by
 obtain ⟨r,hw,hh,al⟩:=h.2.1 a a0 a1
 obtain ⟨g1,g2,g3,g4⟩:=yk1 k r (by omega) (by omega)
 have f:=(jr8.1 r.2.1).1
 refine ⟨g1.1,q47 g1.2.1 ?_⟩
 rw [y72 ⟨g2,g3,λ k x y hk x0 x1 y0 y1=>g4 k x y hk x0 x1 y0 y1⟩ f]
 exact al
theorem yv8 {s:Sc} (h:scA s) (k:Int) (f:Int->Im) (hf:∀a,0<=a->a < s.mn->f a=gstV (s.ml a) k) :
  (frV ⟨s.b,s.x0,s.y0,s.x1,s.y1,s.tw,s.th,s.on,s.ol,s.mn,f,s.pn,s.pl⟩=0/\imsG ⟨s.b,s.x0,s.y0,s.x1,s.y1,s.tw,s.th,s.on,s.ol,s.mn,f,s.pn,s.pl⟩)/\
  (chE ⟨s.b,s.x0,s.y0,s.x1,s.y1,s.tw,s.th,s.on,s.ol,s.mn,f,s.pn,s.pl⟩=0/\chN ⟨s.b,s.x0,s.y0,s.x1,s.y1,s.tw,s.th,s.on,s.ol,s.mn,f,s.pn,s.pl⟩=0)/\
  chkE ⟨s.b,s.x0,s.y0,s.x1,s.y1,s.tw,s.th,s.on,s.ol,s.mn,f,s.pn,s.pl⟩=0/\chkN ⟨s.b,s.x0,s.y0,s.x1,s.y1,s.tw,s.th,s.on,s.ol,s.mn,f,s.pn,s.pl⟩=0:=by
 have m0:1<=s.mn/\s.mn<=4:=h.1.2.2.1
 have p0:0<=s.pn/\s.pn<=100:=h.1.2.2.2.2
 have fr:=fr_W h.1 s.pn s.pl (by omega) s.mn f (by omega)
 have v:=(y53 s f).trans h.2.2
 have i:=qv0 (s:=⟨s.b,s.x0,s.y0,s.x1,s.y1,s.tw,s.th,s.on,s.ol,s.mn,f,s.pn,s.pl⟩) s.mn.toNat λ a a0 a1=>by
  show imE (f a) (smV s.b)=0
  rw [hf a a0 (by omega)]
  exact (y54 h k a0 (by omega)).2
 refine ⟨⟨fr,λ a a1=>?_⟩,?_,?_⟩
 ·show imG (f a)
  have a1:(a:Int) < s.mn:=a1
  rw [hf a (by omega) a1]
  exact (y54 h k (by omega) a1).1
 ·have e:chP ⟨s.b,s.x0,s.y0,s.x1,s.y1,s.tw,s.th,s.on,s.ol,s.mn,f,s.pn,s.pl⟩=(0,0):=by
   unfold chP
   rw [fr,show qh5 ⟨s.b,s.x0,s.y0,s.x1,s.y1,s.tw,s.th,s.on,s.ol,s.mn,f,s.pn,s.pl⟩ (Sc.mn ⟨s.b,s.x0,s.y0,s.x1,s.y1,s.tw,s.th,s.on,s.ol,s.mn,f,s.pn,s.pl⟩).toNat=none from i,v];rfl
  unfold chE chN
  rw [e];exact ⟨rfl,rfl⟩
 ·unfold chkE chkN qb7 qb8
  rw [fr,v];exact ⟨rfl,rfl⟩
set_option linter.unusedVariables false in
theorem jn2 (sb sx sy sw sh st su:Int) (on:Nat) (ol:Int->Nat->Int) (pn:Nat) (pW pH pS pd:Int->Int) (pc:Int->Nat) (pl:Int->Int->Nat->Int) (un:Nat) (u0 u1 u2 u3 u4 u5 u6 u7 u8 u9 u10:Int->Int) (more:Int) (w0:(Lit.int .i64 sb).wf=true) (w1:(Lit.int .i64 sx).wf=true) (w2:(Lit.int .i64 sy).wf=true) (w3:(Lit.int .i64 sw).wf=true) (w4:(Lit.int .i64 sh).wf=true) (w5:(Lit.int .i64 st).wf=true) (w6:(Lit.int .i64 su).wf=true) (z0:on<=maxLen) (w7:∀i j:Nat,i < on->j < 1->(Lit.int .i64 (ol i j)).wf=true) (z1:pn<=maxLen) (w8:∀i:Nat,i < pn->(Lit.int .i64 (pW i)).wf=true) (w9:∀i:Nat,i < pn->(Lit.int .i64 (pH i)).wf=true) (w10:∀i:Nat,i < pn->(Lit.int .i64 (pS i)).wf=true) (w11:∀i:Nat,i < pn->(Lit.int .i64 (pd i)).wf=true) (w12:∀i a b:Nat,i < pn->a < pc i->b < 5->(Lit.int .i64 (pl i a b)).wf=true) (z1_pc:∀i:Nat,i < pn->pc i<=maxLen) (z2:un<=maxLen) (w13:∀i:Nat,i < un->(Lit.int .i64 (u0 i)).wf=true) (w14:∀i:Nat,i < un->(Lit.int .i64 (u1 i)).wf=true) (w15:∀i:Nat,i < un->(Lit.int .i64 (u2 i)).wf=true) (w16:∀i:Nat,i < un->(Lit.int .i64 (u3 i)).wf=true) (w17:∀i:Nat,i < un->(Lit.int .i64 (u4 i)).wf=true) (w18:∀i:Nat,i < un->(Lit.int .i64 (u5 i)).wf=true) (w19:∀i:Nat,i < un->(Lit.int .i64 (u6 i)).wf=true) (w20:∀i:Nat,i < un->(Lit.int .i64 (u7 i)).wf=true) (w21:∀i:Nat,i < un->(Lit.int .i64 (u8 i)).wf=true) (w22:∀i:Nat,i < un->(Lit.int .i64 (u9 i)).wf=true) (w23:∀i:Nat,i < un->(Lit.int .i64 (u10 i)).wf=true) (w24:(Lit.int .i64 more).wf=true) (w:World) {F:Nat->Prop} (hG:QR.Laid F w) (hF:∀k,F k->k < w.heap.size) (x0:Value) (r0:QR.Rep F w (.slc 1 ((on:Nat):Int) (.fn λ i j=>.v (.int .i64 (ol i j)))) x0) (x1:Value) (r1:QR.Rep F w (.slc 5 ((pn:Nat):Int) (.col 0 (λ i=>.v (.int .i64 (pW i))) (.col 1 (λ i=>.v (.int .i64 (pH i))) (.col 2 (λ i=>.v (.int .i64 (pS i))) (.col 3 (λ i=>.v (.int .i64 (pd i))) (.col 4 (λ i=>.slc 5 ((pc i:Nat):Int) (.fn λ a b=>.v (.int .i64 (pl i a b)))) (.zer []))))))) x1) (x2:Value) (r2:QR.Rep F w (.slc 11 ((un:Nat):Int) (.col 0 (λ i=>.v (.int .i64 (u0 i))) (.col 1 (λ i=>.v (.int .i64 (u1 i))) (.col 2 (λ i=>.v (.int .i64 (u2 i))) (.col 3 (λ i=>.v (.int .i64 (u3 i))) (.col 4 (λ i=>.v (.int .i64 (u4 i))) (.col 5 (λ i=>.v (.int .i64 (u5 i))) (.col 6 (λ i=>.v (.int .i64 (u6 i))) (.col 7 (λ i=>.v (.int .i64 (u7 i))) (.col 8 (λ i=>.v (.int .i64 (u8 i))) (.col 9 (λ i=>.v (.int .i64 (u9 i))) (.col 10 (λ i=>.v (.int .i64 (u10 i))) (.zer []))))))))))))) x2) :
  Calls Tryd.prog 3 #[.agg #[.int .i64 sb,.int .i64 sx,.int .i64 sy,.int .i64 sw,.int .i64 sh,.int .i64 st,.int .i64 su,x0,x1,x2],.int .i64 more] w λ e w'=>e=.returned (.bool true)/\Below w.heap.size w w':=by
 refine vf4 (O:=q28) (QR.vw3 y17 (QR.ja3 zc4 (QR.ja3 yv6 (QR.ja3 yi0 (QR.ja3 v07 (QR.ja3 v97 QR.jb2)))))) mixed ((λ n=>bif Nat.beq n 700002 then some (.cut (q26 more)) else bif Nat.beq n 3 then some (.invs [q27 more]) else none)) Tryd.func3 (by kernel_rfl) (vs:=[.agg #[.int .i64 sb,.int .i64 sx,.int .i64 sy,.int .i64 sw,.int .i64 sh,.int .i64 st,.int .i64 su,x0,x1,x2],.int .i64 more]) (args:=[.x (.agg [.v (.int .i64 sb),.v (.int .i64 sx),.v (.int .i64 sy),.v (.int .i64 sw),.v (.int .i64 sh),.v (.int .i64 st),.v (.int .i64 su),.slc 1 ((on:Nat):Int) (.fn λ i j=>.v (.int .i64 (ol i j))),.slc 5 ((pn:Nat):Int) (.col 0 (λ i=>.v (.int .i64 (pW i))) (.col 1 (λ i=>.v (.int .i64 (pH i))) (.col 2 (λ i=>.v (.int .i64 (pS i))) (.col 3 (λ i=>.v (.int .i64 (pd i))) (.col 4 (λ i=>.slc 5 ((pc i:Nat):Int) (.fn λ a b=>.v (.int .i64 (pl i a b)))) (.zer [])))))),.slc 11 ((un:Nat):Int) (.col 0 (λ i=>.v (.int .i64 (u0 i))) (.col 1 (λ i=>.v (.int .i64 (u1 i))) (.col 2 (λ i=>.v (.int .i64 (u2 i))) (.col 3 (λ i=>.v (.int .i64 (u3 i))) (.col 4 (λ i=>.v (.int .i64 (u4 i))) (.col 5 (λ i=>.v (.int .i64 (u5 i))) (.col 6 (λ i=>.v (.int .i64 (u6 i))) (.col 7 (λ i=>.v (.int .i64 (u7 i))) (.col 8 (λ i=>.v (.int .i64 (u8 i))) (.col 9 (λ i=>.v (.int .i64 (u9 i))) (.col 10 (λ i=>.v (.int .i64 (u10 i))) (.zer []))))))))))))]),.x (.c (.v (.int .i64 more)))]) (by simp) ?_ w hG hF ⟨⟨[.int .i64 sb,.int .i64 sx,.int .i64 sy,.int .i64 sw,.int .i64 sh,.int .i64 st,.int .i64 su,x0,x1,x2],rfl,⟨.v rfl,.v rfl,.v rfl,.v rfl,.v rfl,.v rfl,.v rfl,r0,r1,r2,trivial⟩⟩,.v rfl,rfl⟩
 rw [jq0]
 delta zz976 zz977 zz978 imsE opsE
 have VT:∀b:Bool,b=true->jb6 ⟨[.c (.v (.bool true))],[],[]⟩ [.c (.v (.bool b))] []:=λ b e=>by subst e;simp [jb6,eqXs,eqX,eqo,eqLo,eqc,veq,eqUs]
 generalize jb6 _=V at *
 simp only [forall_eq,true_and,and_true,and_self,implies_true,or_false,false_or,false_and,and_false,exists_const,exists_false,ja1,vk2,vk1,va1,false_implies]
 have G:=zb4 ⟨sb,sx,sy,sw,sh,st,su,on,λ i=>ol i 0,pn,λ i=>⟨pW i,pH i,pS i,pd i,pc i,pl i⟩,un,λ i=>⟨u0 i,u1 i,u2 i,u3 i,u4 i,u5 i,u6 i,u7 i,u8 i,u9 i,u10 i⟩⟩ (Int.natCast_nonneg on) (Int.natCast_nonneg pn) (Int.natCast_nonneg un)
 have AS:intRow .i64 1 (on:Int) (.fn λ i j=>.v (.int .i64 (ol i j)))/\jy2 (pn:Int) (vw9 λ i=>⟨pW i,pH i,pS i,pd i,pc i,pl i⟩)/\jy3 (un:Int) (vw8 λ i=>⟨u0 i,u1 i,u2 i,u3 i,u4 i,u5 i,u6 i,u7 i,u8 i,u9 i,u10 i⟩)/\q94 (pn:Int) (λ i=>⟨pW i,pH i,pS i,pd i,pc i,pl i⟩)/\ile 0 (on:Int)=true/\ile 0 (pn:Int)=true/\ile 0 (un:Int)=true:=⟨λ i j _ _=>rfl,y14 _ (λ i=>⟨pW i,pH i,pS i,pd i,pc i,pl i⟩),y51 _ (λ i=>⟨u0 i,u1 i,u2 i,u3 i,u4 i,u5 i,u6 i,u7 i,u8 i,u9 i,u10 i⟩),λ i _ _=>Int.natCast_nonneg _,jb4 (Int.natCast_nonneg _),jb4 (Int.natCast_nonneg _),jb4 (Int.natCast_nonneg _)⟩
 refine ⟨⟨AS,_,G,?_⟩,λ s hs=>?_⟩
 ·repeat' apply And.intro
  all_goals first | rfl | (intro n hn;first | rfl | exact EqC.slc λ _ _ _ _=>.v _)
 clear G AS
 have z:∀n:Nat,strJ s more 0 (Int.ofNat n)=s.ml (Int.ofNat n):=λ n=>by
  unfold strJ
  rw [show ilt (Int.ofNat n) 0=false from decide_eq_false (by have:0<=Int.ofNat n:=Int.natCast_nonneg n;omega)];rfl
 have m0:1<=s.mn/\s.mn<=4:=hs.1.2.2.1
 refine ⟨⟨⟨s,0⟩,⟨hs,Int.le_refl 0,by show 0<=s.mn;omega⟩,rfl,?_⟩,λ x hx=>?_⟩
 ·repeat' apply And.intro
  all_goals first | rfl | (intro n hn;first | rfl | (dsimp only;rw [z];done) | (dsimp only;rw [z];exact EqC.slc λ _ _ _ _=>.v _))
 clear hs z m0
 obtain ⟨s,i⟩:=x
 obtain ⟨hs,i0,i1⟩:=hx
 dsimp only at hs i0 i1 ⊢
 have m0:1<=s.mn/\s.mn<=4:=hs.1.2.2.1
 refine ⟨λ c=>?_,λ c=>?_⟩
 ·have lt:=jg6 c
  have st:∀n:Int,(bif ieq n i then gstV (strJ s more i i) more else strJ s more i n)=strJ s more (i + 1) n:=λ n=>by
   unfold strJ
   rw [show ilt i i=false from qb6 (Int.le_refl i),cond_false]
   by_cases h:n=i
   ·subst h;rw [show ieq n n=true by simp [ieq],jl0 (show n < n + 1 by omega)];rfl
   ·rw [show ieq n i=false from decide_eq_false h,cond_false]
    by_cases h2:n < i
    ·rw [jl0 h2,jl0 (show n < i + 1 by omega)]
    ·rw [qb6 (show i<=n by omega),qb6 (show i + 1<=n by omega)]
  have e:strJ s more i i=s.ml i:=by unfold strJ;rw [show ilt i i=false from qb6 (Int.le_refl i)];rfl
  have r:=(hs.2.1 i i0 lt).1
  have ia:iadd .i64 i 1=i + 1:=IntWalk.i64_in _ (by omega)
  refine ⟨⟨jb4 i0,c,e▸r.1,e▸r.2.1,jh3 _ _ _,jh3 _ _ _,jh3 _ _ _,jh3 _ _ _,jh3 _ _ _,jb4 i0,c⟩,⟨s,i + 1⟩,⟨hs,by show 0<=i + 1;omega,by show i + 1<=s.mn;omega⟩,⟨ia,⟨rfl,rfl,rfl,rfl,rfl,rfl,rfl,rfl,rfl,rfl⟩,⟨rfl,λ _ _=>rfl⟩,?_⟩,?_⟩
  rotate_left
  ·show je5 s.mn (i + 1) < je5 s.mn i
   unfold je5;omega
  repeat' apply And.intro
  all_goals first | rfl | (intro n hn;first | rfl | (dsimp only;rw [<- st (Int.ofNat n)];cases ieq (Int.ofNat n) i <;> first | rfl | exact EqC.slc λ _ _ _ _=>.v _))
 ·have c:=jt7 c
  obtain rfl:i=s.mn:=by omega
  obtain ⟨⟨a1,a2⟩,⟨a3,a4⟩,a5,a6⟩:=yv8 hs more (strJ s more s.mn) λ a _ h=>by unfold strJ;rw [jl0 h];rfl
  have W:intRow .i64 1 s.on (.fn λ a _=>.v (.int .i64 (s.ol a))):=jh3 _ _ _
  have I:=vp8 s.mn (strJ s more s.mn)
  have O:=q06 s.pn s.pl
  have z0:ile 0 s.on=true:=jb4 hs.1.2.1.1
  have z1:ile 0 s.mn=true:=jb4 (by omega)
  have z2:ile 0 s.pn=true:=jb4 hs.1.2.2.2.2.1
  simp only [a1,a3,a4,a5,a6,show ieq (0:Int) 0=true from rfl,reduceCtorEq,false_implies,true_implies,and_true,true_and]
  exact ⟨⟨a2,W,I,O,z0,z1,z2⟩,⟨W,I,O,z0,z1,z2⟩,⟨W,I,O,z0,z1,z2⟩,VT _ rfl⟩
end Go.Proofs.YthkidembkknoeaaDoor
