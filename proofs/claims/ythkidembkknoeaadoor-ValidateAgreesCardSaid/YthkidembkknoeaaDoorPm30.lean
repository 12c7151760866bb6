import Derived.Test.YthkidembkknoeaaDoorPm11
import Derived.Test.YthkidembkknoeaaDoorPm15
import Derived.Test.YthkidembkknoeaaDoorPm29
namespace Go.Proofs.YthkidembkknoeaaDoor
open Go.RowKit PR QR
set_option linter.unusedVariables false
set_option linter.unusedSimpArgs false
set_option maxRecDepth 20000
set_option linter.unusedVariables false in
theorem j09 (sb sx sy sw sh st su:Int) (on:Nat) (ol:Int->Nat->Int) (pn:Nat) (pW pH pS pd:Int->Int) (pc:Int->Nat) (pl:Int->Int->Nat->Int) (un:Nat) (u0 u1 u2 u3 u4 u5 u6 u7 u8 u9 u10:Int->Int) (qa qb qy qw v:Int) (w0:(Lit.int .i64 sb).wf=true) (w1:(Lit.int .i64 sx).wf=true) (w2:(Lit.int .i64 sy).wf=true) (w3:(Lit.int .i64 sw).wf=true) (w4:(Lit.int .i64 sh).wf=true) (w5:(Lit.int .i64 st).wf=true) (w6:(Lit.int .i64 su).wf=true) (z0:on<=maxLen) (w7:∀i j:Nat,i < on->j < 1->(Lit.int .i64 (ol i j)).wf=true) (z1:pn<=maxLen) (w8:∀i:Nat,i < pn->(Lit.int .i64 (pW i)).wf=true) (w9:∀i:Nat,i < pn->(Lit.int .i64 (pH i)).wf=true) (w10:∀i:Nat,i < pn->(Lit.int .i64 (pS i)).wf=true) (w11:∀i:Nat,i < pn->(Lit.int .i64 (pd i)).wf=true) (w12:∀i a b:Nat,i < pn->a < pc i->b < 5->(Lit.int .i64 (pl i a b)).wf=true) (z1_pc:∀i:Nat,i < pn->pc i<=maxLen) (z2:un<=maxLen) (w13:∀i:Nat,i < un->(Lit.int .i64 (u0 i)).wf=true) (w14:∀i:Nat,i < un->(Lit.int .i64 (u1 i)).wf=true) (w15:∀i:Nat,i < un->(Lit.int .i64 (u2 i)).wf=true) (w16:∀i:Nat,i < un->(Lit.int .i64 (u3 i)).wf=true) (w17:∀i:Nat,i < un->(Lit.int .i64 (u4 i)).wf=true) (w18:∀i:Nat,i < un->(Lit.int .i64 (u5 i)).wf=true) (w19:∀i:Nat,i < un->(Lit.int .i64 (u6 i)).wf=true) (w20:∀i:Nat,i < un->(Lit.int .i64 (u7 i)).wf=true) (w21:∀i:Nat,i < un->(Lit.int .i64 (u8 i)).wf=true) (w22:∀i:Nat,i < un->(Lit.int .i64 (u9 i)).wf=true) (w23:∀i:Nat,i < un->(Lit.int .i64 (u10 i)).wf=true) (w24:(Lit.int .i64 qa).wf=true) (w25:(Lit.int .i64 qb).wf=true) (w26:(Lit.int .i64 qy).wf=true) (w27:(Lit.int .i64 qw).wf=true) (w28:(Lit.int .u16 v).wf=true) (w:World) {F:Nat->Prop} (hG:QR.Laid F w) (hF:∀k,F k->k < w.heap.size) (x0:Value) (r0:QR.Rep F w (.slc 1 ((on:Nat):Int) (.fn λ i j=>.v (.int .i64 (ol i j)))) x0) (x1:Value) (r1:QR.Rep F w (.slc 5 ((pn:Nat):Int) (.col 0 (λ i=>.v (.int .i64 (pW i))) (.col 1 (λ i=>.v (.int .i64 (pH i))) (.col 2 (λ i=>.v (.int .i64 (pS i))) (.col 3 (λ i=>.v (.int .i64 (pd i))) (.col 4 (λ i=>.slc 5 ((pc i:Nat):Int) (.fn λ a b=>.v (.int .i64 (pl i a b)))) (.zer []))))))) x1) (x2:Value) (r2:QR.Rep F w (.slc 11 ((un:Nat):Int) (.col 0 (λ i=>.v (.int .i64 (u0 i))) (.col 1 (λ i=>.v (.int .i64 (u1 i))) (.col 2 (λ i=>.v (.int .i64 (u2 i))) (.col 3 (λ i=>.v (.int .i64 (u3 i))) (.col 4 (λ i=>.v (.int .i64 (u4 i))) (.col 5 (λ i=>.v (.int .i64 (u5 i))) (.col 6 (λ i=>.v (.int .i64 (u6 i))) (.col 7 (λ i=>.v (.int .i64 (u7 i))) (.col 8 (λ i=>.v (.int .i64 (u8 i))) (.col 9 (λ i=>.v (.int .i64 (u9 i))) (.col 10 (λ i=>.v (.int .i64 (u10 i))) (.zer []))))))))))))) x2) :
  Calls Tryd.prog 4 #[.agg #[.int .i64 sb,.int .i64 sx,.int .i64 sy,.int .i64 sw,.int .i64 sh,.int .i64 st,.int .i64 su,x0,x1,x2],.int .i64 qa,.int .i64 qb,.int .i64 qy,.int .i64 qw,.int .u16 v] w λ e w'=>e=.returned (.bool true)/\Below w.heap.size w w':=by
 refine vj1 (O:=q70) (QR.vc7 za7 (QR.vc7 y47 (QR.ja3 y44 (QR.ja3 yo6 (QR.ja3 yo5 (QR.ja3 vp3 (QR.ja3 yd7 (QR.ja3 vj6 (QR.ja3 yf1 QR.jb1))))))))) mixed ((λ n=>bif Nat.beq n 700002 then some (.cut q69) else none)) Tryd.func4 (by kernel_rfl) (vs:=[.agg #[.int .i64 sb,.int .i64 sx,.int .i64 sy,.int .i64 sw,.int .i64 sh,.int .i64 st,.int .i64 su,x0,x1,x2],.int .i64 qa,.int .i64 qb,.int .i64 qy,.int .i64 qw,.int .u16 v]) (args:=[.x (.agg [.v (.int .i64 sb),.v (.int .i64 sx),.v (.int .i64 sy),.v (.int .i64 sw),.v (.int .i64 sh),.v (.int .i64 st),.v (.int .i64 su),.slc 1 ((on:Nat):Int) (.fn λ i j=>.v (.int .i64 (ol i j))),.slc 5 ((pn:Nat):Int) (.col 0 (λ i=>.v (.int .i64 (pW i))) (.col 1 (λ i=>.v (.int .i64 (pH i))) (.col 2 (λ i=>.v (.int .i64 (pS i))) (.col 3 (λ i=>.v (.int .i64 (pd i))) (.col 4 (λ i=>.slc 5 ((pc i:Nat):Int) (.fn λ a b=>.v (.int .i64 (pl i a b)))) (.zer [])))))),.slc 11 ((un:Nat):Int) (.col 0 (λ i=>.v (.int .i64 (u0 i))) (.col 1 (λ i=>.v (.int .i64 (u1 i))) (.col 2 (λ i=>.v (.int .i64 (u2 i))) (.col 3 (λ i=>.v (.int .i64 (u3 i))) (.col 4 (λ i=>.v (.int .i64 (u4 i))) (.col 5 (λ i=>.v (.int .i64 (u5 i))) (.col 6 (λ i=>.v (.int .i64 (u6 i))) (.col 7 (λ i=>.v (.int .i64 (u7 i))) (.col 8 (λ i=>.v (.int .i64 (u8 i))) (.col 9 (λ i=>.v (.int .i64 (u9 i))) (.col 10 (λ i=>.v (.int .i64 (u10 i))) (.zer []))))))))))))]),.x (.c (.v (.int .i64 qa))),.x (.c (.v (.int .i64 qb))),.x (.c (.v (.int .i64 qy))),.x (.c (.v (.int .i64 qw))),.x (.c (.v (.int .u16 v)))]) (by simp) ?_ w hG hF ⟨⟨[.int .i64 sb,.int .i64 sx,.int .i64 sy,.int .i64 sw,.int .i64 sh,.int .i64 st,.int .i64 su,x0,x1,x2],rfl,⟨.v rfl,.v rfl,.v rfl,.v rfl,.v rfl,.v rfl,.v rfl,r0,r1,r2,trivial⟩⟩,.v rfl,.v rfl,.v rfl,.v rfl,.v rfl,rfl⟩
 rw [qh5]
 delta zz1030 zz1031 imsE opsE
 have VT:∀b:Bool,b=true->jb4 ⟨[.c (.v (.bool true))],[],[]⟩ [.c (.v (.bool b))] []:=λ b e=>by subst e;simp [jb4,eqXs,eqX,eqo,eqLo,eqc,veq,eqUs]
 generalize jb4 _=V at *
 simp only [forall_eq,true_and,and_true,and_self,implies_true,or_false,false_or,false_and,and_false,exists_const,exists_false,ja1,qr9,qr8,qj7,false_implies]
 have G:=zh3 ⟨sb,sx,sy,sw,sh,st,su,on,λ i=>ol i 0,pn,λ i=>⟨pW i,pH i,pS i,pd i,pc i,pl i⟩,un,λ i=>⟨u0 i,u1 i,u2 i,u3 i,u4 i,u5 i,u6 i,u7 i,u8 i,u9 i,u10 i⟩⟩ (Int.natCast_nonneg on) (Int.natCast_nonneg pn) (Int.natCast_nonneg un)
 have AS:intRow .i64 1 (on:Int) (.fn λ i j=>.v (.int .i64 (ol i j)))/\j04 (pn:Int) (ya0 λ i=>⟨pW i,pH i,pS i,pd i,pc i,pl i⟩)/\j05 (un:Int) (v99 λ i=>⟨u0 i,u1 i,u2 i,u3 i,u4 i,u5 i,u6 i,u7 i,u8 i,u9 i,u10 i⟩)/\vd2 (pn:Int) (λ i=>⟨pW i,pH i,pS i,pd i,pc i,pl i⟩)/\ile 0 (on:Int)=true/\ile 0 (pn:Int)=true/\ile 0 (un:Int)=true:=⟨λ i j _ _=>rfl,za4 _ (λ i=>⟨pW i,pH i,pS i,pd i,pc i,pl i⟩),zc8 _ (λ i=>⟨u0 i,u1 i,u2 i,u3 i,u4 i,u5 i,u6 i,u7 i,u8 i,u9 i,u10 i⟩),λ i _ _=>Int.natCast_nonneg _,jb2 (Int.natCast_nonneg _),jb2 (Int.natCast_nonneg _),jb2 (Int.natCast_nonneg _)⟩
 refine q82 λ mA eA=>?_
 rw [<- eA] at G
 have hv:in16 v=true:=wf16 w28
 have bx:(0<=mA.on/\mA.on<=100)/\(1<=mA.mn/\mA.mn<=4):=⟨G.2.1,G.2.2.1⟩
 have bp:0<=mA.pn/\mA.pn<=100:=G.2.2.2.2
 have gi:∀i,0<=i->i < mA.mn->imG (mA.ml i)/\imE (mA.ml i) (smV mA.b)=0:=G.2.2.2.1
 have gA:imsG mA:=λ i hi=>(gi i (by omega) hi).1
 clear eA G gi
 have eI:∀a:Int,ieq a a=true:=λ a=>by simp [ieq]
 refine ⟨?_,λ s hs=>?_⟩
 ·refine q82 λ mC eC=>q82 λ mB eB=>?_
  have eC:mC=spoV mA qa qy v:=eC
  have eB:mB=spoV mC qb qw v:=eB
  have gC:imsG mC:=eC▸yu0 gA (by omega) qa qy hv
  have sC:(0<=mC.on/\mC.on<=mA.on + 1)/\(0<=mC.mn/\mC.mn<=mA.mn + 1):=eC▸yf2 bx.1.1 (by omega) qa qy v
  have pC:mC.pn=mA.pn:=by rw [eC];rfl
  have gB:imsG mB:=eB▸yu0 gC (by omega) qb qw hv
  have sB:(0<=mB.on/\mB.on<=mC.on + 1)/\(0<=mB.mn/\mB.mn<=mC.mn + 1):=eB▸yf2 sC.1.1 sC.2.1 qb qw v
  have pB:mB.pn=mC.pn:=by rw [eB];rfl
  clear eC eB
  obtain ⟨a1,a2,a3,a4,a5,a6,a7⟩:=AS
  refine ⟨⟨jb2 (by omega),jb2 (by omega),jb2 (by omega),jf9 _ _ _,qg9 _ _,j06 _ _,jb2 (by omega),jb2 (by omega),jb2 (by omega),jb2 (by omega),jb2 (by omega),jb2 (by omega),jf9 _ _ _,qg9 _ _,j06 _ _,jb2 (by omega),jb2 (by omega),jb2 (by omega),a1,a2,a3,a4,a5,a6,a7⟩,mB,⟨gB,sB.1.1,sB.2.1,by omega⟩,⟨⟨rfl,rfl⟩,⟨rfl,rfl⟩,⟨rfl,rfl⟩,⟨rfl,rfl⟩,⟨rfl,rfl⟩,⟨rfl,rfl⟩,⟨rfl,rfl⟩,rfl,rfl,rfl⟩,⟨rfl,λ _ _=>rfl⟩,⟨rfl,?_⟩,rfl,?_⟩
  ·repeat' apply And.intro
   all_goals (intro n hn;first | rfl | exact EqC.slc λ _ _ _ _=>.v _)
  ·repeat' apply And.intro
   all_goals (intro n hn;rfl)
 ·obtain ⟨g,o0,m0,p0⟩:=hs
  have W:intRow .i64 1 s.on (.fn λ a _=>.v (.int .i64 (s.ol a))):=jf9 _ _ _
  have I:=qg9 s.mn s.ml
  have O:=j06 s.pn s.pl
  have z0:=jb2 o0
  have z1:=jb2 m0
  have z2:=jb2 p0
  simp only [eI,reduceCtorEq,false_implies,true_implies,and_true,true_and]
  exact ⟨⟨g,W,I,O,z0,z1,z2⟩,⟨g,W,I,O,z0,z1,z2⟩,⟨W,I,O,z0,z1,z2⟩,⟨W,I,O,z0,z1,z2⟩,⟨W,I,O,z0,z1,z2,W,I,O,z0,z1,z2⟩,VT _ rfl⟩
end Go.Proofs.YthkidembkknoeaaDoor
