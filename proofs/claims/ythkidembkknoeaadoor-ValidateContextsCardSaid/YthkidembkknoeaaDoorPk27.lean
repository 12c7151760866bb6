import Derived.Test.YthkidembkknoeaaDoorPk11
import Derived.Test.YthkidembkknoeaaDoorPk13
import Derived.Test.YthkidembkknoeaaDoorPk26
namespace Go.Proofs.YthkidembkknoeaaDoor
open Go.RowKit PR QR
set_option linter.unusedVariables false
set_option linter.unusedSimpArgs false
set_option maxRecDepth 20000
theorem cx_E {b n j v:Int} {q:Ov} (hn:1≤n) (hj:0≤j∧j≤10) (hv:1≤v∧v≤12) (push:Bool):opE b n (cxO v push) j q=bif ieq v 4 || anyB j q then 0 else 16:=by
  have l:ile 64 j=false:=decide_eq_false (by omega)
  have r:refB (cxO v push) n=true:=by
    cases push
    · exact decide_eq_true ⟨fun _=>⟨show (0:Int)≤0 by decide,show (0:Int) < n by omega⟩,show (0:Int)≤0 by decide,show (0:Int)≤n by omega⟩
    · exact decide_eq_true ⟨fun h=>absurd (show (2:Int)=1 from h) (by decide),show (0:Int)≤0 by decide,show (0:Int)≤n by omega⟩
  have u:uzB (cxO v push)=true:=by cases push <;> rfl
  have k:decide (1≤(cxO v push).kd∧(cxO v push).kd≤3)=true:=by cases push <;> rfl
  have k3:ieq (cxO v push).kd 3=false:=by cases push <;> rfl
  unfold opE
  rw [k,u,k3,cond_true,cond_true,cond_false]
  unfold elE
  rw [r,cond_true]
  show (bif true then bif ile 0 (smV b) then bif decide (1≤v∧v≤12) then bif true then bif ieq v 4 || anyB j q then bif ieq (cxO v push).kd 2 && ile 64 j then 17 else 0 else 16 else 15 else 14 else 13 else 12)=_
  rw [show ile 0 (smV b)=true from jb1 (yr0 b),decide_eq_true hv,l,Bool.and_false];rfl
set_option linter.unusedVariables false in
theorem jv8 (sb sx sy sw sh st su:Int) (on:Nat) (ol:Int→Nat→Int) (pn:Nat) (pW pH pS pd:Int→Int) (pc:Int→Nat) (pl:Int→Int→Nat→Int) (un:Nat) (u0 u1 u2 u3 u4 u5 u6 u7 u8 u9 u10:Int→Int) (opr:Int) (fn:Nat) (fl:Int→Bool) (push:Bool) (w0:(Lit.int .i64 sb).wf=true) (w1:(Lit.int .i64 sx).wf=true) (w2:(Lit.int .i64 sy).wf=true) (w3:(Lit.int .i64 sw).wf=true) (w4:(Lit.int .i64 sh).wf=true) (w5:(Lit.int .i64 st).wf=true) (w6:(Lit.int .i64 su).wf=true) (z0:on≤maxLen) (w7:∀i j:Nat,i < on→j < 1→(Lit.int .i64 (ol i j)).wf=true) (z1:pn≤maxLen) (w8:∀i:Nat,i < pn→(Lit.int .i64 (pW i)).wf=true) (w9:∀i:Nat,i < pn→(Lit.int .i64 (pH i)).wf=true) (w10:∀i:Nat,i < pn→(Lit.int .i64 (pS i)).wf=true) (w11:∀i:Nat,i < pn→(Lit.int .i64 (pd i)).wf=true) (w12:∀i a b:Nat,i < pn→a < pc i→b < 5→(Lit.int .i64 (pl i a b)).wf=true) (z1_pc:∀i:Nat,i < pn→pc i≤maxLen) (z2:un≤maxLen) (w13:∀i:Nat,i < un→(Lit.int .i64 (u0 i)).wf=true) (w14:∀i:Nat,i < un→(Lit.int .i64 (u1 i)).wf=true) (w15:∀i:Nat,i < un→(Lit.int .i64 (u2 i)).wf=true) (w16:∀i:Nat,i < un→(Lit.int .i64 (u3 i)).wf=true) (w17:∀i:Nat,i < un→(Lit.int .i64 (u4 i)).wf=true) (w18:∀i:Nat,i < un→(Lit.int .i64 (u5 i)).wf=true) (w19:∀i:Nat,i < un→(Lit.int .i64 (u6 i)).wf=true) (w20:∀i:Nat,i < un→(Lit.int .i64 (u7 i)).wf=true) (w21:∀i:Nat,i < un→(Lit.int .i64 (u8 i)).wf=true) (w22:∀i:Nat,i < un→(Lit.int .i64 (u9 i)).wf=true) (w23:∀i:Nat,i < un→(Lit.int .i64 (u10 i)).wf=true) (w24:(Lit.int .i64 opr).wf=true) (z3:fn≤maxLen) (w:World) {F:Nat→Prop} (hG:QR.Laid F w) (hF:∀k,F k→k < w.heap.size) (x0:Value) (r0:QR.Rep F w (.slc 1 ((on:Nat):Int) (.fn fun i j=>.v (.int .i64 (ol i j)))) x0) (x1:Value) (r1:QR.Rep F w (.slc 5 ((pn:Nat):Int) (.col 0 (fun i=>.v (.int .i64 (pW i))) (.col 1 (fun i=>.v (.int .i64 (pH i))) (.col 2 (fun i=>.v (.int .i64 (pS i))) (.col 3 (fun i=>.v (.int .i64 (pd i))) (.col 4 (fun i=>.slc 5 ((pc i:Nat):Int) (.fn fun a b=>.v (.int .i64 (pl i a b)))) (.zer []))))))) x1) (x2:Value) (r2:QR.Rep F w (.slc 11 ((un:Nat):Int) (.col 0 (fun i=>.v (.int .i64 (u0 i))) (.col 1 (fun i=>.v (.int .i64 (u1 i))) (.col 2 (fun i=>.v (.int .i64 (u2 i))) (.col 3 (fun i=>.v (.int .i64 (u3 i))) (.col 4 (fun i=>.v (.int .i64 (u4 i))) (.col 5 (fun i=>.v (.int .i64 (u5 i))) (.col 6 (fun i=>.v (.int .i64 (u6 i))) (.col 7 (fun i=>.v (.int .i64 (u7 i))) (.col 8 (fun i=>.v (.int .i64 (u8 i))) (.col 9 (fun i=>.v (.int .i64 (u9 i))) (.col 10 (fun i=>.v (.int .i64 (u10 i))) (.zer []))))))))))))) x2) (x3:Value) (r3:QR.Rep F w (.slc 1 ((fn:Nat):Int) (.col 0 (fun i=>.v (.bool (fl i))) (.zer []))) x3) :
    Calls Tryd.prog 6 #[.agg #[.int .i64 sb,.int .i64 sx,.int .i64 sy,.int .i64 sw,.int .i64 sh,.int .i64 st,.int .i64 su,x0,x1,x2],.int .i64 opr,x3,.bool push] w fun e w'=>e=.returned (.bool true)∧Below w.heap.size w w':=by
  refine js4 (O:=jx3) (QR.qd4 vm7 (QR.ja3 (up qb4) (QR.ja3 yb5 (QR.ja3 yb7 (QR.ja3 jv7 QR.jb4))))) mixed ((fun n=>bif Nat.beq n 700002 then some (.cut (q58 opr fn fl push)) else bif Nat.beq n 700005 then some (.cut (q59 opr fn fl push)) else bif Nat.beq n 8 then some (.ownF [(11,none,12)] fun _=>[q60 opr fn fl push]) else none)) Tryd.func6 (by kernel_rfl) (vs:=[.agg #[.int .i64 sb,.int .i64 sx,.int .i64 sy,.int .i64 sw,.int .i64 sh,.int .i64 st,.int .i64 su,x0,x1,x2],.int .i64 opr,x3,.bool push]) (args:=[.x (.agg [.v (.int .i64 sb),.v (.int .i64 sx),.v (.int .i64 sy),.v (.int .i64 sw),.v (.int .i64 sh),.v (.int .i64 st),.v (.int .i64 su),.slc 1 ((on:Nat):Int) (.fn fun i j=>.v (.int .i64 (ol i j))),.slc 5 ((pn:Nat):Int) (.col 0 (fun i=>.v (.int .i64 (pW i))) (.col 1 (fun i=>.v (.int .i64 (pH i))) (.col 2 (fun i=>.v (.int .i64 (pS i))) (.col 3 (fun i=>.v (.int .i64 (pd i))) (.col 4 (fun i=>.slc 5 ((pc i:Nat):Int) (.fn fun a b=>.v (.int .i64 (pl i a b)))) (.zer [])))))),.slc 11 ((un:Nat):Int) (.col 0 (fun i=>.v (.int .i64 (u0 i))) (.col 1 (fun i=>.v (.int .i64 (u1 i))) (.col 2 (fun i=>.v (.int .i64 (u2 i))) (.col 3 (fun i=>.v (.int .i64 (u3 i))) (.col 4 (fun i=>.v (.int .i64 (u4 i))) (.col 5 (fun i=>.v (.int .i64 (u5 i))) (.col 6 (fun i=>.v (.int .i64 (u6 i))) (.col 7 (fun i=>.v (.int .i64 (u7 i))) (.col 8 (fun i=>.v (.int .i64 (u8 i))) (.col 9 (fun i=>.v (.int .i64 (u9 i))) (.col 10 (fun i=>.v (.int .i64 (u10 i))) (.zer []))))))))))))]),.x (.c (.v (.int .i64 opr))),.x (.c (.slc 1 ((fn:Nat):Int) (.col 0 (fun i=>.v (.bool (fl i))) (.zer [])))),.x (.c (.v (.bool push)))]) (by simp) ?_ w hG hF ⟨⟨[.int .i64 sb,.int .i64 sx,.int .i64 sy,.int .i64 sw,.int .i64 sh,.int .i64 st,.int .i64 su,x0,x1,x2],rfl,⟨.v rfl,.v rfl,.v rfl,.v rfl,.v rfl,.v rfl,.v rfl,r0,r1,r2,trivial⟩⟩,.v rfl,r3,.v rfl,rfl⟩
  rw [j07]
  delta zz953 zz955 zz956 zz958 zz960 zz962 zz963 zz964 zz965 zz969 zz970 zz971 zz972 imsE opsE
  have VT:∀b:Bool,b=true→jb5 ⟨[.c (.v (.bool true))],[],[]⟩ [.c (.v (.bool b))] []:=fun b e=>by subst e;simp [jb5,eqXs,eqX,eqo,eqLo,eqc,veq,eqUs]
  generalize jb5 _=V at *
  simp only [forall_eq,true_and,and_true,and_self,implies_true,or_false,false_or,false_and,and_false,exists_const,exists_false,ja1,qq9,qq8,qi7,false_implies]
  have G:=yl6 ⟨sb,sx,sy,sw,sh,st,su,on,fun i=>ol i 0,pn,fun i=>⟨pW i,pH i,pS i,pd i,pc i,pl i⟩,un,fun i=>⟨u0 i,u1 i,u2 i,u3 i,u4 i,u5 i,u6 i,u7 i,u8 i,u9 i,u10 i⟩⟩ (Int.natCast_nonneg on) (Int.natCast_nonneg pn) (Int.natCast_nonneg un)
  have AS:intRow .i64 1 (on:Int) (.fn fun i j=>.v (.int .i64 (ol i j)))∧jh9 (pn:Int) (vc5 fun i=>⟨pW i,pH i,pS i,pd i,pc i,pl i⟩)∧ji0 (un:Int) (vc4 fun i=>⟨u0 i,u1 i,u2 i,u3 i,u4 i,u5 i,u6 i,u7 i,u8 i,u9 i,u10 i⟩)∧jv4 (pn:Int) (fun i=>⟨pW i,pH i,pS i,pd i,pc i,pl i⟩)∧ile 0 (on:Int)=true∧ile 0 (pn:Int)=true∧ile 0 (un:Int)=true:=⟨fun i j _ _=>rfl,vm6 _ (fun i=>⟨pW i,pH i,pS i,pd i,pc i,pl i⟩),vo1 _ (fun i=>⟨u0 i,u1 i,u2 i,u3 i,u4 i,u5 i,u6 i,u7 i,u8 i,u9 i,u10 i⟩),fun i _ _=>Int.natCast_nonneg _,jb1 (Int.natCast_nonneg _),jb1 (Int.natCast_nonneg _),jb1 (Int.natCast_nonneg _)⟩
  refine ⟨⟨AS,_,G,?_⟩,fun s hs=>?_⟩
  · repeat' apply And.intro
    all_goals first | rfl | (intro n hn;first | rfl | exact EqC.slc fun _ _ _ _=>.v _)
  clear G AS
  have g1:=jc2 opr (k:=12) (by decide)
  have cv:cxV opr=1 + gmod opr 12:=IntWalk.i64_in _ (by omega)
  have pn0:0≤s.pn∧s.pn≤100:=hs.2.2.2.2
  refine ⟨rfl,⟨fun c=>⟨s,hs,?_⟩,fun c=>⟨s,hs,?_⟩⟩,fun s hs=>?_⟩
  · subst c
    repeat' apply And.intro
    all_goals first | rfl | (intro n hn;first | rfl | exact EqC.slc fun _ _ _ _=>.v _)
  · subst c
    repeat' apply And.intro
    all_goals first | rfl | (intro n hn;first | rfl | exact EqC.slc fun _ _ _ _=>.v _)
  have pn0:0≤s.pn∧s.pn≤100:=hs.2.2.2.2
  generalize ho:cxO (cxV opr) push=o
  refine ⟨⟨jb1 (by unfold jd2 addZ;omega),jb1 (by unfold jd2;omega)⟩,⟨⟨s,0⟩,⟨hs,⟨by omega,by omega⟩,by show 2 * (0:Int)≤fn;omega⟩,⟨rfl,rfl⟩,⟨rfl,rfl,rfl,rfl,rfl,rfl,rfl,rfl,rfl,rfl⟩,⟨rfl,fun _ _=>rfl⟩,⟨rfl,?_⟩,⟨rfl,?_⟩,rfl⟩,fun x hx=>?_⟩
  · repeat' apply And.intro
    all_goals (intro n hn;first | rfl | exact EqC.slc fun _ _ _ _=>.v _)
  · have ad:∀n:Nat,ilt (Int.ofNat n) (addZ s.pn 1)=true→(ilt (Int.ofNat n) s.pn=true∧appO s.pl s.pn o (Int.ofNat n)=s.pl (Int.ofNat n))∨(ilt (Int.ofNat n) s.pn=false∧ieq (subZ (Int.ofNat n) s.pn) 0=true∧appO s.pl s.pn o (Int.ofNat n)=o):=fun n h=>by
      have h:(n:Int) < s.pn + 1:=of_decide_eq_true h
      unfold appO
      by_cases q:(n:Int) < s.pn
      · refine Or.inl ⟨jg9 q,?_⟩
        rw [show ilt (Int.ofNat n) s.pn=true from jg9 q];rfl
      · have e:Int.ofNat n=s.pn:=by show (n:Int)=s.pn;omega
        have f:ilt (Int.ofNat n) s.pn=false:=jn6 (show s.pn≤(n:Int) by omega)
        refine Or.inr ⟨f,by rw [e];exact decide_eq_true (show s.pn - s.pn=0 by omega),?_⟩
        rw [f];rfl
    repeat' apply And.intro
    all_goals (intro n hn;rcases ad n hn with ⟨k1,k2⟩ | ⟨k1,k2,k3⟩ <;> first | (rw [k1,k2];rfl) | (rw [k1,k2,k3];rfl))
  clear hs pn0
  obtain ⟨s,j⟩:=x
  obtain ⟨hs,⟨j0,j1⟩,j2⟩:=hx
  dsimp only at hs j0 j1 j2 ⊢
  have dj:dblZ j=2 * j:=rfl
  have bx:(0≤s.on∧s.on≤100)∧(1≤s.mn∧s.mn≤4):=⟨hs.2.1,hs.2.2.1⟩
  have pn0:0≤s.pn∧s.pn≤100:=hs.2.2.2.2
  refine (fun (T:True→_)=>⟨fun c=>⟨fun d=>?step,fun d=>T trivial⟩,fun c=>T trivial⟩) ?tail
  case step =>
    have lt2:=jh6 d
    have ia:iadd .i64 (dblZ j) 1=2 * j + 1:=IntWalk.i64_in _ (by omega)
    have ib:iadd .i64 (dblZ j) 2=2 * (j + 1):=(IntWalk.i64_in _ (by omega)).trans (by omega)
    rw [ia] at c
    have lt:=jh6 c
    rw [ia,ib]
    refine ⟨⟨jb1 (by unfold jd2 addZ;omega),jb1 (by omega),c,jb1 (by omega),jg9 (by omega)⟩,⟨s,j + 1⟩,⟨hs,⟨by omega,by omega⟩,by show 2 * (j + 1)≤(fn:Int);omega⟩,⟨⟨rfl,rfl⟩,⟨rfl,rfl,rfl,rfl,rfl,rfl,rfl,rfl,rfl,rfl⟩,⟨rfl,fun _ _=>rfl⟩,⟨rfl,?_⟩,⟨rfl,?_⟩,rfl,?_⟩,?_⟩
    · repeat' apply And.intro
      all_goals (intro n hn;first | rfl | exact EqC.slc fun _ _ _ _=>.v _)
    · repeat' apply And.intro
      all_goals (intro n hn;rfl)
    · have ad:∀n:Nat,ilt (Int.ofNat n) (addZ j 1)=true→(ilt (Int.ofNat n) j=true)∨(ilt (Int.ofNat n) j=false∧ieq (subZ (Int.ofNat n) j) 0=true∧Int.ofNat n=j):=fun n h=>by
        have h:(n:Int) < j + 1:=of_decide_eq_true h
        by_cases q:(n:Int) < j
        · exact Or.inl (jg9 q)
        · have e:Int.ofNat n=j:=by show (n:Int)=j;omega
          exact Or.inr ⟨jn6 (show j≤(n:Int) by omega),by rw [e];exact decide_eq_true (show j - j=0 by omega),e⟩
      repeat' apply And.intro
      all_goals (intro n hn;rcases ad n hn with k | ⟨k1,k2,k3⟩ <;> first | (rw [k];rfl) | (rw [k1,k2,k3];rfl))
    · show je0 10 (j + 1) < je0 10 j
      unfold je0;omega
  intro _
  have ip:isub .i64 (addZ s.pn 1) 1=s.pn:=(IntWalk.i64_in _ (by unfold addZ;omega)).trans (by unfold addZ;omega)
  rw [ip]
  have ov:opV ⟨s.b,s.x0,s.y0,s.x1,s.y1,s.tw,s.th,s.on,s.ol,s.mn,s.ml,addZ s.pn 1,appO s.pl s.pn o⟩ s.pn j (fun bz0=>ctxO fl bz0)=bif ieq (cxV opr) 4 || anyB j (ctxO fl (j - 1)) then 0 else 16:=by
    show (bif decide (0≤s.pn∧s.pn < s.pn + 1) then opE s.b s.mn (appO s.pl s.pn o s.pn) j (ctxO fl (j - 1)) else 21)=_
    rw [decide_eq_true (show 0≤s.pn∧s.pn < s.pn + 1 by omega),cond_true]
    rw [show appO s.pl s.pn o s.pn=o by unfold appO;rw [jn6 (Int.le_refl s.pn)];rfl,← ho]
    exact cx_E (by omega) (by omega) (by omega) push
  have oo:o.opr=cxV opr:=by rw [← ho];rfl
  rw [ov,oo]
  generalize cxV opr=v at *
  have AS:ja8 j (je8 (ctxO fl))∧ile 0 j=true∧ile j 9223372036854775807=true∧intRow .i64 1 s.on (.fn fun a _=>.v (.int .i64 (s.ol a)))∧jc5 s.mn (jg4 s.ml)∧ja8 (addZ s.pn 1) (je8 (appO s.pl s.pn o))∧ile 0 s.on=true∧ile 0 s.mn=true∧ile 0 (addZ s.pn 1)=true:=⟨qg2 _ _,jb1 j0,jb1 (by omega),ji7 _ _ _,vd9 _ _,qg2 _ _,jb1 bx.1.1,jb1 (by omega),jb1 (by unfold addZ;omega)⟩
  clear ov oo ho
  refine ⟨fun c=>⟨AS,VT _ ?_⟩,fun c=>?_⟩
  · unfold anyB
    rw [c];cases ieq v 4 <;> rfl
  have jn:j≠0:=je7 c
  have is1:isub .i64 j 1=j - 1:=IntWalk.i64_in _ (by omega)
  rw [is1]
  have l0:ile 0 (j - 1)=true:=jb1 (by omega)
  have l1:ilt (j - 1) j=true:=jg9 (by omega)
  unfold anyB
  rw [c]
  generalize ctxO fl (j - 1)=q at *
  refine ⟨fun d=>⟨⟨l0,l1,l0,l1⟩,AS,fun e=>VT _ ?_,fun e=>⟨fun f=>VT _ ?_,fun f=>VT _ ?_⟩⟩,fun d=>⟨⟨l0,l1⟩,AS,fun f=>VT _ ?_,fun f=>VT _ ?_⟩⟩
  · rw [d,bnf e];cases ieq v 4 <;> rfl
  · rw [f];rfl
  · rw [f,d,bnt e];rfl
  · rw [f];rfl
  · rw [f,d];rfl
end Go.Proofs.YthkidembkknoeaaDoor
namespace Go.Proofs.YthkidembkknoeaaDoor
open Go.RowKit PR QR
set_option linter.unusedVariables false
set_option linter.unusedSimpArgs false
set_option maxRecDepth 20000
def badL:QR.Row:=(QR.Row.upd (QR.Row.upd (QR.Row.upd (QR.Row.upd (QR.Row.upd (QR.Row.upd (QR.Row.upd (QR.Row.upd (QR.Row.upd (QR.Row.upd (QR.Row.upd (QR.Row.upd (QR.Row.upd (QR.Row.upd (QR.Row.upd (QR.Row.upd (QR.Row.upd (QR.Row.upd (QR.Row.upd (QR.Row.upd (QR.Row.upd (QR.Row.upd (QR.Row.upd (QR.Row.upd (QR.Row.upd (QR.Row.upd (QR.Row.upd (QR.Row.upd (QR.Row.zer [Value.int .i64 0,Value.int .i64 0,Value.bool false,Value.int .u16 0,Value.int .u16 0,Value.int .u16 0,Value.int .u16 0,Value.int .u16 0,Value.int .i64 0,Value.int .i64 0,Value.int .i64 0,Value.slice none 0 0,Value.int .i64 0,Value.int .i64 0,Value.int .i64 0,Value.slice none 0 0,Value.int .i64 0,Value.int .i64 0,Value.int .i64 0,Value.slice none 0 0,Value.int .i64 0,Value.int .i64 0,Value.int .i64 0,Value.slice none 0 0,Value.int .i64 0,Value.int .i64 0,Value.int .i64 0,Value.slice none 0 0]) 0 0 (CV.v (Value.int .i64 1))) 0 1 (CV.v (Value.int .i64 1))) 0 2 (CV.v (Value.bool true))) 0 3 (CV.v (Value.int .u16 0))) 0 4 (CV.v (Value.int .u16 0))) 0 5 (CV.v (Value.int .u16 0))) 0 6 (CV.v (Value.int .u16 1))) 0 7 (CV.v (Value.int .u16 0))) 0 8 (CV.v (Value.int .i64 0))) 0 9 (CV.v (Value.int .i64 0))) 0 10 (CV.v (Value.int .i64 0))) 0 11 (CV.v (Value.slice none 0 0))) 0 12 (CV.v (Value.int .i64 0))) 0 13 (CV.v (Value.int .i64 0))) 0 14 (CV.v (Value.int .i64 0))) 0 15 (CV.v (Value.slice none 0 0))) 0 16 (CV.v (Value.int .i64 0))) 0 17 (CV.v (Value.int .i64 0))) 0 18 (CV.v (Value.int .i64 0))) 0 19 (CV.v (Value.slice none 0 0))) 0 20 (CV.v (Value.int .i64 0))) 0 21 (CV.v (Value.int .i64 0))) 0 22 (CV.v (Value.int .i64 0))) 0 23 (CV.v (Value.slice none 0 0))) 0 24 (CV.v (Value.int .i64 0))) 0 25 (CV.v (Value.int .i64 0))) 0 26 (CV.v (Value.int .i64 0))) 0 27 (CV.v (Value.slice none 0 0)))
def za1:QR.Row:=(QR.Row.upd (QR.Row.upd (QR.Row.upd (QR.Row.upd (QR.Row.upd (QR.Row.upd (QR.Row.upd (QR.Row.upd (QR.Row.upd (QR.Row.upd (QR.Row.upd (QR.Row.upd (QR.Row.zer [Value.int .i64 0,Value.int .i64 0,Value.int .i64 0,Value.int .i64 0,Value.int .i64 0,Value.int .i64 0,Value.int .i64 0,Value.int .u16 0,Value.int .i64 0,Value.int .i64 0,Value.bool false,Value.bool false]) 0 0 (CV.v (Value.int .i64 9))) 0 1 (CV.v (Value.int .i64 0))) 0 2 (CV.v (Value.int .i64 0))) 0 3 (CV.v (Value.int .i64 0))) 0 4 (CV.v (Value.int .i64 0))) 0 5 (CV.v (Value.int .i64 0))) 0 6 (CV.v (Value.int .i64 0))) 0 7 (CV.v (Value.int .u16 0))) 0 8 (CV.v (Value.int .i64 0))) 0 9 (CV.v (Value.int .i64 0))) 0 10 (CV.v (Value.bool false))) 0 11 (CV.v (Value.bool false)))
def seeR (f:Int→Im) (k:Int):QR.Row:=.app (.app (.sub (jg4 f) 0) (subZ k 0) badL) (addZ (subZ k 0) 1) (.sub (jg4 f) k)
def seeS (f:Int→Im) (b1 b2:Bool) (x y z:Int):QR.Row:=.fn fun _ j=>csel b1 (csel b2 (den (jg4 f) x j) (den badL y j)) (den (jg4 f) z j)
theorem y02 {y:Int} (h:y≠0) (j:Nat):den badL y j=den badL 1 j:=by
  have e:ieq y 0=false:=decide_eq_false h
  have e1:ieq (1:Int) 0=false:=rfl
  unfold badL
  simp only [den,e,e1]
theorem yc7 (f:Int→Im) (b1 b2:Bool) (x:Int) {y:Int} (z:Int) (h:y≠0):seeS f b1 b2 x y z=seeS f b1 b2 x 1 z:=by
  unfold seeS
  simp only [y02 h]
def badV (m:Im):Im:=⟨1,1,true,0,0,0,1,0,⟨0,0,0,0,m.p0.l⟩,⟨0,0,0,0,m.p1.l⟩,⟨0,0,0,0,m.p2.l⟩,⟨0,0,0,0,m.p3.l⟩,⟨0,0,0,0,m.p4.l⟩⟩
theorem ze9 (f:Int→Im) (x z:Int):imAt (seeS f true true x 1 z) 0=f x:=rfl
theorem zf0 (f:Int→Im) (x z:Int):imAt (seeS f true false x 0 z) 0=badV (f x):=rfl
theorem zf1 (f:Int→Im) (x z:Int):imAt (seeS f false false x 1 z) 0=f z:=rfl
def seeV (f:Int→Im) (k a:Int):Im:=bif ilt a k then f a else bif ieq a k then badV (f a) else f (a - 1)
theorem yr1 (f:Int→Im) (k a:Int):∃b1 b2 x y z,(∀j,den (seeR f k) a j=den (seeS f b1 b2 x y z) 0 j)∧imAt (seeS f b1 b2 x y z) 0=seeV f k a∧((b1=true∧b2=true∧y=1)∨(b1=true∧b2=false∧y=0)∨(b1=false∧b2=false∧y=1)):=by
  have d:∀j,den (seeR f k) a j=den (seeS f (ilt a (addZ (subZ k 0) 1)) (ilt a (subZ k 0)) (addZ a 0) (subZ a (subZ k 0)) (addZ (subZ a (addZ (subZ k 0) 1)) k)) 0 j:=fun j=>rfl
  unfold seeV
  by_cases h:a < k
  · rw [show ilt a (addZ (subZ k 0) 1)=true from jg9 (by unfold addZ subZ;omega),show ilt a (subZ k 0)=true from jg9 (by unfold subZ;omega),yc7 _ _ _ _ _ (show subZ a (subZ k 0)≠0 by unfold subZ;omega)] at d
    exact ⟨_,_,_,_,_,d,by rw [ze9,jg9 h,show addZ a 0=a by unfold addZ;omega];rfl,Or.inl ⟨rfl,rfl,rfl⟩⟩
  · rw [jn6 (show k≤a by omega),cond_false]
    by_cases e:a=k
    · subst e
      rw [show ilt a (addZ (subZ a 0) 1)=true from jg9 (by unfold addZ subZ;omega),show ilt a (subZ a 0)=false from jn6 (by unfold subZ;omega),show subZ a (subZ a 0)=0 by unfold subZ;omega] at d
      exact ⟨_,_,_,_,_,d,by rw [zf0,show ieq a a=true by simp [ieq],show addZ a 0=a by unfold addZ;omega];rfl,Or.inr (Or.inl ⟨rfl,rfl,rfl⟩)⟩
    · rw [show ilt a (addZ (subZ k 0) 1)=false from jn6 (by unfold addZ subZ;omega),show ilt a (subZ k 0)=false from jn6 (by unfold subZ;omega),yc7 _ _ _ _ _ (show subZ a (subZ k 0)≠0 by unfold subZ;omega)] at d
      exact ⟨_,_,_,_,_,d,by rw [zf1,show ieq a k=false from decide_eq_false e,show addZ (subZ a (addZ (subZ k 0) 1)) k=a - 1 by unfold addZ subZ;omega];rfl,Or.inr (Or.inr ⟨rfl,rfl,rfl⟩)⟩
theorem yc8 {r q:QR.Row} {a b:Int} (h:∀j,den r a j=den q b j):imAt r a=imAt q b:=by
  unfold imAt plAt
  simp only [h]
theorem yr2 (f:Int→Im) (k:Int) {a:Int}:imAt (seeR f k) a=seeV f k a:=by
  obtain ⟨b1,b2,x,y,z,d,e,_⟩:=yr1 f k a
  exact (yc8 d).trans e
theorem za2 (g h:Int→Im) {a b:Int} (e:g a=h b) (j:Nat):den (jg4 g) a j=den (jg4 h) b j:=by
  have k:∀(g:Int→Im) (a:Int),den (jg4 g) a j=den (jg4 fun _=>g a) 0 j:=fun _ _=>rfl
  rw [k g,k h,e]
theorem y03 (f:Int→Im) (k n:Int):jc5 n (seeR f k):=fun i j _ hj=>by
  obtain ⟨b1,b2,x,y,z,d,e,c⟩:=yr1 f k i
  rw [d j,za2 (imAt (seeR f k)) (imAt (seeS f b1 b2 x y z)) (yc8 d) j]
  rcases c with ⟨rfl,rfl,rfl⟩ | ⟨rfl,rfl,rfl⟩ | ⟨rfl,rfl,rfl⟩
  all_goals
    match j,hj with
    | 0,_ | 1,_ | 2,_ | 3,_ | 4,_ | 5,_ | 6,_ | 7,_ | 8,_ | 9,_ | 10,_ | 12,_ | 13,_ | 14,_ | 16,_ | 17,_ | 18,_ | 20,_ | 21,_ | 22,_ | 24,_ | 25,_ | 26,_=>exact .v _
    | 11,_ | 15,_ | 19,_ | 23,_ | 27,_=>exact .slc fun _ _ _ _=>.v _
    | n + 28,h=>omega
theorem yl7:ja8 1 za1:=fun i j hi hj=>by
  obtain rfl:i=0:=by omega
  match j,hj with
  | 0,_ | 1,_ | 2,_ | 3,_ | 4,_ | 5,_ | 6,_ | 7,_ | 8,_ | 9,_ | 10,_ | 11,_=>exact .v _
  | n + 12,h=>omega
theorem yl8 (m:Im):imG (badV m):=by
  have p:∀l,plG (⟨0,0,0,0,l⟩:Pl):=fun l=>⟨rfl,rfl,rfl,rfl,fun i hi=>by have hi:(i:Int) < 0:=hi;omega⟩
  exact ⟨⟨rfl,rfl⟩,⟨rfl,rfl,rfl,rfl,rfl⟩,p _,p _,p _,p _,p _⟩
theorem zf2 (m:Im) (t:Int):imE (badV m) t=8:=by
  have f:fitB (badV m).w (badV m).h=true:=show fitB 1 1=true by decide
  have a:qs8 (badV m) t=false:=by
    rw [qe5 f rfl]
    show decide ((0:Int)≤1∧(0:Int)≤1∧(0:Int)≤1∧(1:Int)≤0∧(0:Int)≤t)=false
    exact decide_eq_false (by omega)
  unfold imE
  rw [f,a];rfl
theorem ve0 (s:Sc):∀n:Nat,(∀i:Int,0≤i→i < n→imE (s.ml i) (smV s.b)=0)→qr6 s n=none
  | 0,_=>rfl
  | n + 1,h=>by
    have a:=ve0 s n fun i a b=>h i a (by omega)
    have e:=yc0 s (i:=(n:Int)) (by omega) (by rw [Int.toNat_natCast];exact a)
    rw [show ((n:Int) + 1).toNat=n + 1 by omega,h n (by omega) (by omega)] at e
    exact e
theorem za3 {s:Sc} (hs:scW s) {k:Int} (k0:0≤k) (k1:k≤s.mn) {pn:Int} (hp:pn≤4096) (P:QR.Row) {n:Int} (hn:n=s.mn + 1):chBE s.b s.x0 s.y0 s.x1 s.y1 s.tw s.th s.on (.fn fun a _=>.v (.int .i64 (s.ol a))) n (seeR s.ml k) pn P=8∧chBN s.b s.x0 s.y0 s.x1 s.y1 s.tw s.th s.on (.fn fun a _=>.v (.int .i64 (s.ol a))) n (seeR s.ml k) pn P=k:=by
  subst hn
  have m0:1≤s.mn∧s.mn≤4:=hs.2.2.1
  have gi:∀i,0≤i→i < s.mn→imG (s.ml i)∧imE (s.ml i) (smV s.b)=0:=hs.2.2.2.1
  have fr:frV (scB s.b s.x0 s.y0 s.x1 s.y1 s.tw s.th s.on (.fn fun a _=>.v (.int .i64 (s.ol a))) (s.mn + 1) (seeR s.ml k) pn P)=0:=fr_W hs _ _ hp _ _ (by omega)
  have ml:∀a,(scB s.b s.x0 s.y0 s.x1 s.y1 s.tw s.th s.on (.fn fun a _=>.v (.int .i64 (s.ol a))) (s.mn + 1) (seeR s.ml k) pn P).ml a=seeV s.ml k a:=fun a=>yr2 s.ml k
  have bb:(scB s.b s.x0 s.y0 s.x1 s.y1 s.tw s.th s.on (.fn fun a _=>.v (.int .i64 (s.ol a))) (s.mn + 1) (seeR s.ml k) pn P).b=s.b:=rfl
  have mm:(scB s.b s.x0 s.y0 s.x1 s.y1 s.tw s.th s.on (.fn fun a _=>.v (.int .i64 (s.ol a))) (s.mn + 1) (seeR s.ml k) pn P).mn=s.mn + 1:=rfl
  unfold chBE chBN chE chN
  generalize scB s.b s.x0 s.y0 s.x1 s.y1 s.tw s.th s.on (.fn fun a _=>.v (.int .i64 (s.ol a))) (s.mn + 1) (seeR s.ml k) pn P=S at *
  have n0:=ve0 S k.toNat fun i a b=>by
    have lt:i < k:=by omega
    rw [ml,bb]
    unfold seeV
    rw [jg9 lt]
    exact (gi i a (by omega)).2
  have e:=yc0 S k0 n0
  have v:imE (S.ml k) (smV S.b)=8:=by
    rw [ml]
    unfold seeV
    rw [jn6 (Int.le_refl k),show ieq k k=true by simp [ieq]]
    exact zf2 _ _
  rw [v] at e
  have e2:=vj1 S e (show (k + 1).toNat≤S.mn.toNat by rw [mm];omega)
  unfold chP
  rw [fr,e2]
  exact ⟨rfl,rfl⟩
set_option linter.unusedVariables false in
theorem jl8 (sb sx sy sw sh st su:Int) (on:Nat) (ol:Int→Nat→Int) (pn:Nat) (pW pH pS pd:Int→Int) (pc:Int→Nat) (pl:Int→Int→Nat→Int) (un:Nat) (u0 u1 u2 u3 u4 u5 u6 u7 u8 u9 u10:Int→Int) (at':Int) (bad:Bool) (w0:(Lit.int .i64 sb).wf=true) (w1:(Lit.int .i64 sx).wf=true) (w2:(Lit.int .i64 sy).wf=true) (w3:(Lit.int .i64 sw).wf=true) (w4:(Lit.int .i64 sh).wf=true) (w5:(Lit.int .i64 st).wf=true) (w6:(Lit.int .i64 su).wf=true) (z0:on≤maxLen) (w7:∀i j:Nat,i < on→j < 1→(Lit.int .i64 (ol i j)).wf=true) (z1:pn≤maxLen) (w8:∀i:Nat,i < pn→(Lit.int .i64 (pW i)).wf=true) (w9:∀i:Nat,i < pn→(Lit.int .i64 (pH i)).wf=true) (w10:∀i:Nat,i < pn→(Lit.int .i64 (pS i)).wf=true) (w11:∀i:Nat,i < pn→(Lit.int .i64 (pd i)).wf=true) (w12:∀i a b:Nat,i < pn→a < pc i→b < 5→(Lit.int .i64 (pl i a b)).wf=true) (z1_pc:∀i:Nat,i < pn→pc i≤maxLen) (z2:un≤maxLen) (w13:∀i:Nat,i < un→(Lit.int .i64 (u0 i)).wf=true) (w14:∀i:Nat,i < un→(Lit.int .i64 (u1 i)).wf=true) (w15:∀i:Nat,i < un→(Lit.int .i64 (u2 i)).wf=true) (w16:∀i:Nat,i < un→(Lit.int .i64 (u3 i)).wf=true) (w17:∀i:Nat,i < un→(Lit.int .i64 (u4 i)).wf=true) (w18:∀i:Nat,i < un→(Lit.int .i64 (u5 i)).wf=true) (w19:∀i:Nat,i < un→(Lit.int .i64 (u6 i)).wf=true) (w20:∀i:Nat,i < un→(Lit.int .i64 (u7 i)).wf=true) (w21:∀i:Nat,i < un→(Lit.int .i64 (u8 i)).wf=true) (w22:∀i:Nat,i < un→(Lit.int .i64 (u9 i)).wf=true) (w23:∀i:Nat,i < un→(Lit.int .i64 (u10 i)).wf=true) (w24:(Lit.int .i64 at').wf=true) (w:World) {F:Nat→Prop} (hG:QR.Laid F w) (hF:∀k,F k→k < w.heap.size) (x0:Value) (r0:QR.Rep F w (.slc 1 ((on:Nat):Int) (.fn fun i j=>.v (.int .i64 (ol i j)))) x0) (x1:Value) (r1:QR.Rep F w (.slc 5 ((pn:Nat):Int) (.col 0 (fun i=>.v (.int .i64 (pW i))) (.col 1 (fun i=>.v (.int .i64 (pH i))) (.col 2 (fun i=>.v (.int .i64 (pS i))) (.col 3 (fun i=>.v (.int .i64 (pd i))) (.col 4 (fun i=>.slc 5 ((pc i:Nat):Int) (.fn fun a b=>.v (.int .i64 (pl i a b)))) (.zer []))))))) x1) (x2:Value) (r2:QR.Rep F w (.slc 11 ((un:Nat):Int) (.col 0 (fun i=>.v (.int .i64 (u0 i))) (.col 1 (fun i=>.v (.int .i64 (u1 i))) (.col 2 (fun i=>.v (.int .i64 (u2 i))) (.col 3 (fun i=>.v (.int .i64 (u3 i))) (.col 4 (fun i=>.v (.int .i64 (u4 i))) (.col 5 (fun i=>.v (.int .i64 (u5 i))) (.col 6 (fun i=>.v (.int .i64 (u6 i))) (.col 7 (fun i=>.v (.int .i64 (u7 i))) (.col 8 (fun i=>.v (.int .i64 (u8 i))) (.col 9 (fun i=>.v (.int .i64 (u9 i))) (.col 10 (fun i=>.v (.int .i64 (u10 i))) (.zer []))))))))))))) x2) :
    Calls Tryd.prog 8 #[.agg #[.int .i64 sb,.int .i64 sx,.int .i64 sy,.int .i64 sw,.int .i64 sh,.int .i64 st,.int .i64 su,x0,x1,x2],.int .i64 at',.bool bad] w fun e w'=>e=.returned (.bool true)∧Below w.heap.size w w':=by
  refine js4 (O:=q63) (QR.qd4 vm7 (QR.ja3 (up qb4) (QR.ja3 y97 (QR.ja3 jv7 QR.jb4)))) mixed ((fun n=>bif Nat.beq n 700002 then some (.cutZ [([(7,8)],q62 at' bad)]) else none)) Tryd.func8 (by kernel_rfl) (vs:=[.agg #[.int .i64 sb,.int .i64 sx,.int .i64 sy,.int .i64 sw,.int .i64 sh,.int .i64 st,.int .i64 su,x0,x1,x2],.int .i64 at',.bool bad]) (args:=[.x (.agg [.v (.int .i64 sb),.v (.int .i64 sx),.v (.int .i64 sy),.v (.int .i64 sw),.v (.int .i64 sh),.v (.int .i64 st),.v (.int .i64 su),.slc 1 ((on:Nat):Int) (.fn fun i j=>.v (.int .i64 (ol i j))),.slc 5 ((pn:Nat):Int) (.col 0 (fun i=>.v (.int .i64 (pW i))) (.col 1 (fun i=>.v (.int .i64 (pH i))) (.col 2 (fun i=>.v (.int .i64 (pS i))) (.col 3 (fun i=>.v (.int .i64 (pd i))) (.col 4 (fun i=>.slc 5 ((pc i:Nat):Int) (.fn fun a b=>.v (.int .i64 (pl i a b)))) (.zer [])))))),.slc 11 ((un:Nat):Int) (.col 0 (fun i=>.v (.int .i64 (u0 i))) (.col 1 (fun i=>.v (.int .i64 (u1 i))) (.col 2 (fun i=>.v (.int .i64 (u2 i))) (.col 3 (fun i=>.v (.int .i64 (u3 i))) (.col 4 (fun i=>.v (.int .i64 (u4 i))) (.col 5 (fun i=>.v (.int .i64 (u5 i))) (.col 6 (fun i=>.v (.int .i64 (u6 i))) (.col 7 (fun i=>.v (.int .i64 (u7 i))) (.col 8 (fun i=>.v (.int .i64 (u8 i))) (.col 9 (fun i=>.v (.int .i64 (u9 i))) (.col 10 (fun i=>.v (.int .i64 (u10 i))) (.zer []))))))))))))]),.x (.c (.v (.int .i64 at'))),.x (.c (.v (.bool bad)))]) (by simp) ?_ w hG hF ⟨⟨[.int .i64 sb,.int .i64 sx,.int .i64 sy,.int .i64 sw,.int .i64 sh,.int .i64 st,.int .i64 su,x0,x1,x2],rfl,⟨.v rfl,.v rfl,.v rfl,.v rfl,.v rfl,.v rfl,.v rfl,r0,r1,r2,trivial⟩⟩,.v rfl,.v rfl,rfl⟩
  rw [jn8]
  delta zz953 zz954 zz955 zz958 zz960 zz964 zz966 zz974 zz975
  have VT:∀b:Bool,b=true→jb5 ⟨[.c (.v (.bool true))],[],[]⟩ [.c (.v (.bool b))] []:=fun b e=>by subst e;simp [jb5,eqXs,eqX,eqo,eqLo,eqc,veq,eqUs]
  generalize jb5 _=V at *
  simp only [forall_eq,true_and,and_true,and_self,implies_true,or_false,false_or,false_and,and_false,exists_const,exists_false,ja1,qq9,qq8,qi7,false_implies]
  have G:=yl6 ⟨sb,sx,sy,sw,sh,st,su,on,fun i=>ol i 0,pn,fun i=>⟨pW i,pH i,pS i,pd i,pc i,pl i⟩,un,fun i=>⟨u0 i,u1 i,u2 i,u3 i,u4 i,u5 i,u6 i,u7 i,u8 i,u9 i,u10 i⟩⟩ (Int.natCast_nonneg on) (Int.natCast_nonneg pn) (Int.natCast_nonneg un)
  have AS:intRow .i64 1 (on:Int) (.fn fun i j=>.v (.int .i64 (ol i j)))∧jh9 (pn:Int) (vc5 fun i=>⟨pW i,pH i,pS i,pd i,pc i,pl i⟩)∧ji0 (un:Int) (vc4 fun i=>⟨u0 i,u1 i,u2 i,u3 i,u4 i,u5 i,u6 i,u7 i,u8 i,u9 i,u10 i⟩)∧jv4 (pn:Int) (fun i=>⟨pW i,pH i,pS i,pd i,pc i,pl i⟩)∧ile 0 (on:Int)=true∧ile 0 (pn:Int)=true∧ile 0 (un:Int)=true:=⟨fun i j _ _=>rfl,vm6 _ (fun i=>⟨pW i,pH i,pS i,pd i,pc i,pl i⟩),vo1 _ (fun i=>⟨u0 i,u1 i,u2 i,u3 i,u4 i,u5 i,u6 i,u7 i,u8 i,u9 i,u10 i⟩),fun i _ _=>Int.natCast_nonneg _,jb1 (Int.natCast_nonneg _),jb1 (Int.natCast_nonneg _),jb1 (Int.natCast_nonneg _)⟩
  refine ⟨⟨AS,_,G,?_⟩,fun s hs=>?_⟩
  · repeat' apply And.intro
    all_goals first | rfl | (intro n hn;first | rfl | exact EqC.slc fun _ _ _ _=>.v _)
  clear G AS
  have m0:1≤s.mn∧s.mn≤4:=hs.2.2.1
  have o0:0≤s.on∧s.on≤100:=hs.2.1
  have e1:iadd .i64 s.mn 1=s.mn + 1:=IntWalk.i64_in _ (by omega)
  rw [e1]
  have g:=jc2 at' (k:=s.mn + 1) (by omega)
  generalize gmod at' (s.mn + 1)=k at *
  have en:addZ (addZ (subZ k 0) 1) (subZ s.mn k)=s.mn + 1:=by unfold addZ subZ;omega
  rw [en]
  have GB:vt0 (s.mn + 1) (seeR s.ml k):=fun i hi=>by
    rw [yr2]
    unfold seeV
    have gi:∀i,0≤i→i < s.mn→imG (s.ml i)∧imE (s.ml i) (smV s.b)=0:=hs.2.2.2.1
    by_cases c:(i:Int) < k
    · rw [jg9 c];exact (gi i (by omega) (by omega)).1
    · rw [jn6 (show k≤(i:Int) by omega),cond_false]
      by_cases e:(i:Int)=k
      · rw [e,show ieq k k=true by simp [ieq]];exact yl8 _
      · rw [show ieq (i:Int) k=false from decide_eq_false e];exact (gi _ (by omega) (by omega)).1
  have I:=y03 s.ml k (s.mn + 1)
  have W:intRow .i64 1 s.on (.fn fun a _=>.v (.int .i64 (s.ol a))):=ji7 _ _ _
  have eI:∀a:Int,ieq a a=true:=fun a=>by simp [ieq]
  refine ⟨decide_eq_true (by omega),⟨jb1 (by unfold jd2 subZ;omega),jb1 (by omega),jb1 (by omega)⟩,jb1 (by unfold jd2 addZ subZ;omega),⟨jb1 (by unfold jd2;omega),jb1 (by omega),jb1 (by omega),jb1 (by omega)⟩,fun _=>?_,fun _=>?_⟩
  · obtain ⟨v1,v2⟩:=za3 hs g.1 (by omega) (pn:=1) (by decide) za1 rfl
    refine ⟨⟨GB,W,I,yl7,jb1 o0.1,jb1 (by omega)⟩,fun _=>VT _ ?_,fun c=>?_⟩
    · exact (congrArg (fun a=>ieq a k) v2).trans (eI k)
    · exact absurd ((congrArg (fun a=>ieq a 8) v1).symm.trans c) (by decide)
  · obtain ⟨v1,v2⟩:=za3 hs g.1 (by omega) (pn:=0) (by decide) (.zer []) rfl
    refine ⟨⟨GB,W,I,fun i j hi _=>by omega,jb1 o0.1,jb1 (by omega)⟩,fun _=>VT _ ?_,fun c=>?_⟩
    · exact (congrArg (fun a=>ieq a k) v2).trans (eI k)
    · exact absurd ((congrArg (fun a=>ieq a 8) v1).symm.trans c) (by decide)
end Go.Proofs.YthkidembkknoeaaDoor
