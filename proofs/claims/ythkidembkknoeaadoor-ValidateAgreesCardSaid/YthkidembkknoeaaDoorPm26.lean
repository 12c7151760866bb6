import Derived.Test.YthkidembkknoeaaDoorPm11
import Derived.Test.YthkidembkknoeaaDoorPm25
import Derived.Test.YthkidembkknoeaaDoorPm15
import Derived.Test.YthkidembkknoeaaDoorPm24
namespace Go.Proofs.YthkidembkknoeaaDoor
open Go.RowKit PR QR
set_option linter.unusedVariables false
set_option linter.unusedSimpArgs false
def scR (b x0 y0 x1 y1 tw th n:Int) (r:QR.Row):Sc:=⟨b,x0,y0,x1,y1,tw,th,0,λ _=>0,0,imAt (.zer []),n,ovAt r⟩
noncomputable def chRE (b x0 y0 x1 y1 tw th n:Int) (r:QR.Row):Int:=chE (scR b x0 y0 x1 y1 tw th n r)
noncomputable def chRN (b x0 y0 x1 y1 tw th n:Int) (r:QR.Row):Int:=chN (scR b x0 y0 x1 y1 tw th n r)
noncomputable def ckRE (b x0 y0 x1 y1 tw th n:Int) (r:QR.Row):Int:=chkE (scR b x0 y0 x1 y1 tw th n r)
noncomputable def ckRN (b x0 y0 x1 y1 tw th n:Int) (r:QR.Row):Int:=chkN (scR b x0 y0 x1 y1 tw th n r)
noncomputable def vp4:List AV->Option QR.Ans
 | [.x (.agg [.v (.int .i64 b),.v (.int .i64 x0),.v (.int .i64 y0),.v (.int .i64 x1),.v (.int .i64 y1),.v (.int .i64 tw),.v (.int .i64 th),.v (.slice none 0 0),.v (.slice none 0 0),pc])]=>match jf4 12 pc with
  | some (n,r)=>some ⟨[.c (.v (.int .i64 (chRE b x0 y0 x1 y1 tw th n r))),.c (.v (.int .i64 (chRN b x0 y0 x1 y1 tw th n r)))],[],[jc9 n r,ile 0 n=true]⟩
  | none=>none
 | _=>none
noncomputable def q63:List AV->Option QR.Ans
 | [.x (.agg [.v (.int .i64 b),.v (.int .i64 x0),.v (.int .i64 y0),.v (.int .i64 x1),.v (.int .i64 y1),.v (.int .i64 tw),.v (.int .i64 th),.v (.slice none 0 0),.v (.slice none 0 0),pc])]=>match jf4 12 pc with
  | some (n,r)=>some ⟨[.c (.v (.int .i64 (ckRE b x0 y0 x1 y1 tw th n r))),.c (.v (.int .i64 (ckRN b x0 y0 x1 y1 tw th n r)))],[],[jc9 n r,ile 0 n=true]⟩
  | none=>none
 | _=>none
def q64:List AV->Option QR.Ans
 | []=>some ⟨[.c (.v (.bool true))],[],[]⟩
 | _=>none
noncomputable def yf0:QR.ja8:=QR.orc [(12,vp4),(13,q63)]
def zz951:QR.Row:=(QR.Row.upd (QR.Row.upd (QR.Row.upd (QR.Row.upd (QR.Row.upd (QR.Row.upd (QR.Row.upd (QR.Row.upd (QR.Row.upd (QR.Row.upd (QR.Row.upd (QR.Row.upd (QR.Row.zer [Value.int .i64 0,Value.int .i64 0,Value.int .i64 0,Value.int .i64 0,Value.int .i64 0,Value.int .i64 0,Value.int .i64 0,Value.int .u16 0,Value.int .i64 0,Value.int .i64 0,Value.bool false,Value.bool false]) 0 0 (CV.v (Value.int .i64 3))) 0 1 (CV.v (Value.int .i64 0))) 0 2 (CV.v (Value.int .i64 0))) 0 3 (CV.v (Value.int .i64 0))) 0 4 (CV.v (Value.int .i64 0))) 0 5 (CV.v (Value.int .i64 0))) 0 6 (CV.v (Value.int .i64 0))) 0 7 (CV.v (Value.int .u16 0))) 0 8 (CV.v (Value.int .i64 0))) 0 9 (CV.v (Value.int .i64 0))) 0 10 (CV.v (Value.bool false))) 0 11 (CV.v (Value.bool false)))
def zz952:QR.Row:=(QR.Row.upd (QR.Row.upd (QR.Row.upd (QR.Row.upd (QR.Row.upd (QR.Row.upd (QR.Row.upd (QR.Row.upd (QR.Row.upd (QR.Row.upd (QR.Row.upd (QR.Row.upd (QR.Row.zer [Value.int .i64 0,Value.int .i64 0,Value.int .i64 0,Value.int .i64 0,Value.int .i64 0,Value.int .i64 0,Value.int .i64 0,Value.int .u16 0,Value.int .i64 0,Value.int .i64 0,Value.bool false,Value.bool false]) 0 0 (CV.v (Value.int .i64 2))) 0 1 (CV.v (Value.int .i64 0))) 0 2 (CV.v (Value.int .i64 0))) 0 3 (CV.v (Value.int .i64 0))) 0 4 (CV.v (Value.int .i64 0))) 0 5 (CV.v (Value.int .i64 0))) 0 6 (CV.v (Value.int .i64 0))) 0 7 (CV.v (Value.int .u16 0))) 0 8 (CV.v (Value.int .i64 4))) 0 9 (CV.v (Value.int .i64 1))) 0 10 (CV.v (Value.bool false))) 0 11 (CV.v (Value.bool false)))
set_option maxRecDepth 100000 in
theorem vv2 (V:List QR.XV->List (List QR.CV)->Prop):QR.ja5 Tryd.prog (yf0) (QR.ja4) (Tryd.f14.body.getD .skip) Tryd.f14.results.toList Tryd.f14.ntmps [] V=(True/\True/\∀(i:Int),i=chRE 8 0 0 1 1 1 1 0 (QR.Row.zer [])->∀(i_1:Int),i_1=chRN 8 0 0 1 1 1 1 0 (QR.Row.zer [])->(jc9 0 (QR.Row.zer [])/\true=true/\True)/\True/\∀(i_2:Int),i_2=chRE 8 0 0 1 1 1 1 1 zz951->∀(i_3:Int),i_3=chRN 8 0 0 1 1 1 1 1 zz951->(jc9 1 zz951/\true=true/\True)/\True/\∀(i_4:Int),i_4=ckRE 8 0 0 1 1 1 1 1 zz952->∀(i_5:Int),i_5=ckRN 8 0 0 1 1 1 1 1 zz952->(jc9 1 zz952/\true=true/\True)/\ja0 (ieq i 0) (ja0 (ieq i_2 18) (ja0 (ieq i_3 0) (ja0 (ieq i_4 18) (True/\True/\V [XV.c (CV.v (Value.bool (ieq i_5 1)))] []) (True/\True/\V [XV.c (CV.v (Value.bool false))] [])) (True/\True/\V [XV.c (CV.v (Value.bool false))] [])) (True/\True/\V [XV.c (CV.v (Value.bool false))] [])) (True/\True/\V [XV.c (CV.v (Value.bool false))] [])):=by
 delta zz951 zz952
 try delta yf0
 try delta vp4
 try delta q63
 generalize @chRE=chRE
 generalize @chRN=chRN
 generalize @ckRE=ckRE
 generalize @ckRN=ckRN
 generalize @jc9=jc9
 kernel_rfl
end Go.Proofs.YthkidembkknoeaaDoor
namespace Go.Proofs.YthkidembkknoeaaDoor
open Go.RowKit PR QR
set_option linter.unusedVariables false
set_option linter.unusedSimpArgs false
def scW (s:Sc):Prop:=(smOk s.b=true/\plcB s.x0 s.y0 s.x1 s.y1=true/\tiB s.x0 s.y0 s.x1 s.y1 s.tw s.th=true/\ordB s.on s.ol (tiX s.x0 s.y0 s.x1 s.y1 s.tw s.th * tiY s.x0 s.y0 s.x1 s.y1 s.tw s.th)=true)/\(0<=s.on/\s.on<=100)/\(1<=s.mn/\s.mn<=4)/\(∀i,0<=i->i < s.mn->imG (s.ml i)/\imE (s.ml i) (smV s.b)=0)/\(0<=s.pn/\s.pn<=100)
def q65 (s:Sc):List CV:=[.v (.int .i64 s.b),.v (.int .i64 s.x0),.v (.int .i64 s.y0),.v (.int .i64 s.x1),.v (.int .i64 s.y1),.v (.int .i64 s.tw),.v (.int .i64 s.th)] ++ [.own 1000000000000001 s.on,.own 1000000000000002 s.mn,.own 1000000000000003 s.pn]
end Go.Proofs.YthkidembkknoeaaDoor
namespace Go.Proofs.YthkidembkknoeaaDoor
open Go.RowKit PR QR
set_option linter.unusedVariables false
set_option linter.unusedSimpArgs false
set_option maxRecDepth 20000
theorem igtN (a b:Int):igt a b=!(ile a b):=by unfold igt ile;rw [<- decide_not];exact decide_eq_decide.2 (by omega)
theorem igeN (a b:Int):ige a b=!(ilt a b):=by unfold ige ilt;rw [<- decide_not];exact decide_eq_decide.2 (by omega)
theorem igeL (a b:Int):ige a b=ile b a:=rfl
theorem ineN (a b:Int):ine a b=!(ieq a b):=rfl
theorem qv8 (b:Bool):bnot b=!b:=by cases b <;> rfl
theorem zb9 (a b:Bool):band a b=(a && b):=by cases a <;> cases b <;> rfl
theorem zc0 (n:Int):jg4 n=(ile (-1048576) n && ile n 1048576):=by
 unfold jg4 ile
 rw [<- Bool.decide_and]
theorem yd4:ja6 57 jx3:=by
 intro al ans h hq
 unfold jx3 at h
 split at h <;> try (simp at h;done)
 rename_i n
 simp only [Option.some.injEq] at h
 subst h
 have hq:=asked hq
 refine QR.ja2 (O:=(QR.orc [])) QR.jb1 mixed (QR.ja4) Tryd.func57 (by kernel_rfl) (by kernel_rfl) (by simp) ?_
 rw [ym9]
 simp only [ja1,jb4,eqXs,eqX,eqo,eqLo,eqc,veq,eqUs,true_and,and_true,zc0,igeL]
 cases ile (-1048576) n <;> simp
theorem yd5:ja6 39 qh0:=by
 intro al ans h hq
 unfold qh0 at h
 split at h <;> try (simp at h;done)
 rename_i n
 simp only [Option.some.injEq] at h
 subst h
 have hq:=asked hq
 refine QR.ja2 (O:=(QR.orc [])) QR.jb1 mixed (QR.ja4) Tryd.func39 (by kernel_rfl) (by kernel_rfl) (by simp) ?_
 rw [zb8]
 have e:ilt n (-1048576)=!(ile (-1048576) n):=by unfold ilt ile;rw [<- decide_not];exact decide_eq_decide.2 (by omega)
 simp only [ja1,jb4,eqXs,eqX,eqo,eqLo,eqc,veq,eqUs,true_and,and_true,zc0,igtN,e,qv8]
 cases ile (-1048576) n <;> simp
theorem zh1 {a b c d:Int} (h:plcB a b c d=true):reB a b c d=false/\(c - a) * (d - b)<=16777216/\jg4 a=true/\jg4 b=true:=by
 unfold plcB at h
 simp only [Bool.and_eq_true,decide_eq_true_eq] at h
 exact ⟨h.1.1,h.1.2,h.2.1,h.2.2⟩
theorem zc1 {a b c d:Int}:plcB a b c d=(!(reB a b c d) && (ile (raV a b c d) 16777216 && (jg4 a && jg4 b))):=by
 unfold plcB raV
 cases h:reB a b c d
 ·simp [ile]
 ·simp
theorem zc2 {a b c d:Int}:igt (raV a b c d) 0=!(reB a b c d):=by
 unfold raV
 cases h:reB a b c d
 ·obtain ⟨_,h1,h2⟩:=re_f.1 h
  have:=Int.mul_pos (show 0 < c - a by omega) (show 0 < d - b by omega)
  simp [igt,this]
 ·simp [igt]
theorem y26:ja6 32 q51:=by
 intro al ans h hq
 unfold q51 at h
 split at h <;> try (simp at h;done)
 rename_i a b c d
 simp only [Option.some.injEq] at h
 subst h
 have hq:=asked hq
 refine QR.ja2 (O:=vj2) (QR.ja3 yz8 (QR.ja3 yd4 QR.jb1)) mixed (QR.ja4) Tryd.func32 (by kernel_rfl) (by kernel_rfl) (by simp) ?_
 rw [yn0]
 simp only [ja1,jb4,eqXs,eqX,eqo,eqLo,eqc,veq,eqUs,true_and,and_true,forall_eq,zc1,zc2]
 cases reB a b c d <;> cases ile (raV a b c d) 16777216 <;> cases jg4 a <;> simp
theorem yd6 (m:Int) (l:Int->Int) (n:Int) (hm:ile 0 m=true) (A:List Prop):ji5 Tryd.prog 34 [.x (.c (.slc 1 m (.fn λ i _=>.v (.int .i64 (l i))))),.x (.c (.v (.int .i64 n)))] ⟨[.c (.v (.bool (ordB m l n)))],[],A⟩:=by
 refine QR.ja2 (O:=vj3) (QR.ja3 yq0 QR.jb1) mixed QR.ja4 Tryd.func34 (by kernel_rfl) (by kernel_rfl) (by simp) ?_
 rw [yn1]
 have W:intRow .i64 1 m (.fn λ i _=>.v (.int .i64 (l i))):=jf9 _ _ _
 simp only [ja1,jb4,eqXs,eqX,eqo,eqLo,eqc,veq,eqUs,true_and,and_true,forall_eq,ordB]
 refine ⟨λ c=>by rw [c];rfl,λ c=>⟨⟨W,hm⟩,by rw [c];rfl⟩⟩
theorem y30:ja6 34 q52:=by
 intro al ans hh hq
 unfold q52 at hh
 split at hh <;> try (simp at hh;done)
 rename_i c n
 cases e:jf4 1 c with
 | none=>rw [e] at hh;simp at hh
 | some p =>
  obtain ⟨m,r⟩:=p
  rw [e] at hh
  simp only [Option.some.injEq] at hh
  subst hh
  obtain ⟨hr,hm,_⟩:=asked hq
  exact jc0 (al':=[.x (.c (.slc 1 m (.fn λ i _=>.v (.int .i64 (intC (den r i 0)))))),.x (.c (.v (.int .i64 n)))]) ⟨qe3 e hr,.v _,trivial⟩ (yd6 _ _ _ hm _)
theorem q56 {a b c d w h:Int} (k:tiB a b c d w h=true) (p:plcB a b c d=true):(1<=tiX a b c d w h * tiY a b c d w h/\tiX a b c d w h * tiY a b c d w h<=16777216)/\imul .i64 (tiX a b c d w h) (tiY a b c d w h)=tiX a b c d w h * tiY a b c d w h:=by
 have f:=yp0 k
 have g:=yp1 k
 obtain ⟨_,⟨w1,w2⟩,h1,h2⟩:=y48 k
 have d1:=(jl4 w1 w2).1
 have d2:=(jl4 h1 h2).1
 rw [<- f] at d1
 rw [<- g] at d2
 have m1:=Int.mul_le_mul d1.2 d2.2 (by omega) (by omega)
 have m2:=Int.mul_le_mul d1.1 d2.1 (by omega) (by omega)
 have q:=(zh1 p).2.1
 refine ⟨⟨by omega,by omega⟩,IntWalk.i64_in _ (by omega)⟩
theorem zh2 {l:Int->Int} {n:Int} (h:1<=n/\n<=16777216):orB 0 (λ i _=>l i) n=true:=by
 refine qa1.2 ⟨⟨by omega,by omega⟩,Or.inl rfl,⟨by omega,by omega⟩,λ j j0 j1=>?_⟩
 simp only [ve6]
 exact ⟨⟨j0,j1⟩,λ k k0 k1=>by omega⟩
theorem yt5 {m:Int} {l:Int->Int} {n:Int} (h:1<=n/\n<=16777216):orB m (λ i _=>l i) n=ordB m l n:=by
 unfold ordB
 cases c:ieq m 0
 ·rfl
 ·obtain rfl:=of_decide_eq_true c
  exact zh2 h
theorem yn7 (s:Sc) (h0:0<=s.on) (A:List Prop):ji5 Tryd.prog 15 [.x (.agg (jf6 s))] ⟨[.c (.v (.int .i64 (frV s)))],[],A⟩:=by
 refine QR.ja2 (O:=yd1) (QR.ja3 vk9 (QR.ja3 y26 (QR.ja3 yp5 (QR.ja3 y30 QR.jb1)))) mixed QR.ja4 Tryd.func15 (by kernel_rfl) (by kernel_rfl) (by simp) ?_
 rw [y16]
 have VT:∀e,frV s=e->jb4 ⟨[.c (.v (.int .i64 (frV s)))],[],A⟩ [.c (.v (.int .i64 e))] []:=λ e h=>by rw [h];simp [jb4,eqXs,eqX,eqo,eqLo,eqc,veq,eqUs]
 generalize jb4 ⟨[.c (.v (.int .i64 (frV s)))],[],A⟩=V at *
 simp only [forall_eq,true_and,and_true,implies_true,ja1,qv8,igtN]
 have W:intRow .i64 1 s.on (.fn λ i _=>.v (.int .i64 (s.ol i))):=jf9 _ _ _
 have le:=jb2 h0
 unfold frV at VT
 refine ⟨λ c=>VT _ (by simp_all),λ c1=>⟨λ c=>VT _ (by simp_all),λ c2=>⟨λ c=>VT _ (by simp_all),λ c3=>⟨⟨W,le⟩,?_⟩⟩⟩⟩
 have c2:plcB s.x0 s.y0 s.x1 s.y1=true:=by simpa using c2
 have c3:tiB s.x0 s.y0 s.x1 s.y1 s.tw s.th=true:=by simpa using c3
 have m:=(q56 c3 c2).2
 refine ⟨λ c=>VT _ ?_,λ c4=>⟨λ c=>VT _ ?_,λ c5=>⟨λ c=>VT _ ?_,λ c6=>VT _ ?_⟩⟩⟩
 all_goals (try rw [m] at c);(try rw [m] at c4);simp_all
theorem yd7:ja6 15 jo0:=by
 intro al ans h hq
 unfold jo0 at h
 split at h <;> try (simp at h;done)
 rename_i l
 cases e:jg8 l with
 | none=>simp [e] at h
 | some p =>
  obtain ⟨s,A⟩:=p
  rw [e] at h
  simp only [Option.some.injEq] at h
  subst h
  obtain ⟨q,h4,h5,h6⟩:=jv9 e hq
  exact jc0 (al':=[.x (.agg (jf6 s))]) ⟨q,trivial⟩ (yn7 s h4 _)
theorem yd8 (s:Sc) (h0:0<=s.on) (A:List Prop):ji5 Tryd.prog 19 [.x (.agg (jf6 s))] ⟨[.c (.v (.int .i64 (frV s)))],[],A⟩:=by
 refine QR.ja2 (O:=vj4) (QR.ja3 q79 (QR.ja3 q46 (QR.ja3 yz9 (QR.ja3 yd5 (QR.ja3 vq0 (QR.ja3 yp2 QR.jb1)))))) mixed QR.ja4 Tryd.func19 (by kernel_rfl) (by kernel_rfl) (by simp) ?_
 rw [yn2]
 have VT:∀e,frV s=e->jb4 ⟨[.c (.v (.int .i64 (frV s)))],[],A⟩ [.c (.v (.int .i64 e))] []:=λ e h=>by rw [h];simp [jb4,eqXs,eqX,eqo,eqLo,eqc,veq,eqUs]
 generalize jb4 ⟨[.c (.v (.int .i64 (frV s)))],[],A⟩=V at *
 simp only [forall_eq,true_and,and_true,implies_true,ja1,qv8,igtN]
 have W:intRow .i64 1 s.on (.fn λ i _=>.v (.int .i64 (s.ol i))):=jf9 _ _ _
 have le:=jb2 h0
 have P:=zc1 (a:=s.x0) (b:=s.y0) (c:=s.x1) (d:=s.y1)
 unfold frV at VT
 refine ⟨λ c=>VT _ (by simp_all),λ c1=>⟨λ c=>VT _ (by simp_all),λ c2=>⟨λ c=>VT _ (by simp_all),λ c3=>⟨λ c=>VT _ (by simp_all),λ c4=>⟨λ c=>VT _ (by simp_all),λ c5=>⟨λ c=>VT _ (by simp_all),λ c6=>⟨⟨W,le⟩,?_⟩⟩⟩⟩⟩⟩⟩
 have p:plcB s.x0 s.y0 s.x1 s.y1=true:=by simp_all
 have c6:tiB s.x0 s.y0 s.x1 s.y1 s.tw s.th=true:=by simpa using c6
 have m:=(q56 c6 p).2
 have o:=yt5 (m:=s.on) (l:=s.ol) (q56 c6 p).1
 refine ⟨λ c=>VT _ ?_,λ c7=>⟨λ c=>VT _ ?_,λ c8=>⟨λ c=>VT _ ?_,λ c9=>VT _ ?_⟩⟩⟩
 all_goals (try rw [m,o] at c);(try rw [m,o] at c7);simp_all
theorem vj6:ja6 19 jo0:=by
 intro al ans h hq
 unfold jo0 at h
 split at h <;> try (simp at h;done)
 rename_i l
 cases e:jg8 l with
 | none=>simp [e] at h
 | some p =>
  obtain ⟨s,A⟩:=p
  rw [e] at h
  simp only [Option.some.injEq] at h
  subst h
  obtain ⟨q,h4,h5,h6⟩:=jv9 e hq
  exact jc0 (al':=[.x (.agg (jf6 s))]) ⟨q,trivial⟩ (yd8 s h4 _)
theorem q57 {l:List CV} {o:Ov} (h:jt6 l=some o):l=j07 o:=by
 unfold jt6 at h
 split at h <;> simp at h
 subst h;rfl
theorem vp0 (a:Bool):beq' a false=!a:=by cases a <;> rfl
theorem yn8 (a:Bool):beq' a a=true:=by cases a <;> rfl
theorem y33 (a:Int):ieq a a=true:=by simp [ieq]
theorem yt6 {o:Ov}:decide (o.im=0/\o.x=0/\o.y=0/\o.msk=0/\o.mx=0/\o.my=0/\o.op=0/\o.opr=0/\o.md=0)=(ieq o.im 0 && (ieq o.x 0 && (ieq o.y 0 && (ieq o.msk 0 && (ieq o.mx 0 && (ieq o.my 0 && (ieq o.op 0 && (ieq o.opr 0 && ieq o.md 0)))))))):=by
 simp only [Bool.decide_and];rfl
theorem yd9 {o:Ov}:decide (o.im=0/\o.x=0/\o.y=0)=(ieq o.im 0 && (ieq o.x 0 && ieq o.y 0)):=by
 simp only [Bool.decide_and];rfl
theorem ye0 {o:Ov}:decide (o.msk=0->o.mx=0/\o.my=0)=(!(ieq o.msk 0) || (ieq o.mx 0 && ieq o.my 0)):=by
 unfold ieq
 rw [Bool.eq_iff_iff]
 simp only [decide_eq_true_eq,Bool.or_eq_true,Bool.not_eq_true',beq_eq_false_iff_ne,Bool.and_eq_true,beq_iff_eq]
 omega
theorem zc3:ja6 41 vo8:=by
 intro al ans h hq
 unfold vo8 at h
 split at h <;> try (simp at h;done)
 rename_i l
 cases e:jt6 l with
 | none=>simp [e] at h
 | some o =>
  rw [e] at h
  simp only [Option.some.injEq] at h
  subst h
  rw [q57 e]
  obtain ⟨k1,k3,_⟩:=asked hq
  refine QR.ja2 (O:=QR.orc []) QR.jb1 mixed QR.ja4 Tryd.func41 (by kernel_rfl) (by kernel_rfl) (by simp) ?_
  rw [y17]
  simp only [ja1,jb4,eqXs,eqX,eqo,eqLo,eqc,veq,eqUs,true_and,and_true,uzB,yt6,yd9,ye0,zb9,ineN,vp0]
  have k1:=je3 k1
  have k3:=je3 k3
  rcases (by omega:o.kd=1\/o.kd=2\/o.kd=3) with q | q | q <;> rw [q]
  ·cases o.iso <;> cases o.kno <;> cases ieq o.msk 0 <;> cases ieq o.mx 0 <;> simp [ieq]
  ·cases ieq o.im 0 <;> cases ieq o.x 0 <;> cases ieq o.y 0 <;> cases ieq o.msk 0 <;> cases ieq o.mx 0 <;> simp [ieq]
  ·simp [ieq,Bool.and_assoc]
theorem y35:ja6 43 q53:=by
 intro al ans h hq
 unfold q53 at h
 split at h <;> try (simp at h;done)
 rename_i l
 cases e:jt6 l with
 | none=>simp [e] at h
 | some o =>
  rw [e] at h
  simp only [Option.some.injEq] at h
  subst h
  rw [q57 e]
  obtain ⟨k1,k3,_⟩:=asked hq
  refine QR.ja2 (O:=QR.orc []) QR.jb1 mixed QR.ja4 Tryd.func43 (by kernel_rfl) (by kernel_rfl) (by simp) ?_
  rw [yn3]
  simp only [ja1,jb4,eqXs,eqX,eqo,eqLo,eqc,veq,eqUs,true_and,and_true,uzB,yt6,yd9,ye0,zb9,ineN,vp0,yn8,y33,qv8]
  have k1:=je3 k1
  have k3:=je3 k3
  rcases (by omega:o.kd=1\/o.kd=2\/o.kd=3) with q | q | q <;> rw [q]
  ·cases o.iso <;> cases o.kno <;> cases ieq o.msk 0 <;> cases ieq o.mx 0 <;> simp [ieq]
  ·cases ieq o.im 0 <;> cases ieq o.x 0 <;> cases ieq o.y 0 <;> cases ieq o.msk 0 <;> cases ieq o.mx 0 <;> simp [ieq]
  ·simp [ieq,Bool.and_assoc]
theorem zc4 {o:Ov} {n:Int}:refB o n=((!(ieq o.kd 1) || (ile 0 o.im && ilt o.im n)) && (ile 0 o.msk && ile o.msk n)):=by
 unfold refB ieq ile ilt
 rw [Bool.eq_iff_iff]
 simp only [decide_eq_true_eq,Bool.or_eq_true,Bool.not_eq_true',beq_eq_false_iff_ne,Bool.and_eq_true,beq_iff_eq]
 omega
theorem iltN (a b:Int):ilt a b=!(ile b a):=by unfold ilt ile;rw [<- decide_not];exact decide_eq_decide.2 (by omega)
theorem y36:ja6 67 q54:=by
 intro al ans h hq
 unfold q54 at h
 split at h <;> try (simp at h;done)
 rename_i l n
 cases e:jt6 l with
 | none=>simp [e] at h
 | some o =>
  rw [e] at h
  simp only [Option.some.injEq] at h
  subst h
  rw [q57 e]
  refine QR.ja2 (O:=QR.orc []) QR.jb1 mixed QR.ja4 Tryd.func67 (by kernel_rfl) (by kernel_rfl) (by simp) ?_
  rw [yn4]
  simp only [ja1,jb4,eqXs,eqX,eqo,eqLo,eqc,veq,eqUs,true_and,and_true,zc4,igeN,iltN]
  cases ieq o.kd 1 <;> cases ile 0 o.im <;> cases ile n o.im <;> cases ile 0 o.msk <;> simp
theorem ye1 (k:Int) (g:Int->Ov) (h0:0<=k) (hk:k<=9223372036854775807) (A:List Prop):ji5 Tryd.prog 70 [.x (.c (.slc 12 k (jf3 g)))] ⟨[.c (.v (.bool (anyB k (jm4 g k))))],[],A⟩:=by
 refine QR.ja2 (O:=QR.orc []) QR.jb1 mixed QR.ja4 Tryd.func70 (by kernel_rfl) (by kernel_rfl) (by simp) ?_
 rw [yn5]
 simp only [ja1,jb4,eqXs,eqX,eqo,eqLo,eqc,veq,eqUs,true_and,and_true,forall_eq,anyB,jm4]
 refine ⟨λ c=>by rw [c];rfl,λ c=>?_⟩
 have c1:=jd8 c
 have s1:isub .i64 k 1=k - 1:=IntWalk.i64_in _ (by omega)
 rw [s1,c,cond_false]
 refine ⟨⟨jb2 (by omega),ji1 (by omega)⟩,λ d=>?_,λ d=>?_⟩ <;> rw [d] <;> simp [qv8]
theorem y37:ja6 70 q55:=by
 intro al ans h hq
 unfold q55 at h
 split at h <;> try (simp at h;done)
 rename_i c
 cases e:jf4 12 c with
 | none=>simp [e] at h
 | some p =>
  obtain ⟨k,r⟩:=p
  rw [e] at h
  simp only [Option.some.injEq] at h
  subst h
  obtain ⟨hr,h0,h1,_⟩:=asked hq
  exact jc0 (al':=[.x (.c (.slc 12 k (jf3 (ovAt r))))]) ⟨jl2 e (by decide) hr,trivial⟩ (ye1 k (ovAt r) (je3 h0) (je3 h1) _)
theorem y40 (m:Int):seqB (qk4 m) (bs [])=!(decide (1<=m/\m<=12)):=by
 have:=qr6 (m:=m)
 rw [qv8] at this
 rw [show opB m=decide (1<=m/\m<=12) from rfl] at this
 rw [<- this,Bool.not_not]
theorem y41 (m:Int):seqB (qd8 m) (bs [])=!(decide (1<=m/\m<=12)):=by
 have:=qr5 (m:=m)
 rw [qv8] at this
 rw [<- this,Bool.not_not]
theorem yn9 (o:Ov) (s:Sc) (k:Int) (g:Int->Ov) (h0:0<=k) (hk:k<=9223372036854775807) (A:List Prop):ji5 Tryd.prog 42 [.x (.agg (j07 o)),.x (.agg (jf6 s)),.x (.c (.slc 12 k (jf3 g)))] ⟨[.c (.v (.int .i64 (elE s.b s.mn o k (jm4 g k))))],[],A⟩:=by
 refine QR.ja2 (O:=yd2) (QR.ja3 vk9 (QR.ja3 y36 (QR.ja3 yd4 (QR.ja3 yy3 (QR.ja3 yx9 (QR.ja3 y37 QR.jb1)))))) mixed QR.ja4 Tryd.func42 (by kernel_rfl) (by kernel_rfl) (by simp) ?_
 rw [y18]
 have VT:∀e,elE s.b s.mn o k (jm4 g k)=e->jb4 ⟨[.c (.v (.int .i64 (elE s.b s.mn o k (jm4 g k))))],[],A⟩ [.c (.v (.int .i64 e))] []:=λ e h=>by rw [h];simp [jb4,eqXs,eqX,eqo,eqLo,eqc,veq,eqUs]
 generalize jb4 ⟨[.c (.v (.int .i64 (elE s.b s.mn o k (jm4 g k))))],[],A⟩=V at *
 have O:=j06 k g
 have z0:=jb2 h0
 have z1:=jb2 hk
 simp only [forall_eq,true_and,and_true,implies_true,ja1,qv8,igtN,igeL,ineN,y40,y41]
 unfold elE at VT
 rw [show (λ i=>g i)=g from rfl]
 generalize jm4 g k=q at *
 generalize decide (1<=o.opr/\o.opr<=12)=bo at *
 generalize decide (1<=o.md/\o.md<=12)=bm at *
 refine ⟨λ c=>VT _ (by simp_all),λ c1=>⟨λ c=>VT _ (by simp_all),λ c2=>⟨λ c=>VT _ (by simp_all),λ c3=>⟨λ c=>VT _ (by simp_all),λ c4=>⟨λ c=>VT _ (by simp_all),λ c5=>⟨λ c=>VT _ (by simp_all),λ c6=>⟨λ c=>VT _ (by simp_all),λ c7=>⟨λ c=>VT _ (by simp_all),λ c8=>?_⟩⟩⟩⟩⟩⟩⟩⟩
 refine ⟨λ c9=>⟨⟨O,z0,z1⟩,λ c=>VT _ (by simp_all),λ c10=>⟨λ c11=>⟨λ c=>VT _ (by simp_all),λ c=>VT _ (by simp_all)⟩,λ c=>VT _ (by simp_all)⟩⟩,λ c9=>⟨λ c11=>⟨λ c=>VT _ (by simp_all),λ c=>VT _ (by simp_all)⟩,λ c=>VT _ (by simp_all)⟩⟩
theorem y42 {l:List CV} {s:Sc} {A:List Prop} {c:CV} {k:Int} {r:QR.Row} (e:jg8 l=some (s,A)) (e2:jf4 12 c=some (k,r)) (hA:∀p∈A,p) (hr:jc9 k r):eqCs l (jf6 s)/\EqC c (.slc 12 k (jf3 (ovAt r)))/\0<=s.on/\0<=s.mn/\0<=s.pn:=by
 obtain ⟨q,h4,h5,h6⟩:=jv9 e hA
 exact ⟨q,jl2 e2 (by decide) hr,h4,h5,h6⟩
theorem zc5:ja6 42 vo9:=by
 intro al ans h hq
 unfold vo9 at h
 split at h <;> try (simp at h;done)
 rename_i q l c
 split at h <;> try (simp at h;done)
 rename_i o s A k r e1 e2 e3
 simp only [Option.some.injEq] at h
 subst h
 obtain ⟨hr,h0,h1,hA⟩:=vo7 hq
 obtain ⟨q1,q2,h4,h5,h6⟩:=y42 e2 e3 hA hr
 rw [q57 e1]
 exact jc0 (al':=[.x (.agg (j07 o)),.x (.agg (jf6 s)),.x (.c (.slc 12 k (jf3 (ovAt r))))]) ⟨⟨.v _,.v _,.v _,.v _,.v _,.v _,.v _,.v _,.v _,.v _,.v _,.v _,trivial⟩,q1,q2,trivial⟩ (yn9 o s k (ovAt r) (je3 h0) (je3 h1) _)
theorem yo0 (s:Sc) (i k:Int) (g:Int->Ov) (h0:0<=k) (hk:k<=9223372036854775807) (ho:0<=s.on) (hm:0<=s.mn) (hp:0<=s.pn) (A:List Prop):ji5 Tryd.prog 21 [.x (.agg (jf6 s)),.x (.c (.v (.int .i64 i))),.x (.c (.slc 12 k (jf3 g)))] ⟨[.c (.v (.int .i64 (opV s i k g)))],[],A⟩:=by
 refine QR.ja2 (O:=yd3) (QR.ja3 zc3 (QR.ja3 zc5 QR.jb1)) mixed QR.ja4 Tryd.func21 (by kernel_rfl) (by kernel_rfl) (by simp) ?_
 rw [y19]
 delta zz942
 have VT:∀e,opV s i k g=e->jb4 ⟨[.c (.v (.int .i64 (opV s i k g)))],[],A⟩ [.c (.v (.int .i64 e))] []:=λ e h=>by rw [h];simp [jb4,eqXs,eqX,eqo,eqLo,eqc,veq,eqUs]
 generalize jb4 ⟨[.c (.v (.int .i64 (opV s i k g)))],[],A⟩=V at *
 have AE:jc9 k (jf3 g)/\ile 0 k=true/\ile k 9223372036854775807=true/\intRow .i64 1 s.on (.fn λ i _=>.v (.int .i64 (s.ol i)))/\jf7 s.mn (jm3 s.ml)/\jc9 s.pn (jf3 s.pl)/\ile 0 s.on=true/\ile 0 s.mn=true/\ile 0 s.pn=true:=⟨j06 k g,jb2 h0,jb2 hk,jf9 _ _ _,qg9 _ _,j06 _ _,jb2 ho,jb2 hm,jb2 hp⟩
 simp only [forall_eq,true_and,and_true,implies_true,ja1,qv8,igtN,igeN,ineN]
 rw [show (λ i=>g i)=g from rfl]
 unfold opV at VT
 have E:∀a:Int,0<=i->i < s.pn->(∀e,opE s.b s.mn (s.pl i) k (jm4 g k)=e->V [.c (.v (.int .i64 e))] []):=λ _ a b e he=>VT e (by rw [decide_eq_true ⟨a,b⟩,cond_true];exact he)
 refine ⟨λ c=>VT _ ?_,λ c0=>⟨λ c=>VT _ ?_,λ c1=>?_⟩⟩
 ·rw [decide_eq_false (by have:=of_decide_eq_true c;omega)];rfl
 ·rw [decide_eq_false (by have:=jy6 (by simpa using c);omega)];rfl
 have i0:0<=i:=jy6 c0
 have i1:i < s.pn:=ji8 (by simpa using c1)
 have E:=E 0 i0 i1
 have body:(1<=(s.pl i).kd/\(s.pl i).kd<=3)->(ile 1 (s.pl i).kd=true/\ile (s.pl i).kd 3=true)/\((!(uzB (s.pl i)))=true->V [.c (.v (.int .i64 10))] [])/\((!(uzB (s.pl i)))=false->((!(ieq (s.pl i).kd 3))=true->(jc9 k (jf3 g)/\ile 0 k=true/\ile k 9223372036854775807=true/\intRow .i64 1 s.on (.fn λ i _=>.v (.int .i64 (s.ol i)))/\jf7 s.mn (jm3 s.ml)/\jc9 s.pn (jf3 s.pl)/\ile 0 s.on=true/\ile 0 s.mn=true/\ile 0 s.pn=true)/\V [.c (.v (.int .i64 (elE s.b s.mn (s.pl i) k (jm4 g k))))] [])/\((!(ieq (s.pl i).kd 3))=false->(ieq k 0=true->V [.c (.v (.int .i64 18))] [])/\(ieq k 0=false->V [.c (.v (.int .i64 0))] []))):=by
  intro kd
  unfold opE at E
  rw [decide_eq_true kd,cond_true] at E
  refine ⟨⟨jb2 kd.1,jb2 kd.2⟩,λ c=>E _ (by simp_all),λ c1=>⟨λ c2=>⟨AE,E _ (by simp_all)⟩,λ c2=>⟨λ c3=>E _ (by simp_all),λ c3=>E _ (by simp_all)⟩⟩⟩
 refine ⟨⟨jb2 i0,ji1 i1⟩,λ d1=>⟨λ d2=>⟨λ d3=>E _ ?_,λ d3=>body ?_⟩,λ d2=>body ?_⟩,λ d1=>body ?_⟩
 ·have d1:=jd8 (by simpa using d1)
  have d2:=jd8 (by simpa using d2)
  have d3:=jd8 (by simpa using d3)
  unfold opE
  rw [decide_eq_false (by omega)];rfl
 ·have:=jb5 (show ieq (s.pl i).kd 3=true by simpa using d3);omega
 ·have:=jb5 (show ieq (s.pl i).kd 2=true by simpa using d2);omega
 ·have:=jb5 (show ieq (s.pl i).kd 1=true by simpa using d1);omega
theorem zc6:ja6 21 qj8:=by
 intro al ans h hq
 unfold qj8 at h
 split at h <;> try (simp at h;done)
 rename_i l i c
 split at h <;> try (simp at h;done)
 rename_i s A k r e2 e3
 simp only [Option.some.injEq] at h
 subst h
 obtain ⟨hr,h0,h1,hA⟩:=vo7 hq
 obtain ⟨q1,q2,h4,h5,h6⟩:=y42 e2 e3 hA hr
 exact jc0 (al':=[.x (.agg (jf6 s)),.x (.c (.v (.int .i64 i))),.x (.c (.slc 12 k (jf3 (ovAt r))))]) ⟨q1,.v _,q2,trivial⟩ (yo0 s i k (ovAt r) (je3 h0) (je3 h1) h4 h5 h6 _)
theorem ye2 (s:Sc) (i k:Int) (g:Int->Ov) (h0:0<=k) (hk:k<=9223372036854775807) (A:List Prop):ji5 Tryd.prog 22 [.x (.agg (jf6 s)),.x (.c (.v (.int .i64 i))),.x (.c (.slc 12 k (jf3 g)))] ⟨[.c (.v (.int .i64 (opV s i k g)))],[],A⟩:=by
 refine QR.ja2 (O:=vj5) (QR.ja3 y35 (QR.ja3 q79 (QR.ja3 yd5 (QR.ja3 za0 (QR.ja3 yl1 QR.jb1))))) mixed QR.ja4 Tryd.func22 (by kernel_rfl) (by kernel_rfl) (by simp) ?_
 rw [yn6]
 have VT:∀e,opV s i k g=e->jb4 ⟨[.c (.v (.int .i64 (opV s i k g)))],[],A⟩ [.c (.v (.int .i64 e))] []:=λ e h=>by rw [h];simp [jb4,eqXs,eqX,eqo,eqLo,eqc,veq,eqUs]
 generalize jb4 ⟨[.c (.v (.int .i64 (opV s i k g)))],[],A⟩=V at *
 have kn:∀m:Int,band (ige m 1) (ile m 12)=decide (1<=m/\m<=12):=λ m=>v95
 simp only [forall_eq,true_and,and_true,implies_true,ja1,kn]
 simp only [qv8,igtN,igeN,ineN,iltN,Bool.not_not]
 unfold opV at VT
 have E:(∀e,0<=i->i < s.pn->opE s.b s.mn (s.pl i) k (jm4 g k)=e->V [.c (.v (.int .i64 e))] []):=λ e a b he=>VT e (by rw [decide_eq_true ⟨a,b⟩,cond_true];exact he)
 refine ⟨λ c=>VT _ ?_,λ c0=>⟨λ c=>VT _ ?_,λ c1=>?_⟩⟩
 ·rw [decide_eq_false (by have:=of_decide_eq_false (show ile 0 i=false by simpa using c);omega)];rfl
 ·rw [decide_eq_false (by have:=je3 c;omega)];rfl
 have i0:0<=i:=je3 (by simpa using c0)
 have i1:i < s.pn:=by have:=of_decide_eq_false c1;omega
 have E:=λ e=>E e i0 i1
 refine ⟨⟨jb2 i0,by rw [show ile s.pn i=false from c1];rfl⟩,λ c=>E _ ?_,λ c2=>⟨λ c=>E _ ?_,λ c3=>?_⟩⟩
 ·unfold opE
  rw [decide_eq_false (by have:=of_decide_eq_false (show ile 1 (s.pl i).kd=false by simpa using c);omega)];rfl
 ·unfold opE
  rw [decide_eq_false (by have:=of_decide_eq_false (show ile (s.pl i).kd 3=false by simpa using c);omega)];rfl
 have k1:1<=(s.pl i).kd:=je3 (by simpa using c2)
 have k3:(s.pl i).kd<=3:=je3 (by simpa using c3)
 unfold opE at E
 rw [decide_eq_true (show 1<=(s.pl i).kd/\(s.pl i).kd<=3 from ⟨k1,k3⟩),cond_true] at E
 refine ⟨⟨jb2 k1,jb2 k3⟩,λ c=>E _ (by simp_all),λ c4=>⟨λ c5=>⟨λ c=>E _ (by simp_all),λ c=>E _ (by simp_all)⟩,λ c5=>?_⟩⟩
 have c4:uzB (s.pl i)=true:=by simpa using c4
 rw [c4,cond_true,c5,cond_false] at E
 have R:=zc4 (o:=s.pl i) (n:=s.mn)
 simp only [iltN] at R
 have K:ieq k 0=ile k 0:=by unfold ieq ile;rw [Bool.eq_iff_iff];simp;omega
 unfold elE anyB at E
 rw [R,K] at E
 clear VT R K kn
 refine (λ (T:(!(ieq (s.pl i).kd 1) || (ile 0 (s.pl i).im && !(ile s.mn (s.pl i).im)))=true->_)=>⟨λ c=>⟨λ d=>E _ (by simp_all),λ d=>⟨λ d=>E _ (by simp_all),λ d2=>T (by simp_all)⟩⟩,λ c=>T (by simp_all)⟩) ?ex
 intro t
 rw [t,Bool.true_and] at E
 clear c2 c3 c4 c5 t
 refine ⟨λ c=>E _ (by simp_all),λ c1=>⟨λ c=>E _ (by simp_all),λ c2=>?_⟩⟩
 rw [show (ile 0 (s.pl i).msk && ile (s.pl i).msk s.mn)=true by simp_all,cond_true] at E
 clear c1 c2
 refine ⟨λ c=>E _ (by simp_all),λ c1=>⟨λ c=>E _ (by simp_all),λ c2=>⟨λ c=>E _ (by simp_all),λ c3=>⟨λ c=>E _ (by simp_all),λ c4=>?_⟩⟩⟩⟩
 rw [show (jg4 (s.pl i).x && jg4 (s.pl i).y && jg4 (s.pl i).mx && jg4 (s.pl i).my)=true by simp_all,cond_true] at E
 clear c1 c2 c3 c4
 generalize decide (1<=(s.pl i).opr/\(s.pl i).opr<=12)=bo at *
 generalize decide (1<=(s.pl i).md/\(s.pl i).md<=12)=bm at *
 refine ⟨λ c=>E _ (by simp_all),λ c1=>⟨λ c=>E _ (by simp_all),λ c2=>⟨λ c=>E _ (by simp_all),λ c3=>?_⟩⟩⟩
 rw [show ile (s.pl i).op (smV s.b)=true by simp_all,show bo=true by simp_all,show bm=true by simp_all,cond_true,cond_true,cond_true] at E
 clear c1 c2 c3
 refine (λ (T:(ieq (s.pl i).opr 4 || bif ile k 0 then true else (jm4 g k).iso && !(jm4 g k).kno)=true->_)=>⟨λ c=>⟨λ d=>?_,λ d=>T (by simp_all)⟩,λ c=>T (by simp_all)⟩) ?ex2
 ·intro t
  rw [t,cond_true] at E
  refine ⟨λ c=>⟨λ d=>E _ (by simp_all),λ d=>E _ (by simp_all)⟩,λ c=>E _ (by simp_all)⟩
 ·have d:=of_decide_eq_false (show ile k 0=false by simpa using d)
  have s1:isub .i64 k 1=k - 1:=IntWalk.i64_in _ (by omega)
  have l0:ile 0 (k - 1)=true:=jb2 (by omega)
  have l1:(!(ile k (k - 1)))=true:=by rw [show ile k (k - 1)=false from decide_eq_false (by omega)];rfl
  have l2:ile k 0=false:=decide_eq_false d
  rw [s1]
  have e1:jm4 g k=g (k - 1):=rfl
  rw [e1] at E T
  refine ⟨λ c1=>⟨⟨l0,l1⟩,E _ (by simp_all)⟩,λ c1=>⟨⟨l0,l1,l0,l1⟩,λ c2=>E _ (by simp_all),λ c2=>T (by simp_all)⟩⟩
theorem y43:ja6 22 qj8:=by
 intro al ans h hq
 unfold qj8 at h
 split at h <;> try (simp at h;done)
 rename_i l i c
 split at h <;> try (simp at h;done)
 rename_i s A k r e2 e3
 simp only [Option.some.injEq] at h
 subst h
 obtain ⟨hr,h0,h1,hA⟩:=vo7 hq
 obtain ⟨q1,q2,h4,h5,h6⟩:=y42 e2 e3 hA hr
 exact jc0 (al':=[.x (.agg (jf6 s)),.x (.c (.v (.int .i64 i))),.x (.c (.slc 12 k (jf3 (ovAt r))))]) ⟨q1,.v _,q2,trivial⟩ (ye2 s i k (ovAt r) (je3 h0) (je3 h1) _)
end Go.Proofs.YthkidembkknoeaaDoor
