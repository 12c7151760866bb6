import Derived.Test.YthkidembkknoeaaDoorPm27
import Derived.Test.YthkidembkknoeaaDoorPm28
import Derived.Test.YthkidembkknoeaaDoorPm11
import Derived.Test.YthkidembkknoeaaDoorPm15
namespace Go.Proofs.YthkidembkknoeaaDoor
open Go.RowKit PR QR
set_option linter.unusedVariables false
set_option linter.unusedSimpArgs false
set_option maxRecDepth 20000
theorem yo8 {l:List CV} {s:Sc} {A:List Prop} (h:jg8 l=some (s,A)) (ha:∀p∈A,p):yx6 (.x (.agg l)) (.x (.agg (jf6 s)))/\0<=s.on/\0<=s.mn/\0<=s.pn:=by
 unfold jg8 at h
 split at h <;> try (simp at h;done)
 rename_i b x0 y0 x1 y1 tw th oc mc pc
 split at h <;> try (simp at h;done)
 rename_i on o mn m pn p e1 e2 e3
 simp only [Option.some.injEq,Prod.mk.injEq] at h
 obtain ⟨rfl,rfl⟩:=h
 obtain ⟨h1,h2,h3,h4,h5,h6,_⟩:=asked ha
 refine ⟨⟨jv8 _,jv8 _,jv8 _,jv8 _,jv8 _,jv8 _,jv8 _,qg7 e1 (qe3 e1 h1),qg7 e2 (jl2 e2 (by decide) h2),qg7 e3 (jl2 e3 (by decide) h3),trivial⟩,je3 h4,je3 h5,je3 h6⟩
theorem vp6 {c:Bool} {x y:Int} (hx:in64 x=true) (hy:in64 y=true):in64 (isel c x y)=true:=by
 cases c
 ·exact hy
 ·exact hx
theorem yo9 {c:Bool} {x y:Int} (hx:in16 x=true) (hy:in16 y=true):in16 (isel c x y)=true:=by
 cases c
 ·exact hy
 ·exact hx
theorem y46 (y:Int):in64 (spoN y)=true:=by
 unfold spoN
 repeat' apply vp6
 all_goals decide
theorem vk3 (a b:Int):a<=jb8 a b/\b<=jb8 a b/\(jb8 a b=a\/jb8 a b=b):=by
 unfold jb8
 split <;> omega
theorem vk4 (s:Sc) (y:Int) (h:0<=s.mn):0<=spoI s y/\spoI s y < spoM s:=by
 have m:=vk3 1 s.mn
 have g:=jd5 (iquo .i64 y 7) (k:=jb8 1 s.mn) (by omega)
 unfold spoI spoM
 refine ⟨g.1,?_⟩
 cases c:ieq s.mn 0
 ·have:=jd8 c
  rw [jp3];omega
 ·have:=jb5 c
  rw [jk3];omega
theorem zh4:imG qj9:=by
 have p:plG jl9:=⟨rfl,rfl,rfl,rfl,λ _ _=>rfl⟩
 exact ⟨⟨rfl,rfl⟩,⟨rfl,rfl,rfl,rfl,rfl⟩,p,p,p,p,p⟩
theorem zc9 {s:Sc} (h:imsG s) {a:Int} (a0:0<=a) (a1:a < spoM s):imG (spoF s a):=by
 unfold spoM at a1
 unfold spoF
 cases c:ieq s.mn 0
 ·rw [c,jp3] at a1
  have:=h a.toNat (by omega)
  rw [Int.toNat_of_nonneg a0] at this
  exact this
 ·exact zh4
theorem yu0 {s:Sc} (h:imsG s) (h0:0<=s.mn) (q y:Int) {v:Int} (hv:in16 v=true):imsG (spoV s q y v):=λ a ha=>by
 have hi:=vk4 s y h0
 have ha:(a:Int) < jk5 s (spoW q) (spoI s y):=ha
 have a1:(a:Int) < spoM s:=by
  unfold jk5 at ha
  cases c:ieq (spoW q) 10 <;> rw [c] at ha
  ·rwa [jp3] at ha
  ·rw [jk3] at ha;omega
 have g:=zc9 h (a:=(a:Int)) (by omega) a1
 show imG (ja7 s (spoW q) (spoN y) (spoI s y) v a)
 unfold ja7
 cases ieq (a:Int) (spoI s y)
 ·exact g
 ·obtain ⟨⟨g1,g2⟩,⟨g3,g4,g5,g6,g7⟩,gp⟩:=g
  exact ⟨⟨vp6 (y46 y) g1,g2⟩,⟨g3,g4,g5,yo9 hv g6,g7⟩,gp⟩
theorem yf2 {s:Sc} (h0:0<=s.on) (h1:0<=s.mn) (q y v:Int):(0<=(spoV s q y v).on/\(spoV s q y v).on<=s.on + 1)/\(0<=(spoV s q y v).mn/\(spoV s q y v).mn<=s.mn + 1):=by
 have hi:=vk4 s y h1
 have m:spoM s<=s.mn + 1/\0<=spoM s:=by
  unfold spoM
  cases c:ieq s.mn 0
  ·rw [jp3];omega
  ·rw [jk3];omega
 refine ⟨?_,?_⟩
 ·show 0<=jm6 s (spoW q)/\jm6 s (spoW q)<=s.on + 1
  unfold jm6 addZ
  cases ieq (spoW q) 5
  ·rw [jp3]
   cases ieq (spoW q) 6
   ·rw [jp3];omega
   ·rw [jk3];omega
  ·rw [jk3];omega
 ·show 0<=jk5 s (spoW q) (spoI s y)/\jk5 s (spoW q) (spoI s y)<=s.mn + 1
  unfold jk5
  cases ieq (spoW q) 10
  ·rw [jp3];omega
  ·rw [jk3];omega
end Go.Proofs.YthkidembkknoeaaDoor
namespace Go.Proofs.YthkidembkknoeaaDoor
open Go.RowKit PR QR
set_option linter.unusedVariables false
set_option linter.unusedSimpArgs false
set_option maxRecDepth 20000
theorem zh5 (f:Int->Ov) (k:Int) (o:Ov) (n:Int):EqC (.slc 12 n (.upd (.upd (.upd (.upd (.upd (.upd (.upd (.upd (.upd (.upd (.upd (.upd (jf3 f) k 0 (.v (.int .i64 o.kd))) k 1 (.v (.int .i64 o.im))) k 2 (.v (.int .i64 o.x))) k 3 (.v (.int .i64 o.y))) k 4 (.v (.int .i64 o.msk))) k 5 (.v (.int .i64 o.mx))) k 6 (.v (.int .i64 o.my))) k 7 (.v (.int .u16 o.op))) k 8 (.v (.int .i64 o.opr))) k 9 (.v (.int .i64 o.md))) k 10 (.v (.bool o.iso))) k 11 (.v (.bool o.kno)))) (.slc 12 n (jf3 λ a=>bif ieq a k then o else f a)):=.slc λ a j ha hj=>by
 match j,hj with
 | 0,_=>show EqC (.v (.int .i64 (isel (ieq (a:Int) k) o.kd (f a).kd))) (.v (.int .i64 (bif ieq (a:Int) k then o else f a).kd));cases ieq (a:Int) k <;> exact .v _
 | 1,_=>show EqC (.v (.int .i64 (isel (ieq (a:Int) k) o.im (f a).im))) (.v (.int .i64 (bif ieq (a:Int) k then o else f a).im));cases ieq (a:Int) k <;> exact .v _
 | 2,_=>show EqC (.v (.int .i64 (isel (ieq (a:Int) k) o.x (f a).x))) (.v (.int .i64 (bif ieq (a:Int) k then o else f a).x));cases ieq (a:Int) k <;> exact .v _
 | 3,_=>show EqC (.v (.int .i64 (isel (ieq (a:Int) k) o.y (f a).y))) (.v (.int .i64 (bif ieq (a:Int) k then o else f a).y));cases ieq (a:Int) k <;> exact .v _
 | 4,_=>show EqC (.v (.int .i64 (isel (ieq (a:Int) k) o.msk (f a).msk))) (.v (.int .i64 (bif ieq (a:Int) k then o else f a).msk));cases ieq (a:Int) k <;> exact .v _
 | 5,_=>show EqC (.v (.int .i64 (isel (ieq (a:Int) k) o.mx (f a).mx))) (.v (.int .i64 (bif ieq (a:Int) k then o else f a).mx));cases ieq (a:Int) k <;> exact .v _
 | 6,_=>show EqC (.v (.int .i64 (isel (ieq (a:Int) k) o.my (f a).my))) (.v (.int .i64 (bif ieq (a:Int) k then o else f a).my));cases ieq (a:Int) k <;> exact .v _
 | 7,_=>show EqC (.v (.int .u16 (isel (ieq (a:Int) k) o.op (f a).op))) (.v (.int .u16 (bif ieq (a:Int) k then o else f a).op));cases ieq (a:Int) k <;> exact .v _
 | 8,_=>show EqC (.v (.int .i64 (isel (ieq (a:Int) k) o.opr (f a).opr))) (.v (.int .i64 (bif ieq (a:Int) k then o else f a).opr));cases ieq (a:Int) k <;> exact .v _
 | 9,_=>show EqC (.v (.int .i64 (isel (ieq (a:Int) k) o.md (f a).md))) (.v (.int .i64 (bif ieq (a:Int) k then o else f a).md));cases ieq (a:Int) k <;> exact .v _
 | 10,_=>show EqC (.v (.bool (bsel (ieq (a:Int) k) o.iso (f a).iso))) (.v (.bool (bif ieq (a:Int) k then o else f a).iso));cases ieq (a:Int) k <;> exact .v _
 | 11,_=>show EqC (.v (.bool (bsel (ieq (a:Int) k) o.kno (f a).kno))) (.v (.bool (bif ieq (a:Int) k then o else f a).kno));cases ieq (a:Int) k <;> exact .v _
 | n + 12,h=>omega
set_option maxHeartbeats 2000000 in
theorem yf3 (s:Sc) (q y v:Int) (h0:0<=s.on) (h1:0<=s.mn) (h2:0<=s.pn) (b0:s.on<=1000000) (b1:s.mn<=1000000) (b2:s.pn<=1000000) (A:List Prop):QR.q02 Tryd.prog 16 [.x (.agg (jf6 s)),.x (.c (.v (.int .i64 q))),.x (.c (.v (.int .i64 y))),.x (.c (.v (.int .u16 v)))] ⟨[.agg (ya1 (spoV s q y v))],[],A⟩:=by
 refine QR.qd7 (O:=vk2) (QR.ja3 QR.q39 (QR.ja3 (up qu8) QR.jb1)) mixed (λ n=>bif Nat.beq n 700004 then some (.cut (q68 s q y v)) else bif Nat.beq n 700012 then some (.cut (qs5 s q y v)) else bif Nat.beq n 700060 then some (.cut (qs6 s q y v)) else none) Tryd.func16 (by kernel_rfl) (by kernel_rfl) ?_
 rw [yo7]
 delta zz315 zz979 zz980 zz981 zz982 zz983 zz984 zz985 zz986 zz987 zz988 zz989 zz990 zz991 zz992 zz993 zz994 zz995 zz996 zz997 zz998 zz999 zz1000 zz1001 zz1002 zz1003 zz1004 zz1005 zz1006 zz1007 zz1008 zz1009 zz1010 zz1011 zz1012 zz1013 zz1014 zz1015 zz1016 zz1017 zz1018 zz1019 zz1020 zz1021 zz1022 zz1023 zz1024 zz1025 zz1026 zz1027 zz1028 zz1029 imsE
 generalize hV:vc6 _=V
 simp only [forall_eq,true_and,and_true,and_self,implies_true,or_false,false_or,false_and,and_false,exists_const,exists_false,ja1,qr9,qr8,qj7,false_implies,true_implies,forall_const]
 have mp:=vk3 1 s.pn
 have mm:=vk3 1 s.mn
 have g12:=jd5 y (k:=12) (by decide)
 have gk:=jd5 (iquo .i64 y 12) (k:=jb8 1 s.pn) (by omega)
 have mdp:jc2 (jb8 1 s.pn)=true:=decide_eq_true (by omega)
 have mdm:jc2 (jb8 1 s.mn)=true:=decide_eq_true (by omega)
 have hi:=vk4 s y h1
 have zi0:=jb2 hi.1
 have zi1:=ji1 hi.2
 have zi2:ile (spoI s y) (spoM s)=true:=jb2 (by omega)
 have zon:ile (jd2 (addZ s.on 1) 8) 140737488355328=true:=jb2 (by unfold jd2 addZ;omega)
 have oT:igt s.pn 0=true->spoO s y=s.pl (spoK s y):=λ c=>by unfold spoO;rw [c];rfl
 have oF:igt s.pn 0=false->spoO s y=ovZ:=λ c=>by unfold spoO;rw [c];rfl
 have ad5:∀n:Nat,ilt (Int.ofNat n) (addZ s.on 1)=true->(ilt (Int.ofNat n) s.on=true)\/(ilt (Int.ofNat n) s.on=false/\ieq (subZ (Int.ofNat n) s.on) 0=true):=λ n h=>by
  have h:(n:Int) < s.on + 1:=of_decide_eq_true h
  by_cases k:(n:Int) < s.on
  ·exact Or.inl (ji1 k)
  ·have e:Int.ofNat n=s.on:=by show (n:Int)=s.on;omega
   exact Or.inr ⟨qk5 (show s.on<=(n:Int) by omega),by rw [e];exact decide_eq_true (show s.on - s.on=0 by omega)⟩
 have ad6:∀n:Nat,ilt (Int.ofNat n) 1=true->ieq (Int.ofNat n) 0=true:=λ n h=>by
  have h:(n:Int) < 1:=of_decide_eq_true h
  exact decide_eq_true (show (n:Int)=0 by omega)
 have mZ:ieq s.mn 0=true->ile (jd2 (addZ s.mn 1) 272) 140737488355328=true/\addZ s.mn 1=spoM s/\s.mn=0:=λ c=>by
  have z:=jb5 c
  refine ⟨jb2 (by unfold jd2 addZ;omega),?_,z⟩
  unfold spoM
  rw [c,z];rfl
 have mN:ieq s.mn 0=false->s.mn=spoM s:=λ c=>by unfold spoM;rw [c];rfl
 have fN:ieq s.mn 0=false->∀a,spoF s a=s.ml a:=λ c a=>by unfold spoF;rw [c];rfl
 have fZ:ieq s.mn 0=true->∀a,spoF s a=qj9:=λ c a=>by unfold spoF;rw [c];rfl
 have lZ:s.mn=0->∀n:Nat,ilt (Int.ofNat n) s.mn=false:=λ c n=>by rw [c];exact qk5 (Int.natCast_nonneg n)
 refine ⟨jb2 (by unfold jd2;omega),jb2 (by unfold jd2;omega),jb2 (by unfold jd2;omega),⟨jb2 g12.1,ji1 g12.2,rfl⟩,mdp,?_⟩
 have M0:∀(P:Prop),(s.mn=0->ieq s.mn 0=true->P)->ieq s.mn 0=true->P:=λ P h c=>h (jb5 c) c
 refine (λ (T:True->_)=>⟨λ c=>⟨⟨jb2 gk.1,ji1 ?gkl⟩,mdm,⟨λ z=>?a0,λ z=>?a1⟩,T trivial⟩,λ c=>⟨mdm,⟨λ z=>?b0,λ z=>?b1⟩,T trivial⟩⟩) ?tail
 case gkl =>
  have:0 < s.pn:=of_decide_eq_true c
  rcases mp.2.2 with e | e <;> omega
 case a0 =>
  obtain ⟨x0,x1,x2⟩:=mZ z
  have f:=fZ z
  have l:=lZ x2
  rw [oT c]
  refine ⟨x0,⟨rfl,rfl,rfl⟩,x1,⟨x1,?_⟩,rfl,rfl,rfl,rfl,rfl,rfl,rfl,rfl,rfl,rfl,rfl,rfl⟩
  repeat' apply And.intro
  all_goals (intro a ha;rw [f,l];first | rfl | (cases ieq (subZ (Int.ofNat a) s.mn) 0 <;> rfl) | exact EqC.slc λ i j hi hj=>by have hi:(i:Int) < 0:=hi;omega)
 case a1 =>
  have f:=fN z
  have x1:=mN z
  rw [oT c]
  refine ⟨⟨rfl,rfl,rfl⟩,x1,⟨x1,?_⟩,rfl,rfl,rfl,rfl,rfl,rfl,rfl,rfl,rfl,rfl,rfl,rfl⟩
  repeat' apply And.intro
  all_goals (intro a ha;first | (rw [f];done) | (rw [f];exact EqC.slc λ _ _ _ _=>.v _))
 case b0 =>
  obtain ⟨x0,x1,x2⟩:=mZ z
  have f:=fZ z
  have l:=lZ x2
  rw [oF c]
  refine ⟨x0,⟨rfl,rfl,rfl⟩,x1,⟨x1,?_⟩,rfl,rfl,rfl,rfl,rfl,rfl,rfl,rfl,rfl,rfl,rfl,rfl⟩
  repeat' apply And.intro
  all_goals (intro a ha;rw [f,l];first | rfl | (cases ieq (subZ (Int.ofNat a) s.mn) 0 <;> rfl) | exact EqC.slc λ i j hi hj=>by have hi:(i:Int) < 0:=hi;omega)
 case b1 =>
  have f:=fN z
  have x1:=mN z
  rw [oF c]
  refine ⟨⟨rfl,rfl,rfl⟩,x1,⟨x1,?_⟩,rfl,rfl,rfl,rfl,rfl,rfl,rfl,rfl,rfl,rfl,rfl,rfl⟩
  repeat' apply And.intro
  all_goals (intro a ha;first | (rw [f];done) | (rw [f];exact EqC.slc λ _ _ _ _=>.v _))
 intro _
 clear mZ mN fN fZ lZ mdp mdm g12 mm M0
 refine ⟨⟨rfl,?sw⟩,λ c=>⟨⟨jb2 gk.1,ji1 ?gk2⟩,?e1⟩,λ c=>?e2⟩
 case gk2 =>
  have:0 < s.pn:=of_decide_eq_true c
  have:spoK s y < jb8 1 s.pn:=gk.2
  rcases mp.2.2 with e | e <;> omega
 case e1 =>
  rw [<- hV]
  refine ⟨⟨⟨⟨rfl,rfl⟩,⟨rfl,rfl⟩,⟨rfl,rfl⟩,⟨rfl,rfl⟩,⟨rfl,rfl⟩,⟨rfl,rfl⟩,⟨rfl,rfl⟩,?_,?_,?_,trivial⟩,trivial⟩,trivial⟩
  ·exact EqC.slc λ _ _ _ _=>.v _
  ·exact EqC.slc λ a j ha hj=>qg9 _ (ja7 s (spoW q) (spoN y) (spoI s y) v) a j ha hj
  ·exact zh5 s.pl (spoK s y) (jc7 (spoO s y) (spoW q) (spoN y) v y) s.pn
 case e2 =>
  rw [<- hV]
  refine ⟨⟨⟨⟨rfl,rfl⟩,⟨rfl,rfl⟩,⟨rfl,rfl⟩,⟨rfl,rfl⟩,⟨rfl,rfl⟩,⟨rfl,rfl⟩,⟨rfl,rfl⟩,?_,?_,?_,trivial⟩,trivial⟩,trivial⟩
  ·exact EqC.slc λ _ _ _ _=>.v _
  ·exact EqC.slc λ a j ha hj=>qg9 _ (ja7 s (spoW q) (spoN y) (spoI s y) v) a j ha hj
  ·exact EqC.slc λ a j ha hj=>by have:¬ s.pn > 0:=of_decide_eq_false c;omega
 refine ⟨λ c=>?m0,λ n0=>?_⟩
 case m0 =>
  have e:spoW q=0:=jb5 c
  rw [e]
  repeat' apply And.intro
  all_goals first
   | rfl
   | exact zi0
   | exact zi1
   | exact zi2
   | exact zon
   | (intro a ha
      first
        | rfl
        | (unfold ja7;cases ieq (Int.ofNat a) (spoI s y) <;> first | rfl | exact EqC.slc λ _ _ _ _=>.v _))
 refine ⟨λ c=>?m1,λ n1=>?_⟩
 case m1 =>
  have e:spoW q=1:=jb5 c
  rw [e]
  repeat' apply And.intro
  all_goals first
   | rfl
   | exact zi0
   | exact zi1
   | exact zi2
   | exact zon
   | (intro a ha
      first
        | rfl
        | (unfold ja7;cases ieq (Int.ofNat a) (spoI s y) <;> first | rfl | exact EqC.slc λ _ _ _ _=>.v _))
 refine ⟨λ c=>?m2,λ n2=>?_⟩
 case m2 =>
  have e:spoW q=2:=jb5 c
  rw [e]
  repeat' apply And.intro
  all_goals first
   | rfl
   | exact zi0
   | exact zi1
   | exact zi2
   | exact zon
   | (intro a ha
      first
        | rfl
        | (unfold ja7;cases ieq (Int.ofNat a) (spoI s y) <;> first | rfl | exact EqC.slc λ _ _ _ _=>.v _))
 refine ⟨λ c=>?m3,λ n3=>?_⟩
 case m3 =>
  have e:spoW q=3:=jb5 c
  rw [e]
  repeat' apply And.intro
  all_goals first
   | rfl
   | exact zi0
   | exact zi1
   | exact zi2
   | exact zon
   | (intro a ha
      first
        | rfl
        | (unfold ja7;cases ieq (Int.ofNat a) (spoI s y) <;> first | rfl | exact EqC.slc λ _ _ _ _=>.v _))
 refine ⟨λ c=>?m4,λ n4=>?_⟩
 case m4 =>
  have e:spoW q=4:=jb5 c
  rw [e]
  repeat' apply And.intro
  all_goals first
   | rfl
   | exact zi0
   | exact zi1
   | exact zi2
   | exact zon
   | (intro a ha
      first
        | rfl
        | (unfold ja7;cases ieq (Int.ofNat a) (spoI s y) <;> first | rfl | exact EqC.slc λ _ _ _ _=>.v _))
 refine ⟨λ c=>?m5,λ n5=>?_⟩
 case m5 =>
  have e:spoW q=5:=jb5 c
  rw [e]
  repeat' apply And.intro
  all_goals first
   | rfl
   | exact zi0
   | exact zi1
   | exact zi2
   | exact zon
   | (intro a ha
      first
        | rfl
        | (unfold ja7;cases ieq (Int.ofNat a) (spoI s y) <;> first | rfl | exact EqC.slc λ _ _ _ _=>.v _)
        | (unfold qh4;rcases ad5 a ha with k | ⟨k1,k2⟩ <;> first | (rw [k];rfl) | (rw [k1,k2];rfl)))
 refine ⟨λ c=>?m6,λ n6=>?_⟩
 case m6 =>
  have e:spoW q=6:=jb5 c
  rw [e]
  repeat' apply And.intro
  all_goals first
   | rfl
   | exact zi0
   | exact zi1
   | exact zi2
   | exact zon
   | (intro a ha
      first
        | rfl
        | (unfold ja7;cases ieq (Int.ofNat a) (spoI s y) <;> first | rfl | exact EqC.slc λ _ _ _ _=>.v _)
        | (rw [ad6 a ha];rfl))
 refine ⟨λ c=>?m7,λ n7=>?_⟩
 case m7 =>
  have e:spoW q=7:=jb5 c
  rw [e]
  repeat' apply And.intro
  all_goals first
   | rfl
   | exact zi0
   | exact zi1
   | exact zi2
   | exact zon
   | (intro a ha
      first
        | rfl
        | (unfold ja7;cases ieq (Int.ofNat a) (spoI s y) <;> first | rfl | exact EqC.slc λ _ _ _ _=>.v _))
 refine ⟨λ c=>?m8,λ n8=>?_⟩
 case m8 =>
  have e:spoW q=8:=jb5 c
  rw [e]
  repeat' apply And.intro
  all_goals first
   | rfl
   | exact zi0
   | exact zi1
   | exact zi2
   | exact zon
   | (intro a ha
      first
        | rfl
        | (unfold ja7;cases ieq (Int.ofNat a) (spoI s y) <;> first | rfl | exact EqC.slc λ _ _ _ _=>.v _)
        | (unfold ja7
           by_cases h:Int.ofNat a=spoI s y
           · rw [h,show ieq (spoI s y) (spoI s y)=true by simp [ieq]];rfl
           · rw [show ieq (Int.ofNat a) (spoI s y)=false from decide_eq_false h];rfl))
 refine ⟨λ c=>?m9,λ n9=>?_⟩
 case m9 =>
  have e:spoW q=9:=jb5 c
  rw [e]
  repeat' apply And.intro
  all_goals first
   | rfl
   | exact zi0
   | exact zi1
   | exact zi2
   | exact zon
   | (intro a ha
      first
        | rfl
        | (unfold ja7;cases ieq (Int.ofNat a) (spoI s y) <;> first | rfl | exact EqC.slc λ _ _ _ _=>.v _))
 refine ⟨λ c=>?m10,λ n10=>?_⟩
 case m10 =>
  have e:spoW q=10:=jb5 c
  rw [e]
  repeat' apply And.intro
  all_goals first
   | rfl
   | exact zi0
   | exact zi1
   | exact zi2
   | exact zon
   | (intro a ha
      first
        | rfl
        | (unfold ja7;cases ieq (Int.ofNat a) (spoI s y) <;> first | rfl | exact EqC.slc λ _ _ _ _=>.v _))
 refine ⟨λ c=>?m11,λ n11=>?_⟩
 case m11 =>
  have e:spoW q=11:=jb5 c
  rw [e]
  repeat' apply And.intro
  all_goals first
   | rfl
   | exact zi0
   | exact zi1
   | exact zi2
   | exact zon
   | (intro a ha
      first
        | rfl
        | (unfold ja7;cases ieq (Int.ofNat a) (spoI s y) <;> first | rfl | exact EqC.slc λ _ _ _ _=>.v _))
 refine ⟨λ c=>?m12,λ n12=>?_⟩
 case m12 =>
  have e:spoW q=12:=jb5 c
  rw [e]
  repeat' apply And.intro
  all_goals first
   | rfl
   | exact zi0
   | exact zi1
   | exact zi2
   | exact zon
   | (intro a ha
      first
        | rfl
        | (unfold ja7;cases ieq (Int.ofNat a) (spoI s y) <;> first | rfl | exact EqC.slc λ _ _ _ _=>.v _))
 refine ⟨λ c=>?m13,λ n13=>?_⟩
 case m13 =>
  have e:spoW q=13:=jb5 c
  rw [e]
  repeat' apply And.intro
  all_goals first
   | rfl
   | exact zi0
   | exact zi1
   | exact zi2
   | exact zon
   | (intro a ha
      first
        | rfl
        | (unfold ja7;cases ieq (Int.ofNat a) (spoI s y) <;> first | rfl | exact EqC.slc λ _ _ _ _=>.v _))
 refine ⟨λ c=>?m14,λ n14=>?_⟩
 case m14 =>
  have e:spoW q=14:=jb5 c
  rw [e]
  repeat' apply And.intro
  all_goals first
   | rfl
   | exact zi0
   | exact zi1
   | exact zi2
   | exact zon
   | (intro a ha
      first
        | rfl
        | (unfold ja7;cases ieq (Int.ofNat a) (spoI s y) <;> first | rfl | exact EqC.slc λ _ _ _ _=>.v _))
 refine ⟨λ c=>?m15,λ n15=>?_⟩
 case m15 =>
  have e:spoW q=15:=jb5 c
  rw [e]
  repeat' apply And.intro
  all_goals first
   | rfl
   | exact zi0
   | exact zi1
   | exact zi2
   | exact zon
   | (intro a ha
      first
        | rfl
        | (unfold ja7;cases ieq (Int.ofNat a) (spoI s y) <;> first | rfl | exact EqC.slc λ _ _ _ _=>.v _))
 refine ⟨λ c=>?m16,λ n16=>?_⟩
 case m16 =>
  have e:spoW q=16:=jb5 c
  rw [e]
  repeat' apply And.intro
  all_goals first
   | rfl
   | exact zi0
   | exact zi1
   | exact zi2
   | exact zon
   | (intro a ha
      first
        | rfl
        | (unfold ja7;cases ieq (Int.ofNat a) (spoI s y) <;> first | rfl | exact EqC.slc λ _ _ _ _=>.v _))
 refine ⟨λ c=>?m17,λ n17=>?_⟩
 case m17 =>
  have e:spoW q=17:=jb5 c
  rw [e]
  repeat' apply And.intro
  all_goals first
   | rfl
   | exact zi0
   | exact zi1
   | exact zi2
   | exact zon
   | (intro a ha
      first
        | rfl
        | (unfold ja7;cases ieq (Int.ofNat a) (spoI s y) <;> first | rfl | exact EqC.slc λ _ _ _ _=>.v _))
 refine ⟨λ c=>?m18,λ n18=>?_⟩
 case m18 =>
  have e:spoW q=18:=jb5 c
  rw [e]
  repeat' apply And.intro
  all_goals first
   | rfl
   | exact zi0
   | exact zi1
   | exact zi2
   | exact zon
   | (intro a ha
      first
        | rfl
        | (unfold ja7;cases ieq (Int.ofNat a) (spoI s y) <;> first | rfl | exact EqC.slc λ _ _ _ _=>.v _))
 refine ⟨λ c=>?m19,λ n19=>?_⟩
 case m19 =>
  have e:spoW q=19:=jb5 c
  rw [e]
  repeat' apply And.intro
  all_goals first
   | rfl
   | exact zi0
   | exact zi1
   | exact zi2
   | exact zon
   | (intro a ha
      first
        | rfl
        | (unfold ja7;cases ieq (Int.ofNat a) (spoI s y) <;> first | rfl | exact EqC.slc λ _ _ _ _=>.v _))
 refine ⟨λ c=>?m20,λ n20=>?_⟩
 case m20 =>
  have e:spoW q=20:=jb5 c
  rw [e]
  repeat' apply And.intro
  all_goals first
   | rfl
   | exact zi0
   | exact zi1
   | exact zi2
   | exact zon
   | (intro a ha
      first
        | rfl
        | (unfold ja7;cases ieq (Int.ofNat a) (spoI s y) <;> first | rfl | exact EqC.slc λ _ _ _ _=>.v _))
 refine ⟨λ c=>?m21,λ n21=>?_⟩
 case m21 =>
  have e:spoW q=21:=jb5 c
  rw [e]
  repeat' apply And.intro
  all_goals first
   | rfl
   | exact zi0
   | exact zi1
   | exact zi2
   | exact zon
   | (intro a ha
      first
        | rfl
        | (unfold ja7;cases ieq (Int.ofNat a) (spoI s y) <;> first | rfl | exact EqC.slc λ _ _ _ _=>.v _))
 refine ⟨λ c=>?m22,λ n22=>?_⟩
 case m22 =>
  have e:spoW q=22:=jb5 c
  rw [e]
  repeat' apply And.intro
  all_goals first
   | rfl
   | exact zi0
   | exact zi1
   | exact zi2
   | exact zon
   | (intro a ha
      first
        | rfl
        | (unfold ja7;cases ieq (Int.ofNat a) (spoI s y) <;> first | rfl | exact EqC.slc λ _ _ _ _=>.v _))
 have w:∀j,ieq (gmod q 24) j=ieq (spoW q) j:=λ _=>rfl
 rw [w] at n0 n1 n2 n3 n4 n5 n6 n7 n8 n9 n10 n11 n12 n13 n14 n15 n16 n17 n18 n19 n20 n21 n22
 generalize hW:spoW q=W at *
 have eO:jc7 (spoO s y) W (spoN y) v y=spoO s y:=by
  unfold jc7
  rw [n11,n12,n13,n14,n15,n16,n17,n18,n19,n20,n21,n22];rfl
 have eB:spoB s W (spoN y)=s.b:=by unfold spoB;rw [n0];rfl
 have eX:spoX s W (spoN y)=s.x0:=by unfold spoX;rw [n1];rfl
 have eY:spoY s W (spoN y)=s.y1:=by unfold spoY;rw [n2];rfl
 have eT:spoT s W (spoN y)=s.tw:=by unfold spoT;rw [n3];rfl
 have eU:spoU s W (spoN y)=s.th:=by unfold spoU;rw [n4];rfl
 have eN:jm6 s W=s.on:=by unfold jm6;rw [n5,n6];rfl
 have eL:∀a,qh4 s W (spoN y) a=s.ol a:=λ a=>by unfold qh4;rw [n5,n6];rfl
 have eM:jk5 s W (spoI s y)=spoM s:=by unfold jk5;rw [n10];rfl
 have eF:∀a,ja7 s W (spoN y) (spoI s y) v a=spoF s a:=λ a=>by unfold ja7;rw [n7,n8,n9];cases ieq a (spoI s y) <;> rfl
 have eP:∀a:Int,0<=a->a < s.pn->spoE s W (spoN y) v y a=s.pl a:=λ a a0 a1=>by
  unfold spoE
  rw [eO,oT (show igt s.pn 0=true from decide_eq_true (show s.pn > 0 by omega))]
  by_cases h:a=spoK s y
  ·rw [h,show ieq (spoK s y) (spoK s y)=true by simp [ieq]];rfl
  ·rw [show ieq a (spoK s y)=false from decide_eq_false h];rfl
 rw [<- hV]
 have sV:spoV s q y v=⟨s.b,s.x0,s.y0,s.x1,s.y1,s.tw,s.th,s.on,s.ol,spoM s,spoF s,s.pn,spoE s (spoW q) (spoN y) v y⟩:=by
  unfold spoV
  rw [hW,eB,eX,eY,eT,eU,eN,eM,show qh4 s W (spoN y)=s.ol from funext eL,show ja7 s W (spoN y) (spoI s y) v=spoF s from funext eF]
 rw [sV,hW]
 refine ⟨⟨⟨⟨rfl,rfl⟩,⟨rfl,rfl⟩,⟨rfl,rfl⟩,⟨rfl,rfl⟩,⟨rfl,rfl⟩,⟨rfl,rfl⟩,⟨rfl,rfl⟩,?_,?_,?_,trivial⟩,trivial⟩,trivial⟩
 ·exact EqC.slc λ _ _ _ _=>.v _
 ·exact EqC.slc λ a j ha hj=>qg9 _ (spoF s) a j ha hj
 ·refine EqC.slc λ a j ha hj=>?_
  have k:∀(g:Int->Ov) (a:Int),den (jf3 g) a j=den (jf3 λ _=>g a) 0 j:=λ _ _=>rfl
  show EqC (den (jf3 s.pl) a j) (den (jf3 (spoE s W (spoN y) v y)) a j)
  rw [k (spoE s W (spoN y) v y),eP a (by omega) ha,<- k]
  exact j06 s.pn s.pl a j ha hj
theorem y47:vc8 16 q66:=by
 intro al ans hh hq
 unfold q66 at hh
 split at hh <;> try (simp at hh;done)
 rename_i l q y v
 cases e:jg8 l with
 | none=>simp [e] at hh
 | some p =>
  obtain ⟨s,A⟩:=p
  rw [e] at hh
  simp only [Option.some.injEq] at hh
  subst hh
  obtain ⟨b0,b1,b2,hA⟩:=vo7 hq
  obtain ⟨g,h0,h1,h2⟩:=yo8 e hA
  exact QR.qx7 (al':=[.x (.agg (jf6 s)),.x (.c (.v (.int .i64 q))),.x (.c (.v (.int .i64 y))),.x (.c (.v (.int .u16 v)))]) ⟨g,jv8 _,jv8 _,jv8 _,trivial⟩ (yf3 s q y v h0 h1 h2 (je3 b0) (je3 b1) (je3 b2) _)
end Go.Proofs.YthkidembkknoeaaDoor
namespace Go.Proofs.YthkidembkknoeaaDoor
open Go.RowKit PR QR
set_option linter.unusedVariables false
set_option linter.unusedSimpArgs false
def spoG (s:Sc):Prop:=imsG s/\0<=s.on/\0<=s.mn/\0<=s.pn
noncomputable def q69:QR.Inv where
 ι:=Sc
 good s:=spoG s
 slots s:=QR.slotsOf Tryd.f4.ntmps [(13,.x (.c (.ptr 1000000000000000 0)))]
 blocks s:=[(1000000000000000,.cells (q65 s)),(1000000000000001,.row 1 s.on (.fn λ a _=>.v (.int .i64 (s.ol a)))),(1000000000000002,.row 28 s.mn (jm3 (s.ml))),(1000000000000003,.row 12 s.pn (jf3 s.pl))]
 μ _:=0
noncomputable def q70:QR.ja8:=QR.orc [(10,vn7),(QR.ji4 + 10,QR.jy0 [false]),(16,q66),(QR.ji4 + 16,QR.jy0 [false,false,false,false]),(12,j08),(17,j08),(13,jm5),(18,jm5),(15,jo0),(19,jo0),(14,q64)]
def zz1030 (fz0:Sc):QR.Row:=(QR.Row.col 0 (λ (bz0:Int)=>CV.v (Value.int .i64 (fz0.11 bz0).1)) (QR.Row.col 1 (λ (bz1:Int)=>CV.v (Value.int .i64 (fz0.11 bz1).2)) (QR.Row.col 2 (λ (bz2:Int)=>CV.v (Value.bool (fz0.11 bz2).3)) (QR.Row.col 3 (λ (bz3:Int)=>CV.v (Value.int .u16 (fz0.11 bz3).4)) (QR.Row.col 4 (λ (bz4:Int)=>CV.v (Value.int .u16 (fz0.11 bz4).5)) (QR.Row.col 5 (λ (bz5:Int)=>CV.v (Value.int .u16 (fz0.11 bz5).6)) (QR.Row.col 6 (λ (bz6:Int)=>CV.v (Value.int .u16 (fz0.11 bz6).7)) (QR.Row.col 7 (λ (bz7:Int)=>CV.v (Value.int .u16 (fz0.11 bz7).8)) (QR.Row.col 8 (λ (bz8:Int)=>CV.v (Value.int .i64 (fz0.11 bz8).9.1)) (QR.Row.col 9 (λ (bz9:Int)=>CV.v (Value.int .i64 (fz0.11 bz9).9.2)) (QR.Row.col 10 (λ (bz10:Int)=>CV.v (Value.int .i64 (fz0.11 bz10).9.3)) (QR.Row.col 11 (λ (bz11:Int)=>CV.slc 1 (fz0.11 bz11).9.4 (QR.Row.fn λ (bz12:Int) (bz13:Nat)=>CV.v (Value.int .u16 ((fz0.11 bz11).9.5 bz12)))) (QR.Row.col 12 (λ (bz14:Int)=>CV.v (Value.int .i64 (fz0.11 bz14).10.1)) (QR.Row.col 13 (λ (bz15:Int)=>CV.v (Value.int .i64 (fz0.11 bz15).10.2)) (QR.Row.col 14 (λ (bz16:Int)=>CV.v (Value.int .i64 (fz0.11 bz16).10.3)) (QR.Row.col 15 (λ (bz17:Int)=>CV.slc 1 (fz0.11 bz17).10.4 (QR.Row.fn λ (bz18:Int) (bz19:Nat)=>CV.v (Value.int .u16 ((fz0.11 bz17).10.5 bz18)))) (QR.Row.col 16 (λ (bz20:Int)=>CV.v (Value.int .i64 (fz0.11 bz20).11.1)) (QR.Row.col 17 (λ (bz21:Int)=>CV.v (Value.int .i64 (fz0.11 bz21).11.2)) (QR.Row.col 18 (λ (bz22:Int)=>CV.v (Value.int .i64 (fz0.11 bz22).11.3)) (QR.Row.col 19 (λ (bz23:Int)=>CV.slc 1 (fz0.11 bz23).11.4 (QR.Row.fn λ (bz24:Int) (bz25:Nat)=>CV.v (Value.int .u16 ((fz0.11 bz23).11.5 bz24)))) (QR.Row.col 20 (λ (bz26:Int)=>CV.v (Value.int .i64 (fz0.11 bz26).12.1)) (QR.Row.col 21 (λ (bz27:Int)=>CV.v (Value.int .i64 (fz0.11 bz27).12.2)) (QR.Row.col 22 (λ (bz28:Int)=>CV.v (Value.int .i64 (fz0.11 bz28).12.3)) (QR.Row.col 23 (λ (bz29:Int)=>CV.slc 1 (fz0.11 bz29).12.4 (QR.Row.fn λ (bz30:Int) (bz31:Nat)=>CV.v (Value.int .u16 ((fz0.11 bz29).12.5 bz30)))) (QR.Row.col 24 (λ (bz32:Int)=>CV.v (Value.int .i64 (fz0.11 bz32).13.1)) (QR.Row.col 25 (λ (bz33:Int)=>CV.v (Value.int .i64 (fz0.11 bz33).13.2)) (QR.Row.col 26 (λ (bz34:Int)=>CV.v (Value.int .i64 (fz0.11 bz34).13.3)) (QR.Row.col 27 (λ (bz35:Int)=>CV.slc 1 (fz0.11 bz35).13.4 (QR.Row.fn λ (bz36:Int) (bz37:Nat)=>CV.v (Value.int .u16 ((fz0.11 bz35).13.5 bz36)))) (QR.Row.zer [])))))))))))))))))))))))))))))
def zz1031 (fz0:Sc):QR.Row:=(QR.Row.col 0 (λ (bz0:Int)=>CV.v (Value.int .i64 (fz0.13 bz0).1)) (QR.Row.col 1 (λ (bz1:Int)=>CV.v (Value.int .i64 (fz0.13 bz1).2)) (QR.Row.col 2 (λ (bz2:Int)=>CV.v (Value.int .i64 (fz0.13 bz2).3)) (QR.Row.col 3 (λ (bz3:Int)=>CV.v (Value.int .i64 (fz0.13 bz3).4)) (QR.Row.col 4 (λ (bz4:Int)=>CV.v (Value.int .i64 (fz0.13 bz4).5)) (QR.Row.col 5 (λ (bz5:Int)=>CV.v (Value.int .i64 (fz0.13 bz5).6)) (QR.Row.col 6 (λ (bz6:Int)=>CV.v (Value.int .i64 (fz0.13 bz6).7)) (QR.Row.col 7 (λ (bz7:Int)=>CV.v (Value.int .u16 (fz0.13 bz7).8)) (QR.Row.col 8 (λ (bz8:Int)=>CV.v (Value.int .i64 (fz0.13 bz8).9)) (QR.Row.col 9 (λ (bz9:Int)=>CV.v (Value.int .i64 (fz0.13 bz9).10)) (QR.Row.col 10 (λ (bz10:Int)=>CV.v (Value.bool (fz0.13 bz10).11)) (QR.Row.col 11 (λ (bz11:Int)=>CV.v (Value.bool (fz0.13 bz11).12)) (QR.Row.zer [])))))))))))))
set_option maxRecDepth 100000 in
theorem qh5 (sb sx sy sw sh st su:Int) (on:Int) (ol:Int->Nat->Int) (pn:Int) (pW pH pS pd:Int->Int) (pc:Int->Int) (pl:Int->Int->Nat->Int) (un:Int) (u0 u1 u2 u3 u4 u5 u6 u7 u8 u9 u10:Int->Int) (qa qb qy qw v:Int) (V:List QR.XV->List (List QR.CV)->Prop):QR.ja5 Tryd.prog (q70) (λ n=>bif Nat.beq n 700002 then some (.cut q69) else none) (Tryd.f4.body.getD .skip) Tryd.f4.results.toList Tryd.f4.ntmps [.x (.agg [.v (.int .i64 sb),.v (.int .i64 sx),.v (.int .i64 sy),.v (.int .i64 sw),.v (.int .i64 sh),.v (.int .i64 st),.v (.int .i64 su),.slc 1 on (.fn λ i j=>.v (.int .i64 (ol i j))),.slc 5 pn (.col 0 (λ i=>.v (.int .i64 (pW i))) (.col 1 (λ i=>.v (.int .i64 (pH i))) (.col 2 (λ i=>.v (.int .i64 (pS i))) (.col 3 (λ i=>.v (.int .i64 (pd i))) (.col 4 (λ i=>.slc 5 (pc i) (.fn λ a b=>.v (.int .i64 (pl i a b)))) (.zer [])))))),.slc 11 un (.col 0 (λ i=>.v (.int .i64 (u0 i))) (.col 1 (λ i=>.v (.int .i64 (u1 i))) (.col 2 (λ i=>.v (.int .i64 (u2 i))) (.col 3 (λ i=>.v (.int .i64 (u3 i))) (.col 4 (λ i=>.v (.int .i64 (u4 i))) (.col 5 (λ i=>.v (.int .i64 (u5 i))) (.col 6 (λ i=>.v (.int .i64 (u6 i))) (.col 7 (λ i=>.v (.int .i64 (u7 i))) (.col 8 (λ i=>.v (.int .i64 (u8 i))) (.col 9 (λ i=>.v (.int .i64 (u9 i))) (.col 10 (λ i=>.v (.int .i64 (u10 i))) (.zer []))))))))))))]),.x (.c (.v (.int .i64 qa))),.x (.c (.v (.int .i64 qb))),.x (.c (.v (.int .i64 qy))),.x (.c (.v (.int .i64 qw))),.x (.c (.v (.int .u16 v)))] V=(share (gscV { b:=sb,x:=sx,y:=sy,w:=sw,h:=sh,tw:=st,th:=su,m:=on,ol:=λ (i:Int)=>ol i 0,pn:=pn,pq:=λ (i:Int)=>{ W:=pW i,H:=pH i,S:=pS i,md:=pd i,n:=pc i,q:=pl i },rn:=un,rq:=λ (i:Int)=>{ kd:=u0 i,im:=u1 i,x:=u2 i,y:=u3 i,msk:=u4 i,mx:=u5 i,my:=u6 i,op:=u7 i,opr:=u8 i,md:=u9 i,fl:=u10 i } }) λ (mA:Sc)=>True/\(∀(i:Int),i=mA.1->∀(i_1:Int),i_1=mA.2->∀(i_2:Int),i_2=mA.3->∀(i_3:Int),i_3=mA.4->∀(i_4:Int),i_4=mA.5->∀(i_5:Int),i_5=mA.6->∀(i_6:Int),i_6=mA.7->share (spoV { b:=i,x0:=i_1,y0:=i_2,x1:=i_3,y1:=i_4,tw:=i_5,th:=i_6,on:=mA.8,ol:=mA.9,mn:=mA.10,ml:=mA.11,pn:=mA.12,pl:=mA.13 } qa qy v) λ (mC:Sc)=>∀(i_7:Int),i_7=mC.1->∀(i_8:Int),i_8=mC.2->∀(i_9:Int),i_9=mC.3->∀(i_10:Int),i_10=mC.4->∀(i_11:Int),i_11=mC.5->∀(i_12:Int),i_12=mC.6->∀(i_13:Int),i_13=mC.7->share (spoV { b:=i_7,x0:=i_8,y0:=i_9,x1:=i_10,y1:=i_11,tw:=i_12,th:=i_13,on:=mC.8,ol:=mC.9,mn:=mC.10,ml:=mC.11,pn:=mC.12,pl:=mC.13 } qb qw v) λ (mB:Sc)=>∀(i_14:Int),i_14=mB.1->∀(i_15:Int),i_15=mB.2->∀(i_16:Int),i_16=mB.3->∀(i_17:Int),i_17=mB.4->∀(i_18:Int),i_18=mB.5->∀(i_19:Int),i_19=mB.6->∀(i_20:Int),i_20=mB.7->(ile mC.8 1000000=true/\ile mC.10 1000000=true/\ile mC.12 1000000=true/\intRow IntKind.i64 1 mC.8 (QR.Row.fn λ (i_21:Int) (x:Nat)=>CV.v (Value.int .i64 (mC.9 i_21)))/\jf7 mC.10 (zz1030 mC)/\jc9 mC.12 (zz1031 mC)/\ile 0 mC.8=true/\ile 0 mC.10=true/\ile 0 mC.12=true/\ile mA.8 1000000=true/\ile mA.10 1000000=true/\ile mA.12 1000000=true/\intRow IntKind.i64 1 mA.8 (QR.Row.fn λ (i:Int) (x:Nat)=>CV.v (Value.int .i64 (mA.9 i)))/\jf7 mA.10 (zz1030 mA)/\jc9 mA.12 (zz1031 mA)/\ile 0 mA.8=true/\ile 0 mA.10=true/\ile 0 mA.12=true/\iQ .i64 1 on ol/\j04 pn (QR.Row.col 0 (λ (i:Int)=>CV.v (Value.int .i64 (pW i))) (QR.Row.col 1 (λ (i:Int)=>CV.v (Value.int .i64 (pH i))) (QR.Row.col 2 (λ (i:Int)=>CV.v (Value.int .i64 (pS i))) (QR.Row.col 3 (λ (i:Int)=>CV.v (Value.int .i64 (pd i))) (QR.Row.col 4 (λ (i:Int)=>CV.slc 5 (pc i) (QR.Row.fn λ (a:Int) (b:Nat)=>CV.v (Value.int .i64 (pl i a b)))) (QR.Row.zer []))))))/\j05 un (QR.Row.col 0 (λ (i:Int)=>CV.v (Value.int .i64 (u0 i))) (QR.Row.col 1 (λ (i:Int)=>CV.v (Value.int .i64 (u1 i))) (QR.Row.col 2 (λ (i:Int)=>CV.v (Value.int .i64 (u2 i))) (QR.Row.col 3 (λ (i:Int)=>CV.v (Value.int .i64 (u3 i))) (QR.Row.col 4 (λ (i:Int)=>CV.v (Value.int .i64 (u4 i))) (QR.Row.col 5 (λ (i:Int)=>CV.v (Value.int .i64 (u5 i))) (QR.Row.col 6 (λ (i:Int)=>CV.v (Value.int .i64 (u6 i))) (QR.Row.col 7 (λ (i:Int)=>CV.v (Value.int .i64 (u7 i))) (QR.Row.col 8 (λ (i:Int)=>CV.v (Value.int .i64 (u8 i))) (QR.Row.col 9 (λ (i:Int)=>CV.v (Value.int .i64 (u9 i))) (QR.Row.col 10 (λ (i:Int)=>CV.v (Value.int .i64 (u10 i))) (QR.Row.zer []))))))))))))/\(vd2 pn λ (i:Int)=>{ W:=pW i,H:=pH i,S:=pS i,md:=pd i,n:=pc i,q:=pl i })/\ile 0 on=true/\ile 0 pn=true/\ile 0 un=true/\True)/\∃(j:Sc),spoG j/\True/\true=true/\((true=true/\1034=1034/\0=0)/\True)/\(e64 i_14 j.1/\e64 i_15 j.2/\e64 i_16 j.3/\e64 i_17 j.4/\e64 i_18 j.5/\e64 i_19 j.6/\e64 i_20 j.7/\(1033=1033/\mB.8=j.8)/\(10000000001033=10000000001033/\mB.10=j.10)/\(20000000001033=20000000001033/\mB.12=j.12)/\True)/\(1=1/\mB.8=j.8/\True/\∀(i_21:Nat),ilt (Int.ofNat i_21) mB.8=true->IntKind.i64=IntKind.i64/\mB.9 (Int.ofNat i_21)=j.9 (Int.ofNat i_21))/\(28=28/\mB.10=j.10/\imsE mB.10 mB.11 j.11)/\(12=12/\mB.12=j.12/\opsE mB.12 mB.13 j.13)/\True)/\∀(i:Sc),spoG i->∀(i_1:Int),i_1=chE i->∀(i_2:Int),i_2=chN i->(imsG i/\intRow IntKind.i64 1 i.8 (QR.Row.fn λ (a:Int) (x:Nat)=>CV.v (Value.int .i64 (i.9 a)))/\jf7 i.10 (zz1030 i)/\jc9 i.12 (zz1031 i)/\ile 0 i.8=true/\ile 0 i.10=true/\ile 0 i.12=true/\True)/\∀(i_3:Int),i_3=chE i->∀(i_4:Int),i_4=chN i->(imsG i/\intRow IntKind.i64 1 i.8 (QR.Row.fn λ (a:Int) (x:Nat)=>CV.v (Value.int .i64 (i.9 a)))/\jf7 i.10 (zz1030 i)/\jc9 i.12 (zz1031 i)/\ile 0 i.8=true/\ile 0 i.10=true/\ile 0 i.12=true/\True)/\∀(i_5:Int),i_5=chkE i->∀(i_6:Int),i_6=chkN i->(intRow IntKind.i64 1 i.8 (QR.Row.fn λ (a:Int) (x:Nat)=>CV.v (Value.int .i64 (i.9 a)))/\jf7 i.10 (zz1030 i)/\jc9 i.12 (zz1031 i)/\ile 0 i.8=true/\ile 0 i.10=true/\ile 0 i.12=true/\True)/\∀(i_7:Int),i_7=chkE i->∀(i_8:Int),i_8=chkN i->(intRow IntKind.i64 1 i.8 (QR.Row.fn λ (a:Int) (x:Nat)=>CV.v (Value.int .i64 (i.9 a)))/\jf7 i.10 (zz1030 i)/\jc9 i.12 (zz1031 i)/\ile 0 i.8=true/\ile 0 i.10=true/\ile 0 i.12=true/\True)/\ja0 (ieq i_1 i_3) (ja0 (ieq i_2 i_4) (ja0 (ieq i_5 i_7) (ja0 (ieq i_6 i_8) (∀(i_9:Int),i_9=frV i->∀(i_10:Int),i_10=frV i->(intRow IntKind.i64 1 i.8 (QR.Row.fn λ (a:Int) (x:Nat)=>CV.v (Value.int .i64 (i.9 a)))/\jf7 i.10 (zz1030 i)/\jc9 i.12 (zz1031 i)/\ile 0 i.8=true/\ile 0 i.10=true/\ile 0 i.12=true/\intRow IntKind.i64 1 i.8 (QR.Row.fn λ (a:Int) (x:Nat)=>CV.v (Value.int .i64 (i.9 a)))/\jf7 i.10 (zz1030 i)/\jc9 i.12 (zz1031 i)/\ile 0 i.8=true/\ile 0 i.10=true/\ile 0 i.12=true/\True)/\True/\V [XV.c (CV.v (Value.bool (ieq i_9 i_10)))] []) (True/\True/\V [XV.c (CV.v (Value.bool false))] [])) (True/\True/\V [XV.c (CV.v (Value.bool false))] [])) (True/\True/\V [XV.c (CV.v (Value.bool false))] [])) (True/\True/\V [XV.c (CV.v (Value.bool false))] [])):=by
 delta zz1030 zz1031 imsE opsE
 try delta q70
 try delta q69
 try delta vn7
 try delta q66
 try delta j08
 try delta jm5
 try delta jo0
 try delta q64
 try delta q65
 try delta jm3
 try delta jf3
 try delta vd3
 try delta ya1
 try delta jg8
 try delta qk6
 generalize @chE=chE
 generalize @chN=chN
 generalize @chkE=chkE
 generalize @chkN=chkN
 generalize @frV=frV
 generalize @gscV=gscV
 generalize @imsG=imsG
 generalize @jf7=jf7
 generalize @intRow=intRow
 generalize @jc9=jc9
 generalize @vd2=vd2
 generalize @j04=j04
 generalize @j05=j05
 generalize @spoG=spoG
 generalize @spoV=spoV
 kernel_rfl
end Go.Proofs.YthkidembkknoeaaDoor
