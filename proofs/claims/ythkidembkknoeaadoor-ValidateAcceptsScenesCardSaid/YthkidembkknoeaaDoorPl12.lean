import Derived.Test.YthkidembkknoeaaDoorPl07
import Derived.Test.YthkidembkknoeaaDoorPl11
import Derived.Test.YthkidembkknoeaaDoorPl08
namespace Go.Proofs.YthkidembkknoeaaDoor
open Go.RowKit PR QR
set_option linter.unusedVariables false
set_option linter.unusedSimpArgs false
def y36:AV->AV->Prop
 | .x (.c a),.x (.c b)=>EqC a b
 | .x (.agg l),.x (.agg m)=>eqCs l m
 | .ref o l,.ref o' m=>o=o'/\eqCs l m
 | _,_=>False
def vz1:List AV->List AV->Prop
 | [],[]=>True
 | a :: l,b :: m=>y36 a b/\vz1 l m
 | _,_=>False
theorem jl3 {F:Nat->Prop} {w:World}:∀{al al':List AV} {ys:List Value} {bs:List Nat},vz1 al al'->je3 F w al ys bs->je3 F w al' ys bs
 | [],[],ys,bs,_,h=>h
 | [],_ :: _,ys,bs,e,_=>e.elim
 | _ :: _,[],ys,bs,e,_=>e.elim
 | a :: al,b :: al',ys,bs,e,h=>by
  obtain ⟨e1,e2⟩:=e
  unfold y36 at e1
  split at e1
  ·rename_i c c'
   cases ys with
   | nil=>exact h.elim
   | cons y ys=>exact ⟨Rep.eq e1 h.1,jl3 e2 h.2⟩
  ·rename_i l m
   cases ys with
   | nil=>exact h.elim
   | cons y ys =>
    obtain ⟨zs,hz,h1⟩:=h.1
    exact ⟨⟨zs,hz,qi8 e1 h1⟩,jl3 e2 h.2⟩
  ·rename_i o l o' m
   obtain ⟨rfl,e1⟩:=e1
   match ys,bs,h with
   | y :: ys,b :: bs,h =>
    obtain ⟨h1,h2,h3,⟨arr,t,h4,h5⟩,h6⟩:=h
    exact ⟨h1,h2,h3,⟨arr,t,h4,qi8 e1 h5⟩,jl3 e2 h6⟩
  ·exact e1.elim
theorem jv4 {P:Program} {f:FuncId} {al al':List AV} {ans:QR.Ans} (e:vz1 al al') (h:jj5 P f al' ans):jj5 P f al ans :=
 λ w F ys bs hG hF hA=>h w F ys bs hG hF (jl3 e hA)
end Go.Proofs.YthkidembkknoeaaDoor
namespace Go.Proofs.YthkidembkknoeaaDoor
open Go.RowKit PR QR
set_option linter.unusedVariables false
set_option linter.unusedSimpArgs false
set_option maxRecDepth 20000
theorem ym7 {P Q R:Prop} {A:List Prop} (h:∀p∈P :: Q :: R :: A,p):P/\Q/\R/\∀p∈A,p:=⟨h _ (by simp),h _ (by simp),h _ (by simp),λ p hp=>h p (by simp [hp])⟩
theorem vf6 (a:Value):eqG (.v a) (.v a):=ym4 (.v a) rfl rfl
end Go.Proofs.YthkidembkknoeaaDoor
namespace Go.Proofs.YthkidembkknoeaaDoor
open Go.RowKit PR QR
set_option linter.unusedVariables false
def yj6:List AV->Option QR.Ans
 | [.x (.agg l),.x (.c (.v (.int .u16 t)))]=>match jj7 l with
  | some (m,A)=>some ⟨[.c (.v (.int .i64 (imE m t)))],[],imG m :: A⟩
  | none=>none
 | _=>none
def qv3:List AV->Option QR.Ans
 | [.x (.c (.v (.int .i64 w))),.x (.c (.v (.int .i64 h))),.x (.agg [.v (.int .u16 c0),.v (.int .u16 c1),.v (.int .u16 c2),.v (.int .u16 a),.v (.int .u16 f)])]=>some ⟨[.agg (imC (qh6 w h c0 c1 c2 a f))],[],[]⟩
 | _=>none
def vm2:List AV->Option QR.Ans
 | [.x (.c (.v (.int .i64 w))),.x (.c (.v (.int .i64 h))),.x (.c c)]=>match jf1 5 c with
  | some (n,r)=>some ⟨[.agg (imC (jc1 w h n λ i j=>intC (den r i j))),.c (.v (.bool (jm9 w h n)))],[],[intRow .u16 5 n r,in64 w=true,in64 h=true,ile 0 n=true]⟩
  | none=>none
 | _=>none
def vm3:List AV->Option QR.Ans
 | [.x (.agg [.v (.int .i64 mood),c]),.x (.c (.v (.int .i64 k))),.x (.c (.v (.int .u16 t)))]=>match jf1 5 c with
  | some (n,r)=>some ⟨[.c (.fresh 5 (jc2 k 0) (.fn λ i j=>.v (.int .u16 (gpxV mood n (λ i j=>intC (den r i j)) t i j))))],[],[intRow .i64 5 n r,ile 0 n=true,in16 t=true,ile k 1099511627776=true]⟩
  | none=>none
 | _=>none
def vm4:List AV->Option QR.Ans
 | [.x (.agg [.v (.int .i64 W),.v (.int .i64 H),.v (.int .i64 S),.v (.int .i64 mood),c]),.x (.agg [.v (.int .i64 x0),.v (.int .i64 y0),.v (.int .i64 x1),.v (.int .i64 y1)]),.x (.c (.v (.int .u16 t)))]=>match jf1 5 c with
  | some (n,r)=>some ⟨[.agg (imC (gimV W H S mood n (λ i j=>intC (den r i j)) x0 y0 x1 y1 t))],[],[intRow .i64 5 n r,ile 0 n=true,in16 t=true,gcv x0 y0 x1 y1=true]⟩
  | none=>none
 | _=>none
def vm5:List AV->Option QR.Ans
 | [.x (.agg l),.x (.c (.v (.int .i64 k)))]=>match jj7 l with
  | some (m,A)=>some ⟨[.agg (imC (gstV m k))],[],imG m :: (imOk m=true) :: A⟩
  | none=>none
 | _=>none
set_option maxRecDepth 100000 in
theorem yj7 (w h c0 c1 c2 a f:Int) (V:List QR.XV->List (List QR.CV)->Prop):QR.ja9 Tryd.prog (QR.orc []) (QR.ja4) (Tryd.f27.body.getD .skip) Tryd.f27.results.toList Tryd.f27.ntmps [.x (.c (.v (.int .i64 w))),.x (.c (.v (.int .i64 h))),.x (.agg [.v (.int .u16 c0),.v (.int .u16 c1),.v (.int .u16 c2),.v (.int .u16 a),.v (.int .u16 f)])] V=(True/\True/\True/\V (zz98 w h c0 c1 c2 a f) []):=by
 delta zz98
 kernel_rfl
def qf1 (n i:Int):Prop:=0<=i/\i<=n
def vb5 (n i:Int):Nat:=(n - i).toNat
def rioN (w h:Int):Int:=w * h
def rioV (q:Int->Nat->Int) (i t:Int) (k:Nat):Int:=if t < i then q t k else 0
noncomputable def qq4 (w h n:Int) (q:Int->Nat->Int):QR.Inv where
 ι:=Int
 good i:=qf1 n i
 slots i:=QR.slotsOf Tryd.f48.ntmps [(0,.x (.c (.v (.int .i64 w)))),(1,.x (.c (.v (.int .i64 h)))),(2,.x (.c (.slc 5 n (.fn λ i j=>.v (.int .u16 (q i j)))))),(6,.x (.c (.ptr 1000000000000000 0))),(7,.x (.c (.v (.bool false)))),(8,.x (.c (.ptr 1000000000000001 0))),(10,.x (.c (.v (.int .i64 i))))]
 blocks i:=[(1000000000000000,.cells [.v (.int .i64 0),.v (.int .i64 0),.v (.bool false),.v (.int .u16 0),.v (.int .u16 0),.v (.int .u16 0),.v (.int .u16 0),.v (.int .u16 0),.v (.int .i64 0),.v (.int .i64 0),.v (.int .i64 0),.v (.slice none 0 0),.v (.int .i64 0),.v (.int .i64 0),.v (.int .i64 0),.v (.slice none 0 0),.v (.int .i64 0),.v (.int .i64 0),.v (.int .i64 0),.v (.slice none 0 0),.v (.int .i64 0),.v (.int .i64 0),.v (.int .i64 0),.v (.slice none 0 0),.v (.int .i64 0),.v (.int .i64 0),.v (.int .i64 0),.v (.slice none 0 0)]),(1000000000000001,.cells [.v (.int .i64 w),.v (.int .i64 h),.v (.bool false),.v (.int .u16 0),.v (.int .u16 0),.v (.int .u16 0),.v (.int .u16 0),.v (.int .u16 0),.v (.int .i64 w),.v (.int .i64 h),.v (.int .i64 w),.own 1000000000000002 (rioN w h),.v (.int .i64 w),.v (.int .i64 h),.v (.int .i64 w),.own 1000000000000003 (rioN w h),.v (.int .i64 w),.v (.int .i64 h),.v (.int .i64 w),.own 1000000000000004 (rioN w h),.v (.int .i64 w),.v (.int .i64 h),.v (.int .i64 w),.own 1000000000000005 (rioN w h),.v (.int .i64 w),.v (.int .i64 h),.v (.int .i64 w),.own 1000000000000006 (rioN w h)]),(1000000000000002,.row 1 (rioN w h) (.fn λ t _=>.v (.int .u16 (rioV q i t 0)))),(1000000000000003,.row 1 (rioN w h) (.fn λ t _=>.v (.int .u16 (rioV q i t 1)))),(1000000000000004,.row 1 (rioN w h) (.fn λ t _=>.v (.int .u16 (rioV q i t 2)))),(1000000000000005,.row 1 (rioN w h) (.fn λ t _=>.v (.int .u16 (rioV q i t 3)))),(1000000000000006,.row 1 (rioN w h) (.fn λ t _=>.v (.int .u16 (rioV q i t 4))))]
 μ i:=vb5 n i
def yw9:QR.ja7:=QR.orc [(61,q00)]
set_option maxRecDepth 100000 in
theorem y63 (w h n:Int) (q:Int->Nat->Int) (V:List QR.XV->List (List QR.CV)->Prop):QR.ja9 Tryd.prog (yw9) (λ n_=>bif Nat.beq n_ 5 then some (.rounds 6) else bif Nat.beq n_ 9 then some (.inv (qq4 w h n q)) else bif Nat.beq n_ 12 then some (.rounds 4) else none) (Tryd.f48.body.getD .skip) Tryd.f48.results.toList Tryd.f48.ntmps [.x (.c (.v (.int .i64 w))),.x (.c (.v (.int .i64 h))),.x (.c (.slc 5 n (.fn λ i j=>.v (.int .u16 (q i j)))))] V=(True/\ja0 (bnot (fitB w h)) ((in64 w=true/\in64 h=true/\True)/\True/\True/\V [XV.agg zz7,XV.c (CV.v (Value.bool false))] []) (∀(i:Int),i=n->(in64 w=true/\in64 h=true/\True)/\ja0 (ine i (imul IntKind.i64 w h)) (True/\True/\V [XV.agg zz7,XV.c (CV.v (Value.bool false))] []) (True/\True/\True/\(zz84 w h)/\True/\True/\(zz84 w h)/\True/\True/\(zz84 w h)/\True/\True/\(zz84 w h)/\True/\True/\(zz84 w h)/\True/\True/\True/\(∃(i:Int),qf1 n i/\True/\true=true/\((true=true/\IntKind.i64=IntKind.i64/\w=w)/\(true=true/\IntKind.i64=IntKind.i64/\h=h)/\(zz80 n q)/\(true=true/\0=0/\0=0)/\(true=true/\false=false)/\(true=true/\3075=3075/\0=0)/\(true=true/\IntKind.i64=IntKind.i64/\(0:Int)=i)/\True)/\zz0/\((IntKind.i64=IntKind.i64/\w=w)/\(IntKind.i64=IntKind.i64/\h=h)/\false=false/\(IntKind.u16=IntKind.u16/\(0:Int)=0)/\(IntKind.u16=IntKind.u16/\(0:Int)=0)/\(IntKind.u16=IntKind.u16/\(0:Int)=0)/\(IntKind.u16=IntKind.u16/\(0:Int)=0)/\(IntKind.u16=IntKind.u16/\(0:Int)=0)/\(IntKind.i64=IntKind.i64/\w=w)/\(IntKind.i64=IntKind.i64/\h=h)/\(IntKind.i64=IntKind.i64/\w=w)/\(7175=7175/\imul IntKind.i64 w h=rioN w h)/\(IntKind.i64=IntKind.i64/\w=w)/\(IntKind.i64=IntKind.i64/\h=h)/\(IntKind.i64=IntKind.i64/\w=w)/\(4201479=4201479/\imul IntKind.i64 w h=rioN w h)/\(IntKind.i64=IntKind.i64/\w=w)/\(IntKind.i64=IntKind.i64/\h=h)/\(IntKind.i64=IntKind.i64/\w=w)/\(8395783=8395783/\imul IntKind.i64 w h=rioN w h)/\(IntKind.i64=IntKind.i64/\w=w)/\(IntKind.i64=IntKind.i64/\h=h)/\(IntKind.i64=IntKind.i64/\w=w)/\(12590087=12590087/\imul IntKind.i64 w h=rioN w h)/\(IntKind.i64=IntKind.i64/\w=w)/\(IntKind.i64=IntKind.i64/\h=h)/\(IntKind.i64=IntKind.i64/\w=w)/\(16784391=16784391/\imul IntKind.i64 w h=rioN w h)/\True)/\(1=1/\imul IntKind.i64 w h=rioN w h/\True/\∀(i_1:Nat),ilt (Int.ofNat i_1) (imul IntKind.i64 w h)=true->IntKind.u16=IntKind.u16/\(0:Int)=rioV q i (Int.ofNat i_1) 0)/\(1=1/\imul IntKind.i64 w h=rioN w h/\True/\∀(i_1:Nat),ilt (Int.ofNat i_1) (imul IntKind.i64 w h)=true->IntKind.u16=IntKind.u16/\(0:Int)=rioV q i (Int.ofNat i_1) 1)/\(1=1/\imul IntKind.i64 w h=rioN w h/\True/\∀(i_1:Nat),ilt (Int.ofNat i_1) (imul IntKind.i64 w h)=true->IntKind.u16=IntKind.u16/\(0:Int)=rioV q i (Int.ofNat i_1) 2)/\(1=1/\imul IntKind.i64 w h=rioN w h/\True/\∀(i_1:Nat),ilt (Int.ofNat i_1) (imul IntKind.i64 w h)=true->IntKind.u16=IntKind.u16/\(0:Int)=rioV q i (Int.ofNat i_1) 3)/\(1=1/\imul IntKind.i64 w h=rioN w h/\True/\∀(i_1:Nat),ilt (Int.ofNat i_1) (imul IntKind.i64 w h)=true->IntKind.u16=IntKind.u16/\(0:Int)=rioV q i (Int.ofNat i_1) 4)/\True)/\∀(i:Int),qf1 n i->∀(i_1:Int),i_1=n->True/\ja0 (ilt i i_1) (True/\True/\(ile 0 i=true/\ilt i (rioN w h)=true/\true=true/\true=true/\ile 0 i=true/\ilt i n=true/\true=true/\true=true/\True)/\True/\True/\(ile 0 i=true/\ilt i (rioN w h)=true/\true=true/\true=true/\ile 0 i=true/\ilt i n=true/\true=true/\true=true/\True)/\True/\True/\(ile 0 i=true/\ilt i (rioN w h)=true/\true=true/\true=true/\ile 0 i=true/\ilt i n=true/\true=true/\true=true/\True)/\True/\True/\(ile 0 i=true/\ilt i (rioN w h)=true/\ile 0 i=true/\ilt i (rioN w h)=true/\ile 0 i=true/\ilt i n=true/\ile 0 i=true/\ilt i n=true/\true=true/\true=true/\true=true/\true=true/\True)/\True/\∃(j:Int),qf1 n j/\(True/\true=true/\((true=true/\IntKind.i64=IntKind.i64/\w=w)/\(true=true/\IntKind.i64=IntKind.i64/\h=h)/\(zz80 n q)/\(true=true/\1000000000000000=1000000000000000/\0=0)/\(true=true/\false=false)/\(true=true/\1000000000000001=1000000000000001/\0=0)/\(true=true/\IntKind.i64=IntKind.i64/\iadd IntKind.i64 i 1=j)/\True)/\zz0/\((IntKind.i64=IntKind.i64/\w=w)/\(IntKind.i64=IntKind.i64/\h=h)/\false=false/\(IntKind.u16=IntKind.u16/\(0:Int)=0)/\(IntKind.u16=IntKind.u16/\(0:Int)=0)/\(IntKind.u16=IntKind.u16/\(0:Int)=0)/\(IntKind.u16=IntKind.u16/\(0:Int)=0)/\(IntKind.u16=IntKind.u16/\(0:Int)=0)/\(IntKind.i64=IntKind.i64/\w=w)/\(IntKind.i64=IntKind.i64/\h=h)/\(IntKind.i64=IntKind.i64/\w=w)/\(1000000000000002=1000000000000002/\rioN w h=rioN w h)/\(IntKind.i64=IntKind.i64/\w=w)/\(IntKind.i64=IntKind.i64/\h=h)/\(IntKind.i64=IntKind.i64/\w=w)/\(1000000000000003=1000000000000003/\rioN w h=rioN w h)/\(IntKind.i64=IntKind.i64/\w=w)/\(IntKind.i64=IntKind.i64/\h=h)/\(IntKind.i64=IntKind.i64/\w=w)/\(1000000000000004=1000000000000004/\rioN w h=rioN w h)/\(IntKind.i64=IntKind.i64/\w=w)/\(IntKind.i64=IntKind.i64/\h=h)/\(IntKind.i64=IntKind.i64/\w=w)/\(1000000000000005=1000000000000005/\rioN w h=rioN w h)/\(IntKind.i64=IntKind.i64/\w=w)/\(IntKind.i64=IntKind.i64/\h=h)/\(IntKind.i64=IntKind.i64/\w=w)/\(1000000000000006=1000000000000006/\rioN w h=rioN w h)/\True)/\(1=1/\rioN w h=rioN w h/\True/\∀(i_2:Nat),ilt (Int.ofNat i_2) (rioN w h)=true->IntKind.u16=IntKind.u16/\isel (ieq (Int.ofNat i_2) i) (q i 0) (rioV q i (Int.ofNat i_2) 0)=rioV q j (Int.ofNat i_2) 0)/\(1=1/\rioN w h=rioN w h/\True/\∀(i_2:Nat),ilt (Int.ofNat i_2) (rioN w h)=true->IntKind.u16=IntKind.u16/\isel (ieq (Int.ofNat i_2) i) (q i 1) (rioV q i (Int.ofNat i_2) 1)=rioV q j (Int.ofNat i_2) 1)/\(1=1/\rioN w h=rioN w h/\True/\∀(i_2:Nat),ilt (Int.ofNat i_2) (rioN w h)=true->IntKind.u16=IntKind.u16/\isel (ieq (Int.ofNat i_2) i) (q i 2) (rioV q i (Int.ofNat i_2) 2)=rioV q j (Int.ofNat i_2) 2)/\(1=1/\rioN w h=rioN w h/\True/\∀(i_2:Nat),ilt (Int.ofNat i_2) (rioN w h)=true->IntKind.u16=IntKind.u16/\isel (ieq (Int.ofNat i_2) i) (q i 3) (rioV q i (Int.ofNat i_2) 3)=rioV q j (Int.ofNat i_2) 3)/\(1=1/\rioN w h=rioN w h/\True/\∀(i_2:Nat),ilt (Int.ofNat i_2) (rioN w h)=true->IntKind.u16=IntKind.u16/\isel (ieq (Int.ofNat i_2) i) (q i 4) (rioV q i (Int.ofNat i_2) 4)=rioV q j (Int.ofNat i_2) 4)/\True)/\Nat.le (Nat.succ (vb5 n j)) (vb5 n i)) (True/\True/\V [XV.agg [CV.v (Value.int .i64 w),CV.v (Value.int .i64 h),CV.v (Value.bool false),CV.v (Value.int .u16 0),CV.v (Value.int .u16 0),CV.v (Value.int .u16 0),CV.v (Value.int .u16 0),CV.v (Value.int .u16 0),CV.v (Value.int .i64 w),CV.v (Value.int .i64 h),CV.v (Value.int .i64 w),CV.slc 1 (rioN w h) (QR.Row.fn λ (t:Int) (x:Nat)=>CV.v (Value.int .u16 (rioV q i t 0))),CV.v (Value.int .i64 w),CV.v (Value.int .i64 h),CV.v (Value.int .i64 w),CV.slc 1 (rioN w h) (QR.Row.fn λ (t:Int) (x:Nat)=>CV.v (Value.int .u16 (rioV q i t 1))),CV.v (Value.int .i64 w),CV.v (Value.int .i64 h),CV.v (Value.int .i64 w),CV.slc 1 (rioN w h) (QR.Row.fn λ (t:Int) (x:Nat)=>CV.v (Value.int .u16 (rioV q i t 2))),CV.v (Value.int .i64 w),CV.v (Value.int .i64 h),CV.v (Value.int .i64 w),CV.slc 1 (rioN w h) (QR.Row.fn λ (t:Int) (x:Nat)=>CV.v (Value.int .u16 (rioV q i t 3))),CV.v (Value.int .i64 w),CV.v (Value.int .i64 h),CV.v (Value.int .i64 w),CV.slc 1 (rioN w h) (QR.Row.fn λ (t:Int) (x:Nat)=>CV.v (Value.int .u16 (rioV q i t 4)))],XV.c (CV.v (Value.bool true))] [])))):=by
 delta zz0 zz7 zz16 zz80 zz84
 try delta yw9
 try delta qq4
 try delta q00
 generalize @fitB=fitB
 generalize @in64=in64
 generalize @qf1=qf1
 generalize @vb5=vb5
 generalize @rioN=rioN
 generalize @rioV=rioV
 kernel_rfl
end Go.Proofs.YthkidembkknoeaaDoor
