import Derived.Test.YthkidembkknoeaaDoorPm07
import Derived.Test.YthkidembkknoeaaDoorPm11
import Derived.Test.YthkidembkknoeaaDoorPm08
namespace Go.Proofs.YthkidembkknoeaaDoor
open Go.RowKit PR QR
set_option linter.unusedVariables false
set_option linter.unusedSimpArgs false
def zb4:AV->AV->Prop
 | .x (.c a),.x (.c b)=>EqC a b
 | .x (.agg l),.x (.agg m)=>eqCs l m
 | .ref o l,.ref o' m=>o=o'/\eqCs l m
 | _,_=>False
def yc1:List AV->List AV->Prop
 | [],[]=>True
 | a :: l,b :: m=>zb4 a b/\yc1 l m
 | _,_=>False
theorem jm2 {F:Nat->Prop} {w:World}:∀{al al':List AV} {ys:List Value} {bs:List Nat},yc1 al al'->je7 F w al ys bs->je7 F w al' ys bs
 | [],[],ys,bs,_,h=>h
 | [],_ :: _,ys,bs,e,_=>e.elim
 | _ :: _,[],ys,bs,e,_=>e.elim
 | a :: al,b :: al',ys,bs,e,h=>by
  obtain ⟨e1,e2⟩:=e
  unfold zb4 at e1
  split at e1
  ·rename_i c c'
   cases ys with
   | nil=>exact h.elim
   | cons y ys=>exact ⟨Rep.eq e1 h.1,jm2 e2 h.2⟩
  ·rename_i l m
   cases ys with
   | nil=>exact h.elim
   | cons y ys =>
    obtain ⟨zs,hz,h1⟩:=h.1
    exact ⟨⟨zs,hz,ql7 e1 h1⟩,jm2 e2 h.2⟩
  ·rename_i o l o' m
   obtain ⟨rfl,e1⟩:=e1
   match ys,bs,h with
   | y :: ys,b :: bs,h =>
    obtain ⟨h1,h2,h3,⟨arr,t,h4,h5⟩,h6⟩:=h
    exact ⟨h1,h2,h3,⟨arr,t,h4,ql7 e1 h5⟩,jm2 e2 h6⟩
  ·exact e1.elim
theorem jx2 {P:Program} {f:FuncId} {al al':List AV} {ans:QR.Ans} (e:yc1 al al') (h:ji5 P f al' ans):ji5 P f al ans :=
 λ w F ys bs hG hF hA=>h w F ys bs hG hF (jm2 e hA)
end Go.Proofs.YthkidembkknoeaaDoor
namespace Go.Proofs.YthkidembkknoeaaDoor
open Go.RowKit PR QR
set_option linter.unusedVariables false
set_option linter.unusedSimpArgs false
set_option maxRecDepth 20000
theorem vo7 {P Q R:Prop} {A:List Prop} (h:∀p∈P :: Q :: R :: A,p):P/\Q/\R/\∀p∈A,p:=⟨h _ (by simp),h _ (by simp),h _ (by simp),λ p hp=>h p (by simp [hp])⟩
theorem jv8 (a:Value):eqG (.v a) (.v a):=yt0 (.v a) rfl rfl
end Go.Proofs.YthkidembkknoeaaDoor
namespace Go.Proofs.YthkidembkknoeaaDoor
open Go.RowKit PR QR
set_option linter.unusedVariables false
def yq3:List AV->Option QR.Ans
 | [.x (.agg l)]=>match ji3 l with
  | some (m,A)=>some ⟨[.c (.v (.bool (imF m)))],[],imG m :: A⟩
  | none=>none
 | _=>none
def vq4:List AV->Option QR.Ans
 | [.x (.agg l),.x (.c (.v (.int .i64 x))),.x (.c (.v (.int .i64 y)))]=>match ji3 l with
  | some (m,A)=>some ⟨[.agg [.v (.int .u16 (pxV m 0 x y)),.v (.int .u16 (pxV m 1 x y)),.v (.int .u16 (pxV m 2 x y)),.v (.int .u16 (pxV m 3 x y)),.v (.int .u16 (pxV m 4 x y))]],[],(imIn m x y=true) :: imG m :: A⟩
  | none=>none
 | _=>none
def ve9:List AV->Option QR.Ans
 | [.x (.agg l),.x (.c (.v (.int .u16 t)))]=>match ji3 l with
  | some (m,A)=>some ⟨[.c (.v (.int .i64 (imE m t)))],[],imG m :: A⟩
  | none=>none
 | _=>none
def qz1:List AV->Option QR.Ans
 | [.x (.c (.v (.int .i64 w))),.x (.c (.v (.int .i64 h))),.x (.agg [.v (.int .u16 c0),.v (.int .u16 c1),.v (.int .u16 c2),.v (.int .u16 a),.v (.int .u16 f)])]=>some ⟨[.agg (imC (qk7 w h c0 c1 c2 a f))],[],[]⟩
 | _=>none
def vq5:List AV->Option QR.Ans
 | [.x (.c (.v (.int .i64 w))),.x (.c (.v (.int .i64 h))),.x (.c c)]=>match jf4 5 c with
  | some (n,r)=>some ⟨[.agg (imC (jc5 w h n λ i j=>intC (den r i j))),.c (.v (.bool (jo1 w h n)))],[],[intRow .u16 5 n r,in64 w=true,in64 h=true,ile 0 n=true]⟩
  | none=>none
 | _=>none
def vq6:List AV->Option QR.Ans
 | [.x (.agg [.v (.int .i64 mood),c]),.x (.c (.v (.int .i64 k))),.x (.c (.v (.int .u16 t)))]=>match jf4 5 c with
  | some (n,r)=>some ⟨[.c (.fresh 5 (jb8 k 0) (.fn λ i j=>.v (.int .u16 (gpxV mood n (λ i j=>intC (den r i j)) t i j))))],[],[intRow .i64 5 n r,ile 0 n=true,in16 t=true,ile k 1099511627776=true]⟩
  | none=>none
 | _=>none
def vq7:List AV->Option QR.Ans
 | [.x (.agg [.v (.int .i64 W),.v (.int .i64 H),.v (.int .i64 S),.v (.int .i64 mood),c]),.x (.agg [.v (.int .i64 x0),.v (.int .i64 y0),.v (.int .i64 x1),.v (.int .i64 y1)]),.x (.c (.v (.int .u16 t)))]=>match jf4 5 c with
  | some (n,r)=>some ⟨[.agg (imC (gimV W H S mood n (λ i j=>intC (den r i j)) x0 y0 x1 y1 t))],[],[intRow .i64 5 n r,ile 0 n=true,in16 t=true,gcv x0 y0 x1 y1=true]⟩
  | none=>none
 | _=>none
def jg9 (m:Im) (sol:Bool) (i:Int):Prop:=(0<=i/\i<=5)/\∀k:Nat,(k:Int) < i->bif sol then plZ (imPl m k)=true else plW m (imPl m k)=true
def jo2 (i:Int):Nat:=(5 - i).toNat
noncomputable def qt6 (m:Im):QR.Inv where
 ι:=Int
 good i:=jg9 m true i
 slots i:=QR.slotsOf Tryd.f62.ntmps [(1,.x (.c (.ptr 1000000000000000 0))),(2,.x (.c (.v (.bool false)))),(3,.x (.c (.v (.int .i64 i))))]
 blocks i:=[(1000000000000000,.cells (imC ⟨m.w,m.h,true,m.c0,m.c1,m.c2,m.a,m.f,m.p0,m.p1,m.p2,m.p3,m.p4⟩))]
 μ i:=jo2 i
def zz101 (fz0:Im) (fz1:Int):Prop:=(True/\True/\∃(bz0:Int),jg9 fz0 true bz0/\(True/\true=true/\(zz34 fz1 bz0)/\(zz5 fz0)/\True)/\Nat.le (Nat.succ (jo2 bz0)) (jo2 fz1))
def zz111 (fz0:Im) (fz1:Int):Prop:=(True/\∃(bz0:Int),jg9 fz0 true bz0/\(True/\true=true/\(zz34 fz1 bz0)/\(zz5 fz0)/\True)/\Nat.le (Nat.succ (jo2 bz0)) (jo2 fz1))
set_option maxRecDepth 100000 in
theorem zd6 (m:Im) (V:List QR.XV->List (List QR.CV)->Prop):QR.ja5 Tryd.prog (vu9) (λ n=>bif Nat.beq n 2 then some (.inv (qt6 m)) else none) (Tryd.f62.body.getD .skip) Tryd.f62.results.toList Tryd.f62.ntmps [.x (.agg (imC ⟨m.w,m.h,true,m.c0,m.c1,m.c2,m.a,m.f,m.p0,m.p1,m.p2,m.p3,m.p4⟩))] V=(True/\True/\(∃(i:Int),jg9 m true i/\True/\true=true/\((true=true/\0=0/\0=0)/\(true=true/\false=false)/\(true=true/\IntKind.i64=IntKind.i64/\(0:Int)=i)/\True)/\(zz5 m)/\True)/\∀(i:Int),jg9 m true i->True/\ja0 (ilt i 5) (ja0 (ieq i 0) ((true=true/\true=true/\True)/\ja0 (ine m.9.1 0) (True/\True/\True/\V [XV.c (CV.v (Value.bool false))] []) (ja0 (ine m.9.2 0) (True/\True/\True/\V [XV.c (CV.v (Value.bool false))] []) (ja0 (ine m.9.3 0) (True/\True/\True/\V [XV.c (CV.v (Value.bool false))] []) (∀(i_1:Int),i_1=m.9.4->True/\ja0 (igt i_1 0) (True/\True/\V [XV.c (CV.v (Value.bool false))] []) (ja0 (bnot true) (ja0 (bnot (plB m.9.1 m.9.2 m.9.3 m.9.4)) ((zz70 m)/\True/\True/\V [XV.c (CV.v (Value.bool false))] []) (ja0 (ine m.9.1 m.1) ((zz70 m)/\True/\True/\V [XV.c (CV.v (Value.bool false))] []) ((zz70 m)/\ja0 (ine m.9.2 m.2) (True/\True/\V [XV.c (CV.v (Value.bool false))] []) (zz111 m i)))) (zz101 m i)))))) (ja0 (ieq i 1) ((true=true/\true=true/\True)/\ja0 (ine m.10.1 0) (True/\True/\True/\V [XV.c (CV.v (Value.bool false))] []) (ja0 (ine m.10.2 0) (True/\True/\True/\V [XV.c (CV.v (Value.bool false))] []) (ja0 (ine m.10.3 0) (True/\True/\True/\V [XV.c (CV.v (Value.bool false))] []) (∀(i_1:Int),i_1=m.10.4->True/\ja0 (igt i_1 0) (True/\True/\V [XV.c (CV.v (Value.bool false))] []) (ja0 (bnot true) (ja0 (bnot (plB m.10.1 m.10.2 m.10.3 m.10.4)) ((zz61 m)/\True/\True/\V [XV.c (CV.v (Value.bool false))] []) (ja0 (ine m.10.1 m.1) ((zz61 m)/\True/\True/\V [XV.c (CV.v (Value.bool false))] []) ((zz61 m)/\ja0 (ine m.10.2 m.2) (True/\True/\V [XV.c (CV.v (Value.bool false))] []) (zz111 m i)))) (zz101 m i)))))) (ja0 (ieq i 2) ((true=true/\true=true/\True)/\ja0 (ine m.11.1 0) (True/\True/\True/\V [XV.c (CV.v (Value.bool false))] []) (ja0 (ine m.11.2 0) (True/\True/\True/\V [XV.c (CV.v (Value.bool false))] []) (ja0 (ine m.11.3 0) (True/\True/\True/\V [XV.c (CV.v (Value.bool false))] []) (∀(i_1:Int),i_1=m.11.4->True/\ja0 (igt i_1 0) (True/\True/\V [XV.c (CV.v (Value.bool false))] []) (ja0 (bnot true) (ja0 (bnot (plB m.11.1 m.11.2 m.11.3 m.11.4)) ((zz62 m)/\True/\True/\V [XV.c (CV.v (Value.bool false))] []) (ja0 (ine m.11.1 m.1) ((zz62 m)/\True/\True/\V [XV.c (CV.v (Value.bool false))] []) ((zz62 m)/\ja0 (ine m.11.2 m.2) (True/\True/\V [XV.c (CV.v (Value.bool false))] []) (zz111 m i)))) (zz101 m i)))))) (ja0 (ieq i 3) ((true=true/\true=true/\True)/\ja0 (ine m.12.1 0) (True/\True/\True/\V [XV.c (CV.v (Value.bool false))] []) (ja0 (ine m.12.2 0) (True/\True/\True/\V [XV.c (CV.v (Value.bool false))] []) (ja0 (ine m.12.3 0) (True/\True/\True/\V [XV.c (CV.v (Value.bool false))] []) (∀(i_1:Int),i_1=m.12.4->True/\ja0 (igt i_1 0) (True/\True/\V [XV.c (CV.v (Value.bool false))] []) (ja0 (bnot true) (ja0 (bnot (plB m.12.1 m.12.2 m.12.3 m.12.4)) ((zz63 m)/\True/\True/\V [XV.c (CV.v (Value.bool false))] []) (ja0 (ine m.12.1 m.1) ((zz63 m)/\True/\True/\V [XV.c (CV.v (Value.bool false))] []) ((zz63 m)/\ja0 (ine m.12.2 m.2) (True/\True/\V [XV.c (CV.v (Value.bool false))] []) (zz111 m i)))) (zz101 m i)))))) (ja0 (ieq i 4) ((true=true/\true=true/\True)/\ja0 (ine m.13.1 0) (True/\True/\True/\V [XV.c (CV.v (Value.bool false))] []) (ja0 (ine m.13.2 0) (True/\True/\True/\V [XV.c (CV.v (Value.bool false))] []) (ja0 (ine m.13.3 0) (True/\True/\True/\V [XV.c (CV.v (Value.bool false))] []) (∀(i_1:Int),i_1=m.13.4->True/\ja0 (igt i_1 0) (True/\True/\V [XV.c (CV.v (Value.bool false))] []) (ja0 (bnot true) (ja0 (bnot (plB m.13.1 m.13.2 m.13.3 m.13.4)) ((zz64 m)/\True/\True/\V [XV.c (CV.v (Value.bool false))] []) (ja0 (ine m.13.1 m.1) ((zz64 m)/\True/\True/\V [XV.c (CV.v (Value.bool false))] []) ((zz64 m)/\ja0 (ine m.13.2 m.2) (True/\True/\V [XV.c (CV.v (Value.bool false))] []) (zz111 m i)))) (zz101 m i)))))) False))))) (True/\True/\V [XV.c (CV.v (Value.bool true))] [])):=by
 delta zz5 zz34 zz61 zz62 zz63 zz64 zz70 zz101 zz111
 try delta vu9
 try delta qt6
 try delta ji7
 generalize @in64=in64
 generalize @intRow=intRow
 generalize @plB=plB
 generalize @jg9=jg9
 generalize @jo2=jo2
 kernel_rfl
noncomputable def qt7 (m:Im):QR.Inv where
 ι:=Int
 good i:=jg9 m false i
 slots i:=QR.slotsOf Tryd.f62.ntmps [(1,.x (.c (.ptr 1000000000000000 0))),(2,.x (.c (.v (.bool false)))),(3,.x (.c (.v (.int .i64 i))))]
 blocks i:=[(1000000000000000,.cells (imC ⟨m.w,m.h,false,m.c0,m.c1,m.c2,m.a,m.f,m.p0,m.p1,m.p2,m.p3,m.p4⟩))]
 μ i:=jo2 i
def zz100 (fz0:Im) (fz1:Int):Prop:=(True/\True/\∃(bz0:Int),jg9 fz0 false bz0/\(True/\true=true/\(zz34 fz1 bz0)/\(zz4 fz0)/\True)/\Nat.le (Nat.succ (jo2 bz0)) (jo2 fz1))
def zz110 (fz0:Im) (fz1:Int):Prop:=(True/\∃(bz0:Int),jg9 fz0 false bz0/\(True/\true=true/\(zz34 fz1 bz0)/\(zz4 fz0)/\True)/\Nat.le (Nat.succ (jo2 bz0)) (jo2 fz1))
set_option maxRecDepth 100000 in
theorem zd7 (m:Im) (V:List QR.XV->List (List QR.CV)->Prop):QR.ja5 Tryd.prog (vu9) (λ n=>bif Nat.beq n 2 then some (.inv (qt7 m)) else none) (Tryd.f62.body.getD .skip) Tryd.f62.results.toList Tryd.f62.ntmps [.x (.agg (imC ⟨m.w,m.h,false,m.c0,m.c1,m.c2,m.a,m.f,m.p0,m.p1,m.p2,m.p3,m.p4⟩))] V=(True/\True/\(∃(i:Int),jg9 m false i/\True/\true=true/\((true=true/\0=0/\0=0)/\(true=true/\false=false)/\(true=true/\IntKind.i64=IntKind.i64/\(0:Int)=i)/\True)/\(zz4 m)/\True)/\∀(i:Int),jg9 m false i->True/\ja0 (ilt i 5) (ja0 (ieq i 0) ((true=true/\true=true/\True)/\True/\ja0 (bnot false) (ja0 (bnot (plB m.9.1 m.9.2 m.9.3 m.9.4)) ((zz70 m)/\True/\True/\V [XV.c (CV.v (Value.bool false))] []) (ja0 (ine m.9.1 m.1) ((zz70 m)/\True/\True/\V [XV.c (CV.v (Value.bool false))] []) ((zz70 m)/\ja0 (ine m.9.2 m.2) (True/\True/\V [XV.c (CV.v (Value.bool false))] []) (zz110 m i)))) (zz100 m i)) (ja0 (ieq i 1) ((true=true/\true=true/\True)/\True/\ja0 (bnot false) (ja0 (bnot (plB m.10.1 m.10.2 m.10.3 m.10.4)) ((zz61 m)/\True/\True/\V [XV.c (CV.v (Value.bool false))] []) (ja0 (ine m.10.1 m.1) ((zz61 m)/\True/\True/\V [XV.c (CV.v (Value.bool false))] []) ((zz61 m)/\ja0 (ine m.10.2 m.2) (True/\True/\V [XV.c (CV.v (Value.bool false))] []) (zz110 m i)))) (zz100 m i)) (ja0 (ieq i 2) ((true=true/\true=true/\True)/\True/\ja0 (bnot false) (ja0 (bnot (plB m.11.1 m.11.2 m.11.3 m.11.4)) ((zz62 m)/\True/\True/\V [XV.c (CV.v (Value.bool false))] []) (ja0 (ine m.11.1 m.1) ((zz62 m)/\True/\True/\V [XV.c (CV.v (Value.bool false))] []) ((zz62 m)/\ja0 (ine m.11.2 m.2) (True/\True/\V [XV.c (CV.v (Value.bool false))] []) (zz110 m i)))) (zz100 m i)) (ja0 (ieq i 3) ((true=true/\true=true/\True)/\True/\ja0 (bnot false) (ja0 (bnot (plB m.12.1 m.12.2 m.12.3 m.12.4)) ((zz63 m)/\True/\True/\V [XV.c (CV.v (Value.bool false))] []) (ja0 (ine m.12.1 m.1) ((zz63 m)/\True/\True/\V [XV.c (CV.v (Value.bool false))] []) ((zz63 m)/\ja0 (ine m.12.2 m.2) (True/\True/\V [XV.c (CV.v (Value.bool false))] []) (zz110 m i)))) (zz100 m i)) (ja0 (ieq i 4) ((true=true/\true=true/\True)/\True/\ja0 (bnot false) (ja0 (bnot (plB m.13.1 m.13.2 m.13.3 m.13.4)) ((zz64 m)/\True/\True/\V [XV.c (CV.v (Value.bool false))] []) (ja0 (ine m.13.1 m.1) ((zz64 m)/\True/\True/\V [XV.c (CV.v (Value.bool false))] []) ((zz64 m)/\ja0 (ine m.13.2 m.2) (True/\True/\V [XV.c (CV.v (Value.bool false))] []) (zz110 m i)))) (zz100 m i)) False))))) (True/\True/\V [XV.c (CV.v (Value.bool (band (band (ieq m.4 0) (band (ieq m.5 0) (band (ieq m.6 0) true))) (band (ieq m.7 0) (band (ieq m.8 0) true)))))] [])):=by
 delta zz4 zz34 zz61 zz62 zz63 zz64 zz70 zz100 zz110
 try delta vu9
 try delta qt7
 try delta ji7
 generalize @in64=in64
 generalize @intRow=intRow
 generalize @plB=plB
 generalize @jg9=jg9
 generalize @jo2=jo2
 kernel_rfl
set_option maxRecDepth 100000 in
theorem zd8 (m:Im) (x y:Int) (V:List QR.XV->List (List QR.CV)->Prop):QR.ja5 Tryd.prog (QR.orc []) (λ n=>bif Nat.beq n 5 then some (.rounds 6) else none) (Tryd.f64.body.getD .skip) Tryd.f64.results.toList Tryd.f64.ntmps [.x (.agg (imC m)),.x (.c (.v (.int .i64 x))),.x (.c (.v (.int .i64 y)))] V=(True/\True/\ja0 m.3 (True/\True/\V [XV.agg [CV.v (Value.int .u16 m.4),CV.v (Value.int .u16 m.5),CV.v (Value.int .u16 m.6),CV.v (Value.int .u16 m.7),CV.v (Value.int .u16 m.8)]] []) (True/\True/\True/\(true=true/\true=true/\true=true/\true=true/\True)/\True/\True/\(true=true/\true=true/\true=true/\true=true/\True)/\True/\True/\(true=true/\true=true/\true=true/\true=true/\True)/\True/\True/\(true=true/\true=true/\true=true/\true=true/\True)/\True/\True/\(true=true/\true=true/\true=true/\true=true/\True)/\True/\True/\(ile 0 (iadd IntKind.i64 (imul IntKind.i64 y m.13.3) x)=true/\ilt (iadd IntKind.i64 (imul IntKind.i64 y m.13.3) x) m.13.4=true/\true=true/\true=true/\true=true/\true=true/\ile 0 (iadd IntKind.i64 (imul IntKind.i64 y m.12.3) x)=true/\ilt (iadd IntKind.i64 (imul IntKind.i64 y m.12.3) x) m.12.4=true/\true=true/\true=true/\true=true/\true=true/\ile 0 (iadd IntKind.i64 (imul IntKind.i64 y m.11.3) x)=true/\ilt (iadd IntKind.i64 (imul IntKind.i64 y m.11.3) x) m.11.4=true/\true=true/\true=true/\true=true/\true=true/\ile 0 (iadd IntKind.i64 (imul IntKind.i64 y m.10.3) x)=true/\ilt (iadd IntKind.i64 (imul IntKind.i64 y m.10.3) x) m.10.4=true/\true=true/\true=true/\true=true/\true=true/\ile 0 (iadd IntKind.i64 (imul IntKind.i64 y m.9.3) x)=true/\ilt (iadd IntKind.i64 (imul IntKind.i64 y m.9.3) x) m.9.4=true/\true=true/\true=true/\true=true/\true=true/\True)/\True/\V (zz140 m y x) [])):=by
 delta zz140
 kernel_rfl
def qh7 (m:Im) (t y:Int):Prop:=(0<=y/\y<=m.h)/\∀a b:Int,0<=a->a < m.w->0<=b->b < y->pxB m t a b=true
def vf0 (m:Im) (y:Int):Nat:=(m.h - y).toNat
def qh8 (m:Im) (t y x:Int):Prop:=((0<=y/\y < m.h)/\0<=x/\x<=m.w)/\(∀a b:Int,0<=a->a < m.w->0<=b->b < y->pxB m t a b=true)/\∀a:Int,0<=a->a < x->pxB m t a y=true
def vf1 (m:Im) (x:Int):Nat:=(m.w - x).toNat
noncomputable def qt8 (m:Im) (t:Int):QR.Inv where
 ι:=Int
 good i:=qh7 m t i
 slots i:=QR.slotsOf Tryd.f36.ntmps [(1,.x (.c (.v (.int .u16 t)))),(2,.x (.c (.ptr 1000000000000000 0))),(4,.x (.c (.v (.int .i64 0)))),(5,.x (.c (.v (.int .i64 i))))]
 blocks i:=[(1000000000000000,.cells (imC m))]
 μ i:=vf0 m i
noncomputable def qt9 (m:Im) (t y:Int):QR.Inv where
 ι:=Int
 good i:=qh8 m t y i
 slots i:=QR.slotsOf Tryd.f36.ntmps [(1,.x (.c (.v (.int .u16 t)))),(2,.x (.c (.ptr 1000000000000000 0))),(4,.x (.c (.v (.int .i64 0)))),(5,.x (.c (.v (.int .i64 y)))),(6,.x (.c (.v (.int .i64 i))))]
 blocks i:=[(1000000000000000,.cells (imC m))]
 μ i:=vf1 m i
def yg6:QR.ja8:=QR.orc [(61,qg8),(62,yq3),(63,jl5),(64,vq4)]
set_option maxRecDepth 100000 in
theorem y57 (m:Im) (t:Int) (V:List QR.XV->List (List QR.CV)->Prop):QR.ja5 Tryd.prog (yg6) (λ n=>bif Nat.beq n 10 then some (.inv (qt8 m t)) else bif Nat.beq n 13 then some (.invF λ g=>[qt9 m t (g 5)]) else none) (Tryd.f36.body.getD .skip) Tryd.f36.results.toList Tryd.f36.ntmps [.x (.agg (imC m)),.x (.c (.v (.int .u16 t)))] V=(True/\(in64 m.1=true/\in64 m.2=true/\True)/\ja0 (bnot (fitB m.1 m.2)) (True/\True/\V [XV.c (CV.v (Value.int .i64 6))] []) ((zz12 m)/\ja0 (bnot (imF m)) (True/\True/\V [XV.c (CV.v (Value.int .i64 7))] []) (True/\ja0 m.3 (True/\ja0 (bnot (pvB m.4 m.5 m.6 m.7 m.8 t)) (True/\True/\V [XV.c (CV.v (Value.int .i64 8))] []) (True/\True/\V [XV.c (CV.v (Value.int .i64 0))] [])) (True/\(∃(i:Int),qh7 m t i/\True/\true=true/\((true=true/\IntKind.u16=IntKind.u16/\t=t)/\(true=true/\0=0/\0=0)/\(true=true/\IntKind.i64=IntKind.i64/\(0:Int)=0)/\(true=true/\IntKind.i64=IntKind.i64/\(0:Int)=i)/\True)/\(zz1 m)/\True)/\∀(i:Int),qh7 m t i->True/\ja0 (ilt i m.2) (True/\((∃(i_1:Int),qh8 m t i i_1/\True/\true=true/\((true=true/\IntKind.u16=IntKind.u16/\t=t)/\(true=true/\1000000000000000=1000000000000000/\0=0)/\(true=true/\IntKind.i64=IntKind.i64/\(0:Int)=0)/\(true=true/\IntKind.i64=IntKind.i64/\i=i)/\(true=true/\IntKind.i64=IntKind.i64/\(0:Int)=i_1)/\True)/\(zz1 m)/\True)\/False)/\(∀(i_1:Int),qh8 m t i i_1->True/\ja0 (ilt i_1 m.1) (∀(i_2:Int),i_2=pxV m 0 i_1 i->∀(i_3:Int),i_3=pxV m 1 i_1 i->∀(i_4:Int),i_4=pxV m 2 i_1 i->∀(i_5:Int),i_5=pxV m 3 i_1 i->∀(i_6:Int),i_6=pxV m 4 i_1 i->(zz112 m i_1 i)/\ja0 (bnot (pvB i_2 i_3 i_4 i_5 i_6 t)) (True/\True/\V [XV.c (CV.v (Value.int .i64 8))] []) (True/\((∃(i_7:Int),qh8 m t i i_7/\(True/\true=true/\((true=true/\IntKind.u16=IntKind.u16/\t=t)/\(true=true/\1000000000000000=1000000000000000/\0=0)/\(true=true/\IntKind.i64=IntKind.i64/\(0:Int)=0)/\(true=true/\IntKind.i64=IntKind.i64/\i=i)/\(true=true/\IntKind.i64=IntKind.i64/\iadd IntKind.i64 i_1 1=i_7)/\True)/\(zz1 m)/\True)/\Nat.le (Nat.succ (vf1 m i_7)) (vf1 m i_1))\/False))) (True/\∃(j:Int),qh7 m t j/\(True/\true=true/\((true=true/\IntKind.u16=IntKind.u16/\t=t)/\(true=true/\1000000000000000=1000000000000000/\0=0)/\(true=true/\IntKind.i64=IntKind.i64/\(0:Int)=0)/\(true=true/\IntKind.i64=IntKind.i64/\iadd IntKind.i64 i 1=j)/\True)/\(zz1 m)/\True)/\Nat.le (Nat.succ (vf0 m j)) (vf0 m i)))/\True) (True/\True/\V [XV.c (CV.v (Value.int .i64 0))] []))))):=by
 delta zz1 zz12 zz112
 try delta yg6
 try delta qt8
 try delta qt9
 try delta qg8
 try delta yq3
 try delta jl5
 try delta vq4
 try delta ji3
 generalize @fitB=fitB
 generalize @imF=imF
 generalize @imG=imG
 generalize @imIn=imIn
 generalize @in64=in64
 generalize @intRow=intRow
 generalize @pvB=pvB
 generalize @pxV=pxV
 generalize @qh8=qh8
 generalize @vf1=vf1
 generalize @qh7=qh7
 generalize @vf0=vf0
 generalize @w2=w2
 kernel_rfl
set_option maxRecDepth 100000 in
theorem yq4 (w h c0 c1 c2 a f:Int) (V:List QR.XV->List (List QR.CV)->Prop):QR.ja5 Tryd.prog (QR.orc []) (QR.ja4) (Tryd.f27.body.getD .skip) Tryd.f27.results.toList Tryd.f27.ntmps [.x (.c (.v (.int .i64 w))),.x (.c (.v (.int .i64 h))),.x (.agg [.v (.int .u16 c0),.v (.int .u16 c1),.v (.int .u16 c2),.v (.int .u16 a),.v (.int .u16 f)])] V=(True/\True/\True/\V (zz98 w h c0 c1 c2 a f) []):=by
 delta zz98
 kernel_rfl
def qh9 (n i:Int):Prop:=0<=i/\i<=n
def vf2 (n i:Int):Nat:=(n - i).toNat
def rioN (w h:Int):Int:=w * h
def rioV (q:Int->Nat->Int) (i t:Int) (k:Nat):Int:=if t < i then q t k else 0
noncomputable def qu0 (w h n:Int) (q:Int->Nat->Int):QR.Inv where
 ι:=Int
 good i:=qh9 n i
 slots i:=QR.slotsOf Tryd.f48.ntmps [(0,.x (.c (.v (.int .i64 w)))),(1,.x (.c (.v (.int .i64 h)))),(2,.x (.c (.slc 5 n (.fn λ i j=>.v (.int .u16 (q i j)))))),(6,.x (.c (.ptr 1000000000000000 0))),(7,.x (.c (.v (.bool false)))),(8,.x (.c (.ptr 1000000000000001 0))),(10,.x (.c (.v (.int .i64 i))))]
 blocks i:=[(1000000000000000,.cells [.v (.int .i64 0),.v (.int .i64 0),.v (.bool false),.v (.int .u16 0),.v (.int .u16 0),.v (.int .u16 0),.v (.int .u16 0),.v (.int .u16 0),.v (.int .i64 0),.v (.int .i64 0),.v (.int .i64 0),.v (.slice none 0 0),.v (.int .i64 0),.v (.int .i64 0),.v (.int .i64 0),.v (.slice none 0 0),.v (.int .i64 0),.v (.int .i64 0),.v (.int .i64 0),.v (.slice none 0 0),.v (.int .i64 0),.v (.int .i64 0),.v (.int .i64 0),.v (.slice none 0 0),.v (.int .i64 0),.v (.int .i64 0),.v (.int .i64 0),.v (.slice none 0 0)]),(1000000000000001,.cells [.v (.int .i64 w),.v (.int .i64 h),.v (.bool false),.v (.int .u16 0),.v (.int .u16 0),.v (.int .u16 0),.v (.int .u16 0),.v (.int .u16 0),.v (.int .i64 w),.v (.int .i64 h),.v (.int .i64 w),.own 1000000000000002 (rioN w h),.v (.int .i64 w),.v (.int .i64 h),.v (.int .i64 w),.own 1000000000000003 (rioN w h),.v (.int .i64 w),.v (.int .i64 h),.v (.int .i64 w),.own 1000000000000004 (rioN w h),.v (.int .i64 w),.v (.int .i64 h),.v (.int .i64 w),.own 1000000000000005 (rioN w h),.v (.int .i64 w),.v (.int .i64 h),.v (.int .i64 w),.own 1000000000000006 (rioN w h)]),(1000000000000002,.row 1 (rioN w h) (.fn λ t _=>.v (.int .u16 (rioV q i t 0)))),(1000000000000003,.row 1 (rioN w h) (.fn λ t _=>.v (.int .u16 (rioV q i t 1)))),(1000000000000004,.row 1 (rioN w h) (.fn λ t _=>.v (.int .u16 (rioV q i t 2)))),(1000000000000005,.row 1 (rioN w h) (.fn λ t _=>.v (.int .u16 (rioV q i t 3)))),(1000000000000006,.row 1 (rioN w h) (.fn λ t _=>.v (.int .u16 (rioV q i t 4))))]
 μ i:=vf2 n i
def y58:QR.ja8:=QR.orc [(61,qg8)]
set_option maxRecDepth 100000 in
theorem zd9 (w h n:Int) (q:Int->Nat->Int) (V:List QR.XV->List (List QR.CV)->Prop):QR.ja5 Tryd.prog (y58) (λ n_=>bif Nat.beq n_ 5 then some (.rounds 6) else bif Nat.beq n_ 9 then some (.inv (qu0 w h n q)) else bif Nat.beq n_ 12 then some (.rounds 4) else none) (Tryd.f48.body.getD .skip) Tryd.f48.results.toList Tryd.f48.ntmps [.x (.c (.v (.int .i64 w))),.x (.c (.v (.int .i64 h))),.x (.c (.slc 5 n (.fn λ i j=>.v (.int .u16 (q i j)))))] V=(True/\ja0 (bnot (fitB w h)) ((in64 w=true/\in64 h=true/\True)/\True/\True/\V [XV.agg zz7,XV.c (CV.v (Value.bool false))] []) (∀(i:Int),i=n->(in64 w=true/\in64 h=true/\True)/\ja0 (ine i (imul IntKind.i64 w h)) (True/\True/\V [XV.agg zz7,XV.c (CV.v (Value.bool false))] []) (True/\True/\True/\(zz84 w h)/\True/\True/\(zz84 w h)/\True/\True/\(zz84 w h)/\True/\True/\(zz84 w h)/\True/\True/\(zz84 w h)/\True/\True/\True/\(∃(i:Int),qh9 n i/\True/\true=true/\((true=true/\IntKind.i64=IntKind.i64/\w=w)/\(true=true/\IntKind.i64=IntKind.i64/\h=h)/\(zz80 n q)/\(true=true/\0=0/\0=0)/\(true=true/\false=false)/\(true=true/\3075=3075/\0=0)/\(true=true/\IntKind.i64=IntKind.i64/\(0:Int)=i)/\True)/\zz0/\((IntKind.i64=IntKind.i64/\w=w)/\(IntKind.i64=IntKind.i64/\h=h)/\false=false/\(IntKind.u16=IntKind.u16/\(0:Int)=0)/\(IntKind.u16=IntKind.u16/\(0:Int)=0)/\(IntKind.u16=IntKind.u16/\(0:Int)=0)/\(IntKind.u16=IntKind.u16/\(0:Int)=0)/\(IntKind.u16=IntKind.u16/\(0:Int)=0)/\(IntKind.i64=IntKind.i64/\w=w)/\(IntKind.i64=IntKind.i64/\h=h)/\(IntKind.i64=IntKind.i64/\w=w)/\(7175=7175/\imul IntKind.i64 w h=rioN w h)/\(IntKind.i64=IntKind.i64/\w=w)/\(IntKind.i64=IntKind.i64/\h=h)/\(IntKind.i64=IntKind.i64/\w=w)/\(4201479=4201479/\imul IntKind.i64 w h=rioN w h)/\(IntKind.i64=IntKind.i64/\w=w)/\(IntKind.i64=IntKind.i64/\h=h)/\(IntKind.i64=IntKind.i64/\w=w)/\(8395783=8395783/\imul IntKind.i64 w h=rioN w h)/\(IntKind.i64=IntKind.i64/\w=w)/\(IntKind.i64=IntKind.i64/\h=h)/\(IntKind.i64=IntKind.i64/\w=w)/\(12590087=12590087/\imul IntKind.i64 w h=rioN w h)/\(IntKind.i64=IntKind.i64/\w=w)/\(IntKind.i64=IntKind.i64/\h=h)/\(IntKind.i64=IntKind.i64/\w=w)/\(16784391=16784391/\imul IntKind.i64 w h=rioN w h)/\True)/\(1=1/\imul IntKind.i64 w h=rioN w h/\True/\∀(i_1:Nat),ilt (Int.ofNat i_1) (imul IntKind.i64 w h)=true->IntKind.u16=IntKind.u16/\(0:Int)=rioV q i (Int.ofNat i_1) 0)/\(1=1/\imul IntKind.i64 w h=rioN w h/\True/\∀(i_1:Nat),ilt (Int.ofNat i_1) (imul IntKind.i64 w h)=true->IntKind.u16=IntKind.u16/\(0:Int)=rioV q i (Int.ofNat i_1) 1)/\(1=1/\imul IntKind.i64 w h=rioN w h/\True/\∀(i_1:Nat),ilt (Int.ofNat i_1) (imul IntKind.i64 w h)=true->IntKind.u16=IntKind.u16/\(0:Int)=rioV q i (Int.ofNat i_1) 2)/\(1=1/\imul IntKind.i64 w h=rioN w h/\True/\∀(i_1:Nat),ilt (Int.ofNat i_1) (imul IntKind.i64 w h)=true->IntKind.u16=IntKind.u16/\(0:Int)=rioV q i (Int.ofNat i_1) 3)/\(1=1/\imul IntKind.i64 w h=rioN w h/\True/\∀(i_1:Nat),ilt (Int.ofNat i_1) (imul IntKind.i64 w h)=true->IntKind.u16=IntKind.u16/\(0:Int)=rioV q i (Int.ofNat i_1) 4)/\True)/\∀(i:Int),qh9 n i->∀(i_1:Int),i_1=n->True/\ja0 (ilt i i_1) (True/\True/\(ile 0 i=true/\ilt i (rioN w h)=true/\true=true/\true=true/\ile 0 i=true/\ilt i n=true/\true=true/\true=true/\True)/\True/\True/\(ile 0 i=true/\ilt i (rioN w h)=true/\true=true/\true=true/\ile 0 i=true/\ilt i n=true/\true=true/\true=true/\True)/\True/\True/\(ile 0 i=true/\ilt i (rioN w h)=true/\true=true/\true=true/\ile 0 i=true/\ilt i n=true/\true=true/\true=true/\True)/\True/\True/\(ile 0 i=true/\ilt i (rioN w h)=true/\ile 0 i=true/\ilt i (rioN w h)=true/\ile 0 i=true/\ilt i n=true/\ile 0 i=true/\ilt i n=true/\true=true/\true=true/\true=true/\true=true/\True)/\True/\∃(j:Int),qh9 n j/\(True/\true=true/\((true=true/\IntKind.i64=IntKind.i64/\w=w)/\(true=true/\IntKind.i64=IntKind.i64/\h=h)/\(zz80 n q)/\(true=true/\1000000000000000=1000000000000000/\0=0)/\(true=true/\false=false)/\(true=true/\1000000000000001=1000000000000001/\0=0)/\(true=true/\IntKind.i64=IntKind.i64/\iadd IntKind.i64 i 1=j)/\True)/\zz0/\((IntKind.i64=IntKind.i64/\w=w)/\(IntKind.i64=IntKind.i64/\h=h)/\false=false/\(IntKind.u16=IntKind.u16/\(0:Int)=0)/\(IntKind.u16=IntKind.u16/\(0:Int)=0)/\(IntKind.u16=IntKind.u16/\(0:Int)=0)/\(IntKind.u16=IntKind.u16/\(0:Int)=0)/\(IntKind.u16=IntKind.u16/\(0:Int)=0)/\(IntKind.i64=IntKind.i64/\w=w)/\(IntKind.i64=IntKind.i64/\h=h)/\(IntKind.i64=IntKind.i64/\w=w)/\(1000000000000002=1000000000000002/\rioN w h=rioN w h)/\(IntKind.i64=IntKind.i64/\w=w)/\(IntKind.i64=IntKind.i64/\h=h)/\(IntKind.i64=IntKind.i64/\w=w)/\(1000000000000003=1000000000000003/\rioN w h=rioN w h)/\(IntKind.i64=IntKind.i64/\w=w)/\(IntKind.i64=IntKind.i64/\h=h)/\(IntKind.i64=IntKind.i64/\w=w)/\(1000000000000004=1000000000000004/\rioN w h=rioN w h)/\(IntKind.i64=IntKind.i64/\w=w)/\(IntKind.i64=IntKind.i64/\h=h)/\(IntKind.i64=IntKind.i64/\w=w)/\(1000000000000005=1000000000000005/\rioN w h=rioN w h)/\(IntKind.i64=IntKind.i64/\w=w)/\(IntKind.i64=IntKind.i64/\h=h)/\(IntKind.i64=IntKind.i64/\w=w)/\(1000000000000006=1000000000000006/\rioN w h=rioN w h)/\True)/\(1=1/\rioN w h=rioN w h/\True/\∀(i_2:Nat),ilt (Int.ofNat i_2) (rioN w h)=true->IntKind.u16=IntKind.u16/\isel (ieq (Int.ofNat i_2) i) (q i 0) (rioV q i (Int.ofNat i_2) 0)=rioV q j (Int.ofNat i_2) 0)/\(1=1/\rioN w h=rioN w h/\True/\∀(i_2:Nat),ilt (Int.ofNat i_2) (rioN w h)=true->IntKind.u16=IntKind.u16/\isel (ieq (Int.ofNat i_2) i) (q i 1) (rioV q i (Int.ofNat i_2) 1)=rioV q j (Int.ofNat i_2) 1)/\(1=1/\rioN w h=rioN w h/\True/\∀(i_2:Nat),ilt (Int.ofNat i_2) (rioN w h)=true->IntKind.u16=IntKind.u16/\isel (ieq (Int.ofNat i_2) i) (q i 2) (rioV q i (Int.ofNat i_2) 2)=rioV q j (Int.ofNat i_2) 2)/\(1=1/\rioN w h=rioN w h/\True/\∀(i_2:Nat),ilt (Int.ofNat i_2) (rioN w h)=true->IntKind.u16=IntKind.u16/\isel (ieq (Int.ofNat i_2) i) (q i 3) (rioV q i (Int.ofNat i_2) 3)=rioV q j (Int.ofNat i_2) 3)/\(1=1/\rioN w h=rioN w h/\True/\∀(i_2:Nat),ilt (Int.ofNat i_2) (rioN w h)=true->IntKind.u16=IntKind.u16/\isel (ieq (Int.ofNat i_2) i) (q i 4) (rioV q i (Int.ofNat i_2) 4)=rioV q j (Int.ofNat i_2) 4)/\True)/\Nat.le (Nat.succ (vf2 n j)) (vf2 n i)) (True/\True/\V [XV.agg [CV.v (Value.int .i64 w),CV.v (Value.int .i64 h),CV.v (Value.bool false),CV.v (Value.int .u16 0),CV.v (Value.int .u16 0),CV.v (Value.int .u16 0),CV.v (Value.int .u16 0),CV.v (Value.int .u16 0),CV.v (Value.int .i64 w),CV.v (Value.int .i64 h),CV.v (Value.int .i64 w),CV.slc 1 (rioN w h) (QR.Row.fn λ (t:Int) (x:Nat)=>CV.v (Value.int .u16 (rioV q i t 0))),CV.v (Value.int .i64 w),CV.v (Value.int .i64 h),CV.v (Value.int .i64 w),CV.slc 1 (rioN w h) (QR.Row.fn λ (t:Int) (x:Nat)=>CV.v (Value.int .u16 (rioV q i t 1))),CV.v (Value.int .i64 w),CV.v (Value.int .i64 h),CV.v (Value.int .i64 w),CV.slc 1 (rioN w h) (QR.Row.fn λ (t:Int) (x:Nat)=>CV.v (Value.int .u16 (rioV q i t 2))),CV.v (Value.int .i64 w),CV.v (Value.int .i64 h),CV.v (Value.int .i64 w),CV.slc 1 (rioN w h) (QR.Row.fn λ (t:Int) (x:Nat)=>CV.v (Value.int .u16 (rioV q i t 3))),CV.v (Value.int .i64 w),CV.v (Value.int .i64 h),CV.v (Value.int .i64 w),CV.slc 1 (rioN w h) (QR.Row.fn λ (t:Int) (x:Nat)=>CV.v (Value.int .u16 (rioV q i t 4)))],XV.c (CV.v (Value.bool true))] [])))):=by
 delta zz0 zz7 zz16 zz80 zz84
 try delta y58
 try delta qu0
 try delta qg8
 generalize @fitB=fitB
 generalize @in64=in64
 generalize @qh9=qh9
 generalize @vf2=vf2
 generalize @rioN=rioN
 generalize @rioV=rioV
 kernel_rfl
end Go.Proofs.YthkidembkknoeaaDoor
