import Derived.Test.YthkidembkknoeaaDoorPk11
import Derived.Test.YthkidembkknoeaaDoorPk08
namespace Go.Proofs.YthkidembkknoeaaDoor
open Go.RowKit PR QR
set_option linter.unusedVariables false
def yn4:List AV→Option QR.Ans
  | [.x (.agg l),.x (.c (.v (.int .u16 t)))]=>match jn9 l with
    | some (m,A)=>some ⟨[.c (.v (.int .i64 (imE m t)))],[],imG m :: A⟩
    | none=>none
  | _=>none
def qx6:List AV→Option QR.Ans
  | [.x (.c (.v (.int .i64 w))),.x (.c (.v (.int .i64 h))),.x (.agg [.v (.int .u16 c0),.v (.int .u16 c1),.v (.int .u16 c2),.v (.int .u16 a),.v (.int .u16 f)])]=>some ⟨[.agg (imC (qj6 w h c0 c1 c2 a f))],[],[]⟩
  | _=>none
def vo7:List AV→Option QR.Ans
  | [.x (.c (.v (.int .i64 w))),.x (.c (.v (.int .i64 h))),.x (.c c)]=>match jf4 5 c with
    | some (n,r)=>some ⟨[.agg (imC (jc4 w h n fun i j=>intC (den r i j))),.c (.v (.bool (jo0 w h n)))],[],[intRow .u16 5 n r,in64 w=true,in64 h=true,ile 0 n=true]⟩
    | none=>none
  | _=>none
def vo8:List AV→Option QR.Ans
  | [.x (.agg [.v (.int .i64 mood),c]),.x (.c (.v (.int .i64 k))),.x (.c (.v (.int .u16 t)))]=>match jf4 5 c with
    | some (n,r)=>some ⟨[.c (.fresh 5 (jc6 k 0) (.fn fun i j=>.v (.int .u16 (gpxV mood n (fun i j=>intC (den r i j)) t i j))))],[],[intRow .i64 5 n r,ile 0 n=true,in16 t=true,ile k 1099511627776=true]⟩
    | none=>none
  | _=>none
def vo9:List AV→Option QR.Ans
  | [.x (.agg [.v (.int .i64 W),.v (.int .i64 H),.v (.int .i64 S),.v (.int .i64 mood),c]),.x (.agg [.v (.int .i64 x0),.v (.int .i64 y0),.v (.int .i64 x1),.v (.int .i64 y1)]),.x (.c (.v (.int .u16 t)))]=>match jf4 5 c with
    | some (n,r)=>some ⟨[.agg (imC (gimV W H S mood n (fun i j=>intC (den r i j)) x0 y0 x1 y1 t))],[],[intRow .i64 5 n r,ile 0 n=true,in16 t=true,gcv x0 y0 x1 y1=true]⟩
    | none=>none
  | _=>none
set_option maxRecDepth 100000 in
theorem yn5 (w h c0 c1 c2 a f:Int) (V:List QR.XV→List (List QR.CV)→Prop):QR.ja5 Tryd.prog (QR.orc []) (QR.ja4) (Tryd.f27.body.getD .skip) Tryd.f27.results.toList Tryd.f27.ntmps [.x (.c (.v (.int .i64 w))),.x (.c (.v (.int .i64 h))),.x (.agg [.v (.int .u16 c0),.v (.int .u16 c1),.v (.int .u16 c2),.v (.int .u16 a),.v (.int .u16 f)])] V=(True∧True∧True∧V (zz98 w h c0 c1 c2 a f) []):=by
  delta zz98
  kernel_rfl
def qg6 (n i:Int):Prop:=0≤i∧i≤n
def ve5 (n i:Int):Nat:=(n - i).toNat
def rioN (w h:Int):Int:=w * h
def rioV (q:Int→Nat→Int) (i t:Int) (k:Nat):Int:=if t < i then q t k else 0
noncomputable def qs9 (w h n:Int) (q:Int→Nat→Int):QR.Inv where
  ι:=Int
  good i:=qg6 n i
  slots i:=QR.slotsOf Tryd.f48.ntmps [(0,.x (.c (.v (.int .i64 w)))),(1,.x (.c (.v (.int .i64 h)))),(2,.x (.c (.slc 5 n (.fn fun i j=>.v (.int .u16 (q i j)))))),(6,.x (.c (.ptr 1000000000000000 0))),(7,.x (.c (.v (.bool false)))),(8,.x (.c (.ptr 1000000000000001 0))),(10,.x (.c (.v (.int .i64 i))))]
  blocks i:=[(1000000000000000,.cells [.v (.int .i64 0),.v (.int .i64 0),.v (.bool false),.v (.int .u16 0),.v (.int .u16 0),.v (.int .u16 0),.v (.int .u16 0),.v (.int .u16 0),.v (.int .i64 0),.v (.int .i64 0),.v (.int .i64 0),.v (.slice none 0 0),.v (.int .i64 0),.v (.int .i64 0),.v (.int .i64 0),.v (.slice none 0 0),.v (.int .i64 0),.v (.int .i64 0),.v (.int .i64 0),.v (.slice none 0 0),.v (.int .i64 0),.v (.int .i64 0),.v (.int .i64 0),.v (.slice none 0 0),.v (.int .i64 0),.v (.int .i64 0),.v (.int .i64 0),.v (.slice none 0 0)]),(1000000000000001,.cells [.v (.int .i64 w),.v (.int .i64 h),.v (.bool false),.v (.int .u16 0),.v (.int .u16 0),.v (.int .u16 0),.v (.int .u16 0),.v (.int .u16 0),.v (.int .i64 w),.v (.int .i64 h),.v (.int .i64 w),.own 1000000000000002 (rioN w h),.v (.int .i64 w),.v (.int .i64 h),.v (.int .i64 w),.own 1000000000000003 (rioN w h),.v (.int .i64 w),.v (.int .i64 h),.v (.int .i64 w),.own 1000000000000004 (rioN w h),.v (.int .i64 w),.v (.int .i64 h),.v (.int .i64 w),.own 1000000000000005 (rioN w h),.v (.int .i64 w),.v (.int .i64 h),.v (.int .i64 w),.own 1000000000000006 (rioN w h)]),(1000000000000002,.row 1 (rioN w h) (.fn fun t _=>.v (.int .u16 (rioV q i t 0)))),(1000000000000003,.row 1 (rioN w h) (.fn fun t _=>.v (.int .u16 (rioV q i t 1)))),(1000000000000004,.row 1 (rioN w h) (.fn fun t _=>.v (.int .u16 (rioV q i t 2)))),(1000000000000005,.row 1 (rioN w h) (.fn fun t _=>.v (.int .u16 (rioV q i t 3)))),(1000000000000006,.row 1 (rioN w h) (.fn fun t _=>.v (.int .u16 (rioV q i t 4))))]
  μ i:=ve5 n i
def y15:QR.ja7:=QR.orc [(61,q29)]
set_option maxRecDepth 100000 in
theorem zb2 (w h n:Int) (q:Int→Nat→Int) (V:List QR.XV→List (List QR.CV)→Prop):QR.ja5 Tryd.prog (y15) (fun n_=>bif Nat.beq n_ 5 then some (.rounds 6) else bif Nat.beq n_ 9 then some (.inv (qs9 w h n q)) else bif Nat.beq n_ 12 then some (.rounds 4) else none) (Tryd.f48.body.getD .skip) Tryd.f48.results.toList Tryd.f48.ntmps [.x (.c (.v (.int .i64 w))),.x (.c (.v (.int .i64 h))),.x (.c (.slc 5 n (.fn fun i j=>.v (.int .u16 (q i j)))))] V=(True∧ja0 (bnot (fitB w h)) ((in64 w=true∧in64 h=true∧True)∧True∧True∧V [XV.agg zz7,XV.c (CV.v (Value.bool false))] []) (∀(i:Int),i=n→(in64 w=true∧in64 h=true∧True)∧ja0 (ine i (imul IntKind.i64 w h)) (True∧True∧V [XV.agg zz7,XV.c (CV.v (Value.bool false))] []) (True∧True∧True∧(zz84 w h)∧True∧True∧(zz84 w h)∧True∧True∧(zz84 w h)∧True∧True∧(zz84 w h)∧True∧True∧(zz84 w h)∧True∧True∧True∧(∃(i:Int),qg6 n i∧True∧true=true∧((true=true∧IntKind.i64=IntKind.i64∧w=w)∧(true=true∧IntKind.i64=IntKind.i64∧h=h)∧(zz80 n q)∧(true=true∧0=0∧0=0)∧(true=true∧false=false)∧(true=true∧3075=3075∧0=0)∧(true=true∧IntKind.i64=IntKind.i64∧(0:Int)=i)∧True)∧zz0∧((IntKind.i64=IntKind.i64∧w=w)∧(IntKind.i64=IntKind.i64∧h=h)∧false=false∧(IntKind.u16=IntKind.u16∧(0:Int)=0)∧(IntKind.u16=IntKind.u16∧(0:Int)=0)∧(IntKind.u16=IntKind.u16∧(0:Int)=0)∧(IntKind.u16=IntKind.u16∧(0:Int)=0)∧(IntKind.u16=IntKind.u16∧(0:Int)=0)∧(IntKind.i64=IntKind.i64∧w=w)∧(IntKind.i64=IntKind.i64∧h=h)∧(IntKind.i64=IntKind.i64∧w=w)∧(7175=7175∧imul IntKind.i64 w h=rioN w h)∧(IntKind.i64=IntKind.i64∧w=w)∧(IntKind.i64=IntKind.i64∧h=h)∧(IntKind.i64=IntKind.i64∧w=w)∧(4201479=4201479∧imul IntKind.i64 w h=rioN w h)∧(IntKind.i64=IntKind.i64∧w=w)∧(IntKind.i64=IntKind.i64∧h=h)∧(IntKind.i64=IntKind.i64∧w=w)∧(8395783=8395783∧imul IntKind.i64 w h=rioN w h)∧(IntKind.i64=IntKind.i64∧w=w)∧(IntKind.i64=IntKind.i64∧h=h)∧(IntKind.i64=IntKind.i64∧w=w)∧(12590087=12590087∧imul IntKind.i64 w h=rioN w h)∧(IntKind.i64=IntKind.i64∧w=w)∧(IntKind.i64=IntKind.i64∧h=h)∧(IntKind.i64=IntKind.i64∧w=w)∧(16784391=16784391∧imul IntKind.i64 w h=rioN w h)∧True)∧(1=1∧imul IntKind.i64 w h=rioN w h∧True∧∀(i_1:Nat),ilt (Int.ofNat i_1) (imul IntKind.i64 w h)=true→IntKind.u16=IntKind.u16∧(0:Int)=rioV q i (Int.ofNat i_1) 0)∧(1=1∧imul IntKind.i64 w h=rioN w h∧True∧∀(i_1:Nat),ilt (Int.ofNat i_1) (imul IntKind.i64 w h)=true→IntKind.u16=IntKind.u16∧(0:Int)=rioV q i (Int.ofNat i_1) 1)∧(1=1∧imul IntKind.i64 w h=rioN w h∧True∧∀(i_1:Nat),ilt (Int.ofNat i_1) (imul IntKind.i64 w h)=true→IntKind.u16=IntKind.u16∧(0:Int)=rioV q i (Int.ofNat i_1) 2)∧(1=1∧imul IntKind.i64 w h=rioN w h∧True∧∀(i_1:Nat),ilt (Int.ofNat i_1) (imul IntKind.i64 w h)=true→IntKind.u16=IntKind.u16∧(0:Int)=rioV q i (Int.ofNat i_1) 3)∧(1=1∧imul IntKind.i64 w h=rioN w h∧True∧∀(i_1:Nat),ilt (Int.ofNat i_1) (imul IntKind.i64 w h)=true→IntKind.u16=IntKind.u16∧(0:Int)=rioV q i (Int.ofNat i_1) 4)∧True)∧∀(i:Int),qg6 n i→∀(i_1:Int),i_1=n→True∧ja0 (ilt i i_1) (True∧True∧(ile 0 i=true∧ilt i (rioN w h)=true∧true=true∧true=true∧ile 0 i=true∧ilt i n=true∧true=true∧true=true∧True)∧True∧True∧(ile 0 i=true∧ilt i (rioN w h)=true∧true=true∧true=true∧ile 0 i=true∧ilt i n=true∧true=true∧true=true∧True)∧True∧True∧(ile 0 i=true∧ilt i (rioN w h)=true∧true=true∧true=true∧ile 0 i=true∧ilt i n=true∧true=true∧true=true∧True)∧True∧True∧(ile 0 i=true∧ilt i (rioN w h)=true∧ile 0 i=true∧ilt i (rioN w h)=true∧ile 0 i=true∧ilt i n=true∧ile 0 i=true∧ilt i n=true∧true=true∧true=true∧true=true∧true=true∧True)∧True∧∃(j:Int),qg6 n j∧(True∧true=true∧((true=true∧IntKind.i64=IntKind.i64∧w=w)∧(true=true∧IntKind.i64=IntKind.i64∧h=h)∧(zz80 n q)∧(true=true∧1000000000000000=1000000000000000∧0=0)∧(true=true∧false=false)∧(true=true∧1000000000000001=1000000000000001∧0=0)∧(true=true∧IntKind.i64=IntKind.i64∧iadd IntKind.i64 i 1=j)∧True)∧zz0∧((IntKind.i64=IntKind.i64∧w=w)∧(IntKind.i64=IntKind.i64∧h=h)∧false=false∧(IntKind.u16=IntKind.u16∧(0:Int)=0)∧(IntKind.u16=IntKind.u16∧(0:Int)=0)∧(IntKind.u16=IntKind.u16∧(0:Int)=0)∧(IntKind.u16=IntKind.u16∧(0:Int)=0)∧(IntKind.u16=IntKind.u16∧(0:Int)=0)∧(IntKind.i64=IntKind.i64∧w=w)∧(IntKind.i64=IntKind.i64∧h=h)∧(IntKind.i64=IntKind.i64∧w=w)∧(1000000000000002=1000000000000002∧rioN w h=rioN w h)∧(IntKind.i64=IntKind.i64∧w=w)∧(IntKind.i64=IntKind.i64∧h=h)∧(IntKind.i64=IntKind.i64∧w=w)∧(1000000000000003=1000000000000003∧rioN w h=rioN w h)∧(IntKind.i64=IntKind.i64∧w=w)∧(IntKind.i64=IntKind.i64∧h=h)∧(IntKind.i64=IntKind.i64∧w=w)∧(1000000000000004=1000000000000004∧rioN w h=rioN w h)∧(IntKind.i64=IntKind.i64∧w=w)∧(IntKind.i64=IntKind.i64∧h=h)∧(IntKind.i64=IntKind.i64∧w=w)∧(1000000000000005=1000000000000005∧rioN w h=rioN w h)∧(IntKind.i64=IntKind.i64∧w=w)∧(IntKind.i64=IntKind.i64∧h=h)∧(IntKind.i64=IntKind.i64∧w=w)∧(1000000000000006=1000000000000006∧rioN w h=rioN w h)∧True)∧(1=1∧rioN w h=rioN w h∧True∧∀(i_2:Nat),ilt (Int.ofNat i_2) (rioN w h)=true→IntKind.u16=IntKind.u16∧isel (ieq (Int.ofNat i_2) i) (q i 0) (rioV q i (Int.ofNat i_2) 0)=rioV q j (Int.ofNat i_2) 0)∧(1=1∧rioN w h=rioN w h∧True∧∀(i_2:Nat),ilt (Int.ofNat i_2) (rioN w h)=true→IntKind.u16=IntKind.u16∧isel (ieq (Int.ofNat i_2) i) (q i 1) (rioV q i (Int.ofNat i_2) 1)=rioV q j (Int.ofNat i_2) 1)∧(1=1∧rioN w h=rioN w h∧True∧∀(i_2:Nat),ilt (Int.ofNat i_2) (rioN w h)=true→IntKind.u16=IntKind.u16∧isel (ieq (Int.ofNat i_2) i) (q i 2) (rioV q i (Int.ofNat i_2) 2)=rioV q j (Int.ofNat i_2) 2)∧(1=1∧rioN w h=rioN w h∧True∧∀(i_2:Nat),ilt (Int.ofNat i_2) (rioN w h)=true→IntKind.u16=IntKind.u16∧isel (ieq (Int.ofNat i_2) i) (q i 3) (rioV q i (Int.ofNat i_2) 3)=rioV q j (Int.ofNat i_2) 3)∧(1=1∧rioN w h=rioN w h∧True∧∀(i_2:Nat),ilt (Int.ofNat i_2) (rioN w h)=true→IntKind.u16=IntKind.u16∧isel (ieq (Int.ofNat i_2) i) (q i 4) (rioV q i (Int.ofNat i_2) 4)=rioV q j (Int.ofNat i_2) 4)∧True)∧Nat.le (Nat.succ (ve5 n j)) (ve5 n i)) (True∧True∧V [XV.agg [CV.v (Value.int .i64 w),CV.v (Value.int .i64 h),CV.v (Value.bool false),CV.v (Value.int .u16 0),CV.v (Value.int .u16 0),CV.v (Value.int .u16 0),CV.v (Value.int .u16 0),CV.v (Value.int .u16 0),CV.v (Value.int .i64 w),CV.v (Value.int .i64 h),CV.v (Value.int .i64 w),CV.slc 1 (rioN w h) (QR.Row.fn fun (t:Int) (x:Nat)=>CV.v (Value.int .u16 (rioV q i t 0))),CV.v (Value.int .i64 w),CV.v (Value.int .i64 h),CV.v (Value.int .i64 w),CV.slc 1 (rioN w h) (QR.Row.fn fun (t:Int) (x:Nat)=>CV.v (Value.int .u16 (rioV q i t 1))),CV.v (Value.int .i64 w),CV.v (Value.int .i64 h),CV.v (Value.int .i64 w),CV.slc 1 (rioN w h) (QR.Row.fn fun (t:Int) (x:Nat)=>CV.v (Value.int .u16 (rioV q i t 2))),CV.v (Value.int .i64 w),CV.v (Value.int .i64 h),CV.v (Value.int .i64 w),CV.slc 1 (rioN w h) (QR.Row.fn fun (t:Int) (x:Nat)=>CV.v (Value.int .u16 (rioV q i t 3))),CV.v (Value.int .i64 w),CV.v (Value.int .i64 h),CV.v (Value.int .i64 w),CV.slc 1 (rioN w h) (QR.Row.fn fun (t:Int) (x:Nat)=>CV.v (Value.int .u16 (rioV q i t 4)))],XV.c (CV.v (Value.bool true))] [])))):=by
  delta zz0 zz7 zz16 zz80 zz84
  try delta y15
  try delta qs9
  try delta q29
  generalize @fitB=fitB
  generalize @in64=in64
  generalize @qg6=qg6
  generalize @ve5=ve5
  generalize @rioN=rioN
  generalize @rioV=rioV
  kernel_rfl
end Go.Proofs.YthkidembkknoeaaDoor
namespace Go.Proofs.YthkidembkknoeaaDoor
open Go.RowKit PR QR
set_option linter.unusedVariables false
def ji9 (k i:Int):Prop:=0≤i∧(i=0∨i≤k)
def jt2 (k i:Int):Nat:=(k - i).toNat
def j08 (k i:Int):Prop:=ji9 k i∧i < k
noncomputable def qg8 (md n k t:Int) (q:Int→Nat→Int):QR.Inv where
  ι:=Int
  good i:=ji9 k i
  slots i:=QR.slotsOf Tryd.f47.ntmps [(1,.x (.c (.v (.int .i64 k)))),(2,.x (.c (.v (.int .u16 t)))),(3,.x (.c (.ptr 1000000000000000 0))),(6,.x (.c (.v (.slice none 0 0)))),(7,.x (.c (.own 1000000000000001 i))),(8,.x (.c (.v (.int .i64 i))))]
  blocks i:=[(1000000000000000,.cells [.v (.int .i64 md),.slc 5 n (.fn fun i j=>.v (.int .i64 (q i j)))]),(1000000000000001,.row 5 i (.fn fun p j=>.v (.int .u16 (gpxV md n q t p j))))]
  μ i:=jt2 k i
noncomputable def qg9 (md n k t:Int) (q:Int→Nat→Int) (i:Int):QR.Inv where
  ι:=Nat
  good _:=j08 k i
  slots _:=QR.slotsOf Tryd.f47.ntmps [(1,.x (.c (.v (.int .i64 k)))),(2,.x (.c (.v (.int .u16 t)))),(3,.x (.c (.ptr 1000000000000000 0))),(6,.x (.c (.v (.slice none 0 0)))),(7,.x (.c (.own 1000000000000001 i))),(8,.x (.c (.v (.int .i64 i)))),(10,.x (.c (.ptr 1000000000000002 0)))]
  blocks _:=[(1000000000000000,.cells [.v (.int .i64 md),.slc 5 n (.fn fun i j=>.v (.int .i64 (q i j)))]),(1000000000000002,.cells [.v (.int .i64 (grQ n q i 0)),.v (.int .i64 (grQ n q i 1)),.v (.int .i64 (grQ n q i 2)),.v (.int .i64 (grQ n q i 3)),.v (.int .i64 (grQ n q i 4))]),(1000000000000001,.row 5 i (.fn fun p j=>.v (.int .u16 (gpxV md n q t p j))))]
  μ _:=0
def y18:QR.ja7:=QR.orc [(20,QR.jx6 jj8),(73,qe4)]
def zz8 (fz0:Int) (fz1:Int) (fz2:Int) (fz3:Int→Nat→Int) (fz4:Int) (fz5:Int):Prop:=(∀(bz0:Nat),j08 fz0 fz1→∀(bz1:Int),bz1=gpC (grQ fz2 fz3 fz1 0) (grQ fz2 fz3 fz1 3) (grQ fz2 fz3 fz1 4) fz4→∀(bz2:Int),bz2=gpC (grQ fz2 fz3 fz1 1) (grQ fz2 fz3 fz1 3) (grQ fz2 fz3 fz1 4) fz4→∀(bz3:Int),bz3=gpC (grQ fz2 fz3 fz1 2) (grQ fz2 fz3 fz1 3) (grQ fz2 fz3 fz1 4) fz4→∀(bz4:Int),bz4=gpA (grQ fz2 fz3 fz1 3) (grQ fz2 fz3 fz1 4) fz4→∀(bz5:Int),bz5=gpF (grQ fz2 fz3 fz1 4) fz4→(in16 fz4=true∧True)∧∀(bz6:Int),bz6=gmod fz5 6→(jb8 6=true∧True)∧True∧ja0 (ieq bz6 0) (True∧(ile (jd2 (addZ fz1 1) 10) 140737488355328=true∧True)∧True∧((∃(bz7:Int),ji9 fz0 bz7∧(True∧true=true∧((true=true∧IntKind.i64=IntKind.i64∧fz0=fz0)∧(true=true∧IntKind.u16=IntKind.u16∧fz4=fz4)∧(true=true∧1000000000000000=1000000000000000∧0=0)∧(true=true∧Value.slice Option.none 0 0=Value.slice Option.none 0 0)∧(true=true∧8409091=8409091∧addZ fz1 1=bz7)∧(true=true∧IntKind.i64=IntKind.i64∧iadd IntKind.i64 fz1 1=bz7)∧True)∧((IntKind.i64=IntKind.i64∧fz5=fz5)∧(5=5∧fz2=fz2∧((((True∧∀(bz8:Nat),ilt (Int.ofNat bz8) fz2=true→IntKind.i64=IntKind.i64∧fz3 (Int.ofNat bz8) 0=fz3 (Int.ofNat bz8) 0)∧∀(bz9:Nat),ilt (Int.ofNat bz9) fz2=true→IntKind.i64=IntKind.i64∧fz3 (Int.ofNat bz9) 1=fz3 (Int.ofNat bz9) 1)∧∀(bz10:Nat),ilt (Int.ofNat bz10) fz2=true→IntKind.i64=IntKind.i64∧fz3 (Int.ofNat bz10) 2=fz3 (Int.ofNat bz10) 2)∧∀(bz11:Nat),ilt (Int.ofNat bz11) fz2=true→IntKind.i64=IntKind.i64∧fz3 (Int.ofNat bz11) 3=fz3 (Int.ofNat bz11) 3)∧∀(bz12:Nat),ilt (Int.ofNat bz12) fz2=true→IntKind.i64=IntKind.i64∧fz3 (Int.ofNat bz12) 4=fz3 (Int.ofNat bz12) 4)∧True)∧(5=5∧addZ fz1 1=bz7∧((((True∧∀(bz13:Nat),ilt (Int.ofNat bz13) (addZ fz1 1)=true→IntKind.u16=IntKind.u16∧isel (ilt (Int.ofNat bz13) fz1) (gpxV fz5 fz2 fz3 fz4 (Int.ofNat bz13) 0) (isel (ieq (subZ (Int.ofNat bz13) fz1) 0) 0 0)=gpxV fz5 fz2 fz3 fz4 (Int.ofNat bz13) 0)∧∀(bz14:Nat),ilt (Int.ofNat bz14) (addZ fz1 1)=true→IntKind.u16=IntKind.u16∧isel (ilt (Int.ofNat bz14) fz1) (gpxV fz5 fz2 fz3 fz4 (Int.ofNat bz14) 1) (isel (ieq (subZ (Int.ofNat bz14) fz1) 0) 0 0)=gpxV fz5 fz2 fz3 fz4 (Int.ofNat bz14) 1)∧∀(bz15:Nat),ilt (Int.ofNat bz15) (addZ fz1 1)=true→IntKind.u16=IntKind.u16∧isel (ilt (Int.ofNat bz15) fz1) (gpxV fz5 fz2 fz3 fz4 (Int.ofNat bz15) 2) (isel (ieq (subZ (Int.ofNat bz15) fz1) 0) 0 0)=gpxV fz5 fz2 fz3 fz4 (Int.ofNat bz15) 2)∧∀(bz16:Nat),ilt (Int.ofNat bz16) (addZ fz1 1)=true→IntKind.u16=IntKind.u16∧isel (ilt (Int.ofNat bz16) fz1) (gpxV fz5 fz2 fz3 fz4 (Int.ofNat bz16) 3) (isel (ieq (subZ (Int.ofNat bz16) fz1) 0) 0 0)=gpxV fz5 fz2 fz3 fz4 (Int.ofNat bz16) 3)∧∀(bz17:Nat),ilt (Int.ofNat bz17) (addZ fz1 1)=true→IntKind.u16=IntKind.u16∧isel (ilt (Int.ofNat bz17) fz1) (gpxV fz5 fz2 fz3 fz4 (Int.ofNat bz17) 4) (isel (ieq (subZ (Int.ofNat bz17) fz1) 0) 0 0)=gpxV fz5 fz2 fz3 fz4 (Int.ofNat bz17) 4)∧True)∧Nat.le (Nat.succ (jt2 fz0 bz7)) (jt2 fz0 fz1))∨False)) (True∧ja0 (ieq bz6 1) (True∧(ile (jd2 (addZ fz1 1) 10) 140737488355328=true∧True)∧True∧((∃(bz18:Int),ji9 fz0 bz18∧(True∧true=true∧((true=true∧IntKind.i64=IntKind.i64∧fz0=fz0)∧(true=true∧IntKind.u16=IntKind.u16∧fz4=fz4)∧(true=true∧1000000000000000=1000000000000000∧0=0)∧(true=true∧Value.slice Option.none 0 0=Value.slice Option.none 0 0)∧(true=true∧8409091=8409091∧addZ fz1 1=bz18)∧(true=true∧IntKind.i64=IntKind.i64∧iadd IntKind.i64 fz1 1=bz18)∧True)∧((IntKind.i64=IntKind.i64∧fz5=fz5)∧(5=5∧fz2=fz2∧((((True∧∀(bz19:Nat),ilt (Int.ofNat bz19) fz2=true→IntKind.i64=IntKind.i64∧fz3 (Int.ofNat bz19) 0=fz3 (Int.ofNat bz19) 0)∧∀(bz20:Nat),ilt (Int.ofNat bz20) fz2=true→IntKind.i64=IntKind.i64∧fz3 (Int.ofNat bz20) 1=fz3 (Int.ofNat bz20) 1)∧∀(bz21:Nat),ilt (Int.ofNat bz21) fz2=true→IntKind.i64=IntKind.i64∧fz3 (Int.ofNat bz21) 2=fz3 (Int.ofNat bz21) 2)∧∀(bz22:Nat),ilt (Int.ofNat bz22) fz2=true→IntKind.i64=IntKind.i64∧fz3 (Int.ofNat bz22) 3=fz3 (Int.ofNat bz22) 3)∧∀(bz23:Nat),ilt (Int.ofNat bz23) fz2=true→IntKind.i64=IntKind.i64∧fz3 (Int.ofNat bz23) 4=fz3 (Int.ofNat bz23) 4)∧True)∧(5=5∧addZ fz1 1=bz18∧((((True∧∀(bz24:Nat),ilt (Int.ofNat bz24) (addZ fz1 1)=true→IntKind.u16=IntKind.u16∧isel (ilt (Int.ofNat bz24) fz1) (gpxV fz5 fz2 fz3 fz4 (Int.ofNat bz24) 0) (isel (ieq (subZ (Int.ofNat bz24) fz1) 0) bz1 0)=gpxV fz5 fz2 fz3 fz4 (Int.ofNat bz24) 0)∧∀(bz25:Nat),ilt (Int.ofNat bz25) (addZ fz1 1)=true→IntKind.u16=IntKind.u16∧isel (ilt (Int.ofNat bz25) fz1) (gpxV fz5 fz2 fz3 fz4 (Int.ofNat bz25) 1) (isel (ieq (subZ (Int.ofNat bz25) fz1) 0) bz2 0)=gpxV fz5 fz2 fz3 fz4 (Int.ofNat bz25) 1)∧∀(bz26:Nat),ilt (Int.ofNat bz26) (addZ fz1 1)=true→IntKind.u16=IntKind.u16∧isel (ilt (Int.ofNat bz26) fz1) (gpxV fz5 fz2 fz3 fz4 (Int.ofNat bz26) 2) (isel (ieq (subZ (Int.ofNat bz26) fz1) 0) bz3 0)=gpxV fz5 fz2 fz3 fz4 (Int.ofNat bz26) 2)∧∀(bz27:Nat),ilt (Int.ofNat bz27) (addZ fz1 1)=true→IntKind.u16=IntKind.u16∧isel (ilt (Int.ofNat bz27) fz1) (gpxV fz5 fz2 fz3 fz4 (Int.ofNat bz27) 3) (isel (ieq (subZ (Int.ofNat bz27) fz1) 0) fz4 0)=gpxV fz5 fz2 fz3 fz4 (Int.ofNat bz27) 3)∧∀(bz28:Nat),ilt (Int.ofNat bz28) (addZ fz1 1)=true→IntKind.u16=IntKind.u16∧isel (ilt (Int.ofNat bz28) fz1) (gpxV fz5 fz2 fz3 fz4 (Int.ofNat bz28) 4) (isel (ieq (subZ (Int.ofNat bz28) fz1) 0) fz4 0)=gpxV fz5 fz2 fz3 fz4 (Int.ofNat bz28) 4)∧True)∧Nat.le (Nat.succ (jt2 fz0 bz18)) (jt2 fz0 fz1))∨False)) (True∧ja0 (ieq bz6 2) (∀(bz29:Int),bz29=fz1→True∧ja0 (igt bz29 0) ((true=true∧ilt 0 fz1=true∧True)∧(ile (jd2 (addZ fz1 1) 10) 140737488355328=true∧True)∧True∧((∃(bz30:Int),ji9 fz0 bz30∧(True∧true=true∧((true=true∧IntKind.i64=IntKind.i64∧fz0=fz0)∧(true=true∧IntKind.u16=IntKind.u16∧fz4=fz4)∧(true=true∧1000000000000000=1000000000000000∧0=0)∧(true=true∧Value.slice Option.none 0 0=Value.slice Option.none 0 0)∧(true=true∧8409091=8409091∧addZ fz1 1=bz30)∧(true=true∧IntKind.i64=IntKind.i64∧iadd IntKind.i64 fz1 1=bz30)∧True)∧((IntKind.i64=IntKind.i64∧fz5=fz5)∧(5=5∧fz2=fz2∧((((True∧∀(bz31:Nat),ilt (Int.ofNat bz31) fz2=true→IntKind.i64=IntKind.i64∧fz3 (Int.ofNat bz31) 0=fz3 (Int.ofNat bz31) 0)∧∀(bz32:Nat),ilt (Int.ofNat bz32) fz2=true→IntKind.i64=IntKind.i64∧fz3 (Int.ofNat bz32) 1=fz3 (Int.ofNat bz32) 1)∧∀(bz33:Nat),ilt (Int.ofNat bz33) fz2=true→IntKind.i64=IntKind.i64∧fz3 (Int.ofNat bz33) 2=fz3 (Int.ofNat bz33) 2)∧∀(bz34:Nat),ilt (Int.ofNat bz34) fz2=true→IntKind.i64=IntKind.i64∧fz3 (Int.ofNat bz34) 3=fz3 (Int.ofNat bz34) 3)∧∀(bz35:Nat),ilt (Int.ofNat bz35) fz2=true→IntKind.i64=IntKind.i64∧fz3 (Int.ofNat bz35) 4=fz3 (Int.ofNat bz35) 4)∧True)∧(5=5∧addZ fz1 1=bz30∧((((True∧∀(bz36:Nat),ilt (Int.ofNat bz36) (addZ fz1 1)=true→IntKind.u16=IntKind.u16∧isel (ilt (Int.ofNat bz36) fz1) (gpxV fz5 fz2 fz3 fz4 (Int.ofNat bz36) 0) (isel (ieq (subZ (Int.ofNat bz36) fz1) 0) (gpxV fz5 fz2 fz3 fz4 0 0) 0)=gpxV fz5 fz2 fz3 fz4 (Int.ofNat bz36) 0)∧∀(bz37:Nat),ilt (Int.ofNat bz37) (addZ fz1 1)=true→IntKind.u16=IntKind.u16∧isel (ilt (Int.ofNat bz37) fz1) (gpxV fz5 fz2 fz3 fz4 (Int.ofNat bz37) 1) (isel (ieq (subZ (Int.ofNat bz37) fz1) 0) (gpxV fz5 fz2 fz3 fz4 0 1) 0)=gpxV fz5 fz2 fz3 fz4 (Int.ofNat bz37) 1)∧∀(bz38:Nat),ilt (Int.ofNat bz38) (addZ fz1 1)=true→IntKind.u16=IntKind.u16∧isel (ilt (Int.ofNat bz38) fz1) (gpxV fz5 fz2 fz3 fz4 (Int.ofNat bz38) 2) (isel (ieq (subZ (Int.ofNat bz38) fz1) 0) (gpxV fz5 fz2 fz3 fz4 0 2) 0)=gpxV fz5 fz2 fz3 fz4 (Int.ofNat bz38) 2)∧∀(bz39:Nat),ilt (Int.ofNat bz39) (addZ fz1 1)=true→IntKind.u16=IntKind.u16∧isel (ilt (Int.ofNat bz39) fz1) (gpxV fz5 fz2 fz3 fz4 (Int.ofNat bz39) 3) (isel (ieq (subZ (Int.ofNat bz39) fz1) 0) (gpxV fz5 fz2 fz3 fz4 0 3) 0)=gpxV fz5 fz2 fz3 fz4 (Int.ofNat bz39) 3)∧∀(bz40:Nat),ilt (Int.ofNat bz40) (addZ fz1 1)=true→IntKind.u16=IntKind.u16∧isel (ilt (Int.ofNat bz40) fz1) (gpxV fz5 fz2 fz3 fz4 (Int.ofNat bz40) 4) (isel (ieq (subZ (Int.ofNat bz40) fz1) 0) (gpxV fz5 fz2 fz3 fz4 0 4) 0)=gpxV fz5 fz2 fz3 fz4 (Int.ofNat bz40) 4)∧True)∧Nat.le (Nat.succ (jt2 fz0 bz30)) (jt2 fz0 fz1))∨False)) ((ile (jd2 (addZ fz1 1) 10) 140737488355328=true∧True)∧True∧((∃(bz41:Int),ji9 fz0 bz41∧(True∧true=true∧((true=true∧IntKind.i64=IntKind.i64∧fz0=fz0)∧(true=true∧IntKind.u16=IntKind.u16∧fz4=fz4)∧(true=true∧1000000000000000=1000000000000000∧0=0)∧(true=true∧Value.slice Option.none 0 0=Value.slice Option.none 0 0)∧(true=true∧8409091=8409091∧addZ fz1 1=bz41)∧(true=true∧IntKind.i64=IntKind.i64∧iadd IntKind.i64 fz1 1=bz41)∧True)∧((IntKind.i64=IntKind.i64∧fz5=fz5)∧(5=5∧fz2=fz2∧((((True∧∀(bz42:Nat),ilt (Int.ofNat bz42) fz2=true→IntKind.i64=IntKind.i64∧fz3 (Int.ofNat bz42) 0=fz3 (Int.ofNat bz42) 0)∧∀(bz43:Nat),ilt (Int.ofNat bz43) fz2=true→IntKind.i64=IntKind.i64∧fz3 (Int.ofNat bz43) 1=fz3 (Int.ofNat bz43) 1)∧∀(bz44:Nat),ilt (Int.ofNat bz44) fz2=true→IntKind.i64=IntKind.i64∧fz3 (Int.ofNat bz44) 2=fz3 (Int.ofNat bz44) 2)∧∀(bz45:Nat),ilt (Int.ofNat bz45) fz2=true→IntKind.i64=IntKind.i64∧fz3 (Int.ofNat bz45) 3=fz3 (Int.ofNat bz45) 3)∧∀(bz46:Nat),ilt (Int.ofNat bz46) fz2=true→IntKind.i64=IntKind.i64∧fz3 (Int.ofNat bz46) 4=fz3 (Int.ofNat bz46) 4)∧True)∧(5=5∧addZ fz1 1=bz41∧((((True∧∀(bz47:Nat),ilt (Int.ofNat bz47) (addZ fz1 1)=true→IntKind.u16=IntKind.u16∧isel (ilt (Int.ofNat bz47) fz1) (gpxV fz5 fz2 fz3 fz4 (Int.ofNat bz47) 0) (isel (ieq (subZ (Int.ofNat bz47) fz1) 0) bz1 0)=gpxV fz5 fz2 fz3 fz4 (Int.ofNat bz47) 0)∧∀(bz48:Nat),ilt (Int.ofNat bz48) (addZ fz1 1)=true→IntKind.u16=IntKind.u16∧isel (ilt (Int.ofNat bz48) fz1) (gpxV fz5 fz2 fz3 fz4 (Int.ofNat bz48) 1) (isel (ieq (subZ (Int.ofNat bz48) fz1) 0) bz2 0)=gpxV fz5 fz2 fz3 fz4 (Int.ofNat bz48) 1)∧∀(bz49:Nat),ilt (Int.ofNat bz49) (addZ fz1 1)=true→IntKind.u16=IntKind.u16∧isel (ilt (Int.ofNat bz49) fz1) (gpxV fz5 fz2 fz3 fz4 (Int.ofNat bz49) 2) (isel (ieq (subZ (Int.ofNat bz49) fz1) 0) bz3 0)=gpxV fz5 fz2 fz3 fz4 (Int.ofNat bz49) 2)∧∀(bz50:Nat),ilt (Int.ofNat bz50) (addZ fz1 1)=true→IntKind.u16=IntKind.u16∧isel (ilt (Int.ofNat bz50) fz1) (gpxV fz5 fz2 fz3 fz4 (Int.ofNat bz50) 3) (isel (ieq (subZ (Int.ofNat bz50) fz1) 0) bz4 0)=gpxV fz5 fz2 fz3 fz4 (Int.ofNat bz50) 3)∧∀(bz51:Nat),ilt (Int.ofNat bz51) (addZ fz1 1)=true→IntKind.u16=IntKind.u16∧isel (ilt (Int.ofNat bz51) fz1) (gpxV fz5 fz2 fz3 fz4 (Int.ofNat bz51) 4) (isel (ieq (subZ (Int.ofNat bz51) fz1) 0) bz5 0)=gpxV fz5 fz2 fz3 fz4 (Int.ofNat bz51) 4)∧True)∧Nat.le (Nat.succ (jt2 fz0 bz41)) (jt2 fz0 fz1))∨False))) ((ile (jd2 (addZ fz1 1) 10) 140737488355328=true∧True)∧True∧((∃(bz52:Int),ji9 fz0 bz52∧(True∧true=true∧((true=true∧IntKind.i64=IntKind.i64∧fz0=fz0)∧(true=true∧IntKind.u16=IntKind.u16∧fz4=fz4)∧(true=true∧1000000000000000=1000000000000000∧0=0)∧(true=true∧Value.slice Option.none 0 0=Value.slice Option.none 0 0)∧(true=true∧8409091=8409091∧addZ fz1 1=bz52)∧(true=true∧IntKind.i64=IntKind.i64∧iadd IntKind.i64 fz1 1=bz52)∧True)∧((IntKind.i64=IntKind.i64∧fz5=fz5)∧(5=5∧fz2=fz2∧((((True∧∀(bz53:Nat),ilt (Int.ofNat bz53) fz2=true→IntKind.i64=IntKind.i64∧fz3 (Int.ofNat bz53) 0=fz3 (Int.ofNat bz53) 0)∧∀(bz54:Nat),ilt (Int.ofNat bz54) fz2=true→IntKind.i64=IntKind.i64∧fz3 (Int.ofNat bz54) 1=fz3 (Int.ofNat bz54) 1)∧∀(bz55:Nat),ilt (Int.ofNat bz55) fz2=true→IntKind.i64=IntKind.i64∧fz3 (Int.ofNat bz55) 2=fz3 (Int.ofNat bz55) 2)∧∀(bz56:Nat),ilt (Int.ofNat bz56) fz2=true→IntKind.i64=IntKind.i64∧fz3 (Int.ofNat bz56) 3=fz3 (Int.ofNat bz56) 3)∧∀(bz57:Nat),ilt (Int.ofNat bz57) fz2=true→IntKind.i64=IntKind.i64∧fz3 (Int.ofNat bz57) 4=fz3 (Int.ofNat bz57) 4)∧True)∧(5=5∧addZ fz1 1=bz52∧((((True∧∀(bz58:Nat),ilt (Int.ofNat bz58) (addZ fz1 1)=true→IntKind.u16=IntKind.u16∧isel (ilt (Int.ofNat bz58) fz1) (gpxV fz5 fz2 fz3 fz4 (Int.ofNat bz58) 0) (isel (ieq (subZ (Int.ofNat bz58) fz1) 0) bz1 0)=gpxV fz5 fz2 fz3 fz4 (Int.ofNat bz58) 0)∧∀(bz59:Nat),ilt (Int.ofNat bz59) (addZ fz1 1)=true→IntKind.u16=IntKind.u16∧isel (ilt (Int.ofNat bz59) fz1) (gpxV fz5 fz2 fz3 fz4 (Int.ofNat bz59) 1) (isel (ieq (subZ (Int.ofNat bz59) fz1) 0) bz2 0)=gpxV fz5 fz2 fz3 fz4 (Int.ofNat bz59) 1)∧∀(bz60:Nat),ilt (Int.ofNat bz60) (addZ fz1 1)=true→IntKind.u16=IntKind.u16∧isel (ilt (Int.ofNat bz60) fz1) (gpxV fz5 fz2 fz3 fz4 (Int.ofNat bz60) 2) (isel (ieq (subZ (Int.ofNat bz60) fz1) 0) bz3 0)=gpxV fz5 fz2 fz3 fz4 (Int.ofNat bz60) 2)∧∀(bz61:Nat),ilt (Int.ofNat bz61) (addZ fz1 1)=true→IntKind.u16=IntKind.u16∧isel (ilt (Int.ofNat bz61) fz1) (gpxV fz5 fz2 fz3 fz4 (Int.ofNat bz61) 3) (isel (ieq (subZ (Int.ofNat bz61) fz1) 0) bz4 0)=gpxV fz5 fz2 fz3 fz4 (Int.ofNat bz61) 3)∧∀(bz62:Nat),ilt (Int.ofNat bz62) (addZ fz1 1)=true→IntKind.u16=IntKind.u16∧isel (ilt (Int.ofNat bz62) fz1) (gpxV fz5 fz2 fz3 fz4 (Int.ofNat bz62) 4) (isel (ieq (subZ (Int.ofNat bz62) fz1) 0) bz5 0)=gpxV fz5 fz2 fz3 fz4 (Int.ofNat bz62) 4)∧True)∧Nat.le (Nat.succ (jt2 fz0 bz52)) (jt2 fz0 fz1))∨False)))))
def zz126 (fz0:Int) (fz1:Int) (fz2:Int) (fz3:Int) (fz4:Int) (fz5:Int→Nat→Int):Prop:=((∃(bz0:Nat),j08 fz0 fz1∧True∧true=true∧(zz74 fz0 fz2 fz1)∧(zz38 fz3 fz4 fz5)∧((IntKind.i64=IntKind.i64∧(0:Int)=grQ fz4 fz5 fz1 0)∧(IntKind.i64=IntKind.i64∧(0:Int)=grQ fz4 fz5 fz1 1)∧(IntKind.i64=IntKind.i64∧(0:Int)=grQ fz4 fz5 fz1 2)∧(IntKind.i64=IntKind.i64∧(0:Int)=grQ fz4 fz5 fz1 3)∧(IntKind.i64=IntKind.i64∧(0:Int)=grQ fz4 fz5 fz1 4)∧True)∧(zz43 fz1 fz3 fz4 fz5 fz2)∧True)∨False)
set_option maxRecDepth 100000 in
theorem zb5 (md n k t:Int) (q:Int→Nat→Int) (V:List QR.XV→List (List QR.CV)→Prop):QR.ja5 Tryd.prog (y18) (fun n_=>bif Nat.beq n_ 3 then some (.ownF [(7,none,5)] fun _=>[qg8 md n k t q]) else bif Nat.beq n_ 700011 then some (.cutF fun g=>[qg9 md n k t q (g 8)]) else none) (Tryd.f47.body.getD .skip) Tryd.f47.results.toList Tryd.f47.ntmps [.x (.agg [.v (.int .i64 md),.slc 5 n (.fn fun i j=>.v (.int .i64 (q i j)))]),.x (.c (.v (.int .i64 k))),.x (.c (.v (.int .u16 t)))] V=(True∧True∧True∧((∃(i:Int),ji9 k i∧True∧true=true∧((true=true∧IntKind.i64=IntKind.i64∧k=k)∧(true=true∧IntKind.u16=IntKind.u16∧t=t)∧(true=true∧0=0∧0=0)∧(true=true∧Value.slice Option.none 0 0=Value.slice Option.none 0 0)∧(true=true∧4188160=4188160∧0=i)∧(true=true∧IntKind.i64=IntKind.i64∧(0:Int)=i)∧True)∧(zz38 md n q)∧(5=5∧0=i∧((((True∧∀(i:Nat),ilt (Int.ofNat i) 0=true→Value.tuple #[]=Value.int .u16 (gpxV md n q t (Int.ofNat i) 0))∧∀(i:Nat),ilt (Int.ofNat i) 0=true→Value.tuple #[]=Value.int .u16 (gpxV md n q t (Int.ofNat i) 1))∧∀(i:Nat),ilt (Int.ofNat i) 0=true→Value.tuple #[]=Value.int .u16 (gpxV md n q t (Int.ofNat i) 2))∧∀(i:Nat),ilt (Int.ofNat i) 0=true→Value.tuple #[]=Value.int .u16 (gpxV md n q t (Int.ofNat i) 3))∧∀(i:Nat),ilt (Int.ofNat i) 0=true→Value.tuple #[]=Value.int .u16 (gpxV md n q t (Int.ofNat i) 4))∧True)∨False)∧(∀(i:Int),ji9 k i→True∧ja0 (ilt i k) (True∧∀(i_1:Int),i_1=n→True∧ja0 (igt i_1 0) (∀(i_2:Int),i_2=n→(ine i_2 0=true∧True)∧True∧(∀(i_3:Int),i_3=n→True∧ja0 (ilt (irem i i_2) i_3) ((ile 0 (irem i i_2)=true∧ilt (irem i i_2) n=true∧True)∧((∃(i_4:Nat),j08 k i∧True∧true=true∧(zz74 k t i)∧(zz38 md n q)∧((IntKind.i64=IntKind.i64∧q (irem i i_2) 0=grQ n q i 0)∧(IntKind.i64=IntKind.i64∧q (irem i i_2) 1=grQ n q i 1)∧(IntKind.i64=IntKind.i64∧q (irem i i_2) 2=grQ n q i 2)∧(IntKind.i64=IntKind.i64∧q (irem i i_2) 3=grQ n q i 3)∧(IntKind.i64=IntKind.i64∧q (irem i i_2) 4=grQ n q i 4)∧True)∧(zz43 i md n q t)∧True)∨False)) (zz126 k i t md n q))∧(zz8 k i n q t md)∧True) (True∧(∀(i_2:Int),i_2=n→True∧ja0 (ilt i i_2) ((ile 0 i=true∧ilt i n=true∧True)∧((∃(i_3:Nat),j08 k i∧True∧true=true∧(zz74 k t i)∧(zz38 md n q)∧((IntKind.i64=IntKind.i64∧q i 0=grQ n q i 0)∧(IntKind.i64=IntKind.i64∧q i 1=grQ n q i 1)∧(IntKind.i64=IntKind.i64∧q i 2=grQ n q i 2)∧(IntKind.i64=IntKind.i64∧q i 3=grQ n q i 3)∧(IntKind.i64=IntKind.i64∧q i 4=grQ n q i 4)∧True)∧(zz43 i md n q t)∧True)∨False)) (zz126 k i t md n q))∧(zz8 k i n q t md)∧True)) (True∧True∧V [XV.c (CV.fresh 5 i (zz41 md n q t))] []))∧True):=by
  delta zz8 zz38 zz41 zz43 zz74 zz126
  try delta y18
  try delta qg8
  try delta qg9
  try delta jj8
  try delta qe4
  generalize @gmod=gmod
  generalize @gpA=gpA
  generalize @gpC=gpC
  generalize @gpF=gpF
  generalize @j08=j08
  generalize @ji9=ji9
  generalize @jt2=jt2
  generalize @gpxV=gpxV
  generalize @grQ=grQ
  generalize @in16=in16
  generalize @jb8=jb8
  kernel_rfl
end Go.Proofs.YthkidembkknoeaaDoor
namespace Go.Proofs.YthkidembkknoeaaDoor
open Go.RowKit PR QR
set_option linter.unusedVariables false
def y17:QR.ja7:=QR.orc [(20,QR.jx6 jj8),(47,vo8),(27,qx6),(48,vo7)]
set_option maxRecDepth 100000 in
theorem zb3 (W H S md n:Int) (q:Int→Nat→Int) (x0 y0 x1 y1 t:Int) (V:List QR.XV→List (List QR.CV)→Prop):QR.ja5 Tryd.prog (y17) (QR.ja4) (Tryd.f26.body.getD .skip) Tryd.f26.results.toList Tryd.f26.ntmps [.x (.agg [.v (.int .i64 W),.v (.int .i64 H),.v (.int .i64 S),.v (.int .i64 md),.slc 5 n (.fn fun i j=>.v (.int .i64 (q i j)))]),.x (.agg [.v (.int .i64 x0),.v (.int .i64 y0),.v (.int .i64 x1),.v (.int .i64 y1)]),.x (.c (.v (.int .u16 t)))] V=(True∧∀(i:Int),i=gmod W 5→∀(i_1:Int),i_1=gmod H 4→(jb8 4=true∧jb8 5=true∧True)∧∀(i_2:Int),i_2=gmod (iquo IntKind.i64 W 5) 3→(jb8 3=true∧true=true∧True)∧ja0 (ieq i_2 0) (True∧(intRow IntKind.i64 5 n (QR.Row.fn fun (i:Int) (j:Nat)=>CV.v (Value.int .i64 (q i j)))∧ile 0 n=true∧in16 t=true∧ile (imul IntKind.i64 (isub IntKind.i64 x1 x0) (isub IntKind.i64 y1 y0)) 1099511627776=true∧True)∧∀(i:Int),i=gmod S 2→(jb8 2=true∧True)∧ja0 (ieq i 0) ((true=true∧ilt 0 (jc6 (imul IntKind.i64 (isub IntKind.i64 x1 x0) (isub IntKind.i64 y1 y0)) 0)=true∧True)∧True∧V [XV.agg [CV.v (Value.int .i64 (isub IntKind.i64 x1 x0)),CV.v (Value.int .i64 (isub IntKind.i64 y1 y0)),CV.v (Value.bool true),CV.v (Value.int .u16 (gpxV md n (fun (i:Int) (j:Nat)=>q i j) t 0 0)),CV.v (Value.int .u16 (gpxV md n (fun (i:Int) (j:Nat)=>q i j) t 0 1)),CV.v (Value.int .u16 (gpxV md n (fun (i:Int) (j:Nat)=>q i j) t 0 2)),CV.v (Value.int .u16 (gpxV md n (fun (i:Int) (j:Nat)=>q i j) t 0 3)),CV.v (Value.int .u16 (gpxV md n (fun (i:Int) (j:Nat)=>q i j) t 0 4)),CV.v (Value.int .i64 0),CV.v (Value.int .i64 0),CV.v (Value.int .i64 0),CV.slc 1 0 (QR.Row.fn fun (i:Int) (x:Nat)=>CV.v (Value.int .u16 0)),CV.v (Value.int .i64 0),CV.v (Value.int .i64 0),CV.v (Value.int .i64 0),CV.slc 1 0 (QR.Row.fn fun (i:Int) (x:Nat)=>CV.v (Value.int .u16 0)),CV.v (Value.int .i64 0),CV.v (Value.int .i64 0),CV.v (Value.int .i64 0),CV.slc 1 0 (QR.Row.fn fun (i:Int) (x:Nat)=>CV.v (Value.int .u16 0)),CV.v (Value.int .i64 0),CV.v (Value.int .i64 0),CV.v (Value.int .i64 0),CV.slc 1 0 (QR.Row.fn fun (i:Int) (x:Nat)=>CV.v (Value.int .u16 0)),CV.v (Value.int .i64 0),CV.v (Value.int .i64 0),CV.v (Value.int .i64 0),CV.slc 1 0 (QR.Row.fn fun (i:Int) (x:Nat)=>CV.v (Value.int .u16 0))]] []) ((zz143 x1 x0 y1 y0 md n q t)∧True∧True∧V (zz14 x1 x0 y1 y0 md n q t) [])) ((intRow IntKind.i64 5 n (QR.Row.fn fun (i:Int) (j:Nat)=>CV.v (Value.int .i64 (q i j)))∧ile 0 n=true∧in16 t=true∧ile (imul IntKind.i64 (iadd IntKind.i64 1 i) (iadd IntKind.i64 1 i_1)) 1099511627776=true∧True)∧∀(i_3:Int),i_3=gmod S 2→(jb8 2=true∧True)∧ja0 (ieq i_3 0) ((true=true∧ilt 0 (jc6 (imul IntKind.i64 (iadd IntKind.i64 1 i) (iadd IntKind.i64 1 i_1)) 0)=true∧True)∧True∧V [XV.agg [CV.v (Value.int .i64 (iadd IntKind.i64 1 i)),CV.v (Value.int .i64 (iadd IntKind.i64 1 i_1)),CV.v (Value.bool true),CV.v (Value.int .u16 (gpxV md n (fun (i:Int) (j:Nat)=>q i j) t 0 0)),CV.v (Value.int .u16 (gpxV md n (fun (i:Int) (j:Nat)=>q i j) t 0 1)),CV.v (Value.int .u16 (gpxV md n (fun (i:Int) (j:Nat)=>q i j) t 0 2)),CV.v (Value.int .u16 (gpxV md n (fun (i:Int) (j:Nat)=>q i j) t 0 3)),CV.v (Value.int .u16 (gpxV md n (fun (i:Int) (j:Nat)=>q i j) t 0 4)),CV.v (Value.int .i64 0),CV.v (Value.int .i64 0),CV.v (Value.int .i64 0),CV.slc 1 0 (QR.Row.fn fun (i:Int) (x:Nat)=>CV.v (Value.int .u16 0)),CV.v (Value.int .i64 0),CV.v (Value.int .i64 0),CV.v (Value.int .i64 0),CV.slc 1 0 (QR.Row.fn fun (i:Int) (x:Nat)=>CV.v (Value.int .u16 0)),CV.v (Value.int .i64 0),CV.v (Value.int .i64 0),CV.v (Value.int .i64 0),CV.slc 1 0 (QR.Row.fn fun (i:Int) (x:Nat)=>CV.v (Value.int .u16 0)),CV.v (Value.int .i64 0),CV.v (Value.int .i64 0),CV.v (Value.int .i64 0),CV.slc 1 0 (QR.Row.fn fun (i:Int) (x:Nat)=>CV.v (Value.int .u16 0)),CV.v (Value.int .i64 0),CV.v (Value.int .i64 0),CV.v (Value.int .i64 0),CV.slc 1 0 (QR.Row.fn fun (i:Int) (x:Nat)=>CV.v (Value.int .u16 0))]] []) ((zz142 i i_1 md n q t)∧True∧True∧V (zz15 i i_1 md n q t) []))):=by
  delta zz14 zz15 zz142 zz143
  try delta y17
  try delta jj8
  try delta vo8
  try delta qx6
  try delta vo7
  generalize @gmod=gmod
  generalize @gpxV=gpxV
  generalize @jo0=jo0
  generalize @jc4=jc4
  generalize @in16=in16
  generalize @in64=in64
  generalize @intRow=intRow
  generalize @jb8=jb8
  kernel_rfl
end Go.Proofs.YthkidembkknoeaaDoor
namespace Go.Proofs.YthkidembkknoeaaDoor
open Go.RowKit PR QR
set_option linter.unusedVariables false
set_option linter.unusedSimpArgs false
set_option maxRecDepth 20000
theorem yx1:ja6 61 q29:=by
  intro al ans h hq
  unfold q29 at h
  split at h <;> try (simp at h;done)
  rename_i w h
  simp only [Option.some.injEq] at h
  subst h
  have hq:=asked hq
  refine QR.ja2 (O:=(QR.orc [])) QR.jb4 mixed (QR.ja4) Tryd.func61 (by kernel_rfl) (by kernel_rfl) (by simp) ?_
  rw [yj5]
  obtain ⟨iw,ih,_⟩:=hq
  have iw:=qk6.1 iw
  simp only [jb5,eqXs,eqX,eqo,eqLo,eqc,veq,eqUs,ja1,ige,ile,decide_eq_true_eq,decide_eq_false_iff_not,true_and,and_true]
  refine ⟨fun h1=>⟨fun h2=>⟨fun h3=>⟨vd7 (by omega),?_⟩,fun h3=>?_⟩,fun h2=>?_⟩,fun h1=>?_⟩
  · rw [vn1 (by omega) (by omega),Bool.eq_iff_iff,decide_eq_true_eq,jg6,← v06 (by omega) (by omega)]
    exact ⟨fun k=>⟨by omega,by omega,k⟩,fun k=>k.2.2⟩
  · refine (decide_eq_false fun k=>?_).symm
    have:=Int.mul_le_mul (Int.le_refl w) k.2.1 (by decide) (by omega)
    omega
  · exact (decide_eq_false fun k=>by omega).symm
  · exact (decide_eq_false fun k=>by omega).symm
end Go.Proofs.YthkidembkknoeaaDoor
namespace Go.Proofs.YthkidembkknoeaaDoor
open Go.RowKit PR QR
set_option linter.unusedVariables false
set_option linter.unusedSimpArgs false
set_option maxRecDepth 20000
theorem vm8 (a b c d:Int):reB a b c d=(bnot (rvB a b c d) || ige a c || ige b d):=by
  rw [Bool.eq_iff_iff]
  unfold reB rvB bnot ige
  simp only [Bool.or_eq_true,Bool.not_eq_true',decide_eq_true_eq,decide_eq_false_iff_not]
  omega
theorem yw6:ja6 84 q27:=by
  intro al ans h hq
  unfold q27 at h
  split at h <;> try (simp at h;done)
  rename_i a
  simp only [Option.some.injEq] at h
  subst h
  have hq:=asked hq
  refine QR.ja2 (O:=(QR.orc [])) QR.jb4 mixed (QR.ja4) Tryd.func84 (by kernel_rfl) (by kernel_rfl) (by simp) ?_
  rw [yj1]
  unfold jx7
  simp only [ja1,jb5,eqXs,eqX,eqo,eqLo,eqc,veq,eqUs,ile,decide_eq_true_eq,decide_eq_false_iff_not,true_and,and_true,forall_eq]
  repeat' (first | intro _ | constructor)
  all_goals first | (exact (decide_eq_false (by omega)).symm) | (exact (decide_eq_true (by omega)).symm) | (rw [eq_comm,Bool.eq_iff_iff,decide_eq_true_eq,decide_eq_true_eq];omega)
theorem yw7 (a b c d:Int):rvB a b c d=(jx7 a && (jx7 b && (jx7 c && jx7 d))):=by
  rw [Bool.eq_iff_iff]
  unfold rvB jx7
  simp only [Bool.and_eq_true,decide_eq_true_eq]
theorem v05:ja6 78 jp0:=by
  intro al ans h hq
  unfold jp0 at h
  split at h <;> try (simp at h;done)
  rename_i a b c d
  simp only [Option.some.injEq] at h
  subst h
  have hq:=asked hq
  refine QR.ja2 (O:=v00) (QR.ja3 yw6 QR.jb4) mixed (QR.ja4) Tryd.func78 (by kernel_rfl) (by kernel_rfl) (by simp) ?_
  rw [vs8]
  have e:=yw7 a b c d
  cases h1:jx7 a <;> cases h2:jx7 b <;> cases h3:jx7 c <;> simp [ja1,jb5,eqXs,eqX,eqo,eqLo,eqc,veq,eqUs,h1,h2,h3,e]
theorem yj3:ja6 65 jp0:=by
  intro al ans h hq
  unfold jp0 at h
  split at h <;> try (simp at h;done)
  rename_i a b c d
  simp only [Option.some.injEq] at h
  subst h
  have hq:=asked hq
  refine QR.ja2 (O:=(QR.orc [])) QR.jb4 mixed (QR.ja4) Tryd.func65 (by kernel_rfl) (by kernel_rfl) (by simp) ?_
  rw [v03]
  unfold rvB
  simp only [ja1,jb5,eqXs,eqX,eqo,eqLo,eqc,veq,eqUs,ilt,igt,ile,ige,decide_eq_true_eq,decide_eq_false_iff_not,true_and,and_true,forall_eq]
  repeat' (first | intro _ | constructor)
  all_goals first | (exact (decide_eq_false (by omega)).symm) | (exact (decide_eq_true (by omega)).symm) | (rw [eq_comm,Bool.eq_iff_iff,decide_eq_true_eq,decide_eq_true_eq];omega)
theorem vm9:ja6 58 jl0:=by
  intro al ans h hq
  unfold jl0 at h
  split at h <;> try (simp at h;done)
  rename_i a b c d
  simp only [Option.some.injEq] at h
  subst h
  have hq:=asked hq
  refine QR.ja2 (O:=v01) (QR.ja3 v05 QR.jb4) mixed (QR.ja4) Tryd.func58 (by kernel_rfl) (by kernel_rfl) (by simp) ?_
  rw [v02]
  have e:=vm8 a b c d
  cases h1:bnot (rvB a b c d) <;> cases h2:ige a c <;> simp [ja1,jb5,eqXs,eqX,eqo,eqLo,eqc,veq,eqUs,h1,h2,e]
theorem yj4:ja6 37 jl0:=by
  intro al ans h hq
  unfold jl0 at h
  split at h <;> try (simp at h;done)
  rename_i a b c d
  simp only [Option.some.injEq] at h
  subst h
  have hq:=asked hq
  refine QR.ja2 (O:=yw5) (QR.ja3 yj3 QR.jb4) mixed (QR.ja4) Tryd.func37 (by kernel_rfl) (by kernel_rfl) (by simp) ?_
  rw [v04]
  have e:=vm8 a b c d
  cases h1:bnot (rvB a b c d) <;> cases h2:ige a c <;> simp [ja1,jb5,eqXs,eqX,eqo,eqLo,eqc,veq,eqUs,h1,h2,e]
theorem yw8 {a b c d:Int} (h:reB a b c d=false):imul .i64 (isub .i64 c a) (isub .i64 d b)=(c - a) * (d - b):=by
  have h:=re_f.1 h
  unfold F30 at h
  have e1:isub .i64 c a=c - a:=by unfold isub;exact IntWalk.i64_in _ (by omega)
  have e2:isub .i64 d b=d - b:=by unfold isub;exact IntWalk.i64_in _ (by omega)
  rw [e1,e2]
  have p1:=Int.mul_nonneg (show 0≤c - a by omega) (show 0≤d - b by omega)
  have p2:=Int.mul_le_mul (show c - a≤2147483648 by omega) (show d - b≤2147483648 by omega) (by omega) (by decide)
  unfold imul
  exact IntWalk.i64_in _ (by omega)
theorem yw9:ja6 56 q28:=by
  intro al ans h hq
  unfold q28 at h
  split at h <;> try (simp at h;done)
  rename_i a b c d
  simp only [Option.some.injEq] at h
  subst h
  have hq:=asked hq
  refine QR.ja2 (O:=o_re) (QR.ja3 vm9 QR.jb4) mixed (QR.ja4) Tryd.func56 (by kernel_rfl) (by kernel_rfl) (by simp) ?_
  rw [yj2]
  have e:raV a b c d=if reB a b c d=true then 0 else (c - a) * (d - b):=rfl
  cases h:reB a b c d
  · simp [ja1,jb5,eqXs,eqX,eqo,eqLo,eqc,veq,eqUs,e,h,yw8 h]
  · simp [ja1,jb5,eqXs,eqX,eqo,eqLo,eqc,veq,eqUs,e,h]
end Go.Proofs.YthkidembkknoeaaDoor
