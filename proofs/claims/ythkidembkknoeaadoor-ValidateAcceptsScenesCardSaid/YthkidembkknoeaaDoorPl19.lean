import Derived.Test.YthkidembkknoeaaDoorPl11
import Derived.Test.YthkidembkknoeaaDoorPl15
import Derived.Test.YthkidembkknoeaaDoorPl18
import Derived.Test.YthkidembkknoeaaDoorPl14
import Derived.Test.YthkidembkknoeaaDoorPl10
import Derived.Test.YthkidembkknoeaaDoorPl12
import Derived.RangeFuncNested
import Derived.RangeFuncBound
import Derived.RangeFuncCalls
import Derived.RangeFuncLeaves
import Derived.Shelf.Abstract
import Derived.Shelf.RegionOpen
import Derived.WalkKit
import Derived.OwnWalkIn
import Derived.TacticsInMore
import Derived.LoopNIn
import Derived.LoopIn
namespace Go.Proofs.YthkidembkknoeaaDoor
open Go.RowKit PR QR
set_option linter.unusedVariables false
set_option linter.unusedSimpArgs false
set_option maxRecDepth 20000
def imFt (m:Im):Int:=bif fitB m.w m.h then (bif imF m then 0 else 7) else 6
def vaW (m:Im):Int:=bif m.sol then 1 else m.w
def vaH (m:Im):Int:=bif m.sol then 1 else m.h
def q48:List AV->Option QR.Ans
 | [.ref 0 l]=>match jj7 l with
  | some (m,A)=>some ⟨[.c (.v (.int .i64 (imFt m)))],[imC m],imG m :: A⟩
  | none=>none
 | _=>none
def q49:List AV->Option QR.Ans
 | [.ref 0 l]=>match jj7 l with
  | some (m,A)=>some ⟨[.agg [.v (.int .i64 0),.v (.int .i64 0),.v (.int .i64 m.w),.v (.int .i64 m.h)]],[imC m],A⟩
  | none=>none
 | _=>none
def qj3:List AV->Option QR.Ans
 | [.ref 0 l]=>match jj7 l with
  | some (m,A)=>some ⟨[.agg [.v (.int .i64 0),.v (.int .i64 0),.v (.int .i64 (vaW m)),.v (.int .i64 (vaH m))]],[imC m],A⟩
  | none=>none
 | _=>none
def qj4:List AV->Option QR.Ans
 | [.ref 0 l,.x (.c (.v (.int .i64 x))),.x (.c (.v (.int .i64 y)))]=>match jj7 l with
  | some (m,A)=>some ⟨[.agg [.v (.int .u16 (pxV m 0 x y)),.v (.int .u16 (pxV m 1 x y)),.v (.int .u16 (pxV m 2 x y)),.v (.int .u16 (pxV m 3 x y)),.v (.int .u16 (pxV m 4 x y))]],[imC m],imG m :: (imIn m x y=true) :: A⟩
  | none=>none
 | _=>none
def vm8:List AV->Option QR.Ans
 | [.x (.agg [.v (.int .i64 a),.v (.int .i64 b),.v (.int .i64 c),.v (.int .i64 d)])]=>some ⟨[.c (.clo 76 [[.int .i64 a,.int .i64 b,.int .i64 c,.int .i64 d]])],[],[]⟩
 | _=>none
set_option maxRecDepth 100000 in
theorem yy0 (w h:Int) (V:List QR.XV->List (List QR.CV)->Prop):QR.ja9 Tryd.prog (QR.orc []) (QR.ja4) (Tryd.f74.body.getD .skip) Tryd.f74.results.toList Tryd.f74.ntmps [.x (.c (.v (.int .i64 w))),.x (.c (.v (.int .i64 h)))] V=(True/\ja0 (ige w 1) (ja0 (ige h 1) ((ine w 0=true/\True)/\True/\V [XV.c (CV.v (Value.bool (ile h (iquo IntKind.i64 16777216 w))))] []) (True/\True/\V [XV.c (CV.v (Value.bool false))] [])) (True/\True/\V [XV.c (CV.v (Value.bool false))] [])):=by
 kernel_rfl
set_option maxRecDepth 100000 in
theorem yb6 (m:Im) (V:List QR.XV->List (List QR.CV)->Prop):QR.ja9 Tryd.prog (QR.orc []) (QR.ja4) (Tryd.f77.body.getD .skip) Tryd.f77.results.toList Tryd.f77.ntmps [.ref 0 (imC m)] V=(True/\True/\True/\V [XV.agg [CV.v (Value.int .i64 0),CV.v (Value.int .i64 0),CV.v (Value.int .i64 m.1),CV.v (Value.int .i64 m.2)]] [(zz13 m)]):=by
 delta zz13
 kernel_rfl
def yb7:QR.ja7:=QR.orc [(77,q49)]
set_option maxRecDepth 100000 in
theorem yk2 (m:Im) (V:List QR.XV->List (List QR.CV)->Prop):QR.ja9 Tryd.prog (yb7) (QR.ja4) (Tryd.f53.body.getD .skip) Tryd.f53.results.toList Tryd.f53.ntmps [.ref 0 (imC m)] V=(True/\True/\ja0 m.3 (True/\True/\V [XV.agg [CV.v (Value.int .i64 0),CV.v (Value.int .i64 0),CV.v (Value.int .i64 1),CV.v (Value.int .i64 1)]] [(zz13 m)]) (∀(i:Int),i=0->∀(i_1:Int),i_1=0->∀(i_2:Int),i_2=m.1->∀(i_3:Int),i_3=m.2->(zz44 m)/\True/\V [XV.agg [CV.v (Value.int .i64 i),CV.v (Value.int .i64 i_1),CV.v (Value.int .i64 i_2),CV.v (Value.int .i64 i_3)]] [(zz13 m)])):=by
 delta zz13 zz44
 try delta yb7
 try delta q49
 try delta jj7
 generalize @intRow=intRow
 generalize @w2=w2
 kernel_rfl
set_option maxRecDepth 100000 in
theorem yy1 (a b c d:Int) (V:List QR.XV->List (List QR.CV)->Prop):QR.ja9 Tryd.prog (QR.orc []) (QR.ja4) (Tryd.f52.body.getD .skip) Tryd.f52.results.toList Tryd.f52.ntmps [.x (.agg [.v (.int .i64 a),.v (.int .i64 b),.v (.int .i64 c),.v (.int .i64 d)])] V=(True/\True/\True/\V [XV.c (CV.clo 76 [[Value.int .i64 a,Value.int .i64 b,Value.int .i64 c,Value.int .i64 d]])] []):=by
 kernel_rfl
set_option maxRecDepth 100000 in
theorem yy2 (m:Im) (x y:Int) (V:List QR.XV->List (List QR.CV)->Prop):QR.ja9 Tryd.prog (QR.orc []) (λ n=>bif Nat.beq n 5 then some (.rounds 6) else none) (Tryd.f55.body.getD .skip) Tryd.f55.results.toList Tryd.f55.ntmps [.ref 0 (imC m),.x (.c (.v (.int .i64 x))),.x (.c (.v (.int .i64 y)))] V=(True/\True/\ja0 m.3 (True/\True/\V [XV.agg [CV.v (Value.int .u16 m.4),CV.v (Value.int .u16 m.5),CV.v (Value.int .u16 m.6),CV.v (Value.int .u16 m.7),CV.v (Value.int .u16 m.8)]] [(zz13 m)]) (True/\True/\True/\True/\(true=true/\true=true/\True)/\(true=true/\true=true/\ile 0 (iadd IntKind.i64 (imul IntKind.i64 y m.9.3) x)=true/\ilt (iadd IntKind.i64 (imul IntKind.i64 y m.9.3) x) m.9.4=true/\True)/\True/\True/\True/\(true=true/\true=true/\True)/\(true=true/\true=true/\ile 0 (iadd IntKind.i64 (imul IntKind.i64 y m.10.3) x)=true/\ilt (iadd IntKind.i64 (imul IntKind.i64 y m.10.3) x) m.10.4=true/\True)/\True/\True/\True/\(true=true/\true=true/\True)/\(true=true/\true=true/\ile 0 (iadd IntKind.i64 (imul IntKind.i64 y m.11.3) x)=true/\ilt (iadd IntKind.i64 (imul IntKind.i64 y m.11.3) x) m.11.4=true/\True)/\True/\True/\True/\(true=true/\true=true/\True)/\(true=true/\true=true/\ile 0 (iadd IntKind.i64 (imul IntKind.i64 y m.12.3) x)=true/\ilt (iadd IntKind.i64 (imul IntKind.i64 y m.12.3) x) m.12.4=true/\True)/\True/\True/\True/\(true=true/\true=true/\True)/\(true=true/\true=true/\ile 0 (iadd IntKind.i64 (imul IntKind.i64 y m.13.3) x)=true/\ilt (iadd IntKind.i64 (imul IntKind.i64 y m.13.3) x) m.13.4=true/\True)/\True/\True/\(true=true/\true=true/\true=true/\true=true/\true=true/\true=true/\true=true/\true=true/\true=true/\true=true/\True)/\True/\V (zz140 m y x) [(zz13 m)])):=by
 delta zz13 zz140
 kernel_rfl
def vm9:QR.ja7:=QR.orc [(83,jt6)]
noncomputable def jq1:QR.Inl:=⟨6,QR.GB,75,Tryd.f75.ntmps,Tryd.f75.results.toList,QR.jb7 Tryd.prog vm9 QR.ja4 (λ _=>none) (Tryd.f75.body.getD .skip)⟩
noncomputable def ji6:QR.Cfg:=⟨λ n=>bif Nat.beq n 6 then some (.rounds 6) else none,λ _=>none,λ n=>bif Nat.beq n 8 then some jq1 else none,λ _=>none,λ _=>none,500⟩
def vq8:QR.ja7:=QR.orc [(74,q00)]
set_option maxHeartbeats 8000000 in
set_option maxRecDepth 100000 in
theorem yk3 (m:Im) (V:List QR.XV->List (List QR.CV)->Prop):QR.qp0 Tryd.prog (vq8) (ji6) ((⟨itP,nthI,lnI,jv9,jr7⟩:QR.jw0)) (Tryd.f51.body.getD .skip) Tryd.f51.results.toList Tryd.f51.ntmps [.ref 0 (imC ⟨m.w,m.h,true,m.c0,m.c1,m.c2,m.a,m.f,m.p0,m.p1,m.p2,m.p3,m.p4⟩)] V=(True/\(in64 m.1=true/\in64 m.2=true/\True)/\ja0 (bnot (fitB m.1 m.2)) (True/\True/\V [XV.c (CV.v (Value.int .i64 6))] [(zz2 m)]) (ja0 (bnot true) (True/\ja0 (bnot (band (band (ieq m.4 0) (band (ieq m.5 0) (band (ieq m.6 0) true))) (band (ieq m.7 0) (band (ieq m.8 0) true)))) (True/\True/\V [XV.c (CV.v (Value.int .i64 7))] [(zz2 m)]) (True/\True/\True/\(true=true/\true=true/\True)/\True/\True/\ja0 (ieq m.9.1 0) (ja0 (ieq m.9.2 0) (ja0 (ieq m.9.3 0) (∀(i:Int),i=m.9.4->True/\True/\true=true/\True/\ja0 (bnot (ieq i 0)) (True/\True/\V [XV.c (CV.v (Value.int .i64 7))] [(zz2 m)]) (True/\True/\True/\(true=true/\true=true/\True)/\True/\True/\ja0 (ieq m.10.1 0) (ja0 (ieq m.10.2 0) (ja0 (ieq m.10.3 0) (∀(i:Int),i=m.10.4->True/\True/\true=true/\True/\ja0 (bnot (ieq i 0)) (True/\True/\V [XV.c (CV.v (Value.int .i64 7))] [(zz2 m)]) (True/\True/\True/\(true=true/\true=true/\True)/\True/\True/\ja0 (ieq m.11.1 0) (ja0 (ieq m.11.2 0) (ja0 (ieq m.11.3 0) (∀(i:Int),i=m.11.4->True/\True/\true=true/\True/\ja0 (bnot (ieq i 0)) (True/\True/\V [XV.c (CV.v (Value.int .i64 7))] [(zz2 m)]) (True/\True/\True/\(true=true/\true=true/\True)/\True/\True/\ja0 (ieq m.12.1 0) (ja0 (ieq m.12.2 0) (ja0 (ieq m.12.3 0) (∀(i:Int),i=m.12.4->True/\True/\true=true/\True/\ja0 (bnot (ieq i 0)) (True/\True/\V [XV.c (CV.v (Value.int .i64 7))] [(zz2 m)]) (True/\True/\True/\(true=true/\true=true/\True)/\True/\True/\ja0 (ieq m.13.1 0) (ja0 (ieq m.13.2 0) (ja0 (ieq m.13.3 0) (∀(i:Int),i=m.13.4->True/\True/\true=true/\True/\ja0 (bnot (ieq i 0)) (True/\True/\V [XV.c (CV.v (Value.int .i64 7))] [(zz2 m)]) (True/\True/\True/\True/\V [XV.c (CV.v (Value.int .i64 0))] [(zz2 m)])) (True/\True/\true=true/\True/\True/\True/\V [XV.c (CV.v (Value.int .i64 7))] [(zz2 m)])) (True/\True/\true=true/\True/\True/\True/\V [XV.c (CV.v (Value.int .i64 7))] [(zz2 m)])) (True/\True/\true=true/\True/\True/\True/\V [XV.c (CV.v (Value.int .i64 7))] [(zz2 m)]))) (True/\True/\true=true/\True/\True/\True/\V [XV.c (CV.v (Value.int .i64 7))] [(zz2 m)])) (True/\True/\true=true/\True/\True/\True/\V [XV.c (CV.v (Value.int .i64 7))] [(zz2 m)])) (True/\True/\true=true/\True/\True/\True/\V [XV.c (CV.v (Value.int .i64 7))] [(zz2 m)]))) (True/\True/\true=true/\True/\True/\True/\V [XV.c (CV.v (Value.int .i64 7))] [(zz2 m)])) (True/\True/\true=true/\True/\True/\True/\V [XV.c (CV.v (Value.int .i64 7))] [(zz2 m)])) (True/\True/\true=true/\True/\True/\True/\V [XV.c (CV.v (Value.int .i64 7))] [(zz2 m)]))) (True/\True/\true=true/\True/\True/\True/\V [XV.c (CV.v (Value.int .i64 7))] [(zz2 m)])) (True/\True/\true=true/\True/\True/\True/\V [XV.c (CV.v (Value.int .i64 7))] [(zz2 m)])) (True/\True/\true=true/\True/\True/\True/\V [XV.c (CV.v (Value.int .i64 7))] [(zz2 m)]))) (True/\True/\true=true/\True/\True/\True/\V [XV.c (CV.v (Value.int .i64 7))] [(zz2 m)])) (True/\True/\true=true/\True/\True/\True/\V [XV.c (CV.v (Value.int .i64 7))] [(zz2 m)])) (True/\True/\true=true/\True/\True/\True/\V [XV.c (CV.v (Value.int .i64 7))] [(zz2 m)]))) (True/\True/\True/\True/\(true=true/\true=true/\True)/\True/\True/\ja0 (ieq m.9.1 0) (ja0 (ieq m.9.2 0) (ja0 (ieq m.9.3 0) (∀(i:Int),i=m.9.4->True/\True/\true=true/\True/\ja0 (bnot (ieq i 0)) (True/\True/\V [XV.c (CV.v (Value.int .i64 7))] [(zz2 m)]) (True/\True/\True/\(true=true/\true=true/\True)/\True/\True/\ja0 (ieq m.10.1 0) (ja0 (ieq m.10.2 0) (ja0 (ieq m.10.3 0) (∀(i:Int),i=m.10.4->True/\True/\true=true/\True/\ja0 (bnot (ieq i 0)) (True/\True/\V [XV.c (CV.v (Value.int .i64 7))] [(zz2 m)]) (True/\True/\True/\(true=true/\true=true/\True)/\True/\True/\ja0 (ieq m.11.1 0) (ja0 (ieq m.11.2 0) (ja0 (ieq m.11.3 0) (∀(i:Int),i=m.11.4->True/\True/\true=true/\True/\ja0 (bnot (ieq i 0)) (True/\True/\V [XV.c (CV.v (Value.int .i64 7))] [(zz2 m)]) (True/\True/\True/\(true=true/\true=true/\True)/\True/\True/\ja0 (ieq m.12.1 0) (ja0 (ieq m.12.2 0) (ja0 (ieq m.12.3 0) (∀(i:Int),i=m.12.4->True/\True/\true=true/\True/\ja0 (bnot (ieq i 0)) (True/\True/\V [XV.c (CV.v (Value.int .i64 7))] [(zz2 m)]) (True/\True/\True/\(true=true/\true=true/\True)/\True/\True/\ja0 (ieq m.13.1 0) (ja0 (ieq m.13.2 0) (ja0 (ieq m.13.3 0) (∀(i:Int),i=m.13.4->True/\True/\true=true/\True/\ja0 (bnot (ieq i 0)) (True/\True/\V [XV.c (CV.v (Value.int .i64 7))] [(zz2 m)]) (True/\True/\True/\True/\V [XV.c (CV.v (Value.int .i64 0))] [(zz2 m)])) (True/\True/\true=true/\True/\True/\True/\V [XV.c (CV.v (Value.int .i64 7))] [(zz2 m)])) (True/\True/\true=true/\True/\True/\True/\V [XV.c (CV.v (Value.int .i64 7))] [(zz2 m)])) (True/\True/\true=true/\True/\True/\True/\V [XV.c (CV.v (Value.int .i64 7))] [(zz2 m)]))) (True/\True/\true=true/\True/\True/\True/\V [XV.c (CV.v (Value.int .i64 7))] [(zz2 m)])) (True/\True/\true=true/\True/\True/\True/\V [XV.c (CV.v (Value.int .i64 7))] [(zz2 m)])) (True/\True/\true=true/\True/\True/\True/\V [XV.c (CV.v (Value.int .i64 7))] [(zz2 m)]))) (True/\True/\true=true/\True/\True/\True/\V [XV.c (CV.v (Value.int .i64 7))] [(zz2 m)])) (True/\True/\true=true/\True/\True/\True/\V [XV.c (CV.v (Value.int .i64 7))] [(zz2 m)])) (True/\True/\true=true/\True/\True/\True/\V [XV.c (CV.v (Value.int .i64 7))] [(zz2 m)]))) (True/\True/\true=true/\True/\True/\True/\V [XV.c (CV.v (Value.int .i64 7))] [(zz2 m)])) (True/\True/\true=true/\True/\True/\True/\V [XV.c (CV.v (Value.int .i64 7))] [(zz2 m)])) (True/\True/\true=true/\True/\True/\True/\V [XV.c (CV.v (Value.int .i64 7))] [(zz2 m)]))) (True/\True/\true=true/\True/\True/\True/\V [XV.c (CV.v (Value.int .i64 7))] [(zz2 m)])) (True/\True/\true=true/\True/\True/\True/\V [XV.c (CV.v (Value.int .i64 7))] [(zz2 m)])) (True/\True/\true=true/\True/\True/\True/\V [XV.c (CV.v (Value.int .i64 7))] [(zz2 m)])))):=by
 delta zz2
 try delta vq8
 try delta ji6
 try delta q00
 try delta jq1
 try delta vm9
 try delta jt6
 generalize @fitB=fitB
 generalize @in64=in64
 generalize @intRow=intRow
 generalize @itP=itP
 generalize @jr7=jr7
 generalize @lnI=lnI
 generalize @nthI=nthI
 generalize @plB=plB
 generalize @jv9=jv9
 kernel_rfl
set_option maxHeartbeats 8000000 in
set_option maxRecDepth 100000 in
theorem yk4 (m:Im) (V:List QR.XV->List (List QR.CV)->Prop):QR.qp0 Tryd.prog (vq8) (ji6) ((⟨itP,nthI,lnI,jv9,jr7⟩:QR.jw0)) (Tryd.f51.body.getD .skip) Tryd.f51.results.toList Tryd.f51.ntmps [.ref 0 (imC ⟨m.w,m.h,false,m.c0,m.c1,m.c2,m.a,m.f,m.p0,m.p1,m.p2,m.p3,m.p4⟩)] V=(True/\(in64 m.1=true/\in64 m.2=true/\True)/\ja0 (bnot (fitB m.1 m.2)) (True/\True/\V [XV.c (CV.v (Value.int .i64 6))] [(zz3 m)]) (ja0 (bnot false) (True/\ja0 (bnot (band (band (ieq m.4 0) (band (ieq m.5 0) (band (ieq m.6 0) true))) (band (ieq m.7 0) (band (ieq m.8 0) true)))) (True/\True/\V [XV.c (CV.v (Value.int .i64 7))] [(zz3 m)]) (True/\True/\True/\(true=true/\true=true/\True)/\True/\True/\ja0 (ieq m.9.1 m.1) (ja0 (ieq m.9.2 m.2) ((zz70 m)/\True/\true=true/\True/\ja0 (bnot (plB m.9.1 m.9.2 m.9.3 m.9.4)) (True/\True/\V [XV.c (CV.v (Value.int .i64 7))] [(zz3 m)]) (True/\True/\True/\(true=true/\true=true/\True)/\True/\True/\ja0 (ieq m.10.1 m.1) (ja0 (ieq m.10.2 m.2) ((zz61 m)/\True/\true=true/\True/\ja0 (bnot (plB m.10.1 m.10.2 m.10.3 m.10.4)) (True/\True/\V [XV.c (CV.v (Value.int .i64 7))] [(zz3 m)]) (True/\True/\True/\(true=true/\true=true/\True)/\True/\True/\ja0 (ieq m.11.1 m.1) (ja0 (ieq m.11.2 m.2) ((zz62 m)/\True/\true=true/\True/\ja0 (bnot (plB m.11.1 m.11.2 m.11.3 m.11.4)) (True/\True/\V [XV.c (CV.v (Value.int .i64 7))] [(zz3 m)]) (True/\True/\True/\(true=true/\true=true/\True)/\True/\True/\ja0 (ieq m.12.1 m.1) (ja0 (ieq m.12.2 m.2) ((zz63 m)/\True/\true=true/\True/\ja0 (bnot (plB m.12.1 m.12.2 m.12.3 m.12.4)) (True/\True/\V [XV.c (CV.v (Value.int .i64 7))] [(zz3 m)]) (True/\True/\True/\(true=true/\true=true/\True)/\True/\True/\ja0 (ieq m.13.1 m.1) (ja0 (ieq m.13.2 m.2) ((zz64 m)/\True/\true=true/\True/\ja0 (bnot (plB m.13.1 m.13.2 m.13.3 m.13.4)) (True/\True/\V [XV.c (CV.v (Value.int .i64 7))] [(zz3 m)]) (True/\True/\True/\True/\V [XV.c (CV.v (Value.int .i64 0))] [(zz3 m)])) (True/\True/\true=true/\True/\True/\True/\V [XV.c (CV.v (Value.int .i64 7))] [(zz3 m)])) (True/\True/\true=true/\True/\True/\True/\V [XV.c (CV.v (Value.int .i64 7))] [(zz3 m)]))) (True/\True/\true=true/\True/\True/\True/\V [XV.c (CV.v (Value.int .i64 7))] [(zz3 m)])) (True/\True/\true=true/\True/\True/\True/\V [XV.c (CV.v (Value.int .i64 7))] [(zz3 m)]))) (True/\True/\true=true/\True/\True/\True/\V [XV.c (CV.v (Value.int .i64 7))] [(zz3 m)])) (True/\True/\true=true/\True/\True/\True/\V [XV.c (CV.v (Value.int .i64 7))] [(zz3 m)]))) (True/\True/\true=true/\True/\True/\True/\V [XV.c (CV.v (Value.int .i64 7))] [(zz3 m)])) (True/\True/\true=true/\True/\True/\True/\V [XV.c (CV.v (Value.int .i64 7))] [(zz3 m)]))) (True/\True/\true=true/\True/\True/\True/\V [XV.c (CV.v (Value.int .i64 7))] [(zz3 m)])) (True/\True/\true=true/\True/\True/\True/\V [XV.c (CV.v (Value.int .i64 7))] [(zz3 m)]))) (True/\True/\True/\True/\(true=true/\true=true/\True)/\True/\True/\ja0 (ieq m.9.1 m.1) (ja0 (ieq m.9.2 m.2) ((zz70 m)/\True/\true=true/\True/\ja0 (bnot (plB m.9.1 m.9.2 m.9.3 m.9.4)) (True/\True/\V [XV.c (CV.v (Value.int .i64 7))] [(zz3 m)]) (True/\True/\True/\(true=true/\true=true/\True)/\True/\True/\ja0 (ieq m.10.1 m.1) (ja0 (ieq m.10.2 m.2) ((zz61 m)/\True/\true=true/\True/\ja0 (bnot (plB m.10.1 m.10.2 m.10.3 m.10.4)) (True/\True/\V [XV.c (CV.v (Value.int .i64 7))] [(zz3 m)]) (True/\True/\True/\(true=true/\true=true/\True)/\True/\True/\ja0 (ieq m.11.1 m.1) (ja0 (ieq m.11.2 m.2) ((zz62 m)/\True/\true=true/\True/\ja0 (bnot (plB m.11.1 m.11.2 m.11.3 m.11.4)) (True/\True/\V [XV.c (CV.v (Value.int .i64 7))] [(zz3 m)]) (True/\True/\True/\(true=true/\true=true/\True)/\True/\True/\ja0 (ieq m.12.1 m.1) (ja0 (ieq m.12.2 m.2) ((zz63 m)/\True/\true=true/\True/\ja0 (bnot (plB m.12.1 m.12.2 m.12.3 m.12.4)) (True/\True/\V [XV.c (CV.v (Value.int .i64 7))] [(zz3 m)]) (True/\True/\True/\(true=true/\true=true/\True)/\True/\True/\ja0 (ieq m.13.1 m.1) (ja0 (ieq m.13.2 m.2) ((zz64 m)/\True/\true=true/\True/\ja0 (bnot (plB m.13.1 m.13.2 m.13.3 m.13.4)) (True/\True/\V [XV.c (CV.v (Value.int .i64 7))] [(zz3 m)]) (True/\True/\True/\True/\V [XV.c (CV.v (Value.int .i64 0))] [(zz3 m)])) (True/\True/\true=true/\True/\True/\True/\V [XV.c (CV.v (Value.int .i64 7))] [(zz3 m)])) (True/\True/\true=true/\True/\True/\True/\V [XV.c (CV.v (Value.int .i64 7))] [(zz3 m)]))) (True/\True/\true=true/\True/\True/\True/\V [XV.c (CV.v (Value.int .i64 7))] [(zz3 m)])) (True/\True/\true=true/\True/\True/\True/\V [XV.c (CV.v (Value.int .i64 7))] [(zz3 m)]))) (True/\True/\true=true/\True/\True/\True/\V [XV.c (CV.v (Value.int .i64 7))] [(zz3 m)])) (True/\True/\true=true/\True/\True/\True/\V [XV.c (CV.v (Value.int .i64 7))] [(zz3 m)]))) (True/\True/\true=true/\True/\True/\True/\V [XV.c (CV.v (Value.int .i64 7))] [(zz3 m)])) (True/\True/\true=true/\True/\True/\True/\V [XV.c (CV.v (Value.int .i64 7))] [(zz3 m)]))) (True/\True/\true=true/\True/\True/\True/\V [XV.c (CV.v (Value.int .i64 7))] [(zz3 m)])) (True/\True/\true=true/\True/\True/\True/\V [XV.c (CV.v (Value.int .i64 7))] [(zz3 m)])))):=by
 delta zz3 zz61 zz62 zz63 zz64 zz70
 try delta vq8
 try delta ji6
 try delta q00
 try delta jq1
 try delta vm9
 try delta jt6
 generalize @fitB=fitB
 generalize @in64=in64
 generalize @intRow=intRow
 generalize @itP=itP
 generalize @jr7=jr7
 generalize @lnI=lnI
 generalize @nthI=nthI
 generalize @plB=plB
 generalize @jv9=jv9
 kernel_rfl
end Go.Proofs.YthkidembkknoeaaDoor
namespace Go.Proofs.YthkidembkknoeaaDoor
open Go Go.RowKit Go.Shelf PR QR
set_option linter.unusedVariables false
set_option linter.unusedSimpArgs false
set_option maxRecDepth 20000
theorem yy3 {p:QR.Inl->Prop} {k:Nat} {I:QR.Inl} (h:p I):∀n c,(bif Nat.beq n k then some I else none)=some c->p c:=by
 intro n c e
 cases q:Nat.beq n k
 ·rw [q] at e;simp at e
 ·rw [q,cond_true,Option.some.injEq] at e;rw [<- e];exact h
theorem yn5 {p:QR.Inl->Prop}:∀(n:Nat) (c:QR.Inl),none=some c->p c:=λ n c e=>by simp at e
theorem qq9 (n:Int) (l:Int->Int):EqC (.slc 1 n (.fn λ i _=>.v (.int .u16 (l i)))) (.slc 1 n (.fn λ i _=>.v (.int .u16 (l i))))=True:=eq_true (.slc λ i j _ _=>.v _)
theorem vc0 (z:Nat) (n:Int) (q:Int->Nat->Int):EqC (.slc z n (.fn λ i j=>.v (.int .u16 (q i j)))) (.slc z n (.fn λ i j=>.v (.int .u16 (q i j))))=True:=eq_true (.slc λ i j _ _=>.v _)
theorem yn6:jb0 74 q00:=by
 intro al ans h hq
 unfold q00 at h
 split at h <;> try (simp at h;done)
 rename_i w h
 simp only [Option.some.injEq] at h
 subst h
 have hq:=asked hq
 refine QR.ja2 (O:=(QR.orc [])) QR.jb2 mixed (QR.ja4) Tryd.func74 (by kernel_rfl) (by kernel_rfl) (by simp) ?_
 rw [yy0]
 obtain ⟨iw,ih,_⟩:=hq
 have iw:=qi9.1 iw
 simp only [qq9,vc0,jb6,eqXs,eqX,eqo,eqLo,eqc,veq,eqUs,ja1,ige,ile,decide_eq_true_eq,decide_eq_false_iff_not,true_and,and_true]
 refine ⟨λ h1=>⟨λ h2=>⟨vf5 (by omega),?_⟩,λ h2=>?_⟩,λ h1=>?_⟩
 ·rw [vk6 (by omega) (by omega),Bool.eq_iff_iff,decide_eq_true_eq,jg0,<- vy3 (by omega) (by omega)]
  exact ⟨λ k=>⟨by omega,by omega,k⟩,λ k=>k.2.2⟩
 ·exact (decide_eq_false λ k=>by omega).symm
 ·exact (decide_eq_false λ k=>by omega).symm
theorem yk5:jb0 77 q49:=by
 intro al ans hh hq
 unfold q49 at hh
 split at hh <;> try (simp at hh;done)
 rename_i l
 cases em:jj7 l with
 | none=>simp [em] at hh
 | some pm =>
 obtain ⟨m,Am⟩:=pm
 simp only [em] at hh
 simp only [Option.some.injEq] at hh
 subst hh
 refine jv4 (al':=[.ref 0 (imC m)]) ⟨⟨rfl,qf0 em λ p hp=>hq p (by simp [hp])⟩,trivial⟩ ?_
 have hq:=asked hq
 refine QR.ja2 (O:=(QR.orc [])) QR.jb2 mixed (QR.ja4) Tryd.func77 (by kernel_rfl) (by kernel_rfl) (by simp) ?_
 rw [yb6]
 delta zz13
 simp [qq9,vc0,jb6,eqXs,eqX,eqo,eqLo,eqL,eqc,veq,eqUs,imC]
theorem yy4:jb0 53 qj3:=by
 intro al ans hh hq
 unfold qj3 at hh
 split at hh <;> try (simp at hh;done)
 rename_i l
 cases em:jj7 l with
 | none=>simp [em] at hh
 | some pm =>
 obtain ⟨m,Am⟩:=pm
 simp only [em] at hh
 simp only [Option.some.injEq] at hh
 subst hh
 refine jv4 (al':=[.ref 0 (imC m)]) ⟨⟨rfl,qf0 em λ p hp=>hq p (by simp [hp])⟩,trivial⟩ ?_
 have hq:=asked hq
 refine QR.ja2 (O:=yb7) (QR.ja3 yk5 QR.jb2) mixed (QR.ja4) Tryd.func53 (by kernel_rfl) (by kernel_rfl) (by simp) ?_
 rw [yk2]
 delta zz13 zz44
 have e1:vaW m=bif m.sol then 1 else m.w:=rfl
 have e2:vaH m=bif m.sol then 1 else m.h:=rfl
 cases hs:m.sol <;> simp [qq9,vc0,jb6,eqXs,eqX,eqo,eqLo,eqL,eqc,veq,eqUs,imC,ja1,hs,e1,e2,jk2]
theorem y73:jb0 52 vm8:=by
 intro al ans h hq
 unfold vm8 at h
 split at h <;> try (simp at h;done)
 rename_i a b c d
 simp only [Option.some.injEq] at h
 subst h
 have hq:=asked hq
 refine QR.ja2 (O:=(QR.orc [])) QR.jb2 mixed (QR.ja4) Tryd.func52 (by kernel_rfl) (by kernel_rfl) (by simp) ?_
 rw [yy1]
 simp [qq9,vc0,jb6,eqXs,eqX,eqo,eqLo,eqL,eqc,veq,eqUs]
theorem yk6:jb0 55 qj4:=by
 intro al ans hh hq
 unfold qj4 at hh
 split at hh <;> try (simp at hh;done)
 rename_i l x y
 cases em:jj7 l with
 | none=>simp [em] at hh
 | some pm =>
 obtain ⟨m,Am⟩:=pm
 simp only [em] at hh
 simp only [Option.some.injEq] at hh
 subst hh
 refine jv4 (al':=[.ref 0 (imC m),.x (.c (.v (.int .i64 x))),.x (.c (.v (.int .i64 y)))]) ⟨⟨rfl,qf0 em λ p hp=>hq p (by simp [hp])⟩,.v _,.v _,trivial⟩ ?_
 have hq:=asked hq
 refine QR.ja2 (O:=(QR.orc [])) QR.jb2 mixed ((λ n=>bif Nat.beq n 5 then some (.rounds 6) else none)) Tryd.func55 (by kernel_rfl) (by kernel_rfl) (by simp) ?_
 rw [yy2]
 delta zz13 zz140
 obtain ⟨hG,hi,_⟩:=hq
 have pv:∀k,pxV m k x y=bif m.sol then yw8 m k else (imPl m k).l (patI (imPl m k).s x y):=λ _=>rfl
 cases hs:m.sol
 ·obtain ⟨a0,b0,c0⟩:=ya9 hi hs (k:=0) (by decide)
  obtain ⟨a1,b1,c1⟩:=ya9 hi hs (k:=1) (by decide)
  obtain ⟨a2,b2,c2⟩:=ya9 hi hs (k:=2) (by decide)
  obtain ⟨a3,b3,c3⟩:=ya9 hi hs (k:=3) (by decide)
  obtain ⟨a4,b4,c4⟩:=ya9 hi hs (k:=4) (by decide)
  simp only [imPl] at a0 b0 c0 a1 b1 c1 a2 b2 c2 a3 b3 c3 a4 b4 c4
  simp [qq9,vc0,jb6,eqXs,eqX,eqo,eqLo,eqL,eqc,veq,eqUs,ja1,hs,pv,imPl,imC,a0,b0,c0,a1,b1,c1,a2,b2,c2,a3,b3,c3,a4,b4,c4]
 ·simp [qq9,vc0,jb6,eqXs,eqX,eqo,eqLo,eqL,eqc,veq,eqUs,ja1,hs,pv,yw8,imC]
theorem yy5:QR.qe3 Tryd.prog jq1/\QR.GB<=jq1.T :=
 QR.yg5 (O:=vm9) (QR.ja3 za4 QR.jb2) mixed QR.ja4 (J':=λ _=>none) yn5 (j:=6) Tryd.func75 (by kernel_rfl) (by kernel_rfl)
theorem vc1:QR.CfgOK Tryd.prog ji6 500:=⟨yy3 yy5,yn5,.inl λ _=>rfl⟩
theorem qr0 {m:Im} {p:Pl} {b:Int} {Q:Prop} (no:plW m p≠true->7=b) (yes:plW m p=true->Q):(ieq p.w m.w=true->(ieq p.h m.h=true->(plB p.w p.h p.s p.n=false->7=b)/\(plB p.w p.h p.s p.n=true->Q))/\(ieq p.h m.h=false->7=b))/\(ieq p.w m.w=false->7=b):=by
 refine ⟨λ h1=>⟨λ h2=>⟨λ h3=>no λ k=>?_,λ h3=>yes (ju0.2 ⟨h3,of_decide_eq_true h1,of_decide_eq_true h2⟩)⟩,λ h2=>no λ k=>of_decide_eq_false h2 (ju0.1 k).2.2⟩,λ h1=>no λ k=>of_decide_eq_false h1 (ju0.1 k).2.1⟩
 rw [(ju0.1 k).1] at h3;simp at h3
theorem qr1 {p:Pl} {b:Int} {Q:Prop} (no:plZ p≠true->7=b) (yes:plZ p=true->Q):(ieq p.w 0=true->(ieq p.h 0=true->(ieq p.s 0=true->∀i:Int,i=p.n->(ieq i 0=false->7=b)/\(ieq i 0=true->Q))/\(ieq p.s 0=false->7=b))/\(ieq p.h 0=false->7=b))/\(ieq p.w 0=false->7=b) :=
 ⟨λ h1=>⟨λ h2=>⟨λ h3 i hi=>⟨λ h4=>no λ k=>of_decide_eq_false h4 (hi▸(qq6.1 k).2.2.2),λ h4=>yes (qq6.2 ⟨of_decide_eq_true h1,of_decide_eq_true h2,of_decide_eq_true h3,hi▸of_decide_eq_true h4⟩)⟩,λ h3=>no λ k=>of_decide_eq_false h3 (qq6.1 k).2.2.1⟩,λ h2=>no λ k=>of_decide_eq_false h2 (qq6.1 k).2.1⟩,λ h1=>no λ k=>of_decide_eq_false h1 (qq6.1 k).1⟩
theorem yk7:jb0 51 q48:=by
 intro al ans hh hq
 unfold q48 at hh
 split at hh <;> try (simp at hh;done)
 rename_i l
 cases em:jj7 l with
 | none=>simp [em] at hh
 | some p =>
 obtain ⟨m,A⟩:=p
 simp only [em] at hh
 simp only [Option.some.injEq] at hh
 subst hh
 have hG:imG m:=hq _ (by simp)
 refine jv4 (al':=[.ref 0 (imC m)]) ⟨⟨rfl,qf0 em λ p hp=>hq p (by simp [hp])⟩,trivial⟩ ?_
 obtain ⟨⟨iw,ih⟩,_,⟨w0,h0,s0,n0,_⟩,⟨w1,h1,s1,n1,_⟩,⟨w2,h2,s2,n2,_⟩,⟨w3,h3,s3,n3,_⟩,w4,h4,s4,n4,_⟩:=hG
 have e:imFt m=bif fitB m.w m.h then (bif imF m then 0 else 7) else 6:=rfl
 generalize imFt m=b at e ⊢
 have nz:∀(n:Int),ile 0 n=true->ieq n 0=decide (n=0):=λ n _=>rfl
 cases hs:m.sol
 ·rw [qq5 hs]
  refine QR.qb4 (O:=vq8) (QR.ja3 yn6 QR.jb2) mixed (C:=ji6) vc1 vz0 Tryd.func51 (by kernel_rfl) (by kernel_rfl) (by simp) ?_
  rw [yk4]
  delta zz3 zz61 zz62 zz63 zz64 zz70
  simp only [qq9,vc0,jb6,eqXs,eqX,eqo,eqLo,eqL,eqc,veq,eqUs,imC,ja1,bnot,band,jk2,iw,ih,w0,h0,s0,n0,w1,h1,s1,n1,w2,h2,s2,n2,w3,h3,s3,n3,w4,h4,s4,n4,true_and,and_true,implies_true,true_implies,reduceCtorEq,false_implies,and_self,Bool.not_true,Bool.false_eq_true,Bool.not_false]
  have mm:∀q:Bool,(!q)=true↔q=false:=λ q=>by cases q <;> simp
  have m2:∀q:Bool,(!q)=false↔q=true:=λ q=>by cases q <;> simp
  simp only [mm,m2]
  refine ⟨λ f=>by rw [e,f];rfl,λ f=>?_⟩
  rw [f,cond_true] at e
  have no:∀k:Nat,k < 5->plW m (imPl m k)≠true->7=b:=λ k hk h=>by rw [e,ya8 hs hk (Bool.eq_false_iff.2 h)];rfl
  refine ⟨λ c=>?_,λ c=>qr0 (no 0 (by decide)) λ x0=>qr0 (no 1 (by decide)) λ x1=>qr0 (no 2 (by decide)) λ x2=>qr0 (no 3 (by decide)) λ x3=>qr0 (no 4 (by decide)) λ x4=>?_⟩
  ·have:imF m=false:=by
    have cz:colZ m=false:=by rw [<- c];unfold colZ ieq;rw [Bool.eq_iff_iff];simp [and_assoc]
    unfold imF;rw [hs,cz];simp
   rw [e,this];rfl
  ·have:imF m=true:=by
    have cz:colZ m=true:=by rw [<- c];unfold colZ ieq;rw [Bool.eq_iff_iff];simp [and_assoc]
    rw [q44 hs λ k hk=>by match k,hk with | 0,_=>exact x0 | 1,_=>exact x1 | 2,_=>exact x2 | 3,_=>exact x3 | 4,_=>exact x4,cz]
   rw [e,this];rfl
 ·rw [qq5 hs]
  refine QR.qb4 (O:=vq8) (QR.ja3 yn6 QR.jb2) mixed (C:=ji6) vc1 vz0 Tryd.func51 (by kernel_rfl) (by kernel_rfl) (by simp) ?_
  rw [yk3]
  delta zz2
  simp only [qq9,vc0,jb6,eqXs,eqX,eqo,eqLo,eqL,eqc,veq,eqUs,imC,ja1,bnot,band,jk2,iw,ih,w0,h0,s0,n0,w1,h1,s1,n1,w2,h2,s2,n2,w3,h3,s3,n3,w4,h4,s4,n4,true_and,and_true,implies_true,true_implies,reduceCtorEq,false_implies,and_self,Bool.not_true,Bool.false_eq_true,Bool.not_false]
  have mm:∀q:Bool,(!q)=true↔q=false:=λ q=>by cases q <;> simp
  have m2:∀q:Bool,(!q)=false↔q=true:=λ q=>by cases q <;> simp
  simp only [mm,m2]
  refine ⟨λ f=>by rw [e,f];rfl,λ f=>?_⟩
  rw [f,cond_true] at e
  have no:∀k:Nat,k < 5->plZ (imPl m k)≠true->7=b:=λ k hk h=>by rw [e,yx0 hs hk (Bool.eq_false_iff.2 h)];rfl
  refine qr1 (no 0 (by decide)) λ x0=>qr1 (no 1 (by decide)) λ x1=>qr1 (no 2 (by decide)) λ x2=>qr1 (no 3 (by decide)) λ x3=>qr1 (no 4 (by decide)) λ x4=>?_
  rw [e,yj8 hs λ k hk=>by match k,hk with | 0,_=>exact x0 | 1,_=>exact x1 | 2,_=>exact x2 | 3,_=>exact x3 | 4,_=>exact x4];rfl
attribute [local go_sem] Oper.semAt_some
def vc2 (a b c d:Int) (v:List Int):Prop:=∃x y:Int,v=[x,y]/\(a<=x/\x < c)/\b<=y/\y < d
abbrev PlR (a b c d:Int):={ v:List Int // vc2 a b c d v }
def yb8 (a b c:Int) (i:Nat):List Int:=[a + (i:Int) % (c - a),b + (i:Int) / (c - a)]
def qh1 (a b c d:Int) (k:Int) (pre:List (PlR a b c d)):Prop:=(pre.length:Int)=k/\∀(i:Nat) (v:PlR a b c d),pre[i]?=some v->v.1=yb8 a b c i
theorem yy6 (a b c d:Int):qh1 a b c d 0 []:=⟨rfl,λ i v e=>by simp at e⟩
theorem yk8 {a b c d k x y:Int} {pre:List (PlR a b c d)} (hp:qh1 a b c d k pre) (hk:k=(y - b) * (c - a) + (x - a)) (hx:a<=x/\x < c) (hy:b<=y/\y < d):qh1 a b c d (k + 1) (pre ++ [⟨[x,y],x,y,rfl,hx,hy⟩]):=by
 refine ⟨by simp [hp.1],λ i v e=>?_⟩
 rw [List.getElem?_append] at e
 split at e
 ·exact hp.2 i v e
 ·rename_i q
  have hl:=hp.1
  cases h:i - pre.length with
  | succ j=>rw [h] at e;simp at e
  | zero =>
   rw [h] at e
   simp only [List.getElem?_cons_zero,Option.some.injEq] at e
   subst e
   have hi:(i:Int)=(y - b) * (c - a) + (x - a):=by omega
   unfold yb8
   rw [hi,Int.add_comm ((y - b) * (c - a)),Int.add_mul_emod_self_right,Int.emod_eq_of_lt (by omega) (by omega),Int.add_mul_ediv_right _ _ (by omega),Int.ediv_eq_zero_of_lt (by omega) (by omega)]
   simp only [List.cons.injEq,and_true]
   exact ⟨by omega,by omega⟩
def y74 (h:Int):Value->Nat
 | .int _ y=>(h - y).toNat
 | _=>0
set_option maxRecDepth 100000 in
set_option maxHeartbeats 1000000 in
theorem yb9 {a b c d:Int} (hac:a<=c/\-1099511627776<=a/\c<=1099511627776) (hbd:b<=d/\-1099511627776<=b/\d<=1099511627776) (W0:World) (b1:Nat) (t1:TypeId) (e1:W0.heap[b1]?=some (.cells #[.int .i64 a,.int .i64 b,.int .i64 c,.int .i64 d] t1 (0,0))) (n:Nat) :
  SeqStopsK (α:=PlR a b c d) Fence.wide n Tryd.prog 76 #[.pointer (some ⟨b1,0,none⟩)] (λ v=>(v.1.map λ x=>Value.int .i64 x).toArray) (λ W W'=>∀b∈[b1],W'.heap[b]?=W.heap[b]?)
   (λ xs=>qh1 a b c d ((d - b) * (c - a)) xs) (λ _=>True) ((d - b) * (c - a)).toNat W0:=λ l J Jx W hW hJ hJx hY h0=>by
 have l1:b1 < W0.heap.size:=(Array.getElem?_eq_some_iff.1 e1).1
 have c0:∀{V:World},V.heap[b1]?=some (.cells #[.int .i64 a,.int .i64 b,.int .i64 c,.int .i64 d] t1 (0,0))->V.cell? ⟨b1,0,none⟩=some (.int .i64 a):=λ e=>by simp [World.cell?,e]
 have c1:∀{V:World},V.heap[b1]?=some (.cells #[.int .i64 a,.int .i64 b,.int .i64 c,.int .i64 d] t1 (0,0))->V.cell? ⟨b1,1,none⟩=some (.int .i64 b):=λ e=>by simp [World.cell?,e]
 have c2:∀{V:World},V.heap[b1]?=some (.cells #[.int .i64 a,.int .i64 b,.int .i64 c,.int .i64 d] t1 (0,0))->V.cell? ⟨b1,2,none⟩=some (.int .i64 c):=λ e=>by simp [World.cell?,e]
 have c3:∀{V:World},V.heap[b1]?=some (.cells #[.int .i64 a,.int .i64 b,.int .i64 c,.int .i64 d] t1 (0,0))->V.cell? ⟨b1,3,none⟩=some (.int .i64 d):=λ e=>by simp [World.cell?,e]
 have f1:W.heap[b1]?=some (.cells #[.int .i64 a,.int .i64 b,.int .i64 c,.int .i64 d] t1 (0,0)):=by rw [hW.block b1 l1];exact e1
 refine callsIn_of_wp Tryd.func76 rfl trivial ?_ rfl
 have r1:=c1 f1
 have cw:0<=c - a:=by omega
 simp only [Tryd.ntmps76,List.size_toArray,List.length_cons,List.length_nil,Nat.reduceAdd,Nat.reduceSub,Array.replicate_succ,Array.replicate_zero,List.push_toArray,List.append_toArray,List.nil_append,List.cons_append]
 gi_wp2
 gi_loopw [3] (λ p wr=>∃(y:Int) (pre:List (PlR a b c d)),p=.int .i64 y/\(b<=y/\y<=d)/\qh1 a b c d ((y - b) * (c - a)) pre/\J pre wr/\wr.heap[b1]?=some (.cells #[.int .i64 a,.int .i64 b,.int .i64 c,.int .i64 d] t1 (0,0)))
  (λ p wr=>y74 d p)
 case atStart=>exact ⟨b,[],rfl,⟨by omega,by omega⟩,by rw [Int.sub_self,Int.zero_mul];exact yy6 a b c d,h0,f1⟩
 case round =>
  obtain ⟨y,pre,rfl,hy,hp,hJs,g1⟩:=hrel
  have r0:=c0 g1
  have r3:=c3 g1
  by_cases hlt:y < d
  ·have hlt':decide (y < d)=true:=decide_eq_true hlt
   gi_wp2
   gi_loopw [4] (λ p wr=>∃(x:Int) (pre:List (PlR a b c d)),p=.int .i64 x/\(a<=x/\x<=c)/\qh1 a b c d ((y - b) * (c - a) + (x - a)) pre/\J pre wr/\wr.heap[b1]?=some (.cells #[.int .i64 a,.int .i64 b,.int .i64 c,.int .i64 d] t1 (0,0)))
    (λ p wr=>y74 c p)
   case atStart=>exact ⟨a,pre,rfl,⟨by omega,by omega⟩,by rw [Int.sub_self,Int.add_zero];exact hp,hJs,g1⟩
   case round =>
    obtain ⟨x,pre,rfl,hx,hp,hJs,g1⟩:=hrel
    have r2:=c2 g1
    by_cases hxt:x < c
    ·have hxt':decide (x < c)=true:=decide_eq_true hxt
     have m0:=Int.mul_nonneg (show 0<=y - b by omega) cw
     have m1:=Int.mul_le_mul_of_nonneg_right (show y - b<=d - b - 1 by omega) cw
     have m2:(d - b - 1) * (c - a)=(d - b) * (c - a) - (c - a):=by rw [Int.sub_mul,Int.one_mul]
     obtain ⟨fn,tmps,assign,body,hy',hR⟩:=hY pre ⟨[x,y],x,y,rfl,⟨hx.1,hxt⟩,hy.1,hlt⟩ wr hJs (by rw [<- Int.ofNat_lt,hp.1,Int.toNat_of_nonneg (by omega)];omega)
     dsimp only [List.map] at hy'
     gi_wp2
     refine ⟨λ h=>(by cases h),hR.mono ?_⟩
     rintro e W3 (⟨rfl,hJ3,hk3⟩ | ⟨rfl,hJx3⟩)
     ·have g13:=(hk3 b1 (by simp)).trans g1
      have ia:iadd .i64 x 1=x + 1:=IntWalk.i64_in _ (by omega)
      gi_wp2
      exact ⟨⟨x + 1,_,rfl,⟨by omega,by omega⟩,by rw [show x + 1 - a=(x - a) + 1 by omega,<- Int.add_assoc];exact yk8 hp rfl ⟨hx.1,hxt⟩ ⟨hy.1,hlt⟩,hJ3,g13⟩,by show (c - (x + 1)).toNat < (c - x).toNat;omega⟩
     ·gi_wp2
      refine bodyPost_ret (results_none rfl _ _ _) rfl ?_
      exact ⟨⟨_,rfl⟩,.inr ⟨_,trivial,hJx3⟩⟩
    ·have hxt':decide (x < c)=false:=decide_eq_false hxt
     gi_wp2
     obtain rfl:x=c:=by omega
     exact ⟨⟨y + 1,pre,rfl,⟨by omega,by omega⟩,by rw [show y + 1 - b=(y - b) + 1 by omega,Int.add_mul,Int.one_mul];exact hp,hJs,g1⟩,by show (d - (y + 1)).toNat < (d - y).toNat;omega⟩
  ·have hlt':decide (y < d)=false:=decide_eq_false hlt
   gi_wp2
   obtain rfl:y=d:=by omega
   go_end0
   exact ⟨⟨_,rfl⟩,.inl ⟨pre,hp,hJs⟩⟩
def qd0 (a b c d:Int) (p:List (List Int)):Prop:=lnI p=(d - b) * (c - a)/\∀(i:Nat) (v:List Int),p[i]?=some v->v=yb8 a b c i
theorem y75 {a b c d:Int} (hac:a<=c/\-1099511627776<=a/\c<=1099511627776) (hbd:b<=d/\-1099511627776<=b/\d<=1099511627776):itP 76 [[.int .i64 a,.int .i64 b,.int .i64 c,.int .i64 d]] (vc2 a b c d) (qd0 a b c d) ((d - b) * (c - a)).toNat:=by
 refine ⟨enters_of Tryd.func76 (by kernel_rfl) rfl,λ W bs hb n=>?_⟩
 match bs,hb with
 | [b1],⟨⟨t1,e1⟩,_⟩ =>
  have:=yb9 hac hbd W b1 t1 e1 n
  have eS:(λ xs:List (PlR a b c d)=>qd0 a b c d (xs.map (·.1)))=λ xs=>qh1 a b c d ((d - b) * (c - a)) xs:=by
   funext xs
   apply propext
   unfold qd0 qh1
   constructor
   ·rintro ⟨h1,h2⟩
    exact ⟨by unfold lnI at h1;simpa using h1,λ i v e=>h2 i v.1 (by rw [List.getElem?_map,e];rfl)⟩
   ·rintro ⟨h1,h2⟩
    refine ⟨by unfold lnI;simpa using h1,λ i v e=>?_⟩
    rw [List.getElem?_map] at e
    cases ex:xs[i]? with
    | none=>rw [ex] at e;simp at e
    | some u=>rw [ex] at e;simp at e;rw [<- e];exact h2 i u ex
  rw [eS]
  exact this
end Go.Proofs.YthkidembkknoeaaDoor
namespace Go.Proofs.YthkidembkknoeaaDoor
open Go.RowKit PR QR
set_option linter.unusedVariables false
set_option linter.unusedSimpArgs false
set_option maxRecDepth 20000
def plrN (a b c d:Int):Nat:=((d - b) * (c - a)).toNat
def jz6 (m:Im) (t:Int) (pre:List (List Int)):Prop:=∀v∈pre,pxB m t (nthI v 0) (nthI v 1)=true
noncomputable def vc3 (m:Im) (t:Int):QR.RAnn where
 ok v:=vc2 0 0 (vaW m) (vaH m) v
 S p:=qd0 0 0 (vaW m) (vaH m) p
 N:=plrN 0 0 (vaW m) (vaH m)
 good p:=jz6 m t p
 slots:=QR.slotsOf Tryd.f30.ntmps [(2,.x (.c (.ptr 100000000000001000 0))),(3,.x (.c (.ptr 100000000000001001 0))),(4,.x (.c (.ptr 100000000000001002 0)))]
 blocks p:=[(100000000000001000,.cells (imC m)),(100000000000001001,.cells [.v (.int .u16 t)]),(100000000000001002,.cells [.v (.int .i64 0)])]
def yc0:QR.ja7:=QR.orc [(51,q48),(53,qj3),(52,vm8),(54,qc0),(55,qj4)]
set_option maxRecDepth 100000 in
theorem yk9 (m:Im) (t:Int) (V:List QR.XV->List (List QR.CV)->Prop):QR.va6 Tryd.prog (yc0) (QR.ja4) (λ n=>bif Nat.beq n 7 then some (vc3 m t) else none) ((⟨itP,nthI,lnI,jv9,jr7⟩:QR.jw0)) (Tryd.f30.body.getD .skip) Tryd.f30.results.toList Tryd.f30.ntmps [.x (.agg (imC m)),.x (.c (.v (.int .u16 t)))] V=(True/\∀(i:Int),i=imFt m->(zz12 m)/\True/\ja0 (ine i 0) (True/\True/\V [XV.c (CV.v (Value.int .i64 i))] []) (∀(i:Int),i=0->∀(i_1:Int),i_1=0->∀(i_2:Int),i_2=vaW m->∀(i_3:Int),i_3=vaH m->(zz44 m)/\True/\true=true/\itP 76 [[Value.int .i64 i,Value.int .i64 i_1,Value.int .i64 i_2,Value.int .i64 i_3]] (λ (v:List Int)=>vc2 0 0 (vaW m) (vaH m) v) (λ (p:List (List Int))=>qd0 0 0 (vaW m) (vaH m) p) (plrN 0 0 (vaW m) (vaH m))/\jr7 (λ (v:List Int)=>vc2 0 0 (vaW m) (vaH m) v) 2/\jz6 m t []/\(true=true/\((true=true/\0=0/\0=0)/\(true=true/\1=1/\0=0)/\(true=true/\2=2/\0=0)/\True)/\(zz1 m)/\((IntKind.u16=IntKind.u16/\t=t)/\True)/\((IntKind.i64=IntKind.i64/\(0:Int)=0)/\True)/\True)/\(∀(pre:List (List Int)) (v:List Int),jz6 m t pre->ilt (lnI pre) (Int.ofNat (plrN 0 0 (vaW m) (vaH m)))=true->vc2 0 0 (vaW m) (vaH m) v->∀(i:Int),i=pxV m 0 (nthI v 0) (nthI v 1)->∀(i_4:Int),i_4=pxV m 1 (nthI v 0) (nthI v 1)->∀(i_5:Int),i_5=pxV m 2 (nthI v 0) (nthI v 1)->∀(i_6:Int),i_6=pxV m 3 (nthI v 0) (nthI v 1)->∀(i_7:Int),i_7=pxV m 4 (nthI v 0) (nthI v 1)->(zz108 m v)/\ja0 (bnot (pvB i i_4 i_5 i_6 i_7 t)) (True/\True/\true=true/\True/\V [XV.c (CV.v (Value.int .i64 8))] []) (True/\jz6 m t (jv9 pre v)/\true=true/\True/\true=true/\True/\(zz1 m)/\((IntKind.u16=IntKind.u16/\t=t)/\True)/\((IntKind.i64=IntKind.i64/\(0:Int)=0)/\True)/\True))/\∀(pre:List (List Int)),qd0 0 0 (vaW m) (vaH m) pre->jz6 m t pre->True/\True/\V [XV.c (CV.v (Value.int .i64 0))] [])):=by
 delta zz1 zz12 zz44 zz108
 try delta yc0
 try delta q48
 try delta qj3
 try delta vm8
 try delta qc0
 try delta qj4
 try delta jj7
 generalize @imFt=imFt
 generalize @imG=imG
 generalize @imIn=imIn
 generalize @intRow=intRow
 generalize @itP=itP
 generalize @jr7=jr7
 generalize @lnI=lnI
 generalize @nthI=nthI
 generalize @qd0=qd0
 generalize @plrN=plrN
 generalize @vc2=vc2
 generalize @pvB=pvB
 generalize @pxV=pxV
 generalize @jz6=jz6
 generalize @jv9=jv9
 generalize @vaH=vaH
 generalize @vaW=vaW
 generalize @w2=w2
 kernel_rfl
end Go.Proofs.YthkidembkknoeaaDoor
