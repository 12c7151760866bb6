import Derived.Test.YthkidembkknoeaaDoorPk11
import Derived.Test.YthkidembkknoeaaDoorPk13
import Derived.Test.YthkidembkknoeaaDoorPk21
import Derived.Test.YthkidembkknoeaaDoorPk22
namespace Go.Proofs.YthkidembkknoeaaDoor
open Go.RowKit PR QR
set_option linter.unusedVariables false
set_option linter.unusedSimpArgs false
def voI (s:Sc) (i:Int):Prop:=(0≤i∧i≤s.pn)∧vsE s i.toNat=none
def viI (s:Sc) (i:Int):Prop:=(0≤i∧i≤s.mn)∧qr6 s i.toNat=none
noncomputable def q49 (s:Sc):QR.Inv where
  ι:=Int
  good i:=voI s i
  slots i:=QR.slotsOf Tryd.f31.ntmps [(1,.x (.c (.ptr 1000000000000000 0))),(4,.x (.c (.own 1000000000000001 (lenO (stkI s i))))),(9,.x (.c (.slc 12 s.pn (je8 s.pl)))),(10,.x (.c (.v (.int .i64 s.pn)))),(11,.x (.c (.v (.int .i64 i))))]
  blocks i:=[(1000000000000000,.cells (ji8 s)),(1000000000000001,.row 12 (lenO (stkI s i)) (je8 (nthO (stkI s i))))]
  μ i:=je0 s.pn i
noncomputable def q50 (s:Sc):QR.Inv where
  ι:=Int
  good i:=viI s i
  slots i:=QR.slotsOf Tryd.f12.ntmps [(1,.x (.c (.ptr 1000000000000000 0))),(5,.x (.c (.v (.int .u16 (smV s.b))))),(22,.x (.c (.slc 28 s.mn (jg4 s.ml)))),(23,.x (.c (.v (.int .i64 s.mn)))),(24,.x (.c (.v (.int .i64 i))))]
  blocks i:=[(1000000000000000,.cells (ji8 s))]
  μ i:=je0 s.mn i
def vi9:QR.ja7:=QR.orc [(1000000011,qe8),(21,jy8)]
def zz943 (fz0:Sc):Prop:=((IntKind.i64=IntKind.i64∧fz0.1=fz0.1)∧(IntKind.i64=IntKind.i64∧fz0.2=fz0.2)∧(IntKind.i64=IntKind.i64∧fz0.3=fz0.3)∧(IntKind.i64=IntKind.i64∧fz0.4=fz0.4)∧(IntKind.i64=IntKind.i64∧fz0.5=fz0.5)∧(IntKind.i64=IntKind.i64∧fz0.6=fz0.6)∧(IntKind.i64=IntKind.i64∧fz0.7=fz0.7)∧(1=1∧fz0.8=fz0.8∧True∧∀(bz0:Nat),ilt (Int.ofNat bz0) fz0.8=true→IntKind.i64=IntKind.i64∧fz0.9 (Int.ofNat bz0)=fz0.9 (Int.ofNat bz0))∧(28=28∧fz0.10=fz0.10∧(((((((((((((((((((((((((((True∧∀(bz1:Nat),ilt (Int.ofNat bz1) fz0.10=true→IntKind.i64=IntKind.i64∧(fz0.11 (Int.ofNat bz1)).1=(fz0.11 (Int.ofNat bz1)).1)∧∀(bz2:Nat),ilt (Int.ofNat bz2) fz0.10=true→IntKind.i64=IntKind.i64∧(fz0.11 (Int.ofNat bz2)).2=(fz0.11 (Int.ofNat bz2)).2)∧∀(bz3:Nat),ilt (Int.ofNat bz3) fz0.10=true→(fz0.11 (Int.ofNat bz3)).3=(fz0.11 (Int.ofNat bz3)).3)∧∀(bz4:Nat),ilt (Int.ofNat bz4) fz0.10=true→IntKind.u16=IntKind.u16∧(fz0.11 (Int.ofNat bz4)).4=(fz0.11 (Int.ofNat bz4)).4)∧∀(bz5:Nat),ilt (Int.ofNat bz5) fz0.10=true→IntKind.u16=IntKind.u16∧(fz0.11 (Int.ofNat bz5)).5=(fz0.11 (Int.ofNat bz5)).5)∧∀(bz6:Nat),ilt (Int.ofNat bz6) fz0.10=true→IntKind.u16=IntKind.u16∧(fz0.11 (Int.ofNat bz6)).6=(fz0.11 (Int.ofNat bz6)).6)∧∀(bz7:Nat),ilt (Int.ofNat bz7) fz0.10=true→IntKind.u16=IntKind.u16∧(fz0.11 (Int.ofNat bz7)).7=(fz0.11 (Int.ofNat bz7)).7)∧∀(bz8:Nat),ilt (Int.ofNat bz8) fz0.10=true→IntKind.u16=IntKind.u16∧(fz0.11 (Int.ofNat bz8)).8=(fz0.11 (Int.ofNat bz8)).8)∧∀(bz9:Nat),ilt (Int.ofNat bz9) fz0.10=true→IntKind.i64=IntKind.i64∧(fz0.11 (Int.ofNat bz9)).9.1=(fz0.11 (Int.ofNat bz9)).9.1)∧∀(bz10:Nat),ilt (Int.ofNat bz10) fz0.10=true→IntKind.i64=IntKind.i64∧(fz0.11 (Int.ofNat bz10)).9.2=(fz0.11 (Int.ofNat bz10)).9.2)∧∀(bz11:Nat),ilt (Int.ofNat bz11) fz0.10=true→IntKind.i64=IntKind.i64∧(fz0.11 (Int.ofNat bz11)).9.3=(fz0.11 (Int.ofNat bz11)).9.3)∧∀(bz12:Nat),ilt (Int.ofNat bz12) fz0.10=true→EqC (CV.slc 1 (fz0.11 (Int.ofNat bz12)).9.4 (QR.Row.fn fun (bz13:Int) (bz14:Nat)=>CV.v (Value.int .u16 ((fz0.11 (Int.ofNat bz12)).9.5 bz13)))) (CV.slc 1 (fz0.11 (Int.ofNat bz12)).9.4 (QR.Row.fn fun (bz15:Int) (bz16:Nat)=>CV.v (Value.int .u16 ((fz0.11 (Int.ofNat bz12)).9.5 bz15)))))∧∀(bz17:Nat),ilt (Int.ofNat bz17) fz0.10=true→IntKind.i64=IntKind.i64∧(fz0.11 (Int.ofNat bz17)).10.1=(fz0.11 (Int.ofNat bz17)).10.1)∧∀(bz18:Nat),ilt (Int.ofNat bz18) fz0.10=true→IntKind.i64=IntKind.i64∧(fz0.11 (Int.ofNat bz18)).10.2=(fz0.11 (Int.ofNat bz18)).10.2)∧∀(bz19:Nat),ilt (Int.ofNat bz19) fz0.10=true→IntKind.i64=IntKind.i64∧(fz0.11 (Int.ofNat bz19)).10.3=(fz0.11 (Int.ofNat bz19)).10.3)∧∀(bz20:Nat),ilt (Int.ofNat bz20) fz0.10=true→EqC (CV.slc 1 (fz0.11 (Int.ofNat bz20)).10.4 (QR.Row.fn fun (bz21:Int) (bz22:Nat)=>CV.v (Value.int .u16 ((fz0.11 (Int.ofNat bz20)).10.5 bz21)))) (CV.slc 1 (fz0.11 (Int.ofNat bz20)).10.4 (QR.Row.fn fun (bz23:Int) (bz24:Nat)=>CV.v (Value.int .u16 ((fz0.11 (Int.ofNat bz20)).10.5 bz23)))))∧∀(bz25:Nat),ilt (Int.ofNat bz25) fz0.10=true→IntKind.i64=IntKind.i64∧(fz0.11 (Int.ofNat bz25)).11.1=(fz0.11 (Int.ofNat bz25)).11.1)∧∀(bz26:Nat),ilt (Int.ofNat bz26) fz0.10=true→IntKind.i64=IntKind.i64∧(fz0.11 (Int.ofNat bz26)).11.2=(fz0.11 (Int.ofNat bz26)).11.2)∧∀(bz27:Nat),ilt (Int.ofNat bz27) fz0.10=true→IntKind.i64=IntKind.i64∧(fz0.11 (Int.ofNat bz27)).11.3=(fz0.11 (Int.ofNat bz27)).11.3)∧∀(bz28:Nat),ilt (Int.ofNat bz28) fz0.10=true→EqC (CV.slc 1 (fz0.11 (Int.ofNat bz28)).11.4 (QR.Row.fn fun (bz29:Int) (bz30:Nat)=>CV.v (Value.int .u16 ((fz0.11 (Int.ofNat bz28)).11.5 bz29)))) (CV.slc 1 (fz0.11 (Int.ofNat bz28)).11.4 (QR.Row.fn fun (bz31:Int) (bz32:Nat)=>CV.v (Value.int .u16 ((fz0.11 (Int.ofNat bz28)).11.5 bz31)))))∧∀(bz33:Nat),ilt (Int.ofNat bz33) fz0.10=true→IntKind.i64=IntKind.i64∧(fz0.11 (Int.ofNat bz33)).12.1=(fz0.11 (Int.ofNat bz33)).12.1)∧∀(bz34:Nat),ilt (Int.ofNat bz34) fz0.10=true→IntKind.i64=IntKind.i64∧(fz0.11 (Int.ofNat bz34)).12.2=(fz0.11 (Int.ofNat bz34)).12.2)∧∀(bz35:Nat),ilt (Int.ofNat bz35) fz0.10=true→IntKind.i64=IntKind.i64∧(fz0.11 (Int.ofNat bz35)).12.3=(fz0.11 (Int.ofNat bz35)).12.3)∧∀(bz36:Nat),ilt (Int.ofNat bz36) fz0.10=true→EqC (CV.slc 1 (fz0.11 (Int.ofNat bz36)).12.4 (QR.Row.fn fun (bz37:Int) (bz38:Nat)=>CV.v (Value.int .u16 ((fz0.11 (Int.ofNat bz36)).12.5 bz37)))) (CV.slc 1 (fz0.11 (Int.ofNat bz36)).12.4 (QR.Row.fn fun (bz39:Int) (bz40:Nat)=>CV.v (Value.int .u16 ((fz0.11 (Int.ofNat bz36)).12.5 bz39)))))∧∀(bz41:Nat),ilt (Int.ofNat bz41) fz0.10=true→IntKind.i64=IntKind.i64∧(fz0.11 (Int.ofNat bz41)).13.1=(fz0.11 (Int.ofNat bz41)).13.1)∧∀(bz42:Nat),ilt (Int.ofNat bz42) fz0.10=true→IntKind.i64=IntKind.i64∧(fz0.11 (Int.ofNat bz42)).13.2=(fz0.11 (Int.ofNat bz42)).13.2)∧∀(bz43:Nat),ilt (Int.ofNat bz43) fz0.10=true→IntKind.i64=IntKind.i64∧(fz0.11 (Int.ofNat bz43)).13.3=(fz0.11 (Int.ofNat bz43)).13.3)∧∀(bz44:Nat),ilt (Int.ofNat bz44) fz0.10=true→EqC (CV.slc 1 (fz0.11 (Int.ofNat bz44)).13.4 (QR.Row.fn fun (bz45:Int) (bz46:Nat)=>CV.v (Value.int .u16 ((fz0.11 (Int.ofNat bz44)).13.5 bz45)))) (CV.slc 1 (fz0.11 (Int.ofNat bz44)).13.4 (QR.Row.fn fun (bz47:Int) (bz48:Nat)=>CV.v (Value.int .u16 ((fz0.11 (Int.ofNat bz44)).13.5 bz47)))))∧(12=12∧fz0.12=fz0.12∧opsE fz0.12 fz0.13 fz0.13)∧True)
def zz944 (fz0:Sc):QR.Row:=(QR.Row.col 0 (fun (bz0:Int)=>CV.v (Value.int .i64 (fz0.11 bz0).1)) (QR.Row.col 1 (fun (bz1:Int)=>CV.v (Value.int .i64 (fz0.11 bz1).2)) (QR.Row.col 2 (fun (bz2:Int)=>CV.v (Value.bool (fz0.11 bz2).3)) (QR.Row.col 3 (fun (bz3:Int)=>CV.v (Value.int .u16 (fz0.11 bz3).4)) (QR.Row.col 4 (fun (bz4:Int)=>CV.v (Value.int .u16 (fz0.11 bz4).5)) (QR.Row.col 5 (fun (bz5:Int)=>CV.v (Value.int .u16 (fz0.11 bz5).6)) (QR.Row.col 6 (fun (bz6:Int)=>CV.v (Value.int .u16 (fz0.11 bz6).7)) (QR.Row.col 7 (fun (bz7:Int)=>CV.v (Value.int .u16 (fz0.11 bz7).8)) (QR.Row.col 8 (fun (bz8:Int)=>CV.v (Value.int .i64 (fz0.11 bz8).9.1)) (QR.Row.col 9 (fun (bz9:Int)=>CV.v (Value.int .i64 (fz0.11 bz9).9.2)) (QR.Row.col 10 (fun (bz10:Int)=>CV.v (Value.int .i64 (fz0.11 bz10).9.3)) (QR.Row.col 11 (fun (bz11:Int)=>CV.slc 1 (fz0.11 bz11).9.4 (QR.Row.fn fun (bz12:Int) (bz13:Nat)=>CV.v (Value.int .u16 ((fz0.11 bz11).9.5 bz12)))) (QR.Row.col 12 (fun (bz14:Int)=>CV.v (Value.int .i64 (fz0.11 bz14).10.1)) (QR.Row.col 13 (fun (bz15:Int)=>CV.v (Value.int .i64 (fz0.11 bz15).10.2)) (QR.Row.col 14 (fun (bz16:Int)=>CV.v (Value.int .i64 (fz0.11 bz16).10.3)) (QR.Row.col 15 (fun (bz17:Int)=>CV.slc 1 (fz0.11 bz17).10.4 (QR.Row.fn fun (bz18:Int) (bz19:Nat)=>CV.v (Value.int .u16 ((fz0.11 bz17).10.5 bz18)))) (QR.Row.col 16 (fun (bz20:Int)=>CV.v (Value.int .i64 (fz0.11 bz20).11.1)) (QR.Row.col 17 (fun (bz21:Int)=>CV.v (Value.int .i64 (fz0.11 bz21).11.2)) (QR.Row.col 18 (fun (bz22:Int)=>CV.v (Value.int .i64 (fz0.11 bz22).11.3)) (QR.Row.col 19 (fun (bz23:Int)=>CV.slc 1 (fz0.11 bz23).11.4 (QR.Row.fn fun (bz24:Int) (bz25:Nat)=>CV.v (Value.int .u16 ((fz0.11 bz23).11.5 bz24)))) (QR.Row.col 20 (fun (bz26:Int)=>CV.v (Value.int .i64 (fz0.11 bz26).12.1)) (QR.Row.col 21 (fun (bz27:Int)=>CV.v (Value.int .i64 (fz0.11 bz27).12.2)) (QR.Row.col 22 (fun (bz28:Int)=>CV.v (Value.int .i64 (fz0.11 bz28).12.3)) (QR.Row.col 23 (fun (bz29:Int)=>CV.slc 1 (fz0.11 bz29).12.4 (QR.Row.fn fun (bz30:Int) (bz31:Nat)=>CV.v (Value.int .u16 ((fz0.11 bz29).12.5 bz30)))) (QR.Row.col 24 (fun (bz32:Int)=>CV.v (Value.int .i64 (fz0.11 bz32).13.1)) (QR.Row.col 25 (fun (bz33:Int)=>CV.v (Value.int .i64 (fz0.11 bz33).13.2)) (QR.Row.col 26 (fun (bz34:Int)=>CV.v (Value.int .i64 (fz0.11 bz34).13.3)) (QR.Row.col 27 (fun (bz35:Int)=>CV.slc 1 (fz0.11 bz35).13.4 (QR.Row.fn fun (bz36:Int) (bz37:Nat)=>CV.v (Value.int .u16 ((fz0.11 bz35).13.5 bz36)))) (QR.Row.zer [])))))))))))))))))))))))))))))
def zz945 (fz0:Sc):QR.Row:=(QR.Row.col 0 (fun (bz0:Int)=>CV.v (Value.int .i64 (fz0.13 bz0).1)) (QR.Row.col 1 (fun (bz1:Int)=>CV.v (Value.int .i64 (fz0.13 bz1).2)) (QR.Row.col 2 (fun (bz2:Int)=>CV.v (Value.int .i64 (fz0.13 bz2).3)) (QR.Row.col 3 (fun (bz3:Int)=>CV.v (Value.int .i64 (fz0.13 bz3).4)) (QR.Row.col 4 (fun (bz4:Int)=>CV.v (Value.int .i64 (fz0.13 bz4).5)) (QR.Row.col 5 (fun (bz5:Int)=>CV.v (Value.int .i64 (fz0.13 bz5).6)) (QR.Row.col 6 (fun (bz6:Int)=>CV.v (Value.int .i64 (fz0.13 bz6).7)) (QR.Row.col 7 (fun (bz7:Int)=>CV.v (Value.int .u16 (fz0.13 bz7).8)) (QR.Row.col 8 (fun (bz8:Int)=>CV.v (Value.int .i64 (fz0.13 bz8).9)) (QR.Row.col 9 (fun (bz9:Int)=>CV.v (Value.int .i64 (fz0.13 bz9).10)) (QR.Row.col 10 (fun (bz10:Int)=>CV.v (Value.bool (fz0.13 bz10).11)) (QR.Row.col 11 (fun (bz11:Int)=>CV.v (Value.bool (fz0.13 bz11).12)) (QR.Row.zer [])))))))))))))
def zz947 (fz0:Sc) (fz1:Int) (fz2:Int):Prop:=(12=12∧addZ (lenO (stkI fz0 fz1)) 1=lenO (stkI fz0 fz2)∧(((((((((((True∧∀(bz0:Nat),ilt (Int.ofNat bz0) (addZ (lenO (stkI fz0 fz1)) 1)=true→IntKind.i64=IntKind.i64∧isel (ilt (Int.ofNat bz0) (lenO (stkI fz0 fz1))) (nthO (stkI fz0 fz1) (Int.ofNat bz0)).1 (isel (ieq (subZ (Int.ofNat bz0) (lenO (stkI fz0 fz1))) 0) (fz0.13 fz1).1 0)=(nthO (stkI fz0 fz2) (Int.ofNat bz0)).1)∧∀(bz1:Nat),ilt (Int.ofNat bz1) (addZ (lenO (stkI fz0 fz1)) 1)=true→IntKind.i64=IntKind.i64∧isel (ilt (Int.ofNat bz1) (lenO (stkI fz0 fz1))) (nthO (stkI fz0 fz1) (Int.ofNat bz1)).2 (isel (ieq (subZ (Int.ofNat bz1) (lenO (stkI fz0 fz1))) 0) (fz0.13 fz1).2 0)=(nthO (stkI fz0 fz2) (Int.ofNat bz1)).2)∧∀(bz2:Nat),ilt (Int.ofNat bz2) (addZ (lenO (stkI fz0 fz1)) 1)=true→IntKind.i64=IntKind.i64∧isel (ilt (Int.ofNat bz2) (lenO (stkI fz0 fz1))) (nthO (stkI fz0 fz1) (Int.ofNat bz2)).3 (isel (ieq (subZ (Int.ofNat bz2) (lenO (stkI fz0 fz1))) 0) (fz0.13 fz1).3 0)=(nthO (stkI fz0 fz2) (Int.ofNat bz2)).3)∧∀(bz3:Nat),ilt (Int.ofNat bz3) (addZ (lenO (stkI fz0 fz1)) 1)=true→IntKind.i64=IntKind.i64∧isel (ilt (Int.ofNat bz3) (lenO (stkI fz0 fz1))) (nthO (stkI fz0 fz1) (Int.ofNat bz3)).4 (isel (ieq (subZ (Int.ofNat bz3) (lenO (stkI fz0 fz1))) 0) (fz0.13 fz1).4 0)=(nthO (stkI fz0 fz2) (Int.ofNat bz3)).4)∧∀(bz4:Nat),ilt (Int.ofNat bz4) (addZ (lenO (stkI fz0 fz1)) 1)=true→IntKind.i64=IntKind.i64∧isel (ilt (Int.ofNat bz4) (lenO (stkI fz0 fz1))) (nthO (stkI fz0 fz1) (Int.ofNat bz4)).5 (isel (ieq (subZ (Int.ofNat bz4) (lenO (stkI fz0 fz1))) 0) (fz0.13 fz1).5 0)=(nthO (stkI fz0 fz2) (Int.ofNat bz4)).5)∧∀(bz5:Nat),ilt (Int.ofNat bz5) (addZ (lenO (stkI fz0 fz1)) 1)=true→IntKind.i64=IntKind.i64∧isel (ilt (Int.ofNat bz5) (lenO (stkI fz0 fz1))) (nthO (stkI fz0 fz1) (Int.ofNat bz5)).6 (isel (ieq (subZ (Int.ofNat bz5) (lenO (stkI fz0 fz1))) 0) (fz0.13 fz1).6 0)=(nthO (stkI fz0 fz2) (Int.ofNat bz5)).6)∧∀(bz6:Nat),ilt (Int.ofNat bz6) (addZ (lenO (stkI fz0 fz1)) 1)=true→IntKind.i64=IntKind.i64∧isel (ilt (Int.ofNat bz6) (lenO (stkI fz0 fz1))) (nthO (stkI fz0 fz1) (Int.ofNat bz6)).7 (isel (ieq (subZ (Int.ofNat bz6) (lenO (stkI fz0 fz1))) 0) (fz0.13 fz1).7 0)=(nthO (stkI fz0 fz2) (Int.ofNat bz6)).7)∧∀(bz7:Nat),ilt (Int.ofNat bz7) (addZ (lenO (stkI fz0 fz1)) 1)=true→IntKind.u16=IntKind.u16∧isel (ilt (Int.ofNat bz7) (lenO (stkI fz0 fz1))) (nthO (stkI fz0 fz1) (Int.ofNat bz7)).8 (isel (ieq (subZ (Int.ofNat bz7) (lenO (stkI fz0 fz1))) 0) (fz0.13 fz1).8 0)=(nthO (stkI fz0 fz2) (Int.ofNat bz7)).8)∧∀(bz8:Nat),ilt (Int.ofNat bz8) (addZ (lenO (stkI fz0 fz1)) 1)=true→IntKind.i64=IntKind.i64∧isel (ilt (Int.ofNat bz8) (lenO (stkI fz0 fz1))) (nthO (stkI fz0 fz1) (Int.ofNat bz8)).9 (isel (ieq (subZ (Int.ofNat bz8) (lenO (stkI fz0 fz1))) 0) (fz0.13 fz1).9 0)=(nthO (stkI fz0 fz2) (Int.ofNat bz8)).9)∧∀(bz9:Nat),ilt (Int.ofNat bz9) (addZ (lenO (stkI fz0 fz1)) 1)=true→IntKind.i64=IntKind.i64∧isel (ilt (Int.ofNat bz9) (lenO (stkI fz0 fz1))) (nthO (stkI fz0 fz1) (Int.ofNat bz9)).10 (isel (ieq (subZ (Int.ofNat bz9) (lenO (stkI fz0 fz1))) 0) (fz0.13 fz1).10 0)=(nthO (stkI fz0 fz2) (Int.ofNat bz9)).10)∧∀(bz10:Nat),ilt (Int.ofNat bz10) (addZ (lenO (stkI fz0 fz1)) 1)=true→bsel (ilt (Int.ofNat bz10) (lenO (stkI fz0 fz1))) (nthO (stkI fz0 fz1) (Int.ofNat bz10)).11 (bsel (ieq (subZ (Int.ofNat bz10) (lenO (stkI fz0 fz1))) 0) (fz0.13 fz1).11 false)=(nthO (stkI fz0 fz2) (Int.ofNat bz10)).11)∧∀(bz11:Nat),ilt (Int.ofNat bz11) (addZ (lenO (stkI fz0 fz1)) 1)=true→bsel (ilt (Int.ofNat bz11) (lenO (stkI fz0 fz1))) (nthO (stkI fz0 fz1) (Int.ofNat bz11)).12 (bsel (ieq (subZ (Int.ofNat bz11) (lenO (stkI fz0 fz1))) 0) (fz0.13 fz1).12 false)=(nthO (stkI fz0 fz2) (Int.ofNat bz11)).12)
def zz948 (fz0:Sc) (fz1:Int):Prop:=(12=12∧0=lenO (stkI fz0 fz1)∧(((((((((((True∧∀(bz0:Nat),ilt (Int.ofNat bz0) 0=true→Value.tuple #[]=Value.int .i64 (nthO (stkI fz0 fz1) (Int.ofNat bz0)).1)∧∀(bz1:Nat),ilt (Int.ofNat bz1) 0=true→Value.tuple #[]=Value.int .i64 (nthO (stkI fz0 fz1) (Int.ofNat bz1)).2)∧∀(bz2:Nat),ilt (Int.ofNat bz2) 0=true→Value.tuple #[]=Value.int .i64 (nthO (stkI fz0 fz1) (Int.ofNat bz2)).3)∧∀(bz3:Nat),ilt (Int.ofNat bz3) 0=true→Value.tuple #[]=Value.int .i64 (nthO (stkI fz0 fz1) (Int.ofNat bz3)).4)∧∀(bz4:Nat),ilt (Int.ofNat bz4) 0=true→Value.tuple #[]=Value.int .i64 (nthO (stkI fz0 fz1) (Int.ofNat bz4)).5)∧∀(bz5:Nat),ilt (Int.ofNat bz5) 0=true→Value.tuple #[]=Value.int .i64 (nthO (stkI fz0 fz1) (Int.ofNat bz5)).6)∧∀(bz6:Nat),ilt (Int.ofNat bz6) 0=true→Value.tuple #[]=Value.int .i64 (nthO (stkI fz0 fz1) (Int.ofNat bz6)).7)∧∀(bz7:Nat),ilt (Int.ofNat bz7) 0=true→Value.tuple #[]=Value.int .u16 (nthO (stkI fz0 fz1) (Int.ofNat bz7)).8)∧∀(bz8:Nat),ilt (Int.ofNat bz8) 0=true→Value.tuple #[]=Value.int .i64 (nthO (stkI fz0 fz1) (Int.ofNat bz8)).9)∧∀(bz9:Nat),ilt (Int.ofNat bz9) 0=true→Value.tuple #[]=Value.int .i64 (nthO (stkI fz0 fz1) (Int.ofNat bz9)).10)∧∀(bz10:Nat),ilt (Int.ofNat bz10) 0=true→Value.tuple #[]=Value.bool (nthO (stkI fz0 fz1) (Int.ofNat bz10)).11)∧∀(bz11:Nat),ilt (Int.ofNat bz11) 0=true→Value.tuple #[]=Value.bool (nthO (stkI fz0 fz1) (Int.ofNat bz11)).12)
def zz949 (fz0:Sc) (fz1:Int):Prop:=(ja8 (lenO (stkI fz0 fz1)) (QR.Row.col 0 (fun (bz0:Int)=>CV.v (Value.int .i64 (nthO (stkI fz0 fz1) bz0).1)) (QR.Row.col 1 (fun (bz1:Int)=>CV.v (Value.int .i64 (nthO (stkI fz0 fz1) bz1).2)) (QR.Row.col 2 (fun (bz2:Int)=>CV.v (Value.int .i64 (nthO (stkI fz0 fz1) bz2).3)) (QR.Row.col 3 (fun (bz3:Int)=>CV.v (Value.int .i64 (nthO (stkI fz0 fz1) bz3).4)) (QR.Row.col 4 (fun (bz4:Int)=>CV.v (Value.int .i64 (nthO (stkI fz0 fz1) bz4).5)) (QR.Row.col 5 (fun (bz5:Int)=>CV.v (Value.int .i64 (nthO (stkI fz0 fz1) bz5).6)) (QR.Row.col 6 (fun (bz6:Int)=>CV.v (Value.int .i64 (nthO (stkI fz0 fz1) bz6).7)) (QR.Row.col 7 (fun (bz7:Int)=>CV.v (Value.int .u16 (nthO (stkI fz0 fz1) bz7).8)) (QR.Row.col 8 (fun (bz8:Int)=>CV.v (Value.int .i64 (nthO (stkI fz0 fz1) bz8).9)) (QR.Row.col 9 (fun (bz9:Int)=>CV.v (Value.int .i64 (nthO (stkI fz0 fz1) bz9).10)) (QR.Row.col 10 (fun (bz10:Int)=>CV.v (Value.bool (nthO (stkI fz0 fz1) bz10).11)) (QR.Row.col 11 (fun (bz11:Int)=>CV.v (Value.bool (nthO (stkI fz0 fz1) bz11).12)) (QR.Row.zer [])))))))))))))∧ile 0 (lenO (stkI fz0 fz1))=true∧ile (lenO (stkI fz0 fz1)) 9223372036854775807=true∧intRow IntKind.i64 1 fz0.8 (QR.Row.fn fun (bz12:Int) (bz13:Nat)=>CV.v (Value.int .i64 (fz0.9 bz12)))∧jc5 fz0.10 (zz944 fz0)∧ja8 fz0.12 (zz945 fz0)∧ile 0 fz0.8=true∧ile 0 fz0.10=true∧ile 0 fz0.12=true∧True)
set_option maxRecDepth 100000 in
theorem yl0 (s:Sc) (V:List QR.XV→List (List QR.CV)→Prop):QR.ja5 Tryd.prog (vi9) (fun n=>bif Nat.beq n 3 then some (.ownF [(4,none,12)] fun _=>[q49 s]) else none) (Tryd.f31.body.getD .skip) Tryd.f31.results.toList Tryd.f31.ntmps [.x (.agg (ji8 s))] V=(True∧True∧∀(i:Int),i=s.12→True∧((∃(i_1:Int),voI s i_1∧True∧true=true∧((true=true∧0=0∧0=0)∧(true=true∧4188160=4188160∧0=lenO (stkI s i_1))∧(true=true∧12=12∧s.12=s.12∧opsE s.12 s.13 s.13)∧(true=true∧IntKind.i64=IntKind.i64∧i=s.12)∧(true=true∧IntKind.i64=IntKind.i64∧(0:Int)=i_1)∧True)∧(zz943 s)∧(zz948 s i_1)∧True)∨False)∧(∀(i:Int),voI s i→True∧ja0 (ilt i s.12) ((ile 0 i=true∧ilt i s.12=true∧True)∧∀(i_1:Int),(i_1=opV s i (lenO (stkI s i)) fun (i_2:Int)=>nthO (stkI s i) i_2)→(zz949 s i)∧True∧ja0 (ine i_1 0) (True∧True∧V [XV.c (CV.v (Value.int .i64 i_1)),XV.c (CV.v (Value.int .i64 i))] []) (True∧True∧ja0 (ieq (s.13 i).1 2) ((ile (jd2 (addZ (lenO (stkI s i)) 1) 88) 140737488355328=true∧True)∧True∧((∃(i_2:Int),voI s i_2∧(True∧true=true∧((true=true∧1000000000000000=1000000000000000∧0=0)∧(true=true∧4204547=4204547∧addZ (lenO (stkI s i)) 1=lenO (stkI s i_2))∧(true=true∧12=12∧s.12=s.12∧opsE s.12 s.13 s.13)∧(true=true∧IntKind.i64=IntKind.i64∧s.12=s.12)∧(true=true∧IntKind.i64=IntKind.i64∧iadd IntKind.i64 i 1=i_2)∧True)∧(zz943 s)∧(zz947 s i i_2)∧True)∧Nat.le (Nat.succ (je0 s.12 i_2)) (je0 s.12 i))∨False)) (True∧ja0 (ieq (s.13 i).1 3) (∀(i_2:Int),i_2=lenO (stkI s i)→(ile 0 (isub IntKind.i64 i_2 1)=true∧ile (isub IntKind.i64 i_2 1) (lenO (stkI s i))=true∧True)∧True∧((∃(i_3:Int),voI s i_3∧(True∧true=true∧((true=true∧1000000000000000=1000000000000000∧0=0)∧(true=true∧4206596=4206596∧isub IntKind.i64 i_2 1=lenO (stkI s i_3))∧(true=true∧12=12∧s.12=s.12∧opsE s.12 s.13 s.13)∧(true=true∧IntKind.i64=IntKind.i64∧s.12=s.12)∧(true=true∧IntKind.i64=IntKind.i64∧iadd IntKind.i64 i 1=i_3)∧True)∧(zz943 s)∧(12=12∧isub IntKind.i64 i_2 1=lenO (stkI s i_3)∧opsE (isub IntKind.i64 i_2 1) (nthO (stkI s i)) (nthO (stkI s i_3)))∧True)∧Nat.le (Nat.succ (je0 s.12 i_3)) (je0 s.12 i))∨False)) (True∧((∃(i_2:Int),voI s i_2∧(True∧true=true∧((true=true∧1000000000000000=1000000000000000∧0=0)∧(true=true∧1000000000000001=1000000000000001∧lenO (stkI s i)=lenO (stkI s i_2))∧(true=true∧12=12∧s.12=s.12∧opsE s.12 s.13 s.13)∧(true=true∧IntKind.i64=IntKind.i64∧s.12=s.12)∧(true=true∧IntKind.i64=IntKind.i64∧iadd IntKind.i64 i 1=i_2)∧True)∧(zz943 s)∧(12=12∧lenO (stkI s i)=lenO (stkI s i_2)∧opsE (lenO (stkI s i)) (nthO (stkI s i)) (nthO (stkI s i_2)))∧True)∧Nat.le (Nat.succ (je0 s.12 i_2)) (je0 s.12 i))∨False))))) (∀(i_1:Int),i_1=lenO (stkI s i)→True∧ja0 (igt i_1 0) (∀(i:Int),i=s.12→True∧True∧V [XV.c (CV.v (Value.int .i64 18)),XV.c (CV.v (Value.int .i64 i))] []) (True∧True∧V [XV.c (CV.v (Value.int .i64 0)),XV.c (CV.v (Value.int .i64 0))] [])))∧True):=by
  delta zz943 zz944 zz945 zz947 zz948 zz949 opsE
  try delta vi9
  try delta q49
  try delta qe8
  try delta jy8
  try delta je8
  try delta ji8
  try delta ji1
  try delta jg4
  try delta qj5
  generalize @jc5=jc5
  generalize @intRow=intRow
  generalize @lenO=lenO
  generalize @je0=je0
  generalize @nthO=nthO
  generalize @opV=opV
  generalize @ja8=ja8
  generalize @stkI=stkI
  generalize @voI=voI
  kernel_rfl
def zz950 (fz0:Sc):Prop:=(intRow IntKind.i64 1 fz0.8 (QR.Row.fn fun (bz0:Int) (bz1:Nat)=>CV.v (Value.int .i64 (fz0.9 bz0)))∧jc5 fz0.10 (zz944 fz0)∧ja8 fz0.12 (zz945 fz0)∧ile 0 fz0.8=true∧ile 0 fz0.10=true∧ile 0 fz0.12=true∧True)
noncomputable def q51:QR.ja7:=QR.orc [(15,qi9),(31,qg3)]
set_option maxRecDepth 100000 in
theorem yb8 (s:Sc) (V:List QR.XV→List (List QR.CV)→Prop):QR.ja5 Tryd.prog (q51) (QR.ja4) (Tryd.f13.body.getD .skip) Tryd.f13.results.toList Tryd.f13.ntmps [.x (.agg (ji8 s))] V=(True∧∀(i:Int),i=frV s→(zz950 s)∧True∧ja0 (ine i 0) (True∧True∧V [XV.c (CV.v (Value.int .i64 i)),XV.c (CV.v (Value.int .i64 0))] []) (∀(i:Int),i=qe0 s→∀(i_1:Int),i_1=qe1 s→(ile s.12 4096=true∧intRow IntKind.i64 1 s.8 (QR.Row.fn fun (i:Int) (x:Nat)=>CV.v (Value.int .i64 (s.9 i)))∧jc5 s.10 (zz944 s)∧ja8 s.12 (zz945 s)∧ile 0 s.8=true∧ile 0 s.10=true∧ile 0 s.12=true∧True)∧True∧V [XV.c (CV.v (Value.int .i64 i)),XV.c (CV.v (Value.int .i64 i_1))] [])):=by
  delta zz944 zz945 zz950
  try delta q51
  try delta qi9
  try delta qg3
  try delta ji1
  generalize @frV=frV
  generalize @jc5=jc5
  generalize @intRow=intRow
  generalize @ja8=ja8
  generalize @qe0=qe0
  generalize @qe1=qe1
  kernel_rfl
noncomputable def vj0:QR.ja7:=QR.orc [(15,qi9),(29,jl9),(30,yn4),(31,qg3)]
def zz946 (fz0:Sc):Prop:=(true=true∧28=28∧fz0.10=fz0.10∧(((((((((((((((((((((((((((True∧∀(bz0:Nat),ilt (Int.ofNat bz0) fz0.10=true→IntKind.i64=IntKind.i64∧(fz0.11 (Int.ofNat bz0)).1=(fz0.11 (Int.ofNat bz0)).1)∧∀(bz1:Nat),ilt (Int.ofNat bz1) fz0.10=true→IntKind.i64=IntKind.i64∧(fz0.11 (Int.ofNat bz1)).2=(fz0.11 (Int.ofNat bz1)).2)∧∀(bz2:Nat),ilt (Int.ofNat bz2) fz0.10=true→(fz0.11 (Int.ofNat bz2)).3=(fz0.11 (Int.ofNat bz2)).3)∧∀(bz3:Nat),ilt (Int.ofNat bz3) fz0.10=true→IntKind.u16=IntKind.u16∧(fz0.11 (Int.ofNat bz3)).4=(fz0.11 (Int.ofNat bz3)).4)∧∀(bz4:Nat),ilt (Int.ofNat bz4) fz0.10=true→IntKind.u16=IntKind.u16∧(fz0.11 (Int.ofNat bz4)).5=(fz0.11 (Int.ofNat bz4)).5)∧∀(bz5:Nat),ilt (Int.ofNat bz5) fz0.10=true→IntKind.u16=IntKind.u16∧(fz0.11 (Int.ofNat bz5)).6=(fz0.11 (Int.ofNat bz5)).6)∧∀(bz6:Nat),ilt (Int.ofNat bz6) fz0.10=true→IntKind.u16=IntKind.u16∧(fz0.11 (Int.ofNat bz6)).7=(fz0.11 (Int.ofNat bz6)).7)∧∀(bz7:Nat),ilt (Int.ofNat bz7) fz0.10=true→IntKind.u16=IntKind.u16∧(fz0.11 (Int.ofNat bz7)).8=(fz0.11 (Int.ofNat bz7)).8)∧∀(bz8:Nat),ilt (Int.ofNat bz8) fz0.10=true→IntKind.i64=IntKind.i64∧(fz0.11 (Int.ofNat bz8)).9.1=(fz0.11 (Int.ofNat bz8)).9.1)∧∀(bz9:Nat),ilt (Int.ofNat bz9) fz0.10=true→IntKind.i64=IntKind.i64∧(fz0.11 (Int.ofNat bz9)).9.2=(fz0.11 (Int.ofNat bz9)).9.2)∧∀(bz10:Nat),ilt (Int.ofNat bz10) fz0.10=true→IntKind.i64=IntKind.i64∧(fz0.11 (Int.ofNat bz10)).9.3=(fz0.11 (Int.ofNat bz10)).9.3)∧∀(bz11:Nat),ilt (Int.ofNat bz11) fz0.10=true→EqC (CV.slc 1 (fz0.11 (Int.ofNat bz11)).9.4 (QR.Row.fn fun (bz12:Int) (bz13:Nat)=>CV.v (Value.int .u16 ((fz0.11 (Int.ofNat bz11)).9.5 bz12)))) (CV.slc 1 (fz0.11 (Int.ofNat bz11)).9.4 (QR.Row.fn fun (bz14:Int) (bz15:Nat)=>CV.v (Value.int .u16 ((fz0.11 (Int.ofNat bz11)).9.5 bz14)))))∧∀(bz16:Nat),ilt (Int.ofNat bz16) fz0.10=true→IntKind.i64=IntKind.i64∧(fz0.11 (Int.ofNat bz16)).10.1=(fz0.11 (Int.ofNat bz16)).10.1)∧∀(bz17:Nat),ilt (Int.ofNat bz17) fz0.10=true→IntKind.i64=IntKind.i64∧(fz0.11 (Int.ofNat bz17)).10.2=(fz0.11 (Int.ofNat bz17)).10.2)∧∀(bz18:Nat),ilt (Int.ofNat bz18) fz0.10=true→IntKind.i64=IntKind.i64∧(fz0.11 (Int.ofNat bz18)).10.3=(fz0.11 (Int.ofNat bz18)).10.3)∧∀(bz19:Nat),ilt (Int.ofNat bz19) fz0.10=true→EqC (CV.slc 1 (fz0.11 (Int.ofNat bz19)).10.4 (QR.Row.fn fun (bz20:Int) (bz21:Nat)=>CV.v (Value.int .u16 ((fz0.11 (Int.ofNat bz19)).10.5 bz20)))) (CV.slc 1 (fz0.11 (Int.ofNat bz19)).10.4 (QR.Row.fn fun (bz22:Int) (bz23:Nat)=>CV.v (Value.int .u16 ((fz0.11 (Int.ofNat bz19)).10.5 bz22)))))∧∀(bz24:Nat),ilt (Int.ofNat bz24) fz0.10=true→IntKind.i64=IntKind.i64∧(fz0.11 (Int.ofNat bz24)).11.1=(fz0.11 (Int.ofNat bz24)).11.1)∧∀(bz25:Nat),ilt (Int.ofNat bz25) fz0.10=true→IntKind.i64=IntKind.i64∧(fz0.11 (Int.ofNat bz25)).11.2=(fz0.11 (Int.ofNat bz25)).11.2)∧∀(bz26:Nat),ilt (Int.ofNat bz26) fz0.10=true→IntKind.i64=IntKind.i64∧(fz0.11 (Int.ofNat bz26)).11.3=(fz0.11 (Int.ofNat bz26)).11.3)∧∀(bz27:Nat),ilt (Int.ofNat bz27) fz0.10=true→EqC (CV.slc 1 (fz0.11 (Int.ofNat bz27)).11.4 (QR.Row.fn fun (bz28:Int) (bz29:Nat)=>CV.v (Value.int .u16 ((fz0.11 (Int.ofNat bz27)).11.5 bz28)))) (CV.slc 1 (fz0.11 (Int.ofNat bz27)).11.4 (QR.Row.fn fun (bz30:Int) (bz31:Nat)=>CV.v (Value.int .u16 ((fz0.11 (Int.ofNat bz27)).11.5 bz30)))))∧∀(bz32:Nat),ilt (Int.ofNat bz32) fz0.10=true→IntKind.i64=IntKind.i64∧(fz0.11 (Int.ofNat bz32)).12.1=(fz0.11 (Int.ofNat bz32)).12.1)∧∀(bz33:Nat),ilt (Int.ofNat bz33) fz0.10=true→IntKind.i64=IntKind.i64∧(fz0.11 (Int.ofNat bz33)).12.2=(fz0.11 (Int.ofNat bz33)).12.2)∧∀(bz34:Nat),ilt (Int.ofNat bz34) fz0.10=true→IntKind.i64=IntKind.i64∧(fz0.11 (Int.ofNat bz34)).12.3=(fz0.11 (Int.ofNat bz34)).12.3)∧∀(bz35:Nat),ilt (Int.ofNat bz35) fz0.10=true→EqC (CV.slc 1 (fz0.11 (Int.ofNat bz35)).12.4 (QR.Row.fn fun (bz36:Int) (bz37:Nat)=>CV.v (Value.int .u16 ((fz0.11 (Int.ofNat bz35)).12.5 bz36)))) (CV.slc 1 (fz0.11 (Int.ofNat bz35)).12.4 (QR.Row.fn fun (bz38:Int) (bz39:Nat)=>CV.v (Value.int .u16 ((fz0.11 (Int.ofNat bz35)).12.5 bz38)))))∧∀(bz40:Nat),ilt (Int.ofNat bz40) fz0.10=true→IntKind.i64=IntKind.i64∧(fz0.11 (Int.ofNat bz40)).13.1=(fz0.11 (Int.ofNat bz40)).13.1)∧∀(bz41:Nat),ilt (Int.ofNat bz41) fz0.10=true→IntKind.i64=IntKind.i64∧(fz0.11 (Int.ofNat bz41)).13.2=(fz0.11 (Int.ofNat bz41)).13.2)∧∀(bz42:Nat),ilt (Int.ofNat bz42) fz0.10=true→IntKind.i64=IntKind.i64∧(fz0.11 (Int.ofNat bz42)).13.3=(fz0.11 (Int.ofNat bz42)).13.3)∧∀(bz43:Nat),ilt (Int.ofNat bz43) fz0.10=true→EqC (CV.slc 1 (fz0.11 (Int.ofNat bz43)).13.4 (QR.Row.fn fun (bz44:Int) (bz45:Nat)=>CV.v (Value.int .u16 ((fz0.11 (Int.ofNat bz43)).13.5 bz44)))) (CV.slc 1 (fz0.11 (Int.ofNat bz43)).13.4 (QR.Row.fn fun (bz46:Int) (bz47:Nat)=>CV.v (Value.int .u16 ((fz0.11 (Int.ofNat bz43)).13.5 bz46)))))
set_option maxRecDepth 100000 in
theorem yl1 (s:Sc) (V:List QR.XV→List (List QR.CV)→Prop):QR.ja5 Tryd.prog (vj0) (fun n=>bif Nat.beq n 6 then some (.inv (q50 s)) else none) (Tryd.f12.body.getD .skip) Tryd.f12.results.toList Tryd.f12.ntmps [.x (.agg (ji8 s))] V=(True∧∀(i:Int),i=frV s→(zz950 s)∧True∧ja0 (ine i 0) (True∧True∧V [XV.c (CV.v (Value.int .i64 i)),XV.c (CV.v (Value.int .i64 0))] []) (∀(i:Int),i=smV s.1→True∧∀(i_1:Int),i_1=s.10→True∧(∃(i_2:Int),viI s i_2∧True∧true=true∧((true=true∧0=0∧0=0)∧(true=true∧IntKind.u16=IntKind.u16∧i=smV s.1)∧(zz946 s)∧(true=true∧IntKind.i64=IntKind.i64∧i_1=s.10)∧(true=true∧IntKind.i64=IntKind.i64∧(0:Int)=i_2)∧True)∧(zz943 s)∧True)∧∀(i:Int),viI s i→True∧ja0 (ilt i s.10) ((ile 0 i=true∧ilt i s.10=true∧True)∧∀(i_2:Int),i_2=imE (s.11 i) (smV s.1)→(imG (s.11 i)∧intRow IntKind.u16 1 (s.11 i).9.4 (QR.Row.fn fun (a:Int) (x:Nat)=>CV.v (Value.int .u16 ((s.11 i).9.5 a)))∧intRow IntKind.u16 1 (s.11 i).10.4 (QR.Row.fn fun (a:Int) (x:Nat)=>CV.v (Value.int .u16 ((s.11 i).10.5 a)))∧intRow IntKind.u16 1 (s.11 i).11.4 (QR.Row.fn fun (a:Int) (x:Nat)=>CV.v (Value.int .u16 ((s.11 i).11.5 a)))∧intRow IntKind.u16 1 (s.11 i).12.4 (QR.Row.fn fun (a:Int) (x:Nat)=>CV.v (Value.int .u16 ((s.11 i).12.5 a)))∧intRow IntKind.u16 1 (s.11 i).13.4 (QR.Row.fn fun (a:Int) (x:Nat)=>CV.v (Value.int .u16 ((s.11 i).13.5 a)))∧True)∧True∧ja0 (ine i_2 0) (True∧True∧V [XV.c (CV.v (Value.int .i64 i_2)),XV.c (CV.v (Value.int .i64 i))] []) (True∧∃(j:Int),viI s j∧(True∧true=true∧((true=true∧1000000000000000=1000000000000000∧0=0)∧(true=true∧IntKind.u16=IntKind.u16∧smV s.1=smV s.1)∧(zz946 s)∧(true=true∧IntKind.i64=IntKind.i64∧s.10=s.10)∧(true=true∧IntKind.i64=IntKind.i64∧iadd IntKind.i64 i 1=j)∧True)∧(zz943 s)∧True)∧Nat.le (Nat.succ (je0 s.10 j)) (je0 s.10 i))) (∀(i:Int),i=qe0 s→∀(i_2:Int),i_2=qe1 s→(ile s.12 4096=true∧intRow IntKind.i64 1 s.8 (QR.Row.fn fun (i:Int) (x:Nat)=>CV.v (Value.int .i64 (s.9 i)))∧jc5 s.10 (zz944 s)∧ja8 s.12 (zz945 s)∧ile 0 s.8=true∧ile 0 s.10=true∧ile 0 s.12=true∧True)∧True∧V [XV.c (CV.v (Value.int .i64 i)),XV.c (CV.v (Value.int .i64 i_2))] []))):=by
  delta zz943 zz944 zz945 zz946 zz950 opsE
  try delta vj0
  try delta q50
  try delta qi9
  try delta jl9
  try delta yn4
  try delta qg3
  try delta jg4
  try delta ji8
  try delta ji1
  try delta jn9
  try delta qj5
  try delta je8
  generalize @frV=frV
  generalize @imE=imE
  generalize @imG=imG
  generalize @jc5=jc5
  generalize @intRow=intRow
  generalize @je0=je0
  generalize @ja8=ja8
  generalize @smOk=smOk
  generalize @smV=smV
  generalize @viI=viI
  generalize @qe0=qe0
  generalize @qe1=qe1
  generalize @w2=w2
  kernel_rfl
end Go.Proofs.YthkidembkknoeaaDoor
namespace Go.Proofs.YthkidembkknoeaaDoor
open Go.RowKit PR QR
set_option linter.unusedVariables false
set_option linter.unusedSimpArgs false
set_option maxRecDepth 20000
theorem yb9 (f:Int→Ov):∀i:Nat,(stk f i).length≤i
  | 0=>Nat.le_refl _
  | i + 1=>by
    have h:=yb9 f i
    unfold stk
    cases ieq (f i).kd 2
    · rw [cond_false]
      cases ieq (f i).kd 3
      · exact Nat.le_succ_of_le h
      · rw [cond_true,List.length_dropLast];omega
    · rw [cond_true,List.length_append];exact Nat.succ_le_succ h
theorem yl2 (s:Sc) {i:Int} (h:0≤i):0≤lenO (stkI s i)∧lenO (stkI s i)≤i:=by
  have:=yb9 s.pl i.toNat
  unfold lenO stkI
  omega
theorem yq7 (s:Sc) {i:Int} (h:0≤i):stkI s (i + 1)=bif ieq (s.pl i).kd 2 then stkI s i ++ [s.pl i] else bif ieq (s.pl i).kd 3 then (stkI s i).dropLast else stkI s i:=by
  unfold stkI
  rw [show (i + 1).toNat=i.toNat + 1 by omega]
  show (bif ieq (s.pl (i.toNat:Int)).kd 2 then _ else _)=_
  rw [Int.toNat_of_nonneg h]
theorem yl3 (s:Sc) {i:Int} (h:0≤i) (n:vsE s i.toNat=none):vsE s (i + 1).toNat=bif ieq (vopI s i) 0 then none else some (vopI s i,i):=by
  rw [show (i + 1).toNat=i.toNat + 1 by omega]
  show (match vsE s i.toNat with | some e=>some e | none=>bif ieq (vopI s (i.toNat:Int)) 0 then none else some (vopI s (i.toNat:Int),(i.toNat:Int)))=_
  rw [n,Int.toNat_of_nonneg h]
theorem yq8 (s:Sc) {e:Int×Int}:∀{k n:Nat},vsE s k=some e→k≤n→vsE s n=some e
  | k,0,h,l=>by rw [show k=0 by omega] at h;exact h
  | k,n + 1,h,l=>by
    by_cases q:k=n + 1
    · subst q;exact h
    · have:=yq8 s h (show k≤n by omega)
      unfold vsE;rw [this]
theorem yc0 (s:Sc) {i:Int} (h:0≤i) (n:qr6 s i.toNat=none):qr6 s (i + 1).toNat=bif ieq (imE (s.ml i) (smV s.b)) 0 then none else some (imE (s.ml i) (smV s.b),i):=by
  rw [show (i + 1).toNat=i.toNat + 1 by omega]
  show (match qr6 s i.toNat with | some e=>some e | none=>bif ieq (imE (s.ml (i.toNat:Int)) (smV s.b)) 0 then none else some (imE (s.ml (i.toNat:Int)) (smV s.b),(i.toNat:Int)))=_
  rw [n,Int.toNat_of_nonneg h]
theorem vj1 (s:Sc) {e:Int×Int}:∀{k n:Nat},qr6 s k=some e→k≤n→qr6 s n=some e
  | k,0,h,l=>by rw [show k=0 by omega] at h;exact h
  | k,n + 1,h,l=>by
    by_cases q:k=n + 1
    · subst q;exact h
    · have:=vj1 s h (show k≤n by omega)
      unfold qr6;rw [this]
theorem vj2 (s:Sc) {i:Int} (h:0≤i) (hi:i < s.pn) (n:vsE s i.toNat=none) (e:vopI s i≠0):vsP s=(vopI s i,i):=by
  have a:=yl3 s h n
  rw [show ieq (vopI s i) 0=false from decide_eq_false e,cond_false] at a
  unfold vsP
  rw [yq8 s a (show (i + 1).toNat≤s.pn.toNat by omega)]
theorem q52 (s:Sc) (n:vsE s s.pn.toNat=none):vsP s=bif ieq (lenO (stkI s s.pn)) 0 then (0,0) else (18,s.pn):=by
  unfold vsP;rw [n]
theorem yl4 {s:Sc} {i:Int} (h:0≤i) (hi:i < s.pn) (e:vopI s i=0) (k:ieq (s.pl i).kd 3=true):lenO (stkI s i)≠0:=by
  intro z
  unfold vopI opV opE at e
  rw [decide_eq_true (show 0≤i∧i < s.pn from ⟨h,hi⟩),cond_true,decide_eq_true (by have:=jd7 k;omega),cond_true,k,z] at e
  cases q:uzB (s.pl i) <;> rw [q] at e <;> simp [ieq] at e
theorem yc1 (s:Sc) (h0:0≤s.on) (h1:0≤s.mn) (h2:0≤s.pn) (h3:s.pn≤4096) (A:List Prop):jk0 Tryd.prog 31 [.x (.agg (ji8 s))] ⟨[.c (.v (.int .i64 (qe0 s))),.c (.v (.int .i64 (qe1 s)))],[],A⟩:=by
  refine QR.ja2 (O:=vi9) (QR.ja3 QR.vx9 (QR.ja3 yb5 QR.jb4)) mixed (fun n=>bif Nat.beq n 3 then some (.ownF [(4,none,12)] fun _=>[q49 s]) else none) Tryd.func31 (by kernel_rfl) (by kernel_rfl) (by simp) ?_
  rw [yl0]
  delta zz943 zz944 zz945 zz947 zz948 zz949 opsE
  have VT:∀a b,vsP s=(a,b)→jb5 ⟨[.c (.v (.int .i64 (qe0 s))),.c (.v (.int .i64 (qe1 s)))],[],A⟩ [.c (.v (.int .i64 a)),.c (.v (.int .i64 b))] []:=fun a b h=>by
    unfold qe0 qe1;rw [h];simp [jb5,eqXs,eqX,eqo,eqLo,eqc,veq,eqUs]
  generalize jb5 ⟨[.c (.v (.int .i64 (qe0 s))),.c (.v (.int .i64 (qe1 s)))],[],A⟩=V at *
  have W:intRow .i64 1 s.on (.fn fun i _=>.v (.int .i64 (s.ol i))):=ji7 _ _ _
  have I:=vd9 s.mn s.ml
  have O:=qg2 s.pn s.pl
  have z0:=jb1 h0
  have z1:=jb1 h1
  have z2:=jb1 h2
  have mu:∀i:Int,0≤i→i < s.pn→(je0 s.pn (i + 1)).succ.le (je0 s.pn i):=fun i a b=>by
    show je0 s.pn (i + 1) < je0 s.pn i
    unfold je0;omega
  simp only [forall_eq,true_and,and_true,and_self,implies_true,or_false,false_or,false_and,and_false,exists_const,exists_false,ja1,qq9,qq8,qi7,false_implies]
  refine ⟨⟨0,⟨⟨Int.le_refl 0,h2⟩,rfl⟩,⟨rfl,rfl⟩,rfl⟩,fun i hi=>?_⟩
  obtain ⟨⟨i0,i1⟩,no⟩:=hi
  obtain ⟨l0,l1⟩:=yl2 s i0
  have S:=yq7 s i0
  rw [show opV s i (lenO (stkI s i)) (fun i_2=>nthO (stkI s i) i_2)=vopI s i from rfl]
  refine ⟨fun c=>?_,fun c=>?_⟩
  · have lt:=jh6 c
    have ia:iadd .i64 i 1=i + 1:=IntWalk.i64_in _ (by omega)
    rw [ia]
    have ag:ja8 (lenO (stkI s i)) (je8 (nthO (stkI s i))):=qg2 _ _
    refine ⟨⟨jb1 i0,c⟩,⟨ag,jb1 l0,jb1 (by omega),W,I,O,z0,z1,z2⟩,fun d=>VT _ _ (vj2 s i0 lt no (ve6 d)),fun d=>?_⟩
    have ok:vopI s i=0:=ve7 d
    have nx:voI s (i + 1):=⟨⟨by omega,by omega⟩,by rw [yl3 s i0 no,ok];rfl⟩
    refine ⟨fun k=>?_,fun k=>⟨fun k3=>?_,fun k3=>?_⟩⟩
    · rw [k,cond_true] at S
      refine ⟨jb1 (by unfold jd2 addZ;omega),i + 1,nx,?_⟩
      rw [S,js3]
      refine ⟨⟨⟨rfl,rfl⟩,rfl,?_⟩,mu i i0 lt⟩
      repeat' apply And.intro
      all_goals (intro n hn;rcases jx0 (stkI s i) (s.pl i) n hn with ⟨k1,k2⟩ | ⟨k1,k2,k3⟩ <;> first | (rw [k1,k2];rfl) | (rw [k1,k2,k3];rfl))
    · rw [k,k3,cond_false,cond_true] at S
      have g0:0 < lenO (stkI s i):=by have:=yl4 i0 lt ok k3;omega
      have is1:isub .i64 (lenO (stkI s i)) 1=lenO (stkI s i) - 1:=IntWalk.i64_in _ (by omega)
      rw [is1]
      refine ⟨⟨jb1 (by omega),jb1 (by omega)⟩,i + 1,nx,?_⟩
      rw [S,qr0 _ g0]
      refine ⟨⟨⟨rfl,rfl⟩,rfl,?_⟩,mu i i0 lt⟩
      repeat' apply And.intro
      all_goals (intro n hn;rw [vd1 _ rfl n hn])
    · rw [k,k3,cond_false,cond_false] at S
      refine ⟨i + 1,nx,?_⟩
      rw [S]
      refine ⟨⟨⟨rfl,rfl⟩,rfl,?_⟩,mu i i0 lt⟩
      repeat' apply And.intro
      all_goals (intro n hn;rfl)
  · have e:i=s.pn:=by have:=jy7 c;omega
    subst e
    have E:=q52 s no
    refine ⟨fun d=>VT _ _ ?_,fun d=>VT _ _ ?_⟩
    · rw [E,show ieq (lenO (stkI s s.pn)) 0=false from decide_eq_false (by have:lenO (stkI s s.pn) > 0:=of_decide_eq_true d;omega)];rfl
    · rw [E,show ieq (lenO (stkI s s.pn)) 0=true from decide_eq_true (by have:¬ lenO (stkI s s.pn) > 0:=of_decide_eq_false d;omega)];rfl
theorem y89 {s:Sc} (h:frV s=0):s.mn≤64∧s.pn≤4096:=by
  unfold frV at h
  cases a:smOk s.b <;> cases b:plcB s.x0 s.y0 s.x1 s.y1 <;> cases c:tiB s.x0 s.y0 s.x1 s.y1 s.tw s.th <;> cases d:ordB s.on s.ol (tiX s.x0 s.y0 s.x1 s.y1 s.tw s.th * tiY s.x0 s.y0 s.x1 s.y1 s.tw s.th) <;> cases e:ile s.mn 64 <;> cases f:ile s.pn 4096 <;> rw [a,b,c,d,e,f] at h <;> first | exact ⟨je6 e,je6 f⟩ | (simp at h)
theorem yc2:ja6 31 qg3:=by
  intro al ans h hq
  unfold qg3 at h
  split at h <;> try (simp at h;done)
  rename_i l
  cases e:ji1 l with
  | none=>simp [e] at h
  | some p =>
    obtain ⟨s,A⟩:=p
    rw [e] at h
    simp only [Option.some.injEq] at h
    subst h
    have h3:ile s.pn 4096=true:=hq _ (by simp)
    obtain ⟨q,h4,h5,h6⟩:=qr5 e (fun p hp=>hq p (by simp [hp]))
    exact jd4 (al':=[.x (.agg (ji8 s))]) ⟨q,trivial⟩ (yc1 s h4 h5 h6 (je6 h3) _)
theorem qx3 (s:Sc) (h0:0≤s.on) (h1:0≤s.mn) (h2:0≤s.pn) (A:List Prop):jk0 Tryd.prog 13 [.x (.agg (ji8 s))] ⟨[.c (.v (.int .i64 (chkE s))),.c (.v (.int .i64 (chkN s)))],[],A⟩:=by
  refine QR.ja2 (O:=q51) (QR.ja3 yb1 (QR.ja3 yc2 QR.jb4)) mixed QR.ja4 Tryd.func13 (by kernel_rfl) (by kernel_rfl) (by simp) ?_
  rw [yb8]
  delta zz944 zz945 zz950
  have VT:∀a b,chkE s=a→chkN s=b→jb5 ⟨[.c (.v (.int .i64 (chkE s))),.c (.v (.int .i64 (chkN s)))],[],A⟩ [.c (.v (.int .i64 a)),.c (.v (.int .i64 b))] []:=fun a b h k=>by
    rw [h,k];simp [jb5,eqXs,eqX,eqo,eqLo,eqc,veq,eqUs]
  generalize jb5 ⟨[.c (.v (.int .i64 (chkE s))),.c (.v (.int .i64 (chkN s)))],[],A⟩=V at *
  have W:intRow .i64 1 s.on (.fn fun i _=>.v (.int .i64 (s.ol i))):=ji7 _ _ _
  have I:=vd9 s.mn s.ml
  have O:=qg2 s.pn s.pl
  have z0:=jb1 h0
  have z1:=jb1 h1
  have z2:=jb1 h2
  simp only [forall_eq,true_and,and_true,implies_true,ja1]
  unfold chkE chkN at VT
  refine ⟨⟨W,I,O,z0,z1,z2⟩,fun c=>?_,fun c=>?_⟩
  · have n:ieq (frV s) 0=false:=decide_eq_false (ve6 c)
    rw [n] at VT
    exact VT _ _ rfl rfl
  · have n:frV s=0:=ve7 c
    rw [n] at VT
    exact ⟨⟨jb1 (y89 n).2,W,I,O,z0,z1,z2⟩,VT _ _ rfl rfl⟩
theorem yl5:ja6 13 qk7:=by
  intro al ans h hq
  unfold qk7 at h
  split at h <;> try (simp at h;done)
  rename_i l
  cases e:ji1 l with
  | none=>simp [e] at h
  | some p =>
    obtain ⟨s,A⟩:=p
    rw [e] at h
    simp only [Option.some.injEq] at h
    subst h
    obtain ⟨q,h4,h5,h6⟩:=qr5 e hq
    exact jd4 (al':=[.x (.agg (ji8 s))]) ⟨q,trivial⟩ (qx3 s h4 h5 h6 _)
theorem qr7 (s:Sc) (h0:0≤s.on) (h1:0≤s.mn) (h2:0≤s.pn) (hg:imsG s) (A:List Prop):jk0 Tryd.prog 12 [.x (.agg (ji8 s))] ⟨[.c (.v (.int .i64 (chE s))),.c (.v (.int .i64 (chN s)))],[],A⟩:=by
  refine QR.ja2 (O:=vj0) (QR.ja3 yb1 (QR.ja3 vj8 (QR.ja3 a_iv (QR.ja3 yc2 QR.jb4)))) mixed (fun n=>bif Nat.beq n 6 then some (.inv (q50 s)) else none) Tryd.func12 (by kernel_rfl) (by kernel_rfl) (by simp) ?_
  rw [yl1]
  delta zz943 zz944 zz945 zz946 zz950 opsE
  have VT:∀a b,chP s=(a,b)→jb5 ⟨[.c (.v (.int .i64 (chE s))),.c (.v (.int .i64 (chN s)))],[],A⟩ [.c (.v (.int .i64 a)),.c (.v (.int .i64 b))] []:=fun a b h=>by
    unfold chE chN;rw [h];simp [jb5,eqXs,eqX,eqo,eqLo,eqc,veq,eqUs]
  generalize jb5 ⟨[.c (.v (.int .i64 (chE s))),.c (.v (.int .i64 (chN s)))],[],A⟩=V at *
  have W:intRow .i64 1 s.on (.fn fun i _=>.v (.int .i64 (s.ol i))):=ji7 _ _ _
  have I:=vd9 s.mn s.ml
  have O:=qg2 s.pn s.pl
  have z0:=jb1 h0
  have z1:=jb1 h1
  have z2:=jb1 h2
  have mu:∀i:Int,0≤i→i < s.mn→(je0 s.mn (i + 1)).succ.le (je0 s.mn i):=fun i a b=>by
    show je0 s.mn (i + 1) < je0 s.mn i
    unfold je0;omega
  simp only [forall_eq,true_and,and_true,and_self,implies_true,or_false,false_or,false_and,and_false,exists_const,exists_false,ja1,qq9,qq8,qi7,false_implies]
  unfold chP at VT
  refine ⟨⟨W,I,O,z0,z1,z2⟩,fun c=>VT _ _ (by rw [show ieq (frV s) 0=false from decide_eq_false (ve6 c)];rfl),fun c=>?_⟩
  have fr:frV s=0:=ve7 c
  obtain ⟨m64,p4⟩:=y89 fr
  rw [fr,show ieq (0:Int) 0=true from rfl,cond_true] at VT
  refine ⟨⟨0,⟨⟨Int.le_refl 0,h1⟩,rfl⟩,rfl⟩,fun i hi=>?_⟩
  obtain ⟨⟨i0,i1⟩,no⟩:=hi
  refine ⟨fun c=>?_,fun c=>?_⟩
  · have lt:=jh6 c
    have ia:iadd .i64 i 1=i + 1:=IntWalk.i64_in _ (by omega)
    rw [ia]
    have gi:imG (s.ml i):=by have:=hg i.toNat (by omega);rwa [Int.toNat_of_nonneg i0] at this
    have st:=yc0 s i0 no
    have er:ine (imE (s.ml i) (smV s.b)) 0=true→V [.c (.v (.int .i64 (imE (s.ml i) (smV s.b)))),.c (.v (.int .i64 i))] []:=fun d=>VT _ _ (by
      rw [show ieq (imE (s.ml i) (smV s.b)) 0=false from decide_eq_false (ve6 d),cond_false] at st
      rw [vj1 s st (show (i + 1).toNat≤s.mn.toNat by omega)])
    have nx:ine (imE (s.ml i) (smV s.b)) 0=false→viI s (i + 1):=fun d=>⟨⟨by omega,by omega⟩,by rw [st,show imE (s.ml i) (smV s.b)=0 from ve7 d];rfl⟩
    refine ⟨⟨jb1 i0,c⟩,⟨gi,ji7 _ _ _,ji7 _ _ _,ji7 _ _ _,ji7 _ _ _,ji7 _ _ _⟩,er,fun d=>⟨i + 1,nx d,rfl,mu i i0 lt⟩⟩
  · have e:i=s.mn:=by have:=jy7 c;omega
    subst e
    rw [no] at VT
    exact ⟨⟨jb1 p4,W,I,O,z0,z1,z2⟩,VT _ _ rfl⟩
theorem yz8:ja6 12 q46:=by
  intro al ans h hq
  unfold q46 at h
  split at h <;> try (simp at h;done)
  rename_i l
  cases e:ji1 l with
  | none=>simp [e] at h
  | some p =>
    obtain ⟨s,A⟩:=p
    rw [e] at h
    simp only [Option.some.injEq] at h
    subst h
    have hg:imsG s:=hq _ (by simp)
    obtain ⟨q,h4,h5,h6⟩:=qr5 e (fun p hp=>hq p (by simp [hp]))
    exact jd4 (al':=[.x (.agg (ji8 s))]) ⟨q,trivial⟩ (qr7 s h4 h5 h6 hg _)
end Go.Proofs.YthkidembkknoeaaDoor
