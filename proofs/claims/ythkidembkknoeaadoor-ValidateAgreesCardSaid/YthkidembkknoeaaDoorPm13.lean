import Derived.Test.YthkidembkknoeaaDoorPm11
import Derived.Test.YthkidembkknoeaaDoorPm12
import Derived.Test.YthkidembkknoeaaDoorPm08
namespace Go.Proofs.YthkidembkknoeaaDoor
open Go.RowKit PR QR
set_option linter.unusedVariables false
def jj4 (k i:Int):Prop:=0<=i/\(i=0\/i<=k)
def jt7 (k i:Int):Nat:=(k - i).toNat
def qa4 (k i:Int):Prop:=jj4 k i/\i < k
noncomputable def qi0 (md n k t:Int) (q:Int->Nat->Int):QR.Inv where
 ι:=Int
 good i:=jj4 k i
 slots i:=QR.slotsOf Tryd.f47.ntmps [(1,.x (.c (.v (.int .i64 k)))),(2,.x (.c (.v (.int .u16 t)))),(3,.x (.c (.ptr 1000000000000000 0))),(6,.x (.c (.v (.slice none 0 0)))),(7,.x (.c (.own 1000000000000001 i))),(8,.x (.c (.v (.int .i64 i))))]
 blocks i:=[(1000000000000000,.cells [.v (.int .i64 md),.slc 5 n (.fn λ i j=>.v (.int .i64 (q i j)))]),(1000000000000001,.row 5 i (.fn λ p j=>.v (.int .u16 (gpxV md n q t p j))))]
 μ i:=jt7 k i
noncomputable def qi1 (md n k t:Int) (q:Int->Nat->Int) (i:Int):QR.Inv where
 ι:=Nat
 good _:=qa4 k i
 slots _:=QR.slotsOf Tryd.f47.ntmps [(1,.x (.c (.v (.int .i64 k)))),(2,.x (.c (.v (.int .u16 t)))),(3,.x (.c (.ptr 1000000000000000 0))),(6,.x (.c (.v (.slice none 0 0)))),(7,.x (.c (.own 1000000000000001 i))),(8,.x (.c (.v (.int .i64 i)))),(10,.x (.c (.ptr 1000000000000002 0)))]
 blocks _:=[(1000000000000000,.cells [.v (.int .i64 md),.slc 5 n (.fn λ i j=>.v (.int .i64 (q i j)))]),(1000000000000002,.cells [.v (.int .i64 (grQ n q i 0)),.v (.int .i64 (grQ n q i 1)),.v (.int .i64 (grQ n q i 2)),.v (.int .i64 (grQ n q i 3)),.v (.int .i64 (grQ n q i 4))]),(1000000000000001,.row 5 i (.fn λ p j=>.v (.int .u16 (gpxV md n q t p j))))]
 μ _:=0
def y60:QR.ja8:=QR.orc [(20,QR.qg4 jo4),(73,qe7)]
def zz8 (fz0:Int) (fz1:Int) (fz2:Int) (fz3:Int->Nat->Int) (fz4:Int) (fz5:Int):Prop:=(∀(bz0:Nat),qa4 fz0 fz1->∀(bz1:Int),bz1=gpC (grQ fz2 fz3 fz1 0) (grQ fz2 fz3 fz1 3) (grQ fz2 fz3 fz1 4) fz4->∀(bz2:Int),bz2=gpC (grQ fz2 fz3 fz1 1) (grQ fz2 fz3 fz1 3) (grQ fz2 fz3 fz1 4) fz4->∀(bz3:Int),bz3=gpC (grQ fz2 fz3 fz1 2) (grQ fz2 fz3 fz1 3) (grQ fz2 fz3 fz1 4) fz4->∀(bz4:Int),bz4=gpA (grQ fz2 fz3 fz1 3) (grQ fz2 fz3 fz1 4) fz4->∀(bz5:Int),bz5=gpF (grQ fz2 fz3 fz1 4) fz4->(in16 fz4=true/\True)/\∀(bz6:Int),bz6=gmod fz5 6->(jc2 6=true/\True)/\True/\ja0 (ieq bz6 0) (True/\(ile (jd2 (addZ fz1 1) 10) 140737488355328=true/\True)/\True/\((∃(bz7:Int),jj4 fz0 bz7/\(True/\true=true/\((true=true/\IntKind.i64=IntKind.i64/\fz0=fz0)/\(true=true/\IntKind.u16=IntKind.u16/\fz4=fz4)/\(true=true/\1000000000000000=1000000000000000/\0=0)/\(true=true/\Value.slice Option.none 0 0=Value.slice Option.none 0 0)/\(true=true/\8409091=8409091/\addZ fz1 1=bz7)/\(true=true/\IntKind.i64=IntKind.i64/\iadd IntKind.i64 fz1 1=bz7)/\True)/\((IntKind.i64=IntKind.i64/\fz5=fz5)/\(5=5/\fz2=fz2/\((((True/\∀(bz8:Nat),ilt (Int.ofNat bz8) fz2=true->IntKind.i64=IntKind.i64/\fz3 (Int.ofNat bz8) 0=fz3 (Int.ofNat bz8) 0)/\∀(bz9:Nat),ilt (Int.ofNat bz9) fz2=true->IntKind.i64=IntKind.i64/\fz3 (Int.ofNat bz9) 1=fz3 (Int.ofNat bz9) 1)/\∀(bz10:Nat),ilt (Int.ofNat bz10) fz2=true->IntKind.i64=IntKind.i64/\fz3 (Int.ofNat bz10) 2=fz3 (Int.ofNat bz10) 2)/\∀(bz11:Nat),ilt (Int.ofNat bz11) fz2=true->IntKind.i64=IntKind.i64/\fz3 (Int.ofNat bz11) 3=fz3 (Int.ofNat bz11) 3)/\∀(bz12:Nat),ilt (Int.ofNat bz12) fz2=true->IntKind.i64=IntKind.i64/\fz3 (Int.ofNat bz12) 4=fz3 (Int.ofNat bz12) 4)/\True)/\(5=5/\addZ fz1 1=bz7/\((((True/\∀(bz13:Nat),ilt (Int.ofNat bz13) (addZ fz1 1)=true->IntKind.u16=IntKind.u16/\isel (ilt (Int.ofNat bz13) fz1) (gpxV fz5 fz2 fz3 fz4 (Int.ofNat bz13) 0) (isel (ieq (subZ (Int.ofNat bz13) fz1) 0) 0 0)=gpxV fz5 fz2 fz3 fz4 (Int.ofNat bz13) 0)/\∀(bz14:Nat),ilt (Int.ofNat bz14) (addZ fz1 1)=true->IntKind.u16=IntKind.u16/\isel (ilt (Int.ofNat bz14) fz1) (gpxV fz5 fz2 fz3 fz4 (Int.ofNat bz14) 1) (isel (ieq (subZ (Int.ofNat bz14) fz1) 0) 0 0)=gpxV fz5 fz2 fz3 fz4 (Int.ofNat bz14) 1)/\∀(bz15:Nat),ilt (Int.ofNat bz15) (addZ fz1 1)=true->IntKind.u16=IntKind.u16/\isel (ilt (Int.ofNat bz15) fz1) (gpxV fz5 fz2 fz3 fz4 (Int.ofNat bz15) 2) (isel (ieq (subZ (Int.ofNat bz15) fz1) 0) 0 0)=gpxV fz5 fz2 fz3 fz4 (Int.ofNat bz15) 2)/\∀(bz16:Nat),ilt (Int.ofNat bz16) (addZ fz1 1)=true->IntKind.u16=IntKind.u16/\isel (ilt (Int.ofNat bz16) fz1) (gpxV fz5 fz2 fz3 fz4 (Int.ofNat bz16) 3) (isel (ieq (subZ (Int.ofNat bz16) fz1) 0) 0 0)=gpxV fz5 fz2 fz3 fz4 (Int.ofNat bz16) 3)/\∀(bz17:Nat),ilt (Int.ofNat bz17) (addZ fz1 1)=true->IntKind.u16=IntKind.u16/\isel (ilt (Int.ofNat bz17) fz1) (gpxV fz5 fz2 fz3 fz4 (Int.ofNat bz17) 4) (isel (ieq (subZ (Int.ofNat bz17) fz1) 0) 0 0)=gpxV fz5 fz2 fz3 fz4 (Int.ofNat bz17) 4)/\True)/\Nat.le (Nat.succ (jt7 fz0 bz7)) (jt7 fz0 fz1))\/False)) (True/\ja0 (ieq bz6 1) (True/\(ile (jd2 (addZ fz1 1) 10) 140737488355328=true/\True)/\True/\((∃(bz18:Int),jj4 fz0 bz18/\(True/\true=true/\((true=true/\IntKind.i64=IntKind.i64/\fz0=fz0)/\(true=true/\IntKind.u16=IntKind.u16/\fz4=fz4)/\(true=true/\1000000000000000=1000000000000000/\0=0)/\(true=true/\Value.slice Option.none 0 0=Value.slice Option.none 0 0)/\(true=true/\8409091=8409091/\addZ fz1 1=bz18)/\(true=true/\IntKind.i64=IntKind.i64/\iadd IntKind.i64 fz1 1=bz18)/\True)/\((IntKind.i64=IntKind.i64/\fz5=fz5)/\(5=5/\fz2=fz2/\((((True/\∀(bz19:Nat),ilt (Int.ofNat bz19) fz2=true->IntKind.i64=IntKind.i64/\fz3 (Int.ofNat bz19) 0=fz3 (Int.ofNat bz19) 0)/\∀(bz20:Nat),ilt (Int.ofNat bz20) fz2=true->IntKind.i64=IntKind.i64/\fz3 (Int.ofNat bz20) 1=fz3 (Int.ofNat bz20) 1)/\∀(bz21:Nat),ilt (Int.ofNat bz21) fz2=true->IntKind.i64=IntKind.i64/\fz3 (Int.ofNat bz21) 2=fz3 (Int.ofNat bz21) 2)/\∀(bz22:Nat),ilt (Int.ofNat bz22) fz2=true->IntKind.i64=IntKind.i64/\fz3 (Int.ofNat bz22) 3=fz3 (Int.ofNat bz22) 3)/\∀(bz23:Nat),ilt (Int.ofNat bz23) fz2=true->IntKind.i64=IntKind.i64/\fz3 (Int.ofNat bz23) 4=fz3 (Int.ofNat bz23) 4)/\True)/\(5=5/\addZ fz1 1=bz18/\((((True/\∀(bz24:Nat),ilt (Int.ofNat bz24) (addZ fz1 1)=true->IntKind.u16=IntKind.u16/\isel (ilt (Int.ofNat bz24) fz1) (gpxV fz5 fz2 fz3 fz4 (Int.ofNat bz24) 0) (isel (ieq (subZ (Int.ofNat bz24) fz1) 0) bz1 0)=gpxV fz5 fz2 fz3 fz4 (Int.ofNat bz24) 0)/\∀(bz25:Nat),ilt (Int.ofNat bz25) (addZ fz1 1)=true->IntKind.u16=IntKind.u16/\isel (ilt (Int.ofNat bz25) fz1) (gpxV fz5 fz2 fz3 fz4 (Int.ofNat bz25) 1) (isel (ieq (subZ (Int.ofNat bz25) fz1) 0) bz2 0)=gpxV fz5 fz2 fz3 fz4 (Int.ofNat bz25) 1)/\∀(bz26:Nat),ilt (Int.ofNat bz26) (addZ fz1 1)=true->IntKind.u16=IntKind.u16/\isel (ilt (Int.ofNat bz26) fz1) (gpxV fz5 fz2 fz3 fz4 (Int.ofNat bz26) 2) (isel (ieq (subZ (Int.ofNat bz26) fz1) 0) bz3 0)=gpxV fz5 fz2 fz3 fz4 (Int.ofNat bz26) 2)/\∀(bz27:Nat),ilt (Int.ofNat bz27) (addZ fz1 1)=true->IntKind.u16=IntKind.u16/\isel (ilt (Int.ofNat bz27) fz1) (gpxV fz5 fz2 fz3 fz4 (Int.ofNat bz27) 3) (isel (ieq (subZ (Int.ofNat bz27) fz1) 0) fz4 0)=gpxV fz5 fz2 fz3 fz4 (Int.ofNat bz27) 3)/\∀(bz28:Nat),ilt (Int.ofNat bz28) (addZ fz1 1)=true->IntKind.u16=IntKind.u16/\isel (ilt (Int.ofNat bz28) fz1) (gpxV fz5 fz2 fz3 fz4 (Int.ofNat bz28) 4) (isel (ieq (subZ (Int.ofNat bz28) fz1) 0) fz4 0)=gpxV fz5 fz2 fz3 fz4 (Int.ofNat bz28) 4)/\True)/\Nat.le (Nat.succ (jt7 fz0 bz18)) (jt7 fz0 fz1))\/False)) (True/\ja0 (ieq bz6 2) (∀(bz29:Int),bz29=fz1->True/\ja0 (igt bz29 0) ((true=true/\ilt 0 fz1=true/\True)/\(ile (jd2 (addZ fz1 1) 10) 140737488355328=true/\True)/\True/\((∃(bz30:Int),jj4 fz0 bz30/\(True/\true=true/\((true=true/\IntKind.i64=IntKind.i64/\fz0=fz0)/\(true=true/\IntKind.u16=IntKind.u16/\fz4=fz4)/\(true=true/\1000000000000000=1000000000000000/\0=0)/\(true=true/\Value.slice Option.none 0 0=Value.slice Option.none 0 0)/\(true=true/\8409091=8409091/\addZ fz1 1=bz30)/\(true=true/\IntKind.i64=IntKind.i64/\iadd IntKind.i64 fz1 1=bz30)/\True)/\((IntKind.i64=IntKind.i64/\fz5=fz5)/\(5=5/\fz2=fz2/\((((True/\∀(bz31:Nat),ilt (Int.ofNat bz31) fz2=true->IntKind.i64=IntKind.i64/\fz3 (Int.ofNat bz31) 0=fz3 (Int.ofNat bz31) 0)/\∀(bz32:Nat),ilt (Int.ofNat bz32) fz2=true->IntKind.i64=IntKind.i64/\fz3 (Int.ofNat bz32) 1=fz3 (Int.ofNat bz32) 1)/\∀(bz33:Nat),ilt (Int.ofNat bz33) fz2=true->IntKind.i64=IntKind.i64/\fz3 (Int.ofNat bz33) 2=fz3 (Int.ofNat bz33) 2)/\∀(bz34:Nat),ilt (Int.ofNat bz34) fz2=true->IntKind.i64=IntKind.i64/\fz3 (Int.ofNat bz34) 3=fz3 (Int.ofNat bz34) 3)/\∀(bz35:Nat),ilt (Int.ofNat bz35) fz2=true->IntKind.i64=IntKind.i64/\fz3 (Int.ofNat bz35) 4=fz3 (Int.ofNat bz35) 4)/\True)/\(5=5/\addZ fz1 1=bz30/\((((True/\∀(bz36:Nat),ilt (Int.ofNat bz36) (addZ fz1 1)=true->IntKind.u16=IntKind.u16/\isel (ilt (Int.ofNat bz36) fz1) (gpxV fz5 fz2 fz3 fz4 (Int.ofNat bz36) 0) (isel (ieq (subZ (Int.ofNat bz36) fz1) 0) (gpxV fz5 fz2 fz3 fz4 0 0) 0)=gpxV fz5 fz2 fz3 fz4 (Int.ofNat bz36) 0)/\∀(bz37:Nat),ilt (Int.ofNat bz37) (addZ fz1 1)=true->IntKind.u16=IntKind.u16/\isel (ilt (Int.ofNat bz37) fz1) (gpxV fz5 fz2 fz3 fz4 (Int.ofNat bz37) 1) (isel (ieq (subZ (Int.ofNat bz37) fz1) 0) (gpxV fz5 fz2 fz3 fz4 0 1) 0)=gpxV fz5 fz2 fz3 fz4 (Int.ofNat bz37) 1)/\∀(bz38:Nat),ilt (Int.ofNat bz38) (addZ fz1 1)=true->IntKind.u16=IntKind.u16/\isel (ilt (Int.ofNat bz38) fz1) (gpxV fz5 fz2 fz3 fz4 (Int.ofNat bz38) 2) (isel (ieq (subZ (Int.ofNat bz38) fz1) 0) (gpxV fz5 fz2 fz3 fz4 0 2) 0)=gpxV fz5 fz2 fz3 fz4 (Int.ofNat bz38) 2)/\∀(bz39:Nat),ilt (Int.ofNat bz39) (addZ fz1 1)=true->IntKind.u16=IntKind.u16/\isel (ilt (Int.ofNat bz39) fz1) (gpxV fz5 fz2 fz3 fz4 (Int.ofNat bz39) 3) (isel (ieq (subZ (Int.ofNat bz39) fz1) 0) (gpxV fz5 fz2 fz3 fz4 0 3) 0)=gpxV fz5 fz2 fz3 fz4 (Int.ofNat bz39) 3)/\∀(bz40:Nat),ilt (Int.ofNat bz40) (addZ fz1 1)=true->IntKind.u16=IntKind.u16/\isel (ilt (Int.ofNat bz40) fz1) (gpxV fz5 fz2 fz3 fz4 (Int.ofNat bz40) 4) (isel (ieq (subZ (Int.ofNat bz40) fz1) 0) (gpxV fz5 fz2 fz3 fz4 0 4) 0)=gpxV fz5 fz2 fz3 fz4 (Int.ofNat bz40) 4)/\True)/\Nat.le (Nat.succ (jt7 fz0 bz30)) (jt7 fz0 fz1))\/False)) ((ile (jd2 (addZ fz1 1) 10) 140737488355328=true/\True)/\True/\((∃(bz41:Int),jj4 fz0 bz41/\(True/\true=true/\((true=true/\IntKind.i64=IntKind.i64/\fz0=fz0)/\(true=true/\IntKind.u16=IntKind.u16/\fz4=fz4)/\(true=true/\1000000000000000=1000000000000000/\0=0)/\(true=true/\Value.slice Option.none 0 0=Value.slice Option.none 0 0)/\(true=true/\8409091=8409091/\addZ fz1 1=bz41)/\(true=true/\IntKind.i64=IntKind.i64/\iadd IntKind.i64 fz1 1=bz41)/\True)/\((IntKind.i64=IntKind.i64/\fz5=fz5)/\(5=5/\fz2=fz2/\((((True/\∀(bz42:Nat),ilt (Int.ofNat bz42) fz2=true->IntKind.i64=IntKind.i64/\fz3 (Int.ofNat bz42) 0=fz3 (Int.ofNat bz42) 0)/\∀(bz43:Nat),ilt (Int.ofNat bz43) fz2=true->IntKind.i64=IntKind.i64/\fz3 (Int.ofNat bz43) 1=fz3 (Int.ofNat bz43) 1)/\∀(bz44:Nat),ilt (Int.ofNat bz44) fz2=true->IntKind.i64=IntKind.i64/\fz3 (Int.ofNat bz44) 2=fz3 (Int.ofNat bz44) 2)/\∀(bz45:Nat),ilt (Int.ofNat bz45) fz2=true->IntKind.i64=IntKind.i64/\fz3 (Int.ofNat bz45) 3=fz3 (Int.ofNat bz45) 3)/\∀(bz46:Nat),ilt (Int.ofNat bz46) fz2=true->IntKind.i64=IntKind.i64/\fz3 (Int.ofNat bz46) 4=fz3 (Int.ofNat bz46) 4)/\True)/\(5=5/\addZ fz1 1=bz41/\((((True/\∀(bz47:Nat),ilt (Int.ofNat bz47) (addZ fz1 1)=true->IntKind.u16=IntKind.u16/\isel (ilt (Int.ofNat bz47) fz1) (gpxV fz5 fz2 fz3 fz4 (Int.ofNat bz47) 0) (isel (ieq (subZ (Int.ofNat bz47) fz1) 0) bz1 0)=gpxV fz5 fz2 fz3 fz4 (Int.ofNat bz47) 0)/\∀(bz48:Nat),ilt (Int.ofNat bz48) (addZ fz1 1)=true->IntKind.u16=IntKind.u16/\isel (ilt (Int.ofNat bz48) fz1) (gpxV fz5 fz2 fz3 fz4 (Int.ofNat bz48) 1) (isel (ieq (subZ (Int.ofNat bz48) fz1) 0) bz2 0)=gpxV fz5 fz2 fz3 fz4 (Int.ofNat bz48) 1)/\∀(bz49:Nat),ilt (Int.ofNat bz49) (addZ fz1 1)=true->IntKind.u16=IntKind.u16/\isel (ilt (Int.ofNat bz49) fz1) (gpxV fz5 fz2 fz3 fz4 (Int.ofNat bz49) 2) (isel (ieq (subZ (Int.ofNat bz49) fz1) 0) bz3 0)=gpxV fz5 fz2 fz3 fz4 (Int.ofNat bz49) 2)/\∀(bz50:Nat),ilt (Int.ofNat bz50) (addZ fz1 1)=true->IntKind.u16=IntKind.u16/\isel (ilt (Int.ofNat bz50) fz1) (gpxV fz5 fz2 fz3 fz4 (Int.ofNat bz50) 3) (isel (ieq (subZ (Int.ofNat bz50) fz1) 0) bz4 0)=gpxV fz5 fz2 fz3 fz4 (Int.ofNat bz50) 3)/\∀(bz51:Nat),ilt (Int.ofNat bz51) (addZ fz1 1)=true->IntKind.u16=IntKind.u16/\isel (ilt (Int.ofNat bz51) fz1) (gpxV fz5 fz2 fz3 fz4 (Int.ofNat bz51) 4) (isel (ieq (subZ (Int.ofNat bz51) fz1) 0) bz5 0)=gpxV fz5 fz2 fz3 fz4 (Int.ofNat bz51) 4)/\True)/\Nat.le (Nat.succ (jt7 fz0 bz41)) (jt7 fz0 fz1))\/False))) ((ile (jd2 (addZ fz1 1) 10) 140737488355328=true/\True)/\True/\((∃(bz52:Int),jj4 fz0 bz52/\(True/\true=true/\((true=true/\IntKind.i64=IntKind.i64/\fz0=fz0)/\(true=true/\IntKind.u16=IntKind.u16/\fz4=fz4)/\(true=true/\1000000000000000=1000000000000000/\0=0)/\(true=true/\Value.slice Option.none 0 0=Value.slice Option.none 0 0)/\(true=true/\8409091=8409091/\addZ fz1 1=bz52)/\(true=true/\IntKind.i64=IntKind.i64/\iadd IntKind.i64 fz1 1=bz52)/\True)/\((IntKind.i64=IntKind.i64/\fz5=fz5)/\(5=5/\fz2=fz2/\((((True/\∀(bz53:Nat),ilt (Int.ofNat bz53) fz2=true->IntKind.i64=IntKind.i64/\fz3 (Int.ofNat bz53) 0=fz3 (Int.ofNat bz53) 0)/\∀(bz54:Nat),ilt (Int.ofNat bz54) fz2=true->IntKind.i64=IntKind.i64/\fz3 (Int.ofNat bz54) 1=fz3 (Int.ofNat bz54) 1)/\∀(bz55:Nat),ilt (Int.ofNat bz55) fz2=true->IntKind.i64=IntKind.i64/\fz3 (Int.ofNat bz55) 2=fz3 (Int.ofNat bz55) 2)/\∀(bz56:Nat),ilt (Int.ofNat bz56) fz2=true->IntKind.i64=IntKind.i64/\fz3 (Int.ofNat bz56) 3=fz3 (Int.ofNat bz56) 3)/\∀(bz57:Nat),ilt (Int.ofNat bz57) fz2=true->IntKind.i64=IntKind.i64/\fz3 (Int.ofNat bz57) 4=fz3 (Int.ofNat bz57) 4)/\True)/\(5=5/\addZ fz1 1=bz52/\((((True/\∀(bz58:Nat),ilt (Int.ofNat bz58) (addZ fz1 1)=true->IntKind.u16=IntKind.u16/\isel (ilt (Int.ofNat bz58) fz1) (gpxV fz5 fz2 fz3 fz4 (Int.ofNat bz58) 0) (isel (ieq (subZ (Int.ofNat bz58) fz1) 0) bz1 0)=gpxV fz5 fz2 fz3 fz4 (Int.ofNat bz58) 0)/\∀(bz59:Nat),ilt (Int.ofNat bz59) (addZ fz1 1)=true->IntKind.u16=IntKind.u16/\isel (ilt (Int.ofNat bz59) fz1) (gpxV fz5 fz2 fz3 fz4 (Int.ofNat bz59) 1) (isel (ieq (subZ (Int.ofNat bz59) fz1) 0) bz2 0)=gpxV fz5 fz2 fz3 fz4 (Int.ofNat bz59) 1)/\∀(bz60:Nat),ilt (Int.ofNat bz60) (addZ fz1 1)=true->IntKind.u16=IntKind.u16/\isel (ilt (Int.ofNat bz60) fz1) (gpxV fz5 fz2 fz3 fz4 (Int.ofNat bz60) 2) (isel (ieq (subZ (Int.ofNat bz60) fz1) 0) bz3 0)=gpxV fz5 fz2 fz3 fz4 (Int.ofNat bz60) 2)/\∀(bz61:Nat),ilt (Int.ofNat bz61) (addZ fz1 1)=true->IntKind.u16=IntKind.u16/\isel (ilt (Int.ofNat bz61) fz1) (gpxV fz5 fz2 fz3 fz4 (Int.ofNat bz61) 3) (isel (ieq (subZ (Int.ofNat bz61) fz1) 0) bz4 0)=gpxV fz5 fz2 fz3 fz4 (Int.ofNat bz61) 3)/\∀(bz62:Nat),ilt (Int.ofNat bz62) (addZ fz1 1)=true->IntKind.u16=IntKind.u16/\isel (ilt (Int.ofNat bz62) fz1) (gpxV fz5 fz2 fz3 fz4 (Int.ofNat bz62) 4) (isel (ieq (subZ (Int.ofNat bz62) fz1) 0) bz5 0)=gpxV fz5 fz2 fz3 fz4 (Int.ofNat bz62) 4)/\True)/\Nat.le (Nat.succ (jt7 fz0 bz52)) (jt7 fz0 fz1))\/False)))))
def zz126 (fz0:Int) (fz1:Int) (fz2:Int) (fz3:Int) (fz4:Int) (fz5:Int->Nat->Int):Prop:=((∃(bz0:Nat),qa4 fz0 fz1/\True/\true=true/\(zz74 fz0 fz2 fz1)/\(zz38 fz3 fz4 fz5)/\((IntKind.i64=IntKind.i64/\(0:Int)=grQ fz4 fz5 fz1 0)/\(IntKind.i64=IntKind.i64/\(0:Int)=grQ fz4 fz5 fz1 1)/\(IntKind.i64=IntKind.i64/\(0:Int)=grQ fz4 fz5 fz1 2)/\(IntKind.i64=IntKind.i64/\(0:Int)=grQ fz4 fz5 fz1 3)/\(IntKind.i64=IntKind.i64/\(0:Int)=grQ fz4 fz5 fz1 4)/\True)/\(zz43 fz1 fz3 fz4 fz5 fz2)/\True)\/False)
set_option maxRecDepth 100000 in
theorem ze3 (md n k t:Int) (q:Int->Nat->Int) (V:List QR.XV->List (List QR.CV)->Prop):QR.ja5 Tryd.prog (y60) (λ n_=>bif Nat.beq n_ 3 then some (.ownF [(7,none,5)] λ _=>[qi0 md n k t q]) else bif Nat.beq n_ 700011 then some (.cutF λ g=>[qi1 md n k t q (g 8)]) else none) (Tryd.f47.body.getD .skip) Tryd.f47.results.toList Tryd.f47.ntmps [.x (.agg [.v (.int .i64 md),.slc 5 n (.fn λ i j=>.v (.int .i64 (q i j)))]),.x (.c (.v (.int .i64 k))),.x (.c (.v (.int .u16 t)))] V=(True/\True/\True/\((∃(i:Int),jj4 k i/\True/\true=true/\((true=true/\IntKind.i64=IntKind.i64/\k=k)/\(true=true/\IntKind.u16=IntKind.u16/\t=t)/\(true=true/\0=0/\0=0)/\(true=true/\Value.slice Option.none 0 0=Value.slice Option.none 0 0)/\(true=true/\4188160=4188160/\0=i)/\(true=true/\IntKind.i64=IntKind.i64/\(0:Int)=i)/\True)/\(zz38 md n q)/\(5=5/\0=i/\((((True/\∀(i:Nat),ilt (Int.ofNat i) 0=true->Value.tuple #[]=Value.int .u16 (gpxV md n q t (Int.ofNat i) 0))/\∀(i:Nat),ilt (Int.ofNat i) 0=true->Value.tuple #[]=Value.int .u16 (gpxV md n q t (Int.ofNat i) 1))/\∀(i:Nat),ilt (Int.ofNat i) 0=true->Value.tuple #[]=Value.int .u16 (gpxV md n q t (Int.ofNat i) 2))/\∀(i:Nat),ilt (Int.ofNat i) 0=true->Value.tuple #[]=Value.int .u16 (gpxV md n q t (Int.ofNat i) 3))/\∀(i:Nat),ilt (Int.ofNat i) 0=true->Value.tuple #[]=Value.int .u16 (gpxV md n q t (Int.ofNat i) 4))/\True)\/False)/\(∀(i:Int),jj4 k i->True/\ja0 (ilt i k) (True/\∀(i_1:Int),i_1=n->True/\ja0 (igt i_1 0) (∀(i_2:Int),i_2=n->(ine i_2 0=true/\True)/\True/\(∀(i_3:Int),i_3=n->True/\ja0 (ilt (irem i i_2) i_3) ((ile 0 (irem i i_2)=true/\ilt (irem i i_2) n=true/\True)/\((∃(i_4:Nat),qa4 k i/\True/\true=true/\(zz74 k t i)/\(zz38 md n q)/\((IntKind.i64=IntKind.i64/\q (irem i i_2) 0=grQ n q i 0)/\(IntKind.i64=IntKind.i64/\q (irem i i_2) 1=grQ n q i 1)/\(IntKind.i64=IntKind.i64/\q (irem i i_2) 2=grQ n q i 2)/\(IntKind.i64=IntKind.i64/\q (irem i i_2) 3=grQ n q i 3)/\(IntKind.i64=IntKind.i64/\q (irem i i_2) 4=grQ n q i 4)/\True)/\(zz43 i md n q t)/\True)\/False)) (zz126 k i t md n q))/\(zz8 k i n q t md)/\True) (True/\(∀(i_2:Int),i_2=n->True/\ja0 (ilt i i_2) ((ile 0 i=true/\ilt i n=true/\True)/\((∃(i_3:Nat),qa4 k i/\True/\true=true/\(zz74 k t i)/\(zz38 md n q)/\((IntKind.i64=IntKind.i64/\q i 0=grQ n q i 0)/\(IntKind.i64=IntKind.i64/\q i 1=grQ n q i 1)/\(IntKind.i64=IntKind.i64/\q i 2=grQ n q i 2)/\(IntKind.i64=IntKind.i64/\q i 3=grQ n q i 3)/\(IntKind.i64=IntKind.i64/\q i 4=grQ n q i 4)/\True)/\(zz43 i md n q t)/\True)\/False)) (zz126 k i t md n q))/\(zz8 k i n q t md)/\True)) (True/\True/\V [XV.c (CV.fresh 5 i (zz41 md n q t))] []))/\True):=by
 delta zz8 zz38 zz41 zz43 zz74 zz126
 try delta y60
 try delta qi0
 try delta qi1
 try delta jo4
 try delta qe7
 generalize @gmod=gmod
 generalize @gpA=gpA
 generalize @gpC=gpC
 generalize @gpF=gpF
 generalize @qa4=qa4
 generalize @jj4=jj4
 generalize @jt7=jt7
 generalize @gpxV=gpxV
 generalize @grQ=grQ
 generalize @in16=in16
 generalize @jc2=jc2
 kernel_rfl
end Go.Proofs.YthkidembkknoeaaDoor
namespace Go.Proofs.YthkidembkknoeaaDoor
open Go.RowKit PR QR
set_option linter.unusedVariables false
def y59:QR.ja8:=QR.orc [(20,QR.qg4 jo4),(47,vq6),(27,qz1),(48,vq5)]
set_option maxRecDepth 100000 in
theorem ze1 (W H S md n:Int) (q:Int->Nat->Int) (x0 y0 x1 y1 t:Int) (V:List QR.XV->List (List QR.CV)->Prop):QR.ja5 Tryd.prog (y59) (QR.ja4) (Tryd.f26.body.getD .skip) Tryd.f26.results.toList Tryd.f26.ntmps [.x (.agg [.v (.int .i64 W),.v (.int .i64 H),.v (.int .i64 S),.v (.int .i64 md),.slc 5 n (.fn λ i j=>.v (.int .i64 (q i j)))]),.x (.agg [.v (.int .i64 x0),.v (.int .i64 y0),.v (.int .i64 x1),.v (.int .i64 y1)]),.x (.c (.v (.int .u16 t)))] V=(True/\∀(i:Int),i=gmod W 5->∀(i_1:Int),i_1=gmod H 4->(jc2 4=true/\jc2 5=true/\True)/\∀(i_2:Int),i_2=gmod (iquo IntKind.i64 W 5) 3->(jc2 3=true/\true=true/\True)/\ja0 (ieq i_2 0) (True/\(intRow IntKind.i64 5 n (QR.Row.fn λ (i:Int) (j:Nat)=>CV.v (Value.int .i64 (q i j)))/\ile 0 n=true/\in16 t=true/\ile (imul IntKind.i64 (isub IntKind.i64 x1 x0) (isub IntKind.i64 y1 y0)) 1099511627776=true/\True)/\∀(i:Int),i=gmod S 2->(jc2 2=true/\True)/\ja0 (ieq i 0) ((true=true/\ilt 0 (jb8 (imul IntKind.i64 (isub IntKind.i64 x1 x0) (isub IntKind.i64 y1 y0)) 0)=true/\True)/\True/\V [XV.agg [CV.v (Value.int .i64 (isub IntKind.i64 x1 x0)),CV.v (Value.int .i64 (isub IntKind.i64 y1 y0)),CV.v (Value.bool true),CV.v (Value.int .u16 (gpxV md n (λ (i:Int) (j:Nat)=>q i j) t 0 0)),CV.v (Value.int .u16 (gpxV md n (λ (i:Int) (j:Nat)=>q i j) t 0 1)),CV.v (Value.int .u16 (gpxV md n (λ (i:Int) (j:Nat)=>q i j) t 0 2)),CV.v (Value.int .u16 (gpxV md n (λ (i:Int) (j:Nat)=>q i j) t 0 3)),CV.v (Value.int .u16 (gpxV md n (λ (i:Int) (j:Nat)=>q i j) t 0 4)),CV.v (Value.int .i64 0),CV.v (Value.int .i64 0),CV.v (Value.int .i64 0),CV.slc 1 0 (QR.Row.fn λ (i:Int) (x:Nat)=>CV.v (Value.int .u16 0)),CV.v (Value.int .i64 0),CV.v (Value.int .i64 0),CV.v (Value.int .i64 0),CV.slc 1 0 (QR.Row.fn λ (i:Int) (x:Nat)=>CV.v (Value.int .u16 0)),CV.v (Value.int .i64 0),CV.v (Value.int .i64 0),CV.v (Value.int .i64 0),CV.slc 1 0 (QR.Row.fn λ (i:Int) (x:Nat)=>CV.v (Value.int .u16 0)),CV.v (Value.int .i64 0),CV.v (Value.int .i64 0),CV.v (Value.int .i64 0),CV.slc 1 0 (QR.Row.fn λ (i:Int) (x:Nat)=>CV.v (Value.int .u16 0)),CV.v (Value.int .i64 0),CV.v (Value.int .i64 0),CV.v (Value.int .i64 0),CV.slc 1 0 (QR.Row.fn λ (i:Int) (x:Nat)=>CV.v (Value.int .u16 0))]] []) ((zz143 x1 x0 y1 y0 md n q t)/\True/\True/\V (zz14 x1 x0 y1 y0 md n q t) [])) ((intRow IntKind.i64 5 n (QR.Row.fn λ (i:Int) (j:Nat)=>CV.v (Value.int .i64 (q i j)))/\ile 0 n=true/\in16 t=true/\ile (imul IntKind.i64 (iadd IntKind.i64 1 i) (iadd IntKind.i64 1 i_1)) 1099511627776=true/\True)/\∀(i_3:Int),i_3=gmod S 2->(jc2 2=true/\True)/\ja0 (ieq i_3 0) ((true=true/\ilt 0 (jb8 (imul IntKind.i64 (iadd IntKind.i64 1 i) (iadd IntKind.i64 1 i_1)) 0)=true/\True)/\True/\V [XV.agg [CV.v (Value.int .i64 (iadd IntKind.i64 1 i)),CV.v (Value.int .i64 (iadd IntKind.i64 1 i_1)),CV.v (Value.bool true),CV.v (Value.int .u16 (gpxV md n (λ (i:Int) (j:Nat)=>q i j) t 0 0)),CV.v (Value.int .u16 (gpxV md n (λ (i:Int) (j:Nat)=>q i j) t 0 1)),CV.v (Value.int .u16 (gpxV md n (λ (i:Int) (j:Nat)=>q i j) t 0 2)),CV.v (Value.int .u16 (gpxV md n (λ (i:Int) (j:Nat)=>q i j) t 0 3)),CV.v (Value.int .u16 (gpxV md n (λ (i:Int) (j:Nat)=>q i j) t 0 4)),CV.v (Value.int .i64 0),CV.v (Value.int .i64 0),CV.v (Value.int .i64 0),CV.slc 1 0 (QR.Row.fn λ (i:Int) (x:Nat)=>CV.v (Value.int .u16 0)),CV.v (Value.int .i64 0),CV.v (Value.int .i64 0),CV.v (Value.int .i64 0),CV.slc 1 0 (QR.Row.fn λ (i:Int) (x:Nat)=>CV.v (Value.int .u16 0)),CV.v (Value.int .i64 0),CV.v (Value.int .i64 0),CV.v (Value.int .i64 0),CV.slc 1 0 (QR.Row.fn λ (i:Int) (x:Nat)=>CV.v (Value.int .u16 0)),CV.v (Value.int .i64 0),CV.v (Value.int .i64 0),CV.v (Value.int .i64 0),CV.slc 1 0 (QR.Row.fn λ (i:Int) (x:Nat)=>CV.v (Value.int .u16 0)),CV.v (Value.int .i64 0),CV.v (Value.int .i64 0),CV.v (Value.int .i64 0),CV.slc 1 0 (QR.Row.fn λ (i:Int) (x:Nat)=>CV.v (Value.int .u16 0))]] []) ((zz142 i i_1 md n q t)/\True/\True/\V (zz15 i i_1 md n q t) []))):=by
 delta zz14 zz15 zz142 zz143
 try delta y59
 try delta jo4
 try delta vq6
 try delta qz1
 try delta vq5
 generalize @gmod=gmod
 generalize @gpxV=gpxV
 generalize @jb8=jb8
 generalize @jo1=jo1
 generalize @jc5=jc5
 generalize @in16=in16
 generalize @in64=in64
 generalize @intRow=intRow
 generalize @jc2=jc2
 kernel_rfl
end Go.Proofs.YthkidembkknoeaaDoor
namespace Go.Proofs.YthkidembkknoeaaDoor
open Go.RowKit PR QR
set_option linter.unusedVariables false
set_option linter.unusedSimpArgs false
set_option maxRecDepth 20000
theorem vi7:ja6 61 qg8:=by
 intro al ans h hq
 unfold qg8 at h
 split at h <;> try (simp at h;done)
 rename_i w h
 simp only [Option.some.injEq] at h
 subst h
 have hq:=asked hq
 refine QR.ja2 (O:=(QR.orc [])) QR.jb1 mixed (QR.ja4) Tryd.func61 (by kernel_rfl) (by kernel_rfl) (by simp) ?_
 rw [ym5]
 obtain ⟨iw,ih,_⟩:=hq
 have iw:=ql8.1 iw
 simp only [jb4,eqXs,eqX,eqo,eqLo,eqc,veq,eqUs,ja1,ige,ile,decide_eq_true_eq,decide_eq_false_iff_not,true_and,and_true]
 refine ⟨λ h1=>⟨λ h2=>⟨λ h3=>⟨ve4 (by omega),?_⟩,λ h3=>?_⟩,λ h2=>?_⟩,λ h1=>?_⟩
 ·rw [vo3 (by omega) (by omega),Bool.eq_iff_iff,decide_eq_true_eq,jg7,<- yb3 (by omega) (by omega)]
  exact ⟨λ k=>⟨by omega,by omega,k⟩,λ k=>k.2.2⟩
 ·refine (decide_eq_false λ k=>?_).symm
  have:=Int.mul_le_mul (Int.le_refl w) k.2.1 (by decide) (by omega)
  omega
 ·exact (decide_eq_false λ k=>by omega).symm
 ·exact (decide_eq_false λ k=>by omega).symm
theorem yt2:ja6 80 ji7:=by
 intro al ans hh hq
 unfold ji7 at hh
 split at hh <;> try (simp at hh;done)
 rename_i w h s c
 cases e:jf4 1 c with
 | none=>rw [e] at hh;simp at hh
 | some p =>
  obtain ⟨n,r⟩:=p
  rw [e] at hh
  simp only [Option.some.injEq] at hh
  subst hh
  obtain ⟨hr,hn,iw,ih,is,_⟩:=asked hq
  refine jc0 (al':=[.x (.agg [.v (.int .i64 w),.v (.int .i64 h),.v (.int .i64 s),.slc 1 n (ints .u16 r)])]) ⟨⟨.v _,.v _,.v _,jh1 e (by decide) hr,trivial⟩,trivial⟩ ?_
  have ri:=qe2 .u16 1 n (λ i j=>intC (den r i j))
  unfold ints
  refine QR.ja2 (O:=y00) (QR.ja3 vi7 QR.jb1) mixed (QR.ja4) Tryd.func80 (by kernel_rfl) (by kernel_rfl) (by simp) ?_
  rw [y01]
  try dsimp only
  cases f:fitB w h
  ·have z:plB w h s n=false:=decide_eq_false (λ k=>by rw [f] at k;simp at k)
   simp [jb4,eqXs,eqX,eqo,eqLo,eqL,eqc,veq,eqUs,ja1,bnot,f,z,iw,ih]
  ·obtain ⟨f1,f2⟩:=jy5 f
   have f3:=jg7.1 f
   simp only [jb4,eqXs,eqX,eqo,eqLo,eqL,eqc,veq,eqUs,ja1,bnot,f,iw,ih,ige,ile,decide_eq_true_eq,decide_eq_false_iff_not,true_and,and_true,forall_eq,true_implies,reduceCtorEq,false_implies]
   refine ⟨λ k1=>⟨λ k2=>?_,λ k2=>?_⟩,λ k1=>?_⟩
   ·obtain ⟨e1,e2,e3,_⟩:=yb5 (h:=h) (s:=s) (w:=w) (by omega) f2 (by omega) k2 (by omega) f1
    rw [e1,e2,e3,Bool.eq_iff_iff,decide_eq_true_eq,vo4]
    exact ⟨λ k=>⟨f,by omega,k2,by omega⟩,λ k=>by omega⟩
   ·exact (decide_eq_false λ k=>by omega).symm
   ·exact (decide_eq_false λ k=>by omega).symm
end Go.Proofs.YthkidembkknoeaaDoor
namespace Go.Proofs.YthkidembkknoeaaDoor
open Go.RowKit PR QR
set_option linter.unusedVariables false
set_option linter.unusedSimpArgs false
set_option maxRecDepth 20000
theorem vo0 (a b c d:Int):reB a b c d=(bnot (rvB a b c d) || ige a c || ige b d):=by
 rw [Bool.eq_iff_iff]
 unfold reB rvB bnot ige
 simp only [Bool.or_eq_true,Bool.not_eq_true',decide_eq_true_eq,decide_eq_false_iff_not]
 omega
theorem yz5:ja6 84 q44:=by
 intro al ans h hq
 unfold q44 at h
 split at h <;> try (simp at h;done)
 rename_i a
 simp only [Option.some.injEq] at h
 subst h
 have hq:=asked hq
 refine QR.ja2 (O:=(QR.orc [])) QR.jb1 mixed (QR.ja4) Tryd.func84 (by kernel_rfl) (by kernel_rfl) (by simp) ?_
 rw [ym0]
 unfold jx6
 simp only [ja1,jb4,eqXs,eqX,eqo,eqLo,eqc,veq,eqUs,ile,decide_eq_true_eq,decide_eq_false_iff_not,true_and,and_true,forall_eq]
 repeat' (first | intro _ | constructor)
 all_goals first | (exact (decide_eq_false (by omega)).symm) | (exact (decide_eq_true (by omega)).symm) | (rw [eq_comm,Bool.eq_iff_iff,decide_eq_true_eq,decide_eq_true_eq];omega)
theorem yz6 (a b c d:Int):rvB a b c d=(jx6 a && (jx6 b && (jx6 c && jx6 d))):=by
 rw [Bool.eq_iff_iff]
 unfold rvB jx6
 simp only [Bool.and_eq_true,decide_eq_true_eq]
theorem yb1:ja6 78 jp1:=by
 intro al ans h hq
 unfold jp1 at h
 split at h <;> try (simp at h;done)
 rename_i a b c d
 simp only [Option.some.injEq] at h
 subst h
 have hq:=asked hq
 refine QR.ja2 (O:=ya6) (QR.ja3 yz5 QR.jb1) mixed (QR.ja4) Tryd.func78 (by kernel_rfl) (by kernel_rfl) (by simp) ?_
 rw [vu8]
 have e:=yz6 a b c d
 cases h1:jx6 a <;> cases h2:jx6 b <;> cases h3:jx6 c <;> simp [ja1,jb4,eqXs,eqX,eqo,eqLo,eqc,veq,eqUs,h1,h2,h3,e]
theorem ym4:ja6 65 jp1:=by
 intro al ans h hq
 unfold jp1 at h
 split at h <;> try (simp at h;done)
 rename_i a b c d
 simp only [Option.some.injEq] at h
 subst h
 have hq:=asked hq
 refine QR.ja2 (O:=(QR.orc [])) QR.jb1 mixed (QR.ja4) Tryd.func65 (by kernel_rfl) (by kernel_rfl) (by simp) ?_
 rw [ya9]
 unfold rvB
 simp only [ja1,jb4,eqXs,eqX,eqo,eqLo,eqc,veq,eqUs,ilt,igt,ile,ige,decide_eq_true_eq,decide_eq_false_iff_not,true_and,and_true,forall_eq]
 repeat' (first | intro _ | constructor)
 all_goals first | (exact (decide_eq_false (by omega)).symm) | (exact (decide_eq_true (by omega)).symm) | (rw [eq_comm,Bool.eq_iff_iff,decide_eq_true_eq,decide_eq_true_eq];omega)
theorem vo1:ja6 58 jh5:=by
 intro al ans h hq
 unfold jh5 at h
 split at h <;> try (simp at h;done)
 rename_i a b c d
 simp only [Option.some.injEq] at h
 subst h
 have hq:=asked hq
 refine QR.ja2 (O:=ya7) (QR.ja3 yb1 QR.jb1) mixed (QR.ja4) Tryd.func58 (by kernel_rfl) (by kernel_rfl) (by simp) ?_
 rw [ya8]
 have e:=vo0 a b c d
 cases h1:bnot (rvB a b c d) <;> cases h2:ige a c <;> simp [ja1,jb4,eqXs,eqX,eqo,eqLo,eqc,veq,eqUs,h1,h2,e]
theorem q46:ja6 37 jh5:=by
 intro al ans h hq
 unfold jh5 at h
 split at h <;> try (simp at h;done)
 rename_i a b c d
 simp only [Option.some.injEq] at h
 subst h
 have hq:=asked hq
 refine QR.ja2 (O:=yz4) (QR.ja3 ym4 QR.jb1) mixed (QR.ja4) Tryd.func37 (by kernel_rfl) (by kernel_rfl) (by simp) ?_
 rw [yb0]
 have e:=vo0 a b c d
 cases h1:bnot (rvB a b c d) <;> cases h2:ige a c <;> simp [ja1,jb4,eqXs,eqX,eqo,eqLo,eqc,veq,eqUs,h1,h2,e]
theorem yz7:ja6 66 q45:=by
 intro al ans h hq
 unfold q45 at h
 split at h <;> try (simp at h;done)
 rename_i a b c d
 simp only [Option.some.injEq] at h
 subst h
 have hq:=asked hq
 refine QR.ja2 (O:=o_fe) (QR.ja3 q46 QR.jb1) mixed (QR.ja4) Tryd.func66 (by kernel_rfl) (by kernel_rfl) (by simp) ?_
 rw [ym2]
 have e:∀j,rtiV j a b c d=if reB a b c d=true then 0 else r4G j ⟨a,b,c,d⟩:=by
  intro j
  show r4G j (if r4E ⟨a,b,c,d⟩=true then r4z else ⟨a,b,c,d⟩)=_
  rw [show r4E ⟨a,b,c,d⟩=reB a b c d from rfl]
  split
  ·unfold r4z r4G;split <;> rfl
  ·rfl
 cases h:reB a b c d <;> simp [ja1,jb4,eqXs,eqX,eqo,eqLo,eqL,eqc,veq,eqUs,e,h,r4G]
theorem yb2 {a b c d:Int} (h:reB a b c d=false):imul .i64 (isub .i64 c a) (isub .i64 d b)=(c - a) * (d - b):=by
 have h:=re_f.1 h
 unfold F30 at h
 have e1:isub .i64 c a=c - a:=by unfold isub;exact IntWalk.i64_in _ (by omega)
 have e2:isub .i64 d b=d - b:=by unfold isub;exact IntWalk.i64_in _ (by omega)
 rw [e1,e2]
 have p1:=Int.mul_nonneg (show 0<=c - a by omega) (show 0<=d - b by omega)
 have p2:=Int.mul_le_mul (show c - a<=2147483648 by omega) (show d - b<=2147483648 by omega) (by omega) (by decide)
 unfold imul
 exact IntWalk.i64_in _ (by omega)
theorem yz8:ja6 56 jv7:=by
 intro al ans h hq
 unfold jv7 at h
 split at h <;> try (simp at h;done)
 rename_i a b c d
 simp only [Option.some.injEq] at h
 subst h
 have hq:=asked hq
 refine QR.ja2 (O:=o_re) (QR.ja3 vo1 QR.jb1) mixed (QR.ja4) Tryd.func56 (by kernel_rfl) (by kernel_rfl) (by simp) ?_
 rw [ym1]
 have e:raV a b c d=if reB a b c d=true then 0 else (c - a) * (d - b):=rfl
 cases h:reB a b c d
 ·simp [ja1,jb4,eqXs,eqX,eqo,eqLo,eqc,veq,eqUs,e,h,yb2 h]
 ·simp [ja1,jb4,eqXs,eqX,eqo,eqLo,eqc,veq,eqUs,e,h]
theorem ti_t {a b c d:Int} (h:reB a b c d=true) (j:Nat):rtiV j a b c d=0:=by
 show r4G j (if r4E ⟨a,b,c,d⟩=true then r4z else ⟨a,b,c,d⟩)=_
 rw [show r4E ⟨a,b,c,d⟩=reB a b c d from rfl,if_pos h]
 unfold r4z r4G;split <;> rfl
theorem ti_f {a b c d:Int} (h:reB a b c d=false) (j:Nat):rtiV j a b c d=r4G j ⟨a,b,c,d⟩:=by
 show r4G j (if r4E ⟨a,b,c,d⟩=true then r4z else ⟨a,b,c,d⟩)=_
 rw [show r4E ⟨a,b,c,d⟩=reB a b c d from rfl,if_neg (by simp [h])]
theorem yz9:ja6 38 jv7:=by
 intro al ans h hq
 unfold jv7 at h
 split at h <;> try (simp at h;done)
 rename_i a b c d
 simp only [Option.some.injEq] at h
 subst h
 have hq:=asked hq
 refine QR.ja2 (O:=vi6) (QR.ja3 yz7 QR.jb1) mixed (QR.ja4) Tryd.func38 (by kernel_rfl) (by kernel_rfl) (by simp) ?_
 rw [ym3]
 have e:raV a b c d=if reB a b c d=true then 0 else (c - a) * (d - b):=rfl
 cases h:reB a b c d
 ·simp [ja1,jb4,eqXs,eqX,eqo,eqLo,eqc,veq,eqUs,e,h,ti_f h,r4G,yb2 h]
 ·have z:imul .i64 (isub .i64 0 0) (isub .i64 0 0)=0:=rfl
  simp [ja1,jb4,eqXs,eqX,eqo,eqLo,eqc,veq,eqUs,e,h,ti_t h,z]
end Go.Proofs.YthkidembkknoeaaDoor
