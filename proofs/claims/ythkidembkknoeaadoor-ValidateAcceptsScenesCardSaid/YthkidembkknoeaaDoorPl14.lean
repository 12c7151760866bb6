import Derived.Test.YthkidembkknoeaaDoorPl11
import Derived.Test.YthkidembkknoeaaDoorPl12
import Derived.Test.YthkidembkknoeaaDoorPl07
import Derived.Test.YthkidembkknoeaaDoorPl08
namespace Go.Proofs.YthkidembkknoeaaDoor
open Go.RowKit PR QR
set_option linter.unusedVariables false
def ji5 (k i:Int):Prop:=0<=i/\(i=0\/i<=k)
def jr9 (k i:Int):Nat:=(k - i).toNat
def jy5 (k i:Int):Prop:=ji5 k i/\i < k
noncomputable def qf2 (md n k t:Int) (q:Int->Nat->Int):QR.Inv where
 ι:=Int
 good i:=ji5 k i
 slots i:=QR.slotsOf Tryd.f47.ntmps [(1,.x (.c (.v (.int .i64 k)))),(2,.x (.c (.v (.int .u16 t)))),(3,.x (.c (.ptr 1000000000000000 0))),(6,.x (.c (.v (.slice none 0 0)))),(7,.x (.c (.own 1000000000000001 i))),(8,.x (.c (.v (.int .i64 i))))]
 blocks i:=[(1000000000000000,.cells [.v (.int .i64 md),.slc 5 n (.fn λ i j=>.v (.int .i64 (q i j)))]),(1000000000000001,.row 5 i (.fn λ p j=>.v (.int .u16 (gpxV md n q t p j))))]
 μ i:=jr9 k i
noncomputable def qf3 (md n k t:Int) (q:Int->Nat->Int) (i:Int):QR.Inv where
 ι:=Nat
 good _:=jy5 k i
 slots _:=QR.slotsOf Tryd.f47.ntmps [(1,.x (.c (.v (.int .i64 k)))),(2,.x (.c (.v (.int .u16 t)))),(3,.x (.c (.ptr 1000000000000000 0))),(6,.x (.c (.v (.slice none 0 0)))),(7,.x (.c (.own 1000000000000001 i))),(8,.x (.c (.v (.int .i64 i)))),(10,.x (.c (.ptr 1000000000000002 0)))]
 blocks _:=[(1000000000000000,.cells [.v (.int .i64 md),.slc 5 n (.fn λ i j=>.v (.int .i64 (q i j)))]),(1000000000000002,.cells [.v (.int .i64 (grQ n q i 0)),.v (.int .i64 (grQ n q i 1)),.v (.int .i64 (grQ n q i 2)),.v (.int .i64 (grQ n q i 3)),.v (.int .i64 (grQ n q i 4))]),(1000000000000001,.row 5 i (.fn λ p j=>.v (.int .u16 (gpxV md n q t p j))))]
 μ _:=0
def yx2:QR.ja7:=QR.orc [(20,QR.qe4 jm0),(73,qc7)]
def zz8 (fz0:Int) (fz1:Int) (fz2:Int) (fz3:Int->Nat->Int) (fz4:Int) (fz5:Int):Prop:=(∀(bz0:Nat),jy5 fz0 fz1->∀(bz1:Int),bz1=gpC (grQ fz2 fz3 fz1 0) (grQ fz2 fz3 fz1 3) (grQ fz2 fz3 fz1 4) fz4->∀(bz2:Int),bz2=gpC (grQ fz2 fz3 fz1 1) (grQ fz2 fz3 fz1 3) (grQ fz2 fz3 fz1 4) fz4->∀(bz3:Int),bz3=gpC (grQ fz2 fz3 fz1 2) (grQ fz2 fz3 fz1 3) (grQ fz2 fz3 fz1 4) fz4->∀(bz4:Int),bz4=gpA (grQ fz2 fz3 fz1 3) (grQ fz2 fz3 fz1 4) fz4->∀(bz5:Int),bz5=gpF (grQ fz2 fz3 fz1 4) fz4->(in16 fz4=true/\True)/\∀(bz6:Int),bz6=gmod fz5 6->(jb8 6=true/\True)/\True/\ja0 (ieq bz6 0) (True/\(ile (jd8 (addZ fz1 1) 10) 140737488355328=true/\True)/\True/\((∃(bz7:Int),ji5 fz0 bz7/\(True/\true=true/\((true=true/\IntKind.i64=IntKind.i64/\fz0=fz0)/\(true=true/\IntKind.u16=IntKind.u16/\fz4=fz4)/\(true=true/\1000000000000000=1000000000000000/\0=0)/\(true=true/\Value.slice Option.none 0 0=Value.slice Option.none 0 0)/\(true=true/\8409091=8409091/\addZ fz1 1=bz7)/\(true=true/\IntKind.i64=IntKind.i64/\iadd IntKind.i64 fz1 1=bz7)/\True)/\((IntKind.i64=IntKind.i64/\fz5=fz5)/\(5=5/\fz2=fz2/\((((True/\∀(bz8:Nat),ilt (Int.ofNat bz8) fz2=true->IntKind.i64=IntKind.i64/\fz3 (Int.ofNat bz8) 0=fz3 (Int.ofNat bz8) 0)/\∀(bz9:Nat),ilt (Int.ofNat bz9) fz2=true->IntKind.i64=IntKind.i64/\fz3 (Int.ofNat bz9) 1=fz3 (Int.ofNat bz9) 1)/\∀(bz10:Nat),ilt (Int.ofNat bz10) fz2=true->IntKind.i64=IntKind.i64/\fz3 (Int.ofNat bz10) 2=fz3 (Int.ofNat bz10) 2)/\∀(bz11:Nat),ilt (Int.ofNat bz11) fz2=true->IntKind.i64=IntKind.i64/\fz3 (Int.ofNat bz11) 3=fz3 (Int.ofNat bz11) 3)/\∀(bz12:Nat),ilt (Int.ofNat bz12) fz2=true->IntKind.i64=IntKind.i64/\fz3 (Int.ofNat bz12) 4=fz3 (Int.ofNat bz12) 4)/\True)/\(5=5/\addZ fz1 1=bz7/\((((True/\∀(bz13:Nat),ilt (Int.ofNat bz13) (addZ fz1 1)=true->IntKind.u16=IntKind.u16/\isel (ilt (Int.ofNat bz13) fz1) (gpxV fz5 fz2 fz3 fz4 (Int.ofNat bz13) 0) (isel (ieq (subZ (Int.ofNat bz13) fz1) 0) 0 0)=gpxV fz5 fz2 fz3 fz4 (Int.ofNat bz13) 0)/\∀(bz14:Nat),ilt (Int.ofNat bz14) (addZ fz1 1)=true->IntKind.u16=IntKind.u16/\isel (ilt (Int.ofNat bz14) fz1) (gpxV fz5 fz2 fz3 fz4 (Int.ofNat bz14) 1) (isel (ieq (subZ (Int.ofNat bz14) fz1) 0) 0 0)=gpxV fz5 fz2 fz3 fz4 (Int.ofNat bz14) 1)/\∀(bz15:Nat),ilt (Int.ofNat bz15) (addZ fz1 1)=true->IntKind.u16=IntKind.u16/\isel (ilt (Int.ofNat bz15) fz1) (gpxV fz5 fz2 fz3 fz4 (Int.ofNat bz15) 2) (isel (ieq (subZ (Int.ofNat bz15) fz1) 0) 0 0)=gpxV fz5 fz2 fz3 fz4 (Int.ofNat bz15) 2)/\∀(bz16:Nat),ilt (Int.ofNat bz16) (addZ fz1 1)=true->IntKind.u16=IntKind.u16/\isel (ilt (Int.ofNat bz16) fz1) (gpxV fz5 fz2 fz3 fz4 (Int.ofNat bz16) 3) (isel (ieq (subZ (Int.ofNat bz16) fz1) 0) 0 0)=gpxV fz5 fz2 fz3 fz4 (Int.ofNat bz16) 3)/\∀(bz17:Nat),ilt (Int.ofNat bz17) (addZ fz1 1)=true->IntKind.u16=IntKind.u16/\isel (ilt (Int.ofNat bz17) fz1) (gpxV fz5 fz2 fz3 fz4 (Int.ofNat bz17) 4) (isel (ieq (subZ (Int.ofNat bz17) fz1) 0) 0 0)=gpxV fz5 fz2 fz3 fz4 (Int.ofNat bz17) 4)/\True)/\Nat.le (Nat.succ (jr9 fz0 bz7)) (jr9 fz0 fz1))\/False)) (True/\ja0 (ieq bz6 1) (True/\(ile (jd8 (addZ fz1 1) 10) 140737488355328=true/\True)/\True/\((∃(bz18:Int),ji5 fz0 bz18/\(True/\true=true/\((true=true/\IntKind.i64=IntKind.i64/\fz0=fz0)/\(true=true/\IntKind.u16=IntKind.u16/\fz4=fz4)/\(true=true/\1000000000000000=1000000000000000/\0=0)/\(true=true/\Value.slice Option.none 0 0=Value.slice Option.none 0 0)/\(true=true/\8409091=8409091/\addZ fz1 1=bz18)/\(true=true/\IntKind.i64=IntKind.i64/\iadd IntKind.i64 fz1 1=bz18)/\True)/\((IntKind.i64=IntKind.i64/\fz5=fz5)/\(5=5/\fz2=fz2/\((((True/\∀(bz19:Nat),ilt (Int.ofNat bz19) fz2=true->IntKind.i64=IntKind.i64/\fz3 (Int.ofNat bz19) 0=fz3 (Int.ofNat bz19) 0)/\∀(bz20:Nat),ilt (Int.ofNat bz20) fz2=true->IntKind.i64=IntKind.i64/\fz3 (Int.ofNat bz20) 1=fz3 (Int.ofNat bz20) 1)/\∀(bz21:Nat),ilt (Int.ofNat bz21) fz2=true->IntKind.i64=IntKind.i64/\fz3 (Int.ofNat bz21) 2=fz3 (Int.ofNat bz21) 2)/\∀(bz22:Nat),ilt (Int.ofNat bz22) fz2=true->IntKind.i64=IntKind.i64/\fz3 (Int.ofNat bz22) 3=fz3 (Int.ofNat bz22) 3)/\∀(bz23:Nat),ilt (Int.ofNat bz23) fz2=true->IntKind.i64=IntKind.i64/\fz3 (Int.ofNat bz23) 4=fz3 (Int.ofNat bz23) 4)/\True)/\(5=5/\addZ fz1 1=bz18/\((((True/\∀(bz24:Nat),ilt (Int.ofNat bz24) (addZ fz1 1)=true->IntKind.u16=IntKind.u16/\isel (ilt (Int.ofNat bz24) fz1) (gpxV fz5 fz2 fz3 fz4 (Int.ofNat bz24) 0) (isel (ieq (subZ (Int.ofNat bz24) fz1) 0) bz1 0)=gpxV fz5 fz2 fz3 fz4 (Int.ofNat bz24) 0)/\∀(bz25:Nat),ilt (Int.ofNat bz25) (addZ fz1 1)=true->IntKind.u16=IntKind.u16/\isel (ilt (Int.ofNat bz25) fz1) (gpxV fz5 fz2 fz3 fz4 (Int.ofNat bz25) 1) (isel (ieq (subZ (Int.ofNat bz25) fz1) 0) bz2 0)=gpxV fz5 fz2 fz3 fz4 (Int.ofNat bz25) 1)/\∀(bz26:Nat),ilt (Int.ofNat bz26) (addZ fz1 1)=true->IntKind.u16=IntKind.u16/\isel (ilt (Int.ofNat bz26) fz1) (gpxV fz5 fz2 fz3 fz4 (Int.ofNat bz26) 2) (isel (ieq (subZ (Int.ofNat bz26) fz1) 0) bz3 0)=gpxV fz5 fz2 fz3 fz4 (Int.ofNat bz26) 2)/\∀(bz27:Nat),ilt (Int.ofNat bz27) (addZ fz1 1)=true->IntKind.u16=IntKind.u16/\isel (ilt (Int.ofNat bz27) fz1) (gpxV fz5 fz2 fz3 fz4 (Int.ofNat bz27) 3) (isel (ieq (subZ (Int.ofNat bz27) fz1) 0) fz4 0)=gpxV fz5 fz2 fz3 fz4 (Int.ofNat bz27) 3)/\∀(bz28:Nat),ilt (Int.ofNat bz28) (addZ fz1 1)=true->IntKind.u16=IntKind.u16/\isel (ilt (Int.ofNat bz28) fz1) (gpxV fz5 fz2 fz3 fz4 (Int.ofNat bz28) 4) (isel (ieq (subZ (Int.ofNat bz28) fz1) 0) fz4 0)=gpxV fz5 fz2 fz3 fz4 (Int.ofNat bz28) 4)/\True)/\Nat.le (Nat.succ (jr9 fz0 bz18)) (jr9 fz0 fz1))\/False)) (True/\ja0 (ieq bz6 2) (∀(bz29:Int),bz29=fz1->True/\ja0 (igt bz29 0) ((true=true/\ilt 0 fz1=true/\True)/\(ile (jd8 (addZ fz1 1) 10) 140737488355328=true/\True)/\True/\((∃(bz30:Int),ji5 fz0 bz30/\(True/\true=true/\((true=true/\IntKind.i64=IntKind.i64/\fz0=fz0)/\(true=true/\IntKind.u16=IntKind.u16/\fz4=fz4)/\(true=true/\1000000000000000=1000000000000000/\0=0)/\(true=true/\Value.slice Option.none 0 0=Value.slice Option.none 0 0)/\(true=true/\8409091=8409091/\addZ fz1 1=bz30)/\(true=true/\IntKind.i64=IntKind.i64/\iadd IntKind.i64 fz1 1=bz30)/\True)/\((IntKind.i64=IntKind.i64/\fz5=fz5)/\(5=5/\fz2=fz2/\((((True/\∀(bz31:Nat),ilt (Int.ofNat bz31) fz2=true->IntKind.i64=IntKind.i64/\fz3 (Int.ofNat bz31) 0=fz3 (Int.ofNat bz31) 0)/\∀(bz32:Nat),ilt (Int.ofNat bz32) fz2=true->IntKind.i64=IntKind.i64/\fz3 (Int.ofNat bz32) 1=fz3 (Int.ofNat bz32) 1)/\∀(bz33:Nat),ilt (Int.ofNat bz33) fz2=true->IntKind.i64=IntKind.i64/\fz3 (Int.ofNat bz33) 2=fz3 (Int.ofNat bz33) 2)/\∀(bz34:Nat),ilt (Int.ofNat bz34) fz2=true->IntKind.i64=IntKind.i64/\fz3 (Int.ofNat bz34) 3=fz3 (Int.ofNat bz34) 3)/\∀(bz35:Nat),ilt (Int.ofNat bz35) fz2=true->IntKind.i64=IntKind.i64/\fz3 (Int.ofNat bz35) 4=fz3 (Int.ofNat bz35) 4)/\True)/\(5=5/\addZ fz1 1=bz30/\((((True/\∀(bz36:Nat),ilt (Int.ofNat bz36) (addZ fz1 1)=true->IntKind.u16=IntKind.u16/\isel (ilt (Int.ofNat bz36) fz1) (gpxV fz5 fz2 fz3 fz4 (Int.ofNat bz36) 0) (isel (ieq (subZ (Int.ofNat bz36) fz1) 0) (gpxV fz5 fz2 fz3 fz4 0 0) 0)=gpxV fz5 fz2 fz3 fz4 (Int.ofNat bz36) 0)/\∀(bz37:Nat),ilt (Int.ofNat bz37) (addZ fz1 1)=true->IntKind.u16=IntKind.u16/\isel (ilt (Int.ofNat bz37) fz1) (gpxV fz5 fz2 fz3 fz4 (Int.ofNat bz37) 1) (isel (ieq (subZ (Int.ofNat bz37) fz1) 0) (gpxV fz5 fz2 fz3 fz4 0 1) 0)=gpxV fz5 fz2 fz3 fz4 (Int.ofNat bz37) 1)/\∀(bz38:Nat),ilt (Int.ofNat bz38) (addZ fz1 1)=true->IntKind.u16=IntKind.u16/\isel (ilt (Int.ofNat bz38) fz1) (gpxV fz5 fz2 fz3 fz4 (Int.ofNat bz38) 2) (isel (ieq (subZ (Int.ofNat bz38) fz1) 0) (gpxV fz5 fz2 fz3 fz4 0 2) 0)=gpxV fz5 fz2 fz3 fz4 (Int.ofNat bz38) 2)/\∀(bz39:Nat),ilt (Int.ofNat bz39) (addZ fz1 1)=true->IntKind.u16=IntKind.u16/\isel (ilt (Int.ofNat bz39) fz1) (gpxV fz5 fz2 fz3 fz4 (Int.ofNat bz39) 3) (isel (ieq (subZ (Int.ofNat bz39) fz1) 0) (gpxV fz5 fz2 fz3 fz4 0 3) 0)=gpxV fz5 fz2 fz3 fz4 (Int.ofNat bz39) 3)/\∀(bz40:Nat),ilt (Int.ofNat bz40) (addZ fz1 1)=true->IntKind.u16=IntKind.u16/\isel (ilt (Int.ofNat bz40) fz1) (gpxV fz5 fz2 fz3 fz4 (Int.ofNat bz40) 4) (isel (ieq (subZ (Int.ofNat bz40) fz1) 0) (gpxV fz5 fz2 fz3 fz4 0 4) 0)=gpxV fz5 fz2 fz3 fz4 (Int.ofNat bz40) 4)/\True)/\Nat.le (Nat.succ (jr9 fz0 bz30)) (jr9 fz0 fz1))\/False)) ((ile (jd8 (addZ fz1 1) 10) 140737488355328=true/\True)/\True/\((∃(bz41:Int),ji5 fz0 bz41/\(True/\true=true/\((true=true/\IntKind.i64=IntKind.i64/\fz0=fz0)/\(true=true/\IntKind.u16=IntKind.u16/\fz4=fz4)/\(true=true/\1000000000000000=1000000000000000/\0=0)/\(true=true/\Value.slice Option.none 0 0=Value.slice Option.none 0 0)/\(true=true/\8409091=8409091/\addZ fz1 1=bz41)/\(true=true/\IntKind.i64=IntKind.i64/\iadd IntKind.i64 fz1 1=bz41)/\True)/\((IntKind.i64=IntKind.i64/\fz5=fz5)/\(5=5/\fz2=fz2/\((((True/\∀(bz42:Nat),ilt (Int.ofNat bz42) fz2=true->IntKind.i64=IntKind.i64/\fz3 (Int.ofNat bz42) 0=fz3 (Int.ofNat bz42) 0)/\∀(bz43:Nat),ilt (Int.ofNat bz43) fz2=true->IntKind.i64=IntKind.i64/\fz3 (Int.ofNat bz43) 1=fz3 (Int.ofNat bz43) 1)/\∀(bz44:Nat),ilt (Int.ofNat bz44) fz2=true->IntKind.i64=IntKind.i64/\fz3 (Int.ofNat bz44) 2=fz3 (Int.ofNat bz44) 2)/\∀(bz45:Nat),ilt (Int.ofNat bz45) fz2=true->IntKind.i64=IntKind.i64/\fz3 (Int.ofNat bz45) 3=fz3 (Int.ofNat bz45) 3)/\∀(bz46:Nat),ilt (Int.ofNat bz46) fz2=true->IntKind.i64=IntKind.i64/\fz3 (Int.ofNat bz46) 4=fz3 (Int.ofNat bz46) 4)/\True)/\(5=5/\addZ fz1 1=bz41/\((((True/\∀(bz47:Nat),ilt (Int.ofNat bz47) (addZ fz1 1)=true->IntKind.u16=IntKind.u16/\isel (ilt (Int.ofNat bz47) fz1) (gpxV fz5 fz2 fz3 fz4 (Int.ofNat bz47) 0) (isel (ieq (subZ (Int.ofNat bz47) fz1) 0) bz1 0)=gpxV fz5 fz2 fz3 fz4 (Int.ofNat bz47) 0)/\∀(bz48:Nat),ilt (Int.ofNat bz48) (addZ fz1 1)=true->IntKind.u16=IntKind.u16/\isel (ilt (Int.ofNat bz48) fz1) (gpxV fz5 fz2 fz3 fz4 (Int.ofNat bz48) 1) (isel (ieq (subZ (Int.ofNat bz48) fz1) 0) bz2 0)=gpxV fz5 fz2 fz3 fz4 (Int.ofNat bz48) 1)/\∀(bz49:Nat),ilt (Int.ofNat bz49) (addZ fz1 1)=true->IntKind.u16=IntKind.u16/\isel (ilt (Int.ofNat bz49) fz1) (gpxV fz5 fz2 fz3 fz4 (Int.ofNat bz49) 2) (isel (ieq (subZ (Int.ofNat bz49) fz1) 0) bz3 0)=gpxV fz5 fz2 fz3 fz4 (Int.ofNat bz49) 2)/\∀(bz50:Nat),ilt (Int.ofNat bz50) (addZ fz1 1)=true->IntKind.u16=IntKind.u16/\isel (ilt (Int.ofNat bz50) fz1) (gpxV fz5 fz2 fz3 fz4 (Int.ofNat bz50) 3) (isel (ieq (subZ (Int.ofNat bz50) fz1) 0) bz4 0)=gpxV fz5 fz2 fz3 fz4 (Int.ofNat bz50) 3)/\∀(bz51:Nat),ilt (Int.ofNat bz51) (addZ fz1 1)=true->IntKind.u16=IntKind.u16/\isel (ilt (Int.ofNat bz51) fz1) (gpxV fz5 fz2 fz3 fz4 (Int.ofNat bz51) 4) (isel (ieq (subZ (Int.ofNat bz51) fz1) 0) bz5 0)=gpxV fz5 fz2 fz3 fz4 (Int.ofNat bz51) 4)/\True)/\Nat.le (Nat.succ (jr9 fz0 bz41)) (jr9 fz0 fz1))\/False))) ((ile (jd8 (addZ fz1 1) 10) 140737488355328=true/\True)/\True/\((∃(bz52:Int),ji5 fz0 bz52/\(True/\true=true/\((true=true/\IntKind.i64=IntKind.i64/\fz0=fz0)/\(true=true/\IntKind.u16=IntKind.u16/\fz4=fz4)/\(true=true/\1000000000000000=1000000000000000/\0=0)/\(true=true/\Value.slice Option.none 0 0=Value.slice Option.none 0 0)/\(true=true/\8409091=8409091/\addZ fz1 1=bz52)/\(true=true/\IntKind.i64=IntKind.i64/\iadd IntKind.i64 fz1 1=bz52)/\True)/\((IntKind.i64=IntKind.i64/\fz5=fz5)/\(5=5/\fz2=fz2/\((((True/\∀(bz53:Nat),ilt (Int.ofNat bz53) fz2=true->IntKind.i64=IntKind.i64/\fz3 (Int.ofNat bz53) 0=fz3 (Int.ofNat bz53) 0)/\∀(bz54:Nat),ilt (Int.ofNat bz54) fz2=true->IntKind.i64=IntKind.i64/\fz3 (Int.ofNat bz54) 1=fz3 (Int.ofNat bz54) 1)/\∀(bz55:Nat),ilt (Int.ofNat bz55) fz2=true->IntKind.i64=IntKind.i64/\fz3 (Int.ofNat bz55) 2=fz3 (Int.ofNat bz55) 2)/\∀(bz56:Nat),ilt (Int.ofNat bz56) fz2=true->IntKind.i64=IntKind.i64/\fz3 (Int.ofNat bz56) 3=fz3 (Int.ofNat bz56) 3)/\∀(bz57:Nat),ilt (Int.ofNat bz57) fz2=true->IntKind.i64=IntKind.i64/\fz3 (Int.ofNat bz57) 4=fz3 (Int.ofNat bz57) 4)/\True)/\(5=5/\addZ fz1 1=bz52/\((((True/\∀(bz58:Nat),ilt (Int.ofNat bz58) (addZ fz1 1)=true->IntKind.u16=IntKind.u16/\isel (ilt (Int.ofNat bz58) fz1) (gpxV fz5 fz2 fz3 fz4 (Int.ofNat bz58) 0) (isel (ieq (subZ (Int.ofNat bz58) fz1) 0) bz1 0)=gpxV fz5 fz2 fz3 fz4 (Int.ofNat bz58) 0)/\∀(bz59:Nat),ilt (Int.ofNat bz59) (addZ fz1 1)=true->IntKind.u16=IntKind.u16/\isel (ilt (Int.ofNat bz59) fz1) (gpxV fz5 fz2 fz3 fz4 (Int.ofNat bz59) 1) (isel (ieq (subZ (Int.ofNat bz59) fz1) 0) bz2 0)=gpxV fz5 fz2 fz3 fz4 (Int.ofNat bz59) 1)/\∀(bz60:Nat),ilt (Int.ofNat bz60) (addZ fz1 1)=true->IntKind.u16=IntKind.u16/\isel (ilt (Int.ofNat bz60) fz1) (gpxV fz5 fz2 fz3 fz4 (Int.ofNat bz60) 2) (isel (ieq (subZ (Int.ofNat bz60) fz1) 0) bz3 0)=gpxV fz5 fz2 fz3 fz4 (Int.ofNat bz60) 2)/\∀(bz61:Nat),ilt (Int.ofNat bz61) (addZ fz1 1)=true->IntKind.u16=IntKind.u16/\isel (ilt (Int.ofNat bz61) fz1) (gpxV fz5 fz2 fz3 fz4 (Int.ofNat bz61) 3) (isel (ieq (subZ (Int.ofNat bz61) fz1) 0) bz4 0)=gpxV fz5 fz2 fz3 fz4 (Int.ofNat bz61) 3)/\∀(bz62:Nat),ilt (Int.ofNat bz62) (addZ fz1 1)=true->IntKind.u16=IntKind.u16/\isel (ilt (Int.ofNat bz62) fz1) (gpxV fz5 fz2 fz3 fz4 (Int.ofNat bz62) 4) (isel (ieq (subZ (Int.ofNat bz62) fz1) 0) bz5 0)=gpxV fz5 fz2 fz3 fz4 (Int.ofNat bz62) 4)/\True)/\Nat.le (Nat.succ (jr9 fz0 bz52)) (jr9 fz0 fz1))\/False)))))
def zz126 (fz0:Int) (fz1:Int) (fz2:Int) (fz3:Int) (fz4:Int) (fz5:Int->Nat->Int):Prop:=((∃(bz0:Nat),jy5 fz0 fz1/\True/\true=true/\(zz74 fz0 fz2 fz1)/\(zz38 fz3 fz4 fz5)/\((IntKind.i64=IntKind.i64/\(0:Int)=grQ fz4 fz5 fz1 0)/\(IntKind.i64=IntKind.i64/\(0:Int)=grQ fz4 fz5 fz1 1)/\(IntKind.i64=IntKind.i64/\(0:Int)=grQ fz4 fz5 fz1 2)/\(IntKind.i64=IntKind.i64/\(0:Int)=grQ fz4 fz5 fz1 3)/\(IntKind.i64=IntKind.i64/\(0:Int)=grQ fz4 fz5 fz1 4)/\True)/\(zz43 fz1 fz3 fz4 fz5 fz2)/\True)\/False)
set_option maxRecDepth 100000 in
theorem y66 (md n k t:Int) (q:Int->Nat->Int) (V:List QR.XV->List (List QR.CV)->Prop):QR.ja9 Tryd.prog (yx2) (λ n_=>bif Nat.beq n_ 3 then some (.ownF [(7,none,5)] λ _=>[qf2 md n k t q]) else bif Nat.beq n_ 700011 then some (.cutF λ g=>[qf3 md n k t q (g 8)]) else none) (Tryd.f47.body.getD .skip) Tryd.f47.results.toList Tryd.f47.ntmps [.x (.agg [.v (.int .i64 md),.slc 5 n (.fn λ i j=>.v (.int .i64 (q i j)))]),.x (.c (.v (.int .i64 k))),.x (.c (.v (.int .u16 t)))] V=(True/\True/\True/\((∃(i:Int),ji5 k i/\True/\true=true/\((true=true/\IntKind.i64=IntKind.i64/\k=k)/\(true=true/\IntKind.u16=IntKind.u16/\t=t)/\(true=true/\0=0/\0=0)/\(true=true/\Value.slice Option.none 0 0=Value.slice Option.none 0 0)/\(true=true/\4188160=4188160/\0=i)/\(true=true/\IntKind.i64=IntKind.i64/\(0:Int)=i)/\True)/\(zz38 md n q)/\(5=5/\0=i/\((((True/\∀(i:Nat),ilt (Int.ofNat i) 0=true->Value.tuple #[]=Value.int .u16 (gpxV md n q t (Int.ofNat i) 0))/\∀(i:Nat),ilt (Int.ofNat i) 0=true->Value.tuple #[]=Value.int .u16 (gpxV md n q t (Int.ofNat i) 1))/\∀(i:Nat),ilt (Int.ofNat i) 0=true->Value.tuple #[]=Value.int .u16 (gpxV md n q t (Int.ofNat i) 2))/\∀(i:Nat),ilt (Int.ofNat i) 0=true->Value.tuple #[]=Value.int .u16 (gpxV md n q t (Int.ofNat i) 3))/\∀(i:Nat),ilt (Int.ofNat i) 0=true->Value.tuple #[]=Value.int .u16 (gpxV md n q t (Int.ofNat i) 4))/\True)\/False)/\(∀(i:Int),ji5 k i->True/\ja0 (ilt i k) (True/\∀(i_1:Int),i_1=n->True/\ja0 (igt i_1 0) (∀(i_2:Int),i_2=n->(ine i_2 0=true/\True)/\True/\(∀(i_3:Int),i_3=n->True/\ja0 (ilt (irem i i_2) i_3) ((ile 0 (irem i i_2)=true/\ilt (irem i i_2) n=true/\True)/\((∃(i_4:Nat),jy5 k i/\True/\true=true/\(zz74 k t i)/\(zz38 md n q)/\((IntKind.i64=IntKind.i64/\q (irem i i_2) 0=grQ n q i 0)/\(IntKind.i64=IntKind.i64/\q (irem i i_2) 1=grQ n q i 1)/\(IntKind.i64=IntKind.i64/\q (irem i i_2) 2=grQ n q i 2)/\(IntKind.i64=IntKind.i64/\q (irem i i_2) 3=grQ n q i 3)/\(IntKind.i64=IntKind.i64/\q (irem i i_2) 4=grQ n q i 4)/\True)/\(zz43 i md n q t)/\True)\/False)) (zz126 k i t md n q))/\(zz8 k i n q t md)/\True) (True/\(∀(i_2:Int),i_2=n->True/\ja0 (ilt i i_2) ((ile 0 i=true/\ilt i n=true/\True)/\((∃(i_3:Nat),jy5 k i/\True/\true=true/\(zz74 k t i)/\(zz38 md n q)/\((IntKind.i64=IntKind.i64/\q i 0=grQ n q i 0)/\(IntKind.i64=IntKind.i64/\q i 1=grQ n q i 1)/\(IntKind.i64=IntKind.i64/\q i 2=grQ n q i 2)/\(IntKind.i64=IntKind.i64/\q i 3=grQ n q i 3)/\(IntKind.i64=IntKind.i64/\q i 4=grQ n q i 4)/\True)/\(zz43 i md n q t)/\True)\/False)) (zz126 k i t md n q))/\(zz8 k i n q t md)/\True)) (True/\True/\V [XV.c (CV.fresh 5 i (zz41 md n q t))] []))/\True):=by
 delta zz8 zz38 zz41 zz43 zz74 zz126
 try delta yx2
 try delta qf2
 try delta qf3
 try delta jm0
 try delta qc7
 generalize @gmod=gmod
 generalize @gpA=gpA
 generalize @gpC=gpC
 generalize @gpF=gpF
 generalize @jy5=jy5
 generalize @ji5=ji5
 generalize @jr9=jr9
 generalize @gpxV=gpxV
 generalize @grQ=grQ
 generalize @in16=in16
 generalize @jb8=jb8
 kernel_rfl
end Go.Proofs.YthkidembkknoeaaDoor
namespace Go.Proofs.YthkidembkknoeaaDoor
open Go.RowKit PR QR
set_option linter.unusedVariables false
def yx1:QR.ja7:=QR.orc [(20,QR.qe4 jm0),(47,vm3),(27,qv3),(48,vm2)]
set_option maxRecDepth 100000 in
theorem y64 (W H S md n:Int) (q:Int->Nat->Int) (x0 y0 x1 y1 t:Int) (V:List QR.XV->List (List QR.CV)->Prop):QR.ja9 Tryd.prog (yx1) (QR.ja4) (Tryd.f26.body.getD .skip) Tryd.f26.results.toList Tryd.f26.ntmps [.x (.agg [.v (.int .i64 W),.v (.int .i64 H),.v (.int .i64 S),.v (.int .i64 md),.slc 5 n (.fn λ i j=>.v (.int .i64 (q i j)))]),.x (.agg [.v (.int .i64 x0),.v (.int .i64 y0),.v (.int .i64 x1),.v (.int .i64 y1)]),.x (.c (.v (.int .u16 t)))] V=(True/\∀(i:Int),i=gmod W 5->∀(i_1:Int),i_1=gmod H 4->(jb8 4=true/\jb8 5=true/\True)/\∀(i_2:Int),i_2=gmod (iquo IntKind.i64 W 5) 3->(jb8 3=true/\true=true/\True)/\ja0 (ieq i_2 0) (True/\(intRow IntKind.i64 5 n (QR.Row.fn λ (i:Int) (j:Nat)=>CV.v (Value.int .i64 (q i j)))/\ile 0 n=true/\in16 t=true/\ile (imul IntKind.i64 (isub IntKind.i64 x1 x0) (isub IntKind.i64 y1 y0)) 1099511627776=true/\True)/\∀(i:Int),i=gmod S 2->(jb8 2=true/\True)/\ja0 (ieq i 0) ((true=true/\ilt 0 (jc2 (imul IntKind.i64 (isub IntKind.i64 x1 x0) (isub IntKind.i64 y1 y0)) 0)=true/\True)/\True/\V [XV.agg [CV.v (Value.int .i64 (isub IntKind.i64 x1 x0)),CV.v (Value.int .i64 (isub IntKind.i64 y1 y0)),CV.v (Value.bool true),CV.v (Value.int .u16 (gpxV md n (λ (i:Int) (j:Nat)=>q i j) t 0 0)),CV.v (Value.int .u16 (gpxV md n (λ (i:Int) (j:Nat)=>q i j) t 0 1)),CV.v (Value.int .u16 (gpxV md n (λ (i:Int) (j:Nat)=>q i j) t 0 2)),CV.v (Value.int .u16 (gpxV md n (λ (i:Int) (j:Nat)=>q i j) t 0 3)),CV.v (Value.int .u16 (gpxV md n (λ (i:Int) (j:Nat)=>q i j) t 0 4)),CV.v (Value.int .i64 0),CV.v (Value.int .i64 0),CV.v (Value.int .i64 0),CV.slc 1 0 (QR.Row.fn λ (i:Int) (x:Nat)=>CV.v (Value.int .u16 0)),CV.v (Value.int .i64 0),CV.v (Value.int .i64 0),CV.v (Value.int .i64 0),CV.slc 1 0 (QR.Row.fn λ (i:Int) (x:Nat)=>CV.v (Value.int .u16 0)),CV.v (Value.int .i64 0),CV.v (Value.int .i64 0),CV.v (Value.int .i64 0),CV.slc 1 0 (QR.Row.fn λ (i:Int) (x:Nat)=>CV.v (Value.int .u16 0)),CV.v (Value.int .i64 0),CV.v (Value.int .i64 0),CV.v (Value.int .i64 0),CV.slc 1 0 (QR.Row.fn λ (i:Int) (x:Nat)=>CV.v (Value.int .u16 0)),CV.v (Value.int .i64 0),CV.v (Value.int .i64 0),CV.v (Value.int .i64 0),CV.slc 1 0 (QR.Row.fn λ (i:Int) (x:Nat)=>CV.v (Value.int .u16 0))]] []) ((zz143 x1 x0 y1 y0 md n q t)/\True/\True/\V (zz14 x1 x0 y1 y0 md n q t) [])) ((intRow IntKind.i64 5 n (QR.Row.fn λ (i:Int) (j:Nat)=>CV.v (Value.int .i64 (q i j)))/\ile 0 n=true/\in16 t=true/\ile (imul IntKind.i64 (iadd IntKind.i64 1 i) (iadd IntKind.i64 1 i_1)) 1099511627776=true/\True)/\∀(i_3:Int),i_3=gmod S 2->(jb8 2=true/\True)/\ja0 (ieq i_3 0) ((true=true/\ilt 0 (jc2 (imul IntKind.i64 (iadd IntKind.i64 1 i) (iadd IntKind.i64 1 i_1)) 0)=true/\True)/\True/\V [XV.agg [CV.v (Value.int .i64 (iadd IntKind.i64 1 i)),CV.v (Value.int .i64 (iadd IntKind.i64 1 i_1)),CV.v (Value.bool true),CV.v (Value.int .u16 (gpxV md n (λ (i:Int) (j:Nat)=>q i j) t 0 0)),CV.v (Value.int .u16 (gpxV md n (λ (i:Int) (j:Nat)=>q i j) t 0 1)),CV.v (Value.int .u16 (gpxV md n (λ (i:Int) (j:Nat)=>q i j) t 0 2)),CV.v (Value.int .u16 (gpxV md n (λ (i:Int) (j:Nat)=>q i j) t 0 3)),CV.v (Value.int .u16 (gpxV md n (λ (i:Int) (j:Nat)=>q i j) t 0 4)),CV.v (Value.int .i64 0),CV.v (Value.int .i64 0),CV.v (Value.int .i64 0),CV.slc 1 0 (QR.Row.fn λ (i:Int) (x:Nat)=>CV.v (Value.int .u16 0)),CV.v (Value.int .i64 0),CV.v (Value.int .i64 0),CV.v (Value.int .i64 0),CV.slc 1 0 (QR.Row.fn λ (i:Int) (x:Nat)=>CV.v (Value.int .u16 0)),CV.v (Value.int .i64 0),CV.v (Value.int .i64 0),CV.v (Value.int .i64 0),CV.slc 1 0 (QR.Row.fn λ (i:Int) (x:Nat)=>CV.v (Value.int .u16 0)),CV.v (Value.int .i64 0),CV.v (Value.int .i64 0),CV.v (Value.int .i64 0),CV.slc 1 0 (QR.Row.fn λ (i:Int) (x:Nat)=>CV.v (Value.int .u16 0)),CV.v (Value.int .i64 0),CV.v (Value.int .i64 0),CV.v (Value.int .i64 0),CV.slc 1 0 (QR.Row.fn λ (i:Int) (x:Nat)=>CV.v (Value.int .u16 0))]] []) ((zz142 i i_1 md n q t)/\True/\True/\V (zz15 i i_1 md n q t) []))):=by
 delta zz14 zz15 zz142 zz143
 try delta yx1
 try delta jm0
 try delta vm3
 try delta qv3
 try delta vm2
 generalize @gmod=gmod
 generalize @gpxV=gpxV
 generalize @jm9=jm9
 generalize @jc1=jc1
 generalize @in16=in16
 generalize @in64=in64
 generalize @intRow=intRow
 generalize @jb8=jb8
 kernel_rfl
end Go.Proofs.YthkidembkknoeaaDoor
namespace Go.Proofs.YthkidembkknoeaaDoor
open Go.RowKit PR QR
set_option linter.unusedVariables false
set_option linter.unusedSimpArgs false
set_option maxRecDepth 20000
theorem yt0:jb0 61 q00:=by
 intro al ans h hq
 unfold q00 at h
 split at h <;> try (simp at h;done)
 rename_i w h
 simp only [Option.some.injEq] at h
 subst h
 have hq:=asked hq
 refine QR.ja2 (O:=(QR.orc [])) QR.jb2 mixed (QR.ja4) Tryd.func61 (by kernel_rfl) (by kernel_rfl) (by simp) ?_
 rw [yg2]
 obtain ⟨iw,ih,_⟩:=hq
 have iw:=qi9.1 iw
 simp only [jb6,eqXs,eqX,eqo,eqLo,eqc,veq,eqUs,ja1,ige,ile,decide_eq_true_eq,decide_eq_false_iff_not,true_and,and_true]
 refine ⟨λ h1=>⟨λ h2=>⟨λ h3=>⟨vf5 (by omega),?_⟩,λ h3=>?_⟩,λ h2=>?_⟩,λ h1=>?_⟩
 ·rw [vk6 (by omega) (by omega),Bool.eq_iff_iff,decide_eq_true_eq,jg0,<- vy3 (by omega) (by omega)]
  exact ⟨λ k=>⟨by omega,by omega,k⟩,λ k=>k.2.2⟩
 ·refine (decide_eq_false λ k=>?_).symm
  have:=Int.mul_le_mul (Int.le_refl w) k.2.1 (by decide) (by omega)
  omega
 ·exact (decide_eq_false λ k=>by omega).symm
 ·exact (decide_eq_false λ k=>by omega).symm
end Go.Proofs.YthkidembkknoeaaDoor
namespace Go.Proofs.YthkidembkknoeaaDoor
open Go.RowKit PR QR
set_option linter.unusedVariables false
set_option linter.unusedSimpArgs false
set_option maxRecDepth 20000
theorem vk3 (a b c d:Int):reB a b c d=(bnot (rvB a b c d) || ige a c || ige b d):=by
 rw [Bool.eq_iff_iff]
 unfold reB rvB bnot ige
 simp only [Bool.or_eq_true,Bool.not_eq_true',decide_eq_true_eq,decide_eq_false_iff_not]
 omega
theorem ys6:jb0 84 qz8:=by
 intro al ans h hq
 unfold qz8 at h
 split at h <;> try (simp at h;done)
 rename_i a
 simp only [Option.some.injEq] at h
 subst h
 have hq:=asked hq
 refine QR.ja2 (O:=(QR.orc [])) QR.jb2 mixed (QR.ja4) Tryd.func84 (by kernel_rfl) (by kernel_rfl) (by simp) ?_
 rw [yf8]
 unfold jv8
 simp only [ja1,jb6,eqXs,eqX,eqo,eqLo,eqc,veq,eqUs,ile,decide_eq_true_eq,decide_eq_false_iff_not,true_and,and_true,forall_eq]
 repeat' (first | intro _ | constructor)
 all_goals first | (exact (decide_eq_false (by omega)).symm) | (exact (decide_eq_true (by omega)).symm) | (rw [eq_comm,Bool.eq_iff_iff,decide_eq_true_eq,decide_eq_true_eq];omega)
theorem ys7 (a b c d:Int):rvB a b c d=(jv8 a && (jv8 b && (jv8 c && jv8 d))):=by
 rw [Bool.eq_iff_iff]
 unfold rvB jv8
 simp only [Bool.and_eq_true,decide_eq_true_eq]
theorem vy2:jb0 78 jn7:=by
 intro al ans h hq
 unfold jn7 at h
 split at h <;> try (simp at h;done)
 rename_i a b c d
 simp only [Option.some.injEq] at h
 subst h
 have hq:=asked hq
 refine QR.ja2 (O:=vx7) (QR.ja3 ys6 QR.jb2) mixed (QR.ja4) Tryd.func78 (by kernel_rfl) (by kernel_rfl) (by simp) ?_
 rw [vp7]
 have e:=ys7 a b c d
 cases h1:jv8 a <;> cases h2:jv8 b <;> cases h3:jv8 c <;> simp [ja1,jb6,eqXs,eqX,eqo,eqLo,eqc,veq,eqUs,h1,h2,h3,e]
theorem yg0:jb0 65 jn7:=by
 intro al ans h hq
 unfold jn7 at h
 split at h <;> try (simp at h;done)
 rename_i a b c d
 simp only [Option.some.injEq] at h
 subst h
 have hq:=asked hq
 refine QR.ja2 (O:=(QR.orc [])) QR.jb2 mixed (QR.ja4) Tryd.func65 (by kernel_rfl) (by kernel_rfl) (by simp) ?_
 rw [vy0]
 unfold rvB
 simp only [ja1,jb6,eqXs,eqX,eqo,eqLo,eqc,veq,eqUs,ilt,igt,ile,ige,decide_eq_true_eq,decide_eq_false_iff_not,true_and,and_true,forall_eq]
 repeat' (first | intro _ | constructor)
 all_goals first | (exact (decide_eq_false (by omega)).symm) | (exact (decide_eq_true (by omega)).symm) | (rw [eq_comm,Bool.eq_iff_iff,decide_eq_true_eq,decide_eq_true_eq];omega)
theorem vk4:jb0 58 jk5:=by
 intro al ans h hq
 unfold jk5 at h
 split at h <;> try (simp at h;done)
 rename_i a b c d
 simp only [Option.some.injEq] at h
 subst h
 have hq:=asked hq
 refine QR.ja2 (O:=vx8) (QR.ja3 vy2 QR.jb2) mixed (QR.ja4) Tryd.func58 (by kernel_rfl) (by kernel_rfl) (by simp) ?_
 rw [vx9]
 have e:=vk3 a b c d
 cases h1:bnot (rvB a b c d) <;> cases h2:ige a c <;> simp [ja1,jb6,eqXs,eqX,eqo,eqLo,eqc,veq,eqUs,h1,h2,e]
theorem yg1:jb0 37 jk5:=by
 intro al ans h hq
 unfold jk5 at h
 split at h <;> try (simp at h;done)
 rename_i a b c d
 simp only [Option.some.injEq] at h
 subst h
 have hq:=asked hq
 refine QR.ja2 (O:=ys5) (QR.ja3 yg0 QR.jb2) mixed (QR.ja4) Tryd.func37 (by kernel_rfl) (by kernel_rfl) (by simp) ?_
 rw [vy1]
 have e:=vk3 a b c d
 cases h1:bnot (rvB a b c d) <;> cases h2:ige a c <;> simp [ja1,jb6,eqXs,eqX,eqo,eqLo,eqc,veq,eqUs,h1,h2,e]
theorem ys8 {a b c d:Int} (h:reB a b c d=false):imul .i64 (isub .i64 c a) (isub .i64 d b)=(c - a) * (d - b):=by
 have h:=re_f.1 h
 unfold F30 at h
 have e1:isub .i64 c a=c - a:=by unfold isub;exact IntWalk.i64_in _ (by omega)
 have e2:isub .i64 d b=d - b:=by unfold isub;exact IntWalk.i64_in _ (by omega)
 rw [e1,e2]
 have p1:=Int.mul_nonneg (show 0<=c - a by omega) (show 0<=d - b by omega)
 have p2:=Int.mul_le_mul (show c - a<=2147483648 by omega) (show d - b<=2147483648 by omega) (by omega) (by decide)
 unfold imul
 exact IntWalk.i64_in _ (by omega)
theorem ys9:jb0 56 qz9:=by
 intro al ans h hq
 unfold qz9 at h
 split at h <;> try (simp at h;done)
 rename_i a b c d
 simp only [Option.some.injEq] at h
 subst h
 have hq:=asked hq
 refine QR.ja2 (O:=o_re) (QR.ja3 vk4 QR.jb2) mixed (QR.ja4) Tryd.func56 (by kernel_rfl) (by kernel_rfl) (by simp) ?_
 rw [yf9]
 have e:raV a b c d=if reB a b c d=true then 0 else (c - a) * (d - b):=rfl
 cases h:reB a b c d
 ·simp [ja1,jb6,eqXs,eqX,eqo,eqLo,eqc,veq,eqUs,e,h,ys8 h]
 ·simp [ja1,jb6,eqXs,eqX,eqo,eqLo,eqc,veq,eqUs,e,h]
end Go.Proofs.YthkidembkknoeaaDoor
namespace Go.Proofs.YthkidembkknoeaaDoor
open Go.RowKit PR QR
set_option linter.unusedVariables false
set_option linter.unusedSimpArgs false
set_option maxRecDepth 20000
theorem qq5 {m:Im} {b:Bool} (h:m.sol=b):imC m=imC ⟨m.w,m.h,b,m.c0,m.c1,m.c2,m.a,m.f,m.p0,m.p1,m.p2,m.p3,m.p4⟩:=by unfold imC;rw [h]
theorem ju0 {m:Im} {p:Pl}:plW m p=true↔plB p.w p.h p.s p.n=true/\p.w=m.w/\p.h=m.h:=by unfold plW;rw [decide_eq_true_eq]
theorem qq6 {p:Pl}:plZ p=true↔p.w=0/\p.h=0/\p.s=0/\p.n=0:=by unfold plZ;rw [decide_eq_true_eq]
theorem jd2 {a b:Int} (h:ieq a b=true):a=b:=of_decide_eq_true h
theorem je4 {a b:Int} (h:ieq a b=false):a≠b:=of_decide_eq_false h
theorem vb6 {a b:Int} (h:ine a b=true):a≠b:=by simpa [ine] using h
theorem vb7 {a b:Int} (h:ine a b=false):a=b:=by simpa [ine] using h
theorem ya8 {m:Im} (hs:m.sol=false) {k:Nat} (hk:k < 5) (h:plW m (imPl m k)=false):imF m=false:=by
 unfold imF;rw [hs]
 match k,hk with
 | 0,_=>simp [show plW m m.p0=false from h]
 | 1,_=>simp [show plW m m.p1=false from h]
 | 2,_=>simp [show plW m m.p2=false from h]
 | 3,_=>simp [show plW m m.p3=false from h]
 | 4,_=>simp [show plW m m.p4=false from h]
theorem yx0 {m:Im} (hs:m.sol=true) {k:Nat} (hk:k < 5) (h:plZ (imPl m k)=false):imF m=false:=by
 unfold imF;rw [hs]
 match k,hk with
 | 0,_=>simp [show plZ m.p0=false from h]
 | 1,_=>simp [show plZ m.p1=false from h]
 | 2,_=>simp [show plZ m.p2=false from h]
 | 3,_=>simp [show plZ m.p3=false from h]
 | 4,_=>simp [show plZ m.p4=false from h]
theorem q44 {m:Im} (hs:m.sol=false) (h:∀k:Nat,k < 5->plW m (imPl m k)=true):imF m=colZ m:=by
 unfold imF;rw [hs]
 simp [show plW m m.p0=true from h 0 (by decide),show plW m m.p1=true from h 1 (by decide),show plW m m.p2=true from h 2 (by decide),show plW m m.p3=true from h 3 (by decide),show plW m m.p4=true from h 4 (by decide)]
theorem yj8 {m:Im} (hs:m.sol=true) (h:∀k:Nat,k < 5->plZ (imPl m k)=true):imF m=true:=by
 unfold imF;rw [hs]
 simp [show plZ m.p0=true from h 0 (by decide),show plZ m.p1=true from h 1 (by decide),show plZ m.p2=true from h 2 (by decide),show plZ m.p3=true from h 3 (by decide),show plZ m.p4=true from h 4 (by decide)]
theorem zb9 {m:Im} {x y:Int} (h:imIn m x y=true) (hs:m.sol=false) {k:Nat} (hk:k < 5):inB (imPl m k).w (imPl m k).h (imPl m k).s (imPl m k).n x y=true:=by
 have h:=of_decide_eq_true h
 obtain ⟨h1,h2,h3,h4⟩:=h
 have w:plW m (imPl m k)=true:=by
  rw [<- Bool.not_eq_false]
  intro c
  rw [ya8 hs hk c] at h2;simp at h2
 obtain ⟨w1,w2,w3⟩:=ju0.1 w
 exact vy4.2 ⟨w1,by rw [w2];exact h3,by rw [w3];exact h4⟩
theorem ya9 {m:Im} {x y:Int} (h:imIn m x y=true) (hs:m.sol=false) {k:Nat} (hk:k < 5) :
  iadd .i64 (imul .i64 y (imPl m k).s) x=patI (imPl m k).s x y/\ile 0 (patI (imPl m k).s x y)=true/\ilt (patI (imPl m k).s x y) (imPl m k).n=true:=by
 have h':=zb9 h hs hk
 obtain ⟨p1,p2,p3,p4,p5,p6⟩:=za2 h'
 have f':=(vy4.1 h').2
 obtain ⟨e1,e2,_⟩:=at_in (s:=(imPl m k).s) (x:=x) (y:=y) (by omega) p3 p6 p4 (by omega) p5
 exact ⟨by rw [e1,e2],jb4 p1,jl0 p2⟩
theorem yb0:jb0 27 qv3:=by
 intro al ans h hq
 unfold qv3 at h
 split at h <;> try (simp at h;done)
 rename_i w h c0 c1 c2 a f
 simp only [Option.some.injEq] at h
 subst h
 have hq:=asked hq
 refine QR.ja2 (O:=(QR.orc [])) QR.jb2 mixed (QR.ja4) Tryd.func27 (by kernel_rfl) (by kernel_rfl) (by simp) ?_
 rw [yj7]
 delta zz98
 have z:Nat.blt 0 1=true:=rfl
 simp [jb6,eqXs,eqX,eqo,eqLo,eqL,eqc,veq,eqUs,imC,qh6,jn0,nilC,z]
theorem jr8 {m:Im}:imOk m=true↔fitB m.w m.h=true/\imF m=true:=by unfold imOk;rw [Bool.and_eq_true]
theorem yj9 {m:Im} {x y:Int}:imIn m x y=true↔imOk m=true/\(0<=x/\x < m.w)/\0<=y/\y < m.h:=by unfold imIn;rw [decide_eq_true_eq,jr8];exact ⟨λ ⟨a,b,c⟩=>⟨⟨a,b⟩,c⟩,λ ⟨⟨a,b⟩,c⟩=>⟨a,b,c⟩⟩
theorem ju1 {m:Im} {t:Int} (f:fitB m.w m.h=true):qc8 m t=true↔∀x y:Int,0<=x->x < m.w->0<=y->y < m.h->pxB m t x y=true:=by
 have f4:=jg0.1 f
 unfold qc8
 rw [List.all_eq_true]
 refine ⟨λ h x y x0 x1 y0 y1=>?_,λ h y hy=>List.all_eq_true.2 λ x hx=>?_⟩
 ·have:=List.all_eq_true.1 (h y.toNat (List.mem_range.2 (by omega))) x.toNat (List.mem_range.2 (by omega))
  rw [show ((x.toNat:Nat):Int)=x by omega,show ((y.toNat:Nat):Int)=y by omega] at this
  exact this
 ·have:=List.mem_range.1 hy
  have:=List.mem_range.1 hx
  exact h x y (by omega) (by omega) (by omega) (by omega)
theorem qc9 {m:Im} {t:Int} (f:fitB m.w m.h=true) (hs:m.sol=true):qc8 m t=pvB m.c0 m.c1 m.c2 m.a m.f t:=by
 have pb:∀x y,pxB m t x y=pvB m.c0 m.c1 m.c2 m.a m.f t:=λ x y=>by unfold pxB pxV;rw [hs];rfl
 have f4:=jg0.1 f
 rw [Bool.eq_iff_iff,ju1 f]
 exact ⟨λ h=>by rw [<- pb 0 0];exact h 0 0 (by omega) (by omega) (by omega) (by omega),λ h x y _ _ _ _=>by rw [pb];exact h⟩
theorem zc0:jb0 48 vm2:=by
 intro al ans hh hq
 unfold vm2 at hh
 split at hh <;> try (simp at hh;done)
 rename_i w h c
 cases en:jf1 5 c with
 | none=>simp [en] at hh
 | some pn =>
 obtain ⟨n,rn⟩:=pn
 simp only [en] at hh
 simp only [Option.some.injEq] at hh
 subst hh
 obtain ⟨q,hdn⟩:∃q:Int->Nat->Int,q=λ i j=>intC (den rn i j):=⟨_,rfl⟩
 try rw [<- hdn]
 refine jd6 (al':=[.x (.c (.v (.int .i64 w))),.x (.c (.v (.int .i64 h))),.x (.c (.slc 5 n (.fn λ i j=>.v (.int .u16 (q i j)))))]) ⟨.v _,.v _,(hdn▸jj0 en (by decide) (hq _ (by simp))),trivial⟩ ?_
 have hq:=asked hq
 refine QR.ja2 (O:=yw9) (QR.ja3 yt0 QR.jb2) mixed ((λ n_=>bif Nat.beq n_ 5 then some (.rounds 6) else bif Nat.beq n_ 9 then some (.inv (qq4 w h n q)) else bif Nat.beq n_ 12 then some (.rounds 4) else none)) Tryd.func48 (by kernel_rfl) (by kernel_rfl) (by simp) ?_
 rw [y63]
 delta zz0 zz7 zz16 zz80 zz84
 obtain ⟨_,iw,ih,hn,_⟩:=hq
 simp only [jb6,eqXs,eqX,eqo,eqLo,eqL,eqc,veq,eqUs,ja1,bnot,nilC,jk2,true_and,and_true,and_self,implies_true,true_implies,reduceCtorEq,false_implies,Bool.not_true,Bool.not_false,forall_eq,or_false,false_or,and_false,false_and,exists_false,exists_eq_right,exists_eq_right',iw,ih]
 have z1:Nat.blt 0 1=true:=rfl
 have no:jm9 w h n=false->eqLo [.v (.int .i64 0),.v (.int .i64 0),.v (.bool false),.v (.int .u16 0),.v (.int .u16 0),.v (.int .u16 0),.v (.int .u16 0),.v (.int .u16 0),.v (.int .i64 0),.v (.int .i64 0),.v (.int .i64 0),.v (.slice none 0 0),.v (.int .i64 0),.v (.int .i64 0),.v (.int .i64 0),.v (.slice none 0 0),.v (.int .i64 0),.v (.int .i64 0),.v (.int .i64 0),.v (.slice none 0 0),.v (.int .i64 0),.v (.int .i64 0),.v (.int .i64 0),.v (.slice none 0 0),.v (.int .i64 0),.v (.int .i64 0),.v (.int .i64 0),.v (.slice none 0 0)] (imC (jc1 w h n q))/\false=jm9 w h n:=by
  intro k
  have:jc1 w h n q=vb4:=by unfold jc1;rw [k];rfl
  rw [this,k]
  simp [imC,vb4,jn0,eqLo,eqo,eqc,veq,nilC,z1]
 refine ⟨λ c=>no (decide_eq_false λ k=>by rw [k.1] at c;simp at c),λ f=>?_⟩
 have f:fitB w h=true:=by simpa using f
 have w1:=qb3 f
 have f4:=jg0.1 f
 have p0:=Int.mul_nonneg (show 0<=w by omega) (show 0<=h by omega)
 have em:imul .i64 w h=w * h:=IntWalk.i64_in _ (by omega)
 rw [em]
 refine ⟨λ c=>no (decide_eq_false λ k=>vb6 c k.2),λ c=>?_⟩
 obtain rfl:=vb7 c
 have ok:jm9 w h (w * h)=true:=decide_eq_true ⟨f,rfl⟩
 have c1:ile 0 (w * h)=true:=jb4 p0
 have c2:ile (w * h) (w * h)=true:=jb4 (Int.le_refl _)
 have c3:ile (jd8 (w * h) 2) 140737488355328=true:=jb4 (by unfold jd8;omega)
 have c4:ile (w * h) 140737488355328=true:=jb4 (by omega)
 have eN:w * h=rioN w h:=rfl
 have V:∀(t:Int) (k:Nat) (i:Nat),0=rioV q 0 (Int.ofNat i) k:=λ t k i=>by
  unfold rioV;exact (if_neg (show ¬ ((i:Nat):Int) < 0 by omega)).symm
 refine ⟨⟨c1,c2,c3,c4⟩,⟨c1,c2,c3,c4⟩,⟨c1,c2,c3,c4⟩,⟨c1,c2,c3,c4⟩,⟨c1,c2,c3,c4⟩,⟨0,⟨Int.le_refl 0,p0⟩,rfl,rfl,⟨rfl,λ i _=>V 0 0 i⟩,⟨rfl,λ i _=>V 0 1 i⟩,⟨rfl,λ i _=>V 0 2 i⟩,⟨rfl,λ i _=>V 0 3 i⟩,rfl,λ i _=>V 0 4 i⟩,λ i hi=>⟨λ d=>?_,λ d=>?_⟩⟩
 ·have d':=of_decide_eq_true d
  have i0:=jb4 hi.1
  have d2:ilt i (rioN w h)=true:=d
  have ia:iadd .i64 i 1=i + 1:=IntWalk.i64_in _ (by have:=hi.1;omega)
  have K:∀k (t:Nat),isel (ieq (Int.ofNat t) i) (q i k) (rioV q i (Int.ofNat t) k)=rioV q (i + 1) (Int.ofNat t) k:=λ k t=>by
   unfold rioV
   cases e:ieq (Int.ofNat t) i
   ·have e:=je4 e
    rw [va8]
    by_cases l:Int.ofNat t < i
    ·rw [if_pos l,if_pos (by omega)]
    ·rw [if_neg l,if_neg (by omega)]
   ·have e:=jd2 e
    rw [qp3,if_pos (by omega),e]
  refine ⟨⟨i0,d2,i0,d⟩,⟨i0,d2,i0,d⟩,⟨i0,d2,i0,d⟩,⟨i0,d2,i0,d2,i0,d,i0,d⟩,i + 1,⟨by have:=hi.1;omega,by omega⟩,⟨ia,λ t _=>K 0 t,λ t _=>K 1 t,λ t _=>K 2 t,λ t _=>K 3 t,λ t _=>K 4 t⟩,?_⟩
  show vb5 _ _ < vb5 _ _
  unfold vb5;omega
 ·have d:=of_decide_eq_false d
  have e:jc1 w h (w * h) q=⟨w,h,false,0,0,0,0,0,jj4 w h (w * h) q 0,jj4 w h (w * h) q 1,jj4 w h (w * h) q 2,jj4 w h (w * h) q 3,jj4 w h (w * h) q 4⟩:=by unfold jc1;rw [ok];rfl
  have K:∀k,EqC (.slc 1 (rioN w h) (.fn λ t _=>.v (.int .u16 (rioV q i t k)))) (.slc 1 (w * h) (.fn λ t _=>.v (.int .u16 (q t k)))):=λ k=>by
   refine .slc λ t j ht hj=>?_
   have ht:(t:Int) < w * h:=ht
   have:rioV q i t k=q t k:=by unfold rioV;rw [if_pos (by have:=hi.2;omega)]
   show EqC (.v (.int .u16 (rioV q i t k))) _
   rw [this];exact .v _
  rw [e]
  refine ⟨?_,ok.symm⟩
  simp only [imC,jj4,eqLo,eqo,eqc,veq,true_and,and_true,and_self]
  exact ⟨K 0,K 1,K 2,K 3,K 4⟩
end Go.Proofs.YthkidembkknoeaaDoor
