import Derived.Test.YthkidembkknoeaaDoorPl11
import Derived.Test.YthkidembkknoeaaDoorPl16
import Derived.Test.YthkidembkknoeaaDoorPl25
import Derived.Test.YthkidembkknoeaaDoorPl26
namespace Go.Proofs.YthkidembkknoeaaDoor
open Go.RowKit PR QR
set_option linter.unusedVariables false
set_option linter.unusedSimpArgs false
def scA (s:Sc):Prop:=scW s/\(∀i,0<=i->i < s.mn->imR (s.ml i)/\(s.ml i).w<=5/\(s.ml i).h<=4/\qc8 (s.ml i) (smV s.b)=true)/\vsP s=(0,0)
def strJ (s:Sc) (k i a:Int):Im:=bif ilt a i then gstV (s.ml a) k else s.ml a
def lnJ (n i:Int):Prop:=0<=i/\i<=n
noncomputable def q26 (k:Int):QR.Inv where
 ι:=Sc
 good s:=scA s
 slots s:=QR.slotsOf Tryd.f3.ntmps [(1,.x (.c (.v (.int .i64 k)))),(5,.x (.c (.ptr 1000000000000000 0)))]
 blocks s:=[(1000000000000000,.cells (vg3 s)),(1000000000000001,.row 1 s.on (.fn λ a _=>.v (.int .i64 (s.ol a)))),(1000000000000002,.row 28 s.mn (jr3 (s.ml))),(1000000000000003,.row 12 s.pn (jh4 s.pl))]
 μ _:=0
noncomputable def q27 (k:Int):QR.Inv where
 ι:=Sc×Int
 good x:=scA x.1/\lnJ x.1.mn x.2
 slots x:=QR.slotsOf Tryd.f3.ntmps [(1,.x (.c (.v (.int .i64 k)))),(5,.x (.c (.ptr 1000000000000000 0))),(6,.x (.c (.v (.int .i64 x.2))))]
 blocks x:=[(1000000000000000,.cells (vg3 x.1)),(1000000000000001,.row 1 x.1.on (.fn λ a _=>.v (.int .i64 (x.1.ol a)))),(1000000000000002,.row 28 x.1.mn (jr3 (strJ x.1 k x.2))),(1000000000000003,.row 12 x.1.pn (jh4 x.1.pl))]
 μ x:=je5 x.1.mn x.2
noncomputable def q28:QR.ja7:=QR.orc [(10,vj9),(QR.jh8 + 10,QR.j04 [false]),(11,vm5),(12,q17),(13,qj0),(15,qh0),(14,q25)]
def zz976 (fz0:Int) (fz1:Int) (fz2:Int) (fz3:Int) (fz4:Int) (fz5:Int) (fz6:Int) (fz7:Int) (fz8:Int->Nat->Int) (fz9:Int) (fz10:Int->Int) (fz11:Int->Int) (fz12:Int->Int) (fz13:Int->Int) (fz14:Int->Int) (fz15:Int->Int->Nat->Int) (fz16:Int) (fz17:Int->Int) (fz18:Int->Int) (fz19:Int->Int) (fz20:Int->Int) (fz21:Int->Int) (fz22:Int->Int) (fz23:Int->Int) (fz24:Int->Int) (fz25:Int->Int) (fz26:Int->Int) (fz27:Int->Int):Sc:=(gscV { b:=fz0,x:=fz1,y:=fz2,w:=fz3,h:=fz4,tw:=fz5,th:=fz6,m:=fz7,ol:=λ (bz0:Int)=>fz8 bz0 0,pn:=fz9,pq:=λ (bz1:Int)=>{ W:=fz10 bz1,H:=fz11 bz1,S:=fz12 bz1,md:=fz13 bz1,n:=fz14 bz1,q:=λ (bz2:Int) (bz3:Nat)=>fz15 bz1 bz2 bz3 },rn:=fz16,rq:=λ (bz4:Int)=>{ kd:=fz17 bz4,im:=fz18 bz4,x:=fz19 bz4,y:=fz20 bz4,msk:=fz21 bz4,mx:=fz22 bz4,my:=fz23 bz4,op:=fz24 bz4,opr:=fz25 bz4,md:=fz26 bz4,fl:=fz27 bz4 } })
def zz977 (fz0:Sc×Int) (fz1:Int):QR.Row:=(QR.Row.col 0 (λ (bz0:Int)=>CV.v (Value.int .i64 (strJ fz0.1 fz1 fz0.2 bz0).1)) (QR.Row.col 1 (λ (bz1:Int)=>CV.v (Value.int .i64 (strJ fz0.1 fz1 fz0.2 bz1).2)) (QR.Row.col 2 (λ (bz2:Int)=>CV.v (Value.bool (strJ fz0.1 fz1 fz0.2 bz2).3)) (QR.Row.col 3 (λ (bz3:Int)=>CV.v (Value.int .u16 (strJ fz0.1 fz1 fz0.2 bz3).4)) (QR.Row.col 4 (λ (bz4:Int)=>CV.v (Value.int .u16 (strJ fz0.1 fz1 fz0.2 bz4).5)) (QR.Row.col 5 (λ (bz5:Int)=>CV.v (Value.int .u16 (strJ fz0.1 fz1 fz0.2 bz5).6)) (QR.Row.col 6 (λ (bz6:Int)=>CV.v (Value.int .u16 (strJ fz0.1 fz1 fz0.2 bz6).7)) (QR.Row.col 7 (λ (bz7:Int)=>CV.v (Value.int .u16 (strJ fz0.1 fz1 fz0.2 bz7).8)) (QR.Row.col 8 (λ (bz8:Int)=>CV.v (Value.int .i64 (strJ fz0.1 fz1 fz0.2 bz8).9.1)) (QR.Row.col 9 (λ (bz9:Int)=>CV.v (Value.int .i64 (strJ fz0.1 fz1 fz0.2 bz9).9.2)) (QR.Row.col 10 (λ (bz10:Int)=>CV.v (Value.int .i64 (strJ fz0.1 fz1 fz0.2 bz10).9.3)) (QR.Row.col 11 (λ (bz11:Int)=>CV.slc 1 (strJ fz0.1 fz1 fz0.2 bz11).9.4 (QR.Row.fn λ (bz12:Int) (bz13:Nat)=>CV.v (Value.int .u16 ((strJ fz0.1 fz1 fz0.2 bz11).9.5 bz12)))) (QR.Row.col 12 (λ (bz14:Int)=>CV.v (Value.int .i64 (strJ fz0.1 fz1 fz0.2 bz14).10.1)) (QR.Row.col 13 (λ (bz15:Int)=>CV.v (Value.int .i64 (strJ fz0.1 fz1 fz0.2 bz15).10.2)) (QR.Row.col 14 (λ (bz16:Int)=>CV.v (Value.int .i64 (strJ fz0.1 fz1 fz0.2 bz16).10.3)) (QR.Row.col 15 (λ (bz17:Int)=>CV.slc 1 (strJ fz0.1 fz1 fz0.2 bz17).10.4 (QR.Row.fn λ (bz18:Int) (bz19:Nat)=>CV.v (Value.int .u16 ((strJ fz0.1 fz1 fz0.2 bz17).10.5 bz18)))) (QR.Row.col 16 (λ (bz20:Int)=>CV.v (Value.int .i64 (strJ fz0.1 fz1 fz0.2 bz20).11.1)) (QR.Row.col 17 (λ (bz21:Int)=>CV.v (Value.int .i64 (strJ fz0.1 fz1 fz0.2 bz21).11.2)) (QR.Row.col 18 (λ (bz22:Int)=>CV.v (Value.int .i64 (strJ fz0.1 fz1 fz0.2 bz22).11.3)) (QR.Row.col 19 (λ (bz23:Int)=>CV.slc 1 (strJ fz0.1 fz1 fz0.2 bz23).11.4 (QR.Row.fn λ (bz24:Int) (bz25:Nat)=>CV.v (Value.int .u16 ((strJ fz0.1 fz1 fz0.2 bz23).11.5 bz24)))) (QR.Row.col 20 (λ (bz26:Int)=>CV.v (Value.int .i64 (strJ fz0.1 fz1 fz0.2 bz26).12.1)) (QR.Row.col 21 (λ (bz27:Int)=>CV.v (Value.int .i64 (strJ fz0.1 fz1 fz0.2 bz27).12.2)) (QR.Row.col 22 (λ (bz28:Int)=>CV.v (Value.int .i64 (strJ fz0.1 fz1 fz0.2 bz28).12.3)) (QR.Row.col 23 (λ (bz29:Int)=>CV.slc 1 (strJ fz0.1 fz1 fz0.2 bz29).12.4 (QR.Row.fn λ (bz30:Int) (bz31:Nat)=>CV.v (Value.int .u16 ((strJ fz0.1 fz1 fz0.2 bz29).12.5 bz30)))) (QR.Row.col 24 (λ (bz32:Int)=>CV.v (Value.int .i64 (strJ fz0.1 fz1 fz0.2 bz32).13.1)) (QR.Row.col 25 (λ (bz33:Int)=>CV.v (Value.int .i64 (strJ fz0.1 fz1 fz0.2 bz33).13.2)) (QR.Row.col 26 (λ (bz34:Int)=>CV.v (Value.int .i64 (strJ fz0.1 fz1 fz0.2 bz34).13.3)) (QR.Row.col 27 (λ (bz35:Int)=>CV.slc 1 (strJ fz0.1 fz1 fz0.2 bz35).13.4 (QR.Row.fn λ (bz36:Int) (bz37:Nat)=>CV.v (Value.int .u16 ((strJ fz0.1 fz1 fz0.2 bz35).13.5 bz36)))) (QR.Row.zer [])))))))))))))))))))))))))))))
def zz978 (fz0:Sc×Int):QR.Row:=(QR.Row.col 0 (λ (bz0:Int)=>CV.v (Value.int .i64 (fz0.1.13 bz0).1)) (QR.Row.col 1 (λ (bz1:Int)=>CV.v (Value.int .i64 (fz0.1.13 bz1).2)) (QR.Row.col 2 (λ (bz2:Int)=>CV.v (Value.int .i64 (fz0.1.13 bz2).3)) (QR.Row.col 3 (λ (bz3:Int)=>CV.v (Value.int .i64 (fz0.1.13 bz3).4)) (QR.Row.col 4 (λ (bz4:Int)=>CV.v (Value.int .i64 (fz0.1.13 bz4).5)) (QR.Row.col 5 (λ (bz5:Int)=>CV.v (Value.int .i64 (fz0.1.13 bz5).6)) (QR.Row.col 6 (λ (bz6:Int)=>CV.v (Value.int .i64 (fz0.1.13 bz6).7)) (QR.Row.col 7 (λ (bz7:Int)=>CV.v (Value.int .u16 (fz0.1.13 bz7).8)) (QR.Row.col 8 (λ (bz8:Int)=>CV.v (Value.int .i64 (fz0.1.13 bz8).9)) (QR.Row.col 9 (λ (bz9:Int)=>CV.v (Value.int .i64 (fz0.1.13 bz9).10)) (QR.Row.col 10 (λ (bz10:Int)=>CV.v (Value.bool (fz0.1.13 bz10).11)) (QR.Row.col 11 (λ (bz11:Int)=>CV.v (Value.bool (fz0.1.13 bz11).12)) (QR.Row.zer [])))))))))))))
set_option maxRecDepth 100000 in
theorem jq0 (sb sx sy sw sh st su:Int) (on:Int) (ol:Int->Nat->Int) (pn:Int) (pW pH pS pd:Int->Int) (pc:Int->Int) (pl:Int->Int->Nat->Int) (un:Int) (u0 u1 u2 u3 u4 u5 u6 u7 u8 u9 u10:Int->Int) (more:Int) (V:List QR.XV->List (List QR.CV)->Prop):QR.ja9 Tryd.prog (q28) (λ n=>bif Nat.beq n 700002 then some (.cut (q26 more)) else bif Nat.beq n 3 then some (.invs [q27 more]) else none) (Tryd.f3.body.getD .skip) Tryd.f3.results.toList Tryd.f3.ntmps [.x (.agg [.v (.int .i64 sb),.v (.int .i64 sx),.v (.int .i64 sy),.v (.int .i64 sw),.v (.int .i64 sh),.v (.int .i64 st),.v (.int .i64 su),.slc 1 on (.fn λ i j=>.v (.int .i64 (ol i j))),.slc 5 pn (.col 0 (λ i=>.v (.int .i64 (pW i))) (.col 1 (λ i=>.v (.int .i64 (pH i))) (.col 2 (λ i=>.v (.int .i64 (pS i))) (.col 3 (λ i=>.v (.int .i64 (pd i))) (.col 4 (λ i=>.slc 5 (pc i) (.fn λ a b=>.v (.int .i64 (pl i a b)))) (.zer [])))))),.slc 11 un (.col 0 (λ i=>.v (.int .i64 (u0 i))) (.col 1 (λ i=>.v (.int .i64 (u1 i))) (.col 2 (λ i=>.v (.int .i64 (u2 i))) (.col 3 (λ i=>.v (.int .i64 (u3 i))) (.col 4 (λ i=>.v (.int .i64 (u4 i))) (.col 5 (λ i=>.v (.int .i64 (u5 i))) (.col 6 (λ i=>.v (.int .i64 (u6 i))) (.col 7 (λ i=>.v (.int .i64 (u7 i))) (.col 8 (λ i=>.v (.int .i64 (u8 i))) (.col 9 (λ i=>.v (.int .i64 (u9 i))) (.col 10 (λ i=>.v (.int .i64 (u10 i))) (.zer []))))))))))))]),.x (.c (.v (.int .i64 more)))] V=(True/\(∀(i:Int),i=(zz976 sb sx sy sw sh st su on ol pn pW pH pS pd pc pl un u0 u1 u2 u3 u4 u5 u6 u7 u8 u9 u10).1->∀(i_1:Int),i_1=(zz976 sb sx sy sw sh st su on ol pn pW pH pS pd pc pl un u0 u1 u2 u3 u4 u5 u6 u7 u8 u9 u10).2->∀(i_2:Int),i_2=(zz976 sb sx sy sw sh st su on ol pn pW pH pS pd pc pl un u0 u1 u2 u3 u4 u5 u6 u7 u8 u9 u10).3->∀(i_3:Int),i_3=(zz976 sb sx sy sw sh st su on ol pn pW pH pS pd pc pl un u0 u1 u2 u3 u4 u5 u6 u7 u8 u9 u10).4->∀(i_4:Int),i_4=(zz976 sb sx sy sw sh st su on ol pn pW pH pS pd pc pl un u0 u1 u2 u3 u4 u5 u6 u7 u8 u9 u10).5->∀(i_5:Int),i_5=(zz976 sb sx sy sw sh st su on ol pn pW pH pS pd pc pl un u0 u1 u2 u3 u4 u5 u6 u7 u8 u9 u10).6->∀(i_6:Int),i_6=(zz976 sb sx sy sw sh st su on ol pn pW pH pS pd pc pl un u0 u1 u2 u3 u4 u5 u6 u7 u8 u9 u10).7->(intRow IntKind.i64 1 on (QR.Row.fn λ (i:Int) (j:Nat)=>CV.v (Value.int .i64 (ol i j)))/\jy2 pn (QR.Row.col 0 (λ (i:Int)=>CV.v (Value.int .i64 (pW i))) (QR.Row.col 1 (λ (i:Int)=>CV.v (Value.int .i64 (pH i))) (QR.Row.col 2 (λ (i:Int)=>CV.v (Value.int .i64 (pS i))) (QR.Row.col 3 (λ (i:Int)=>CV.v (Value.int .i64 (pd i))) (QR.Row.col 4 (λ (i:Int)=>CV.slc 5 (pc i) (QR.Row.fn λ (a:Int) (b:Nat)=>CV.v (Value.int .i64 (pl i a b)))) (QR.Row.zer []))))))/\jy3 un (QR.Row.col 0 (λ (i:Int)=>CV.v (Value.int .i64 (u0 i))) (QR.Row.col 1 (λ (i:Int)=>CV.v (Value.int .i64 (u1 i))) (QR.Row.col 2 (λ (i:Int)=>CV.v (Value.int .i64 (u2 i))) (QR.Row.col 3 (λ (i:Int)=>CV.v (Value.int .i64 (u3 i))) (QR.Row.col 4 (λ (i:Int)=>CV.v (Value.int .i64 (u4 i))) (QR.Row.col 5 (λ (i:Int)=>CV.v (Value.int .i64 (u5 i))) (QR.Row.col 6 (λ (i:Int)=>CV.v (Value.int .i64 (u6 i))) (QR.Row.col 7 (λ (i:Int)=>CV.v (Value.int .i64 (u7 i))) (QR.Row.col 8 (λ (i:Int)=>CV.v (Value.int .i64 (u8 i))) (QR.Row.col 9 (λ (i:Int)=>CV.v (Value.int .i64 (u9 i))) (QR.Row.col 10 (λ (i:Int)=>CV.v (Value.int .i64 (u10 i))) (QR.Row.zer []))))))))))))/\(q94 pn λ (i:Int)=>{ W:=pW i,H:=pH i,S:=pS i,md:=pd i,n:=pc i,q:=λ (a:Int) (j:Nat)=>pl i a j })/\ile 0 on=true/\ile 0 pn=true/\ile 0 un=true/\True)/\∃(j:Sc),scA j/\True/\true=true/\((true=true/\IntKind.i64=IntKind.i64/\more=more)/\(true=true/\1026=1026/\0=0)/\True)/\((IntKind.i64=IntKind.i64/\i=j.1)/\(IntKind.i64=IntKind.i64/\i_1=j.2)/\(IntKind.i64=IntKind.i64/\i_2=j.3)/\(IntKind.i64=IntKind.i64/\i_3=j.4)/\(IntKind.i64=IntKind.i64/\i_4=j.5)/\(IntKind.i64=IntKind.i64/\i_5=j.6)/\(IntKind.i64=IntKind.i64/\i_6=j.7)/\(1025=1025/\(zz976 sb sx sy sw sh st su on ol pn pW pH pS pd pc pl un u0 u1 u2 u3 u4 u5 u6 u7 u8 u9 u10).8=j.8)/\(10000000001025=10000000001025/\(zz976 sb sx sy sw sh st su on ol pn pW pH pS pd pc pl un u0 u1 u2 u3 u4 u5 u6 u7 u8 u9 u10).10=j.10)/\(20000000001025=20000000001025/\(zz976 sb sx sy sw sh st su on ol pn pW pH pS pd pc pl un u0 u1 u2 u3 u4 u5 u6 u7 u8 u9 u10).12=j.12)/\True)/\(1=1/\(zz976 sb sx sy sw sh st su on ol pn pW pH pS pd pc pl un u0 u1 u2 u3 u4 u5 u6 u7 u8 u9 u10).8=j.8/\True/\∀(i:Nat),ilt (Int.ofNat i) (zz976 sb sx sy sw sh st su on ol pn pW pH pS pd pc pl un u0 u1 u2 u3 u4 u5 u6 u7 u8 u9 u10).8=true->IntKind.i64=IntKind.i64/\(zz976 sb sx sy sw sh st su on ol pn pW pH pS pd pc pl un u0 u1 u2 u3 u4 u5 u6 u7 u8 u9 u10).9 (Int.ofNat i)=j.9 (Int.ofNat i))/\(28=28/\(zz976 sb sx sy sw sh st su on ol pn pW pH pS pd pc pl un u0 u1 u2 u3 u4 u5 u6 u7 u8 u9 u10).10=j.10/\imsE ((zz976 sb sx sy sw sh st su on ol pn pW pH pS pd pc pl un u0 u1 u2 u3 u4 u5 u6 u7 u8 u9 u10).10) ((zz976 sb sx sy sw sh st su on ol pn pW pH pS pd pc pl un u0 u1 u2 u3 u4 u5 u6 u7 u8 u9 u10).11) j.11)/\(12=12/\(zz976 sb sx sy sw sh st su on ol pn pW pH pS pd pc pl un u0 u1 u2 u3 u4 u5 u6 u7 u8 u9 u10).12=j.12/\opsE ((zz976 sb sx sy sw sh st su on ol pn pW pH pS pd pc pl un u0 u1 u2 u3 u4 u5 u6 u7 u8 u9 u10).12) ((zz976 sb sx sy sw sh st su on ol pn pW pH pS pd pc pl un u0 u1 u2 u3 u4 u5 u6 u7 u8 u9 u10).13) j.13)/\True)/\∀(i:Sc),scA i->True/\((∃(i_1:Sc×Int),(scA i_1.1/\lnJ i_1.1.10 i_1.2)/\True/\true=true/\((true=true/\IntKind.i64=IntKind.i64/\more=more)/\(true=true/\1000000000000000=1000000000000000/\0=0)/\(true=true/\IntKind.i64=IntKind.i64/\(0:Int)=i_1.2)/\True)/\((IntKind.i64=IntKind.i64/\i.1=i_1.1.1)/\(IntKind.i64=IntKind.i64/\i.2=i_1.1.2)/\(IntKind.i64=IntKind.i64/\i.3=i_1.1.3)/\(IntKind.i64=IntKind.i64/\i.4=i_1.1.4)/\(IntKind.i64=IntKind.i64/\i.5=i_1.1.5)/\(IntKind.i64=IntKind.i64/\i.6=i_1.1.6)/\(IntKind.i64=IntKind.i64/\i.7=i_1.1.7)/\(1000000000000001=1000000000000001/\i.8=i_1.1.8)/\(1000000000000002=1000000000000002/\i.10=i_1.1.10)/\(1000000000000003=1000000000000003/\i.12=i_1.1.12)/\True)/\(1=1/\i.8=i_1.1.8/\True/\∀(i_2:Nat),ilt (Int.ofNat i_2) i.8=true->IntKind.i64=IntKind.i64/\i.9 (Int.ofNat i_2)=i_1.1.9 (Int.ofNat i_2))/\(28=28/\i.10=i_1.1.10/\imsE i.10 i.11 (strJ i_1.1 more i_1.2))/\(12=12/\i.12=i_1.1.12/\opsE i.12 i.13 i_1.1.13)/\True)\/False)/\(∀(i:Sc×Int),scA i.1/\lnJ i.1.10 i.2->∀(i_1:Int),i_1=i.1.10->True/\ja0 (ilt i.2 i_1) ((ile 0 i.2=true/\ilt i.2 i.1.10=true/\imG (strJ i.1 more i.2 i.2)/\imOk (strJ i.1 more i.2 i.2)=true/\intRow IntKind.u16 1 (strJ i.1 more i.2 i.2).9.4 (QR.Row.fn λ (a:Int) (x:Nat)=>CV.v (Value.int .u16 ((strJ i.1 more i.2 i.2).9.5 a)))/\intRow IntKind.u16 1 (strJ i.1 more i.2 i.2).10.4 (QR.Row.fn λ (a:Int) (x:Nat)=>CV.v (Value.int .u16 ((strJ i.1 more i.2 i.2).10.5 a)))/\intRow IntKind.u16 1 (strJ i.1 more i.2 i.2).11.4 (QR.Row.fn λ (a:Int) (x:Nat)=>CV.v (Value.int .u16 ((strJ i.1 more i.2 i.2).11.5 a)))/\intRow IntKind.u16 1 (strJ i.1 more i.2 i.2).12.4 (QR.Row.fn λ (a:Int) (x:Nat)=>CV.v (Value.int .u16 ((strJ i.1 more i.2 i.2).12.5 a)))/\intRow IntKind.u16 1 (strJ i.1 more i.2 i.2).13.4 (QR.Row.fn λ (a:Int) (x:Nat)=>CV.v (Value.int .u16 ((strJ i.1 more i.2 i.2).13.5 a)))/\ile 0 i.2=true/\ilt i.2 i.1.10=true/\True)/\True/\((∃(i_2:Sc×Int),(scA i_2.1/\lnJ i_2.1.10 i_2.2)/\(True/\true=true/\((true=true/\IntKind.i64=IntKind.i64/\more=more)/\(true=true/\1000000000000000=1000000000000000/\0=0)/\(true=true/\IntKind.i64=IntKind.i64/\iadd IntKind.i64 i.2 1=i_2.2)/\True)/\((IntKind.i64=IntKind.i64/\i.1.1=i_2.1.1)/\(IntKind.i64=IntKind.i64/\i.1.2=i_2.1.2)/\(IntKind.i64=IntKind.i64/\i.1.3=i_2.1.3)/\(IntKind.i64=IntKind.i64/\i.1.4=i_2.1.4)/\(IntKind.i64=IntKind.i64/\i.1.5=i_2.1.5)/\(IntKind.i64=IntKind.i64/\i.1.6=i_2.1.6)/\(IntKind.i64=IntKind.i64/\i.1.7=i_2.1.7)/\(1000000000000001=1000000000000001/\i.1.8=i_2.1.8)/\(1000000000000002=1000000000000002/\i.1.10=i_2.1.10)/\(1000000000000003=1000000000000003/\i.1.12=i_2.1.12)/\True)/\(1=1/\i.1.8=i_2.1.8/\True/\∀(i_3:Nat),ilt (Int.ofNat i_3) i.1.8=true->IntKind.i64=IntKind.i64/\i.1.9 (Int.ofNat i_3)=i_2.1.9 (Int.ofNat i_3))/\(28=28/\i.1.10=i_2.1.10/\(((((((((((((((((((((((((((True/\∀(i_3:Nat),ilt (Int.ofNat i_3) i.1.10=true->IntKind.i64=IntKind.i64/\isel (ieq (Int.ofNat i_3) i.2) (gstV (strJ i.1 more i.2 i.2) more).1 (strJ i.1 more i.2 (Int.ofNat i_3)).1=(strJ i_2.1 more i_2.2 (Int.ofNat i_3)).1)/\∀(i_3:Nat),ilt (Int.ofNat i_3) i.1.10=true->IntKind.i64=IntKind.i64/\isel (ieq (Int.ofNat i_3) i.2) (gstV (strJ i.1 more i.2 i.2) more).2 (strJ i.1 more i.2 (Int.ofNat i_3)).2=(strJ i_2.1 more i_2.2 (Int.ofNat i_3)).2)/\∀(i_3:Nat),ilt (Int.ofNat i_3) i.1.10=true->bsel (ieq (Int.ofNat i_3) i.2) (gstV (strJ i.1 more i.2 i.2) more).3 (strJ i.1 more i.2 (Int.ofNat i_3)).3=(strJ i_2.1 more i_2.2 (Int.ofNat i_3)).3)/\∀(i_3:Nat),ilt (Int.ofNat i_3) i.1.10=true->IntKind.u16=IntKind.u16/\isel (ieq (Int.ofNat i_3) i.2) (gstV (strJ i.1 more i.2 i.2) more).4 (strJ i.1 more i.2 (Int.ofNat i_3)).4=(strJ i_2.1 more i_2.2 (Int.ofNat i_3)).4)/\∀(i_3:Nat),ilt (Int.ofNat i_3) i.1.10=true->IntKind.u16=IntKind.u16/\isel (ieq (Int.ofNat i_3) i.2) (gstV (strJ i.1 more i.2 i.2) more).5 (strJ i.1 more i.2 (Int.ofNat i_3)).5=(strJ i_2.1 more i_2.2 (Int.ofNat i_3)).5)/\∀(i_3:Nat),ilt (Int.ofNat i_3) i.1.10=true->IntKind.u16=IntKind.u16/\isel (ieq (Int.ofNat i_3) i.2) (gstV (strJ i.1 more i.2 i.2) more).6 (strJ i.1 more i.2 (Int.ofNat i_3)).6=(strJ i_2.1 more i_2.2 (Int.ofNat i_3)).6)/\∀(i_3:Nat),ilt (Int.ofNat i_3) i.1.10=true->IntKind.u16=IntKind.u16/\isel (ieq (Int.ofNat i_3) i.2) (gstV (strJ i.1 more i.2 i.2) more).7 (strJ i.1 more i.2 (Int.ofNat i_3)).7=(strJ i_2.1 more i_2.2 (Int.ofNat i_3)).7)/\∀(i_3:Nat),ilt (Int.ofNat i_3) i.1.10=true->IntKind.u16=IntKind.u16/\isel (ieq (Int.ofNat i_3) i.2) (gstV (strJ i.1 more i.2 i.2) more).8 (strJ i.1 more i.2 (Int.ofNat i_3)).8=(strJ i_2.1 more i_2.2 (Int.ofNat i_3)).8)/\∀(i_3:Nat),ilt (Int.ofNat i_3) i.1.10=true->IntKind.i64=IntKind.i64/\isel (ieq (Int.ofNat i_3) i.2) (gstV (strJ i.1 more i.2 i.2) more).9.1 (strJ i.1 more i.2 (Int.ofNat i_3)).9.1=(strJ i_2.1 more i_2.2 (Int.ofNat i_3)).9.1)/\∀(i_3:Nat),ilt (Int.ofNat i_3) i.1.10=true->IntKind.i64=IntKind.i64/\isel (ieq (Int.ofNat i_3) i.2) (gstV (strJ i.1 more i.2 i.2) more).9.2 (strJ i.1 more i.2 (Int.ofNat i_3)).9.2=(strJ i_2.1 more i_2.2 (Int.ofNat i_3)).9.2)/\∀(i_3:Nat),ilt (Int.ofNat i_3) i.1.10=true->IntKind.i64=IntKind.i64/\isel (ieq (Int.ofNat i_3) i.2) (gstV (strJ i.1 more i.2 i.2) more).9.3 (strJ i.1 more i.2 (Int.ofNat i_3)).9.3=(strJ i_2.1 more i_2.2 (Int.ofNat i_3)).9.3)/\∀(i_3:Nat),ilt (Int.ofNat i_3) i.1.10=true->EqC (CV.slc 1 (isel (ieq (Int.ofNat i_3) i.2) (gstV (strJ i.1 more i.2 i.2) more).9.4 (strJ i.1 more i.2 (Int.ofNat i_3)).9.4) (QR.Row.sel (ieq (Int.ofNat i_3) i.2) (QR.Row.fn λ (i_4:Int) (x:Nat)=>CV.v (Value.int .u16 ((gstV (strJ i.1 more i.2 i.2) more).9.5 i_4))) (QR.Row.fn λ (a:Int) (x:Nat)=>CV.v (Value.int .u16 ((strJ i.1 more i.2 (Int.ofNat i_3)).9.5 a))))) (CV.slc 1 (strJ i_2.1 more i_2.2 (Int.ofNat i_3)).9.4 (QR.Row.fn λ (a:Int) (x:Nat)=>CV.v (Value.int .u16 ((strJ i_2.1 more i_2.2 (Int.ofNat i_3)).9.5 a)))))/\∀(i_3:Nat),ilt (Int.ofNat i_3) i.1.10=true->IntKind.i64=IntKind.i64/\isel (ieq (Int.ofNat i_3) i.2) (gstV (strJ i.1 more i.2 i.2) more).10.1 (strJ i.1 more i.2 (Int.ofNat i_3)).10.1=(strJ i_2.1 more i_2.2 (Int.ofNat i_3)).10.1)/\∀(i_3:Nat),ilt (Int.ofNat i_3) i.1.10=true->IntKind.i64=IntKind.i64/\isel (ieq (Int.ofNat i_3) i.2) (gstV (strJ i.1 more i.2 i.2) more).10.2 (strJ i.1 more i.2 (Int.ofNat i_3)).10.2=(strJ i_2.1 more i_2.2 (Int.ofNat i_3)).10.2)/\∀(i_3:Nat),ilt (Int.ofNat i_3) i.1.10=true->IntKind.i64=IntKind.i64/\isel (ieq (Int.ofNat i_3) i.2) (gstV (strJ i.1 more i.2 i.2) more).10.3 (strJ i.1 more i.2 (Int.ofNat i_3)).10.3=(strJ i_2.1 more i_2.2 (Int.ofNat i_3)).10.3)/\∀(i_3:Nat),ilt (Int.ofNat i_3) i.1.10=true->EqC (CV.slc 1 (isel (ieq (Int.ofNat i_3) i.2) (gstV (strJ i.1 more i.2 i.2) more).10.4 (strJ i.1 more i.2 (Int.ofNat i_3)).10.4) (QR.Row.sel (ieq (Int.ofNat i_3) i.2) (QR.Row.fn λ (i_4:Int) (x:Nat)=>CV.v (Value.int .u16 ((gstV (strJ i.1 more i.2 i.2) more).10.5 i_4))) (QR.Row.fn λ (a:Int) (x:Nat)=>CV.v (Value.int .u16 ((strJ i.1 more i.2 (Int.ofNat i_3)).10.5 a))))) (CV.slc 1 (strJ i_2.1 more i_2.2 (Int.ofNat i_3)).10.4 (QR.Row.fn λ (a:Int) (x:Nat)=>CV.v (Value.int .u16 ((strJ i_2.1 more i_2.2 (Int.ofNat i_3)).10.5 a)))))/\∀(i_3:Nat),ilt (Int.ofNat i_3) i.1.10=true->IntKind.i64=IntKind.i64/\isel (ieq (Int.ofNat i_3) i.2) (gstV (strJ i.1 more i.2 i.2) more).11.1 (strJ i.1 more i.2 (Int.ofNat i_3)).11.1=(strJ i_2.1 more i_2.2 (Int.ofNat i_3)).11.1)/\∀(i_3:Nat),ilt (Int.ofNat i_3) i.1.10=true->IntKind.i64=IntKind.i64/\isel (ieq (Int.ofNat i_3) i.2) (gstV (strJ i.1 more i.2 i.2) more).11.2 (strJ i.1 more i.2 (Int.ofNat i_3)).11.2=(strJ i_2.1 more i_2.2 (Int.ofNat i_3)).11.2)/\∀(i_3:Nat),ilt (Int.ofNat i_3) i.1.10=true->IntKind.i64=IntKind.i64/\isel (ieq (Int.ofNat i_3) i.2) (gstV (strJ i.1 more i.2 i.2) more).11.3 (strJ i.1 more i.2 (Int.ofNat i_3)).11.3=(strJ i_2.1 more i_2.2 (Int.ofNat i_3)).11.3)/\∀(i_3:Nat),ilt (Int.ofNat i_3) i.1.10=true->EqC (CV.slc 1 (isel (ieq (Int.ofNat i_3) i.2) (gstV (strJ i.1 more i.2 i.2) more).11.4 (strJ i.1 more i.2 (Int.ofNat i_3)).11.4) (QR.Row.sel (ieq (Int.ofNat i_3) i.2) (QR.Row.fn λ (i_4:Int) (x:Nat)=>CV.v (Value.int .u16 ((gstV (strJ i.1 more i.2 i.2) more).11.5 i_4))) (QR.Row.fn λ (a:Int) (x:Nat)=>CV.v (Value.int .u16 ((strJ i.1 more i.2 (Int.ofNat i_3)).11.5 a))))) (CV.slc 1 (strJ i_2.1 more i_2.2 (Int.ofNat i_3)).11.4 (QR.Row.fn λ (a:Int) (x:Nat)=>CV.v (Value.int .u16 ((strJ i_2.1 more i_2.2 (Int.ofNat i_3)).11.5 a)))))/\∀(i_3:Nat),ilt (Int.ofNat i_3) i.1.10=true->IntKind.i64=IntKind.i64/\isel (ieq (Int.ofNat i_3) i.2) (gstV (strJ i.1 more i.2 i.2) more).12.1 (strJ i.1 more i.2 (Int.ofNat i_3)).12.1=(strJ i_2.1 more i_2.2 (Int.ofNat i_3)).12.1)/\∀(i_3:Nat),ilt (Int.ofNat i_3) i.1.10=true->IntKind.i64=IntKind.i64/\isel (ieq (Int.ofNat i_3) i.2) (gstV (strJ i.1 more i.2 i.2) more).12.2 (strJ i.1 more i.2 (Int.ofNat i_3)).12.2=(strJ i_2.1 more i_2.2 (Int.ofNat i_3)).12.2)/\∀(i_3:Nat),ilt (Int.ofNat i_3) i.1.10=true->IntKind.i64=IntKind.i64/\isel (ieq (Int.ofNat i_3) i.2) (gstV (strJ i.1 more i.2 i.2) more).12.3 (strJ i.1 more i.2 (Int.ofNat i_3)).12.3=(strJ i_2.1 more i_2.2 (Int.ofNat i_3)).12.3)/\∀(i_3:Nat),ilt (Int.ofNat i_3) i.1.10=true->EqC (CV.slc 1 (isel (ieq (Int.ofNat i_3) i.2) (gstV (strJ i.1 more i.2 i.2) more).12.4 (strJ i.1 more i.2 (Int.ofNat i_3)).12.4) (QR.Row.sel (ieq (Int.ofNat i_3) i.2) (QR.Row.fn λ (i_4:Int) (x:Nat)=>CV.v (Value.int .u16 ((gstV (strJ i.1 more i.2 i.2) more).12.5 i_4))) (QR.Row.fn λ (a:Int) (x:Nat)=>CV.v (Value.int .u16 ((strJ i.1 more i.2 (Int.ofNat i_3)).12.5 a))))) (CV.slc 1 (strJ i_2.1 more i_2.2 (Int.ofNat i_3)).12.4 (QR.Row.fn λ (a:Int) (x:Nat)=>CV.v (Value.int .u16 ((strJ i_2.1 more i_2.2 (Int.ofNat i_3)).12.5 a)))))/\∀(i_3:Nat),ilt (Int.ofNat i_3) i.1.10=true->IntKind.i64=IntKind.i64/\isel (ieq (Int.ofNat i_3) i.2) (gstV (strJ i.1 more i.2 i.2) more).13.1 (strJ i.1 more i.2 (Int.ofNat i_3)).13.1=(strJ i_2.1 more i_2.2 (Int.ofNat i_3)).13.1)/\∀(i_3:Nat),ilt (Int.ofNat i_3) i.1.10=true->IntKind.i64=IntKind.i64/\isel (ieq (Int.ofNat i_3) i.2) (gstV (strJ i.1 more i.2 i.2) more).13.2 (strJ i.1 more i.2 (Int.ofNat i_3)).13.2=(strJ i_2.1 more i_2.2 (Int.ofNat i_3)).13.2)/\∀(i_3:Nat),ilt (Int.ofNat i_3) i.1.10=true->IntKind.i64=IntKind.i64/\isel (ieq (Int.ofNat i_3) i.2) (gstV (strJ i.1 more i.2 i.2) more).13.3 (strJ i.1 more i.2 (Int.ofNat i_3)).13.3=(strJ i_2.1 more i_2.2 (Int.ofNat i_3)).13.3)/\∀(i_3:Nat),ilt (Int.ofNat i_3) i.1.10=true->EqC (CV.slc 1 (isel (ieq (Int.ofNat i_3) i.2) (gstV (strJ i.1 more i.2 i.2) more).13.4 (strJ i.1 more i.2 (Int.ofNat i_3)).13.4) (QR.Row.sel (ieq (Int.ofNat i_3) i.2) (QR.Row.fn λ (i_4:Int) (x:Nat)=>CV.v (Value.int .u16 ((gstV (strJ i.1 more i.2 i.2) more).13.5 i_4))) (QR.Row.fn λ (a:Int) (x:Nat)=>CV.v (Value.int .u16 ((strJ i.1 more i.2 (Int.ofNat i_3)).13.5 a))))) (CV.slc 1 (strJ i_2.1 more i_2.2 (Int.ofNat i_3)).13.4 (QR.Row.fn λ (a:Int) (x:Nat)=>CV.v (Value.int .u16 ((strJ i_2.1 more i_2.2 (Int.ofNat i_3)).13.5 a)))))/\(12=12/\i.1.12=i_2.1.12/\opsE i.1.12 i.1.13 i_2.1.13)/\True)/\Nat.le (Nat.succ (je5 i_2.1.10 i_2.2)) (je5 i.1.10 i.2))\/False)) (∀(i_2:Int),i_2=chE { b:=i.1.1,x0:=i.1.2,y0:=i.1.3,x1:=i.1.4,y1:=i.1.5,tw:=i.1.6,th:=i.1.7,on:=i.1.8,ol:=i.1.9,mn:=i.1.10,ml:=strJ i.1 more i.2,pn:=i.1.12,pl:=i.1.13 }->∀(i_3:Int),i_3=chN { b:=i.1.1,x0:=i.1.2,y0:=i.1.3,x1:=i.1.4,y1:=i.1.5,tw:=i.1.6,th:=i.1.7,on:=i.1.8,ol:=i.1.9,mn:=i.1.10,ml:=strJ i.1 more i.2,pn:=i.1.12,pl:=i.1.13 }->(imsG { b:=i.1.1,x0:=i.1.2,y0:=i.1.3,x1:=i.1.4,y1:=i.1.5,tw:=i.1.6,th:=i.1.7,on:=i.1.8,ol:=i.1.9,mn:=i.1.10,ml:=strJ i.1 more i.2,pn:=i.1.12,pl:=i.1.13 }/\intRow IntKind.i64 1 i.1.8 (QR.Row.fn λ (a:Int) (x:Nat)=>CV.v (Value.int .i64 (i.1.9 a)))/\jh6 i.1.10 (zz977 i more)/\jd7 i.1.12 (zz978 i)/\ile 0 i.1.8=true/\ile 0 i.1.10=true/\ile 0 i.1.12=true/\True)/\∀(i_4:Int),i_4=chkE { b:=i.1.1,x0:=i.1.2,y0:=i.1.3,x1:=i.1.4,y1:=i.1.5,tw:=i.1.6,th:=i.1.7,on:=i.1.8,ol:=i.1.9,mn:=i.1.10,ml:=strJ i.1 more i.2,pn:=i.1.12,pl:=i.1.13 }->∀(i_5:Int),i_5=chkN { b:=i.1.1,x0:=i.1.2,y0:=i.1.3,x1:=i.1.4,y1:=i.1.5,tw:=i.1.6,th:=i.1.7,on:=i.1.8,ol:=i.1.9,mn:=i.1.10,ml:=strJ i.1 more i.2,pn:=i.1.12,pl:=i.1.13 }->(intRow IntKind.i64 1 i.1.8 (QR.Row.fn λ (a:Int) (x:Nat)=>CV.v (Value.int .i64 (i.1.9 a)))/\jh6 i.1.10 (zz977 i more)/\jd7 i.1.12 (zz978 i)/\ile 0 i.1.8=true/\ile 0 i.1.10=true/\ile 0 i.1.12=true/\True)/\ja0 (ieq i_2 0) (ja0 (ieq i_3 0) (ja0 (ieq i_4 0) (ja0 (ieq i_5 0) (∀(i_6:Int),i_6=frV { b:=i.1.1,x0:=i.1.2,y0:=i.1.3,x1:=i.1.4,y1:=i.1.5,tw:=i.1.6,th:=i.1.7,on:=i.1.8,ol:=i.1.9,mn:=i.1.10,ml:=strJ i.1 more i.2,pn:=i.1.12,pl:=i.1.13 }->(intRow IntKind.i64 1 i.1.8 (QR.Row.fn λ (a:Int) (x:Nat)=>CV.v (Value.int .i64 (i.1.9 a)))/\jh6 i.1.10 (zz977 i more)/\jd7 i.1.12 (zz978 i)/\ile 0 i.1.8=true/\ile 0 i.1.10=true/\ile 0 i.1.12=true/\True)/\True/\V [XV.c (CV.v (Value.bool (ieq i_6 0)))] []) (True/\True/\V [XV.c (CV.v (Value.bool false))] [])) (True/\True/\V [XV.c (CV.v (Value.bool false))] [])) (True/\True/\V [XV.c (CV.v (Value.bool false))] [])) (True/\True/\V [XV.c (CV.v (Value.bool false))] [])))/\True):=by
 delta zz976 zz977 zz978 imsE opsE
 try delta q28
 try delta q26
 try delta q27
 try delta vj9
 try delta vm5
 try delta q17
 try delta qj0
 try delta qh0
 try delta q25
 try delta vg3
 try delta jr3
 try delta jh4
 try delta q95
 try delta yr4
 try delta jj7
 try delta jj6
 try delta q07
 generalize @chE=chE
 generalize @chN=chN
 generalize @chkE=chkE
 generalize @chkN=chkN
 generalize @frV=frV
 generalize @gscV=gscV
 generalize @gstV=gstV
 generalize @imG=imG
 generalize @imOk=imOk
 generalize @imsG=imsG
 generalize @jh6=jh6
 generalize @intRow=intRow
 generalize @lnJ=lnJ
 generalize @je5=je5
 generalize @jd7=jd7
 generalize @q94=q94
 generalize @jy2=jy2
 generalize @jy3=jy3
 generalize @scA=scA
 generalize @strJ=strJ
 generalize @w2=w2
 kernel_rfl
end Go.Proofs.YthkidembkknoeaaDoor
namespace Go.Proofs.YthkidembkknoeaaDoor
open Go.RowKit PR QR
set_option linter.unusedVariables false
set_option linter.unusedSimpArgs false
set_option maxRecDepth 20000
theorem qv0 {s:Sc}:∀n:Nat,(∀i:Int,0<=i->i < n->imE (s.ml i) (smV s.b)=0)->qh5 s n=none
 | 0,_=>rfl
 | n + 1,h=>by
  have a:=qv0 (s:=s) n λ i a b=>h i a (by omega)
  have e:=yn0 s (i:=(n:Int)) (by omega) (by rw [Int.toNat_natCast];exact a)
  rw [show ((n:Int) + 1).toNat=n + 1 by omega,h n (by omega) (by omega)] at e
  exact e
theorem q29 {n c:Int} (h : -6<=c/\c<=6):jh7 (goff n c)=true:=decide_eq_true (by have:=vx2 (n:=n) h;omega)
theorem vl5:jh7 0=true:=by decide
theorem zb3 {r:Rw} {push:Bool} {k x0 y0:Int} {free:Bool} {t b K:Int} {q:Ov} (hk:1<=k/\k<=100) (hx : -6<=x0/\x0<=6) (hy : -6<=y0/\y0<=6) (ht:in16 t=true) (tb:smV b=t) (hK:0<=K/\K < 64) (hf:free=anyB K q):opE b k (gopV r push k x0 y0 free t) K q=0:=by
 have m:=jc6 r.im (k:=k) (by omega)
 have a1:∀{x k:Int},0 < k->k<=100->1<=iadd .i64 1 (gmod x k)/\iadd .i64 1 (gmod x k)<=k:=λ {x k} h1 h2=>by
  have a:=jc6 x h1
  have:iadd .i64 1 (gmod x k)=1 + gmod x k:=IntWalk.i64_in _ (by omega)
  omega
 have mk:(0<=(gopV r push k x0 y0 free t).msk/\(gopV r push k x0 y0 free t).msk<=k)/\decide ((gopV r push k x0 y0 free t).msk=0->(gopV r push k x0 y0 free t).mx=0/\(gopV r push k x0 y0 free t).my=0)=true/\jh7 (gopV r push k x0 y0 free t).mx=true/\jh7 (gopV r push k x0 y0 free t).my=true:=by
  show (0<=isel (ieq (gmod r.msk 4) 0) (iadd .i64 1 (gmod (iquo .i64 r.msk 4) k)) 0/\isel (ieq (gmod r.msk 4) 0) (iadd .i64 1 (gmod (iquo .i64 r.msk 4) k)) 0<=k)/\decide (isel (ieq (gmod r.msk 4) 0) (iadd .i64 1 (gmod (iquo .i64 r.msk 4) k)) 0=0->isel (ieq (gmod r.msk 4) 0) (goff r.mx x0) 0=0/\isel (ieq (gmod r.msk 4) 0) (goff r.my y0) 0=0)=true/\jh7 (isel (ieq (gmod r.msk 4) 0) (goff r.mx x0) 0)=true/\jh7 (isel (ieq (gmod r.msk 4) 0) (goff r.my y0) 0)=true
  cases ieq (gmod r.msk 4) 0
  ·exact ⟨⟨Int.le_refl 0,show (0:Int)<=k by omega⟩,rfl,vl5,vl5⟩
  ·have a:=a1 (x:=iquo .i64 r.msk 4) (k:=k) (by omega) hk.2
   exact ⟨⟨show 0<=iadd .i64 1 (gmod (iquo .i64 r.msk 4) k) by omega,a.2⟩,decide_eq_true (λ h=>by have h:iadd .i64 1 (gmod (iquo .i64 r.msk 4) k)=0:=h;omega),q29 hx,q29 hy⟩
 obtain ⟨mk1,mk2,mk3,mk4⟩:=mk
 have op:ile (gopV r push k x0 y0 free t).op (smV b)=true:=by
  rw [tb]
  show ile (isel (ieq (gmod r.op 2) 0) (gsV (iquo .i64 r.op 2) t) t) t=true
  cases ieq (gmod r.op 2) 0
  ·exact jb4 (Int.le_refl t)
  ·exact jb4 (jo8 _ ht).2
 have opr:decide (1<=(gopV r push k x0 y0 free t).opr/\(gopV r push k x0 y0 free t).opr<=12)=true/\(ieq (gopV r push k x0 y0 free t).opr 4 || anyB K q)=true:=by
  rw [<- hf]
  show decide (1<=isel (band free (ieq (gmod r.opr 2) 0)) (iadd .i64 1 (gmod (iquo .i64 r.opr 2) 12)) 4/\isel (band free (ieq (gmod r.opr 2) 0)) (iadd .i64 1 (gmod (iquo .i64 r.opr 2) 12)) 4<=12)=true/\(ieq (isel (band free (ieq (gmod r.opr 2) 0)) (iadd .i64 1 (gmod (iquo .i64 r.opr 2) 12)) 4) 4 || free)=true
  have a:=a1 (x:=iquo .i64 r.opr 2) (k:=12) (by omega) (by omega)
  cases free
  ·exact ⟨rfl,rfl⟩
  ·refine ⟨?_,by rw [Bool.or_true]⟩
   cases ieq (gmod r.opr 2) 0
   ·rfl
   ·exact decide_eq_true a
 have md:decide (1<=(gopV r push k x0 y0 free t).md/\(gopV r push k x0 y0 free t).md<=12)=true:=by
  show decide (1<=isel (ieq (gmod r.md 2) 0) (iadd .i64 1 (gmod (iquo .i64 r.md 2) 12)) 1/\isel (ieq (gmod r.md 2) 0) (iadd .i64 1 (gmod (iquo .i64 r.md 2) 12)) 1<=12)=true
  have a:=a1 (x:=iquo .i64 r.md 2) (k:=12) (by omega) (by omega)
  cases ieq (gmod r.md 2) 0
  ·rfl
  ·exact decide_eq_true a
 have kd:decide (1<=(gopV r push k x0 y0 free t).kd/\(gopV r push k x0 y0 free t).kd<=3)=true/\ieq (gopV r push k x0 y0 free t).kd 3=false:=by
  cases push <;> exact ⟨rfl,rfl⟩
 have xy:jh7 (gopV r push k x0 y0 free t).x=true/\jh7 (gopV r push k x0 y0 free t).y=true:=by
  cases push
  ·exact ⟨q29 hx,q29 hy⟩
  ·exact ⟨vl5,vl5⟩
 have uz:uzB (gopV r push k x0 y0 free t)=true:=by
  unfold uzB
  rw [kd.2,cond_false,mk2,Bool.and_true]
  cases push <;> rfl
 have rf:refB (gopV r push k x0 y0 free t) k=true:=by
  cases push
  ·exact decide_eq_true ⟨λ _=>m,mk1⟩
  ·exact decide_eq_true ⟨λ h=>absurd (show (2:Int)=1 from h) (by decide),mk1⟩
 have l:ile 64 K=false:=decide_eq_false (by omega)
 unfold opE elE
 rw [kd.1,uz,kd.2,rf,xy.1,xy.2,mk3,mk4,op,opr.1,md,opr.2,l,Bool.and_false];rfl
def gx (s:Sn) (i:Nat):Ov:=bif band (ieq (gmod (s.rq i).kd 8) 0) (ilt 0 (lenO (gst s i).2)) then qa8 else gnew s (gst s i).2 i
theorem yi1 (s:Sn) (i:Nat):(gst s (i + 1)).1=(gst s i).1 ++ [gx s i]/\(gst s (i + 1)).2=bif ieq (gx s i).kd 2 then (gst s i).2 ++ [gx s i] else bif ieq (gx s i).kd 3 then (gst s i).2.dropLast else (gst s i).2:=by
 rw [yr9]
 unfold gx
 cases band (ieq (gmod (s.rq i).kd 8) 0) (ilt 0 (lenO (gst s i).2))
 ·rw [cond_false,cond_false]
  refine ⟨rfl,?_⟩
  have k:ieq (gnew s (gst s i).2 i).kd 3=false:=by unfold gnew gopV;cases ilt (gmod (s.rq i).kd 8) 3 <;> rfl
  rw [k];rfl
 ·rw [cond_true,cond_true];exact ⟨rfl,rfl⟩
theorem v98 (s:Sn):∀(i j:Nat),j < i->(gst s i).1[j]?=some (gx s j)
 | 0,j,h=>by omega
 | i + 1,j,h=>by
  have ln:∀i,(gst s i).1.length=i:=λ i=>by
   induction i with
   | zero=>rfl
   | succ i ih=>rw [(yi1 s i).1,List.length_append,ih];rfl
  rw [(yi1 s i).1]
  by_cases e:j < i
  ·rw [List.getElem?_append_left (by rw [ln];exact e)];exact v98 s i j e
  ·obtain rfl:j=i:=by omega
   rw [List.getElem?_append_right (by rw [ln];omega),ln,Nat.sub_self];rfl
theorem q31 (s:Sn) (i:Nat):(gst s i).1.length=i:=by
 induction i with
 | zero=>rfl
 | succ i ih=>rw [(yi1 s i).1,List.length_append,ih];rfl
theorem q33 (s:Sn) {J:Int} (hE:0<=gstE s) {j:Nat}:((j:Int) < gstE s->nthO (gstF s J) j=gx s j)/\(gstE s<=(j:Int)->(j:Int) < gstE s + J->nthO (gstF s J) j=qa8):=by
 unfold nthO gstF gstA
 rw [Int.toNat_natCast,List.getD_eq_getElem?_getD]
 refine ⟨λ h=>?_,λ h h2=>?_⟩
 ·rw [List.getElem?_append_left (by rw [q31];omega),v98 s _ _ (by omega)];rfl
 ·rw [List.getElem?_append_right (by rw [q31];omega),q31,List.getElem?_replicate,if_pos (by omega)];rfl
theorem vg4 (s:Sn) (hE:0<=gstE s):∀i:Nat,(i:Int)<=gstE s->stk (gscV s).pl i=(gst s i).2
 | 0,_=>rfl
 | i + 1,h=>by
  have a:=vg4 s hE i (by omega)
  have e:(gscV s).pl (i:Int)=gx s i:=(q33 s hE).1 (by omega)
  unfold stk
  rw [e,a,(yi1 s i).2]
theorem vg5 (s:Sn) (hE:0<=gstE s):∀t:Nat,(t:Int)<=lenO (gstB s (gstE s))->lenO (stk (gscV s).pl ((gstE s).toNat + t))=lenO (gstB s (gstE s)) - t
 | 0,_=>by rw [Nat.add_zero,vg4 s hE _ (by omega)];show lenO (gst s (gstE s).toNat).2=lenO (gst s (gstE s).toNat).2 - 0;omega
 | t + 1,h=>by
  have a:=vg5 s hE t (by omega)
  have e:(gscV s).pl (((gstE s).toNat + t:Nat):Int)=qa8:=(q33 s hE).2 (by omega) (by omega)
  rw [show (gstE s).toNat + (t + 1)=(gstE s).toNat + t + 1 by omega]
  unfold stk
  rw [e]
  show lenO (stk (gscV s).pl ((gstE s).toNat + t)).dropLast=_
  rw [qo9 _ (by omega),a];omega
theorem v99 (l:List Ov):jh9 l=anyB (lenO l) (jm8 (nthO l) (lenO l)):=by
 unfold jh9 anyB jm8
 cases ieq (lenO l) 0
 ·cases (nthO l (lenO l - 1)).iso <;> cases (nthO l (lenO l - 1)).kno <;> rfl
 ·rfl
theorem y52 (s:Sn) (h1:0<=s.pn) (h2:0<=s.rn):vsP (gscV s)=(0,0):=by
 have n:=jy4 s
 have M:=qo8 s
 have N:=qz5 h1
 obtain ⟨f1,f2,f3,f4,f5⟩:=qz7 h1 h2 (lenO (gstB s (gstE s)))
 have pn:(gscV s).pn=gstE s + lenO (gstB s (gstE s)):=f2 f4
 have sm:smV (gscV s).b=gscM s:=by
  show smV (isel (igt (gscM s) 255) 16 8)=gscM s
  rcases M.2 with e | e <;> rw [e] <;> decide
 have vi:∀i:Int,0<=i->i < (gscV s).pn->vopI (gscV s) i=opE (gscV s).b (gscV s).mn ((gscV s).pl i) (lenO (stkI (gscV s) i)) (jm8 (nthO (stkI (gscV s) i)) (lenO (stkI (gscV s) i))):=λ i a b=>by
  unfold vopI opV;rw [decide_eq_true (show 0<=i/\i < (gscV s).pn from ⟨a,b⟩),cond_true]
 have all:vsE (gscV s) (gscV s).pn.toNat=none:=vl4 _ _ λ i i0 i1=>by
  have i1:i < (gscV s).pn:=by omega
  rw [vi i i0 i1]
  obtain ⟨k,rfl⟩:=Int.eq_ofNat_of_zero_le i0
  by_cases lt:(k:Int) < gstE s
  ·have e:(gscV s).pl (k:Int)=gx s k:=(q33 s f3.1).1 lt
   have st:stkI (gscV s) (k:Int)=(gst s k).2:=by unfold stkI;rw [Int.toNat_natCast];exact vg4 s f3.1 k (by omega)
   have ln:=(qz6 h1 k).2.2.2
   rw [e,st]
   unfold gx
   cases c:band (ieq (gmod (s.rq k).kd 8) 0) (ilt 0 (lenO (gst s k).2))
   ·rw [cond_false]
    unfold gnew
    exact zb3 (k:=gscN s) (by omega) n.1 n.2.1 M.1 sm ⟨vx6 _,by unfold lenO;omega⟩ (v99 _)
   ·rw [cond_true]
    have c:(ieq (gmod (s.rq k).kd 8) 0 && ilt 0 (lenO (gst s k).2))=true:=by rw [<- y41];exact c
    rw [Bool.and_eq_true] at c
    have g:0 < lenO (gst s k).2:=jg6 c.2
    show (bif ieq (lenO (gst s k).2) 0 then 18 else 0)=(0:Int)
    rw [show ieq (lenO (gst s k).2) 0=false from decide_eq_false (by omega)];rfl
  ·have e:(gscV s).pl (k:Int)=qa8:=(q33 s f3.1).2 (by omega) (by omega)
   have l:=vg5 s f3.1 (k - (gstE s).toNat) (by omega)
   rw [show (gstE s).toNat + (k - (gstE s).toNat)=k by omega] at l
   rw [e]
   show (bif ieq (lenO (stk (gscV s).pl ((k:Int)).toNat)) 0 then 18 else 0)=(0:Int)
   rw [Int.toNat_natCast,l,show ieq (lenO (gstB s (gstE s)) - ((k - (gstE s).toNat:Nat):Int)) 0=false from decide_eq_false (by omega)];rfl
 have fin:lenO (stkI (gscV s) (gscV s).pn)=0:=by
  have l:=vg5 s f3.1 (lenO (gstB s (gstE s))).toNat (by omega)
  unfold stkI
  rw [show (gscV s).pn.toNat=(gstE s).toNat + (lenO (gstB s (gstE s))).toNat by omega,l];omega
 rw [vg2 _ all,fin];rfl
theorem zb4 (s:Sn) (h0:0<=s.m) (h1:0<=s.pn) (h2:0<=s.rn):scA (gscV s):=by
 refine ⟨zb2 s h0 h1 h2,λ i a b=>?_,y52 s h1 h2⟩
 have n:=jy4 s
 have M:=qo8 s
 have cv:=vx1 s
 have sm:smV (isel (igt (gscM s) 255) 16 8)=gscM s:=by
  rcases M.2 with e | e <;> rw [e] <;> decide
 have p:1 * 1<=gscW s * gscH s:=Int.mul_le_mul n.2.2.1.1 n.2.2.2.1.1 (by omega) (by omega)
 have q:gscW s * gscH s<=5 * 4:=Int.mul_le_mul n.2.2.1.2 n.2.2.2.1.2 (by omega) (by omega)
 show imR (gscQ s i)/\(gscQ s i).w<=5/\(gscQ s i).h<=4/\qc8 (gscQ s i) (smV (isel (igt (gscM s) 255) 16 8))=true
 rw [sm]
 unfold gscQ
 cases ieq s.pn 0
 ·rw [cond_false]
  obtain ⟨g1,g2,g3,g4⟩:=vm7 (s.pq i).W (s.pq i).H (s.pq i).S (s.pq i).md (s.pq i).n (s.pq i).q M.1 cv
  have e5:=jc6 (s.pq i).W (show (0:Int) < 5 by decide)
  have e4:=jc6 (s.pq i).H (show (0:Int) < 4 by decide)
  refine ⟨g1,?_,?_,g4⟩
  ·show (gscI s i).w<=5
   unfold gscI;rw [g2];unfold gimW;split <;> omega
  ·show (gscI s i).h<=4
   unfold gscI;rw [g3];unfold gimH;split <;> omega
 ·rw [cond_true]
  have f:=jg0.2 (show 1<=gscW s/\1<=gscH s/\gscW s * gscH s<=16777216 from ⟨by omega,by omega,by omega⟩)
  refine ⟨q46 (c1:=0) (c2:=0) f M.1 rfl rfl M.1 M.1,by show gscW s<=5;omega,by show gscH s<=4;omega,?_⟩
  rw [qc9 f rfl]
  have m0:=ji1.1 M.1
  exact qe9.2 ⟨Int.le_refl _,m0.1,m0.1,Int.le_refl _,Int.le_refl _⟩
end Go.Proofs.YthkidembkknoeaaDoor
