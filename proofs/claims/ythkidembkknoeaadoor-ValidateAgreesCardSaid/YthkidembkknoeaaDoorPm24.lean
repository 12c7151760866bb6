import Derived.Test.YthkidembkknoeaaDoorPm11
import Derived.Test.YthkidembkknoeaaDoorPm19
import Derived.Test.YthkidembkknoeaaDoorPm18
import Derived.Test.YthkidembkknoeaaDoorPm07
import Derived.Test.YthkidembkknoeaaDoorPm15
import Derived.Test.YthkidembkknoeaaDoorPm20
import Derived.Test.YthkidembkknoeaaDoorPm23
namespace Go.Proofs.YthkidembkknoeaaDoor
open Go.RowKit PR QR
set_option linter.unusedVariables false
set_option linter.unusedSimpArgs false
def jm4 (g:Int->Ov) (k:Int):Ov:=g (k - 1)
def jg4 (n:Int):Bool:=decide (-1048576<=n/\n<=1048576)
def plcB (a b c d:Int):Bool:=decide (reB a b c d=false/\(c - a) * (d - b)<=16777216) && (jg4 a && jg4 b)
noncomputable def ordB (m:Int) (l:Int->Int) (n:Int):Bool:=bif ieq m 0 then true else orB m (λ i _=>l i) n
noncomputable def frV (s:Sc):Int:=bif smOk s.b then bif plcB s.x0 s.y0 s.x1 s.y1 then bif tiB s.x0 s.y0 s.x1 s.y1 s.tw s.th then bif ordB s.on s.ol (tiX s.x0 s.y0 s.x1 s.y1 s.tw s.th * tiY s.x0 s.y0 s.x1 s.y1 s.tw s.th) then bif ile s.mn 64 && ile s.pn 4096 then 0 else 5 else 4 else 3 else 2 else 1
def uzB (o:Ov):Bool:=bif ieq o.kd 3 then decide (o.im=0/\o.x=0/\o.y=0/\o.msk=0/\o.mx=0/\o.my=0/\o.op=0/\o.opr=0/\o.md=0) && !(o.iso || o.kno) else ((bif ieq o.kd 1 then !(o.iso || o.kno) else bif ieq o.kd 2 then decide (o.im=0/\o.x=0/\o.y=0) else true) && decide (o.msk=0->o.mx=0/\o.my=0))
def refB (o:Ov) (n:Int):Bool:=decide ((o.kd=1->0<=o.im/\o.im < n)/\0<=o.msk/\o.msk<=n)
def anyB (k:Int) (q:Ov):Bool:=bif ieq k 0 then true else q.iso && !q.kno
def elE (b n:Int) (o:Ov) (k:Int) (q:Ov):Int:=bif refB o n then bif jg4 o.x && jg4 o.y && jg4 o.mx && jg4 o.my then bif ile o.op (smV b) then bif decide (1<=o.opr/\o.opr<=12) then bif decide (1<=o.md/\o.md<=12) then bif ieq o.opr 4 || anyB k q then bif ieq o.kd 2 && ile 64 k then 17 else 0 else 16 else 15 else 14 else 13 else 12 else 11
def opE (b n:Int) (o:Ov) (k:Int) (q:Ov):Int:=bif decide (1<=o.kd/\o.kd<=3) then bif uzB o then bif ieq o.kd 3 then bif ieq k 0 then 18 else 0 else elE b n o k q else 10 else 9
def opV (s:Sc) (i k:Int) (g:Int->Ov):Int:=bif decide (0<=i/\i < s.pn) then opE s.b s.mn (s.pl i) k (jm4 g k) else 21
def stk (f:Int->Ov):Nat->List Ov
 | 0=>[]
 | i + 1=>bif ieq (f i).kd 2 then stk f i ++ [f i] else bif ieq (f i).kd 3 then (stk f i).dropLast else stk f i
def stkI (s:Sc) (i:Int):List Ov:=stk s.pl i.toNat
def vopI (s:Sc) (i:Int):Int:=opV s i (lenO (stkI s i)) (nthO (stkI s i))
def vsE (s:Sc):Nat->Option (Int×Int)
 | 0=>none
 | i + 1=>match vsE s i with
  | some e=>some e
  | none=>bif ieq (vopI s i) 0 then none else some (vopI s i,i)
def vsP (s:Sc):Int×Int:=match vsE s s.pn.toNat with
 | some e=>e
 | none=>bif ieq (lenO (stkI s s.pn)) 0 then (0,0) else (18,s.pn)
def qe4 (s:Sc):Int:=(vsP s).1
def qe5 (s:Sc):Int:=(vsP s).2
noncomputable def chkE (s:Sc):Int:=bif ieq (frV s) 0 then qe4 s else frV s
noncomputable def chkN (s:Sc):Int:=bif ieq (frV s) 0 then qe5 s else 0
def qv7 (s:Sc):Nat->Option (Int×Int)
 | 0=>none
 | i + 1=>match qv7 s i with
  | some e=>some e
  | none=>bif ieq (imE (s.ml i) (smV s.b)) 0 then none else some (imE (s.ml i) (smV s.b),i)
noncomputable def chP (s:Sc):Int×Int:=bif ieq (frV s) 0 then (match qv7 s s.mn.toNat with
 | some e=>e
 | none=>vsP s) else (frV s,0)
noncomputable def chE (s:Sc):Int:=(chP s).1
noncomputable def chN (s:Sc):Int:=(chP s).2
def jx3:List AV->Option QR.Ans
 | [.x (.c (.v (.int .i64 n)))]=>some ⟨[.c (.v (.bool (jg4 n)))],[],[]⟩
 | _=>none
def qh0:List AV->Option QR.Ans
 | [.x (.c (.v (.int .i64 n)))]=>some ⟨[.c (.v (.bool (bnot (jg4 n))))],[],[]⟩
 | _=>none
def q51:List AV->Option QR.Ans
 | [.x (.agg [.v (.int .i64 a),.v (.int .i64 b),.v (.int .i64 c),.v (.int .i64 d)])]=>some ⟨[.c (.v (.bool (plcB a b c d)))],[],[]⟩
 | _=>none
noncomputable def q52:List AV->Option QR.Ans
 | [.x (.c c),.x (.c (.v (.int .i64 n)))]=>match jf4 1 c with
  | some (m,r)=>some ⟨[.c (.v (.bool (ordB m (λ i=>intC (den r i 0)) n)))],[],[intRow .i64 1 m r,ile 0 m=true]⟩
  | none=>none
 | _=>none
noncomputable def jo0:List AV->Option QR.Ans
 | [.x (.agg l)]=>match jg8 l with
  | some (s,A)=>some ⟨[.c (.v (.int .i64 (frV s)))],[],A⟩
  | none=>none
 | _=>none
def jt6:List CV->Option Ov
 | [.v (.int .i64 kd),.v (.int .i64 im),.v (.int .i64 x),.v (.int .i64 y),.v (.int .i64 msk),.v (.int .i64 mx),.v (.int .i64 my),.v (.int .u16 op),.v (.int .i64 opr),.v (.int .i64 md),.v (.bool iso),.v (.bool kno)]=>some ⟨kd,im,x,y,msk,mx,my,op,opr,md,iso,kno⟩
 | _=>none
def vo8:List AV->Option QR.Ans
 | [.x (.agg l)]=>match jt6 l with
  | some o=>some ⟨[.c (.v (.bool (uzB o)))],[],[ile 1 o.kd=true,ile o.kd 3=true]⟩
  | none=>none
 | _=>none
def q53:List AV->Option QR.Ans
 | [.x (.agg l)]=>match jt6 l with
  | some o=>some ⟨[.c (.v (.bool (bnot (uzB o))))],[],[ile 1 o.kd=true,ile o.kd 3=true]⟩
  | none=>none
 | _=>none
def q54:List AV->Option QR.Ans
 | [.x (.agg l),.x (.c (.v (.int .i64 n)))]=>match jt6 l with
  | some o=>some ⟨[.c (.v (.bool (refB o n)))],[],[]⟩
  | none=>none
 | _=>none
def q55:List AV->Option QR.Ans
 | [.x (.c c)]=>match jf4 12 c with
  | some (k,r)=>some ⟨[.c (.v (.bool (anyB k (jm4 (ovAt r) k))))],[],[jc9 k r,ile 0 k=true,ile k 9223372036854775807=true]⟩
  | none=>none
 | _=>none
def vo9:List AV->Option QR.Ans
 | [.x (.agg q),.x (.agg l),.x (.c c)]=>match jt6 q,jg8 l,jf4 12 c with
  | some o,some (s,A),some (k,r)=>some ⟨[.c (.v (.int .i64 (elE s.b s.mn o k (jm4 (ovAt r) k))))],[],jc9 k r :: (ile 0 k=true) :: (ile k 9223372036854775807=true) :: A⟩
  | _,_,_=>none
 | _=>none
def qj8:List AV->Option QR.Ans
 | [.x (.agg l),.x (.c (.v (.int .i64 i))),.x (.c c)]=>match jg8 l,jf4 12 c with
  | some (s,A),some (k,r)=>some ⟨[.c (.v (.int .i64 (opV s i k (ovAt r))))],[],jc9 k r :: (ile 0 k=true) :: (ile k 9223372036854775807=true) :: A⟩
  | _,_=>none
 | _=>none
def qh1:List AV->Option QR.Ans
 | [.x (.agg l)]=>match jg8 l with
  | some (s,A)=>some ⟨[.c (.v (.int .i64 (qe4 s))),.c (.v (.int .i64 (qe5 s)))],[],(ile s.pn 4096=true) :: A⟩
  | none=>none
 | _=>none
noncomputable def jm5:List AV->Option QR.Ans
 | [.x (.agg l)]=>match jg8 l with
  | some (s,A)=>some ⟨[.c (.v (.int .i64 (chkE s))),.c (.v (.int .i64 (chkN s)))],[],A⟩
  | none=>none
 | _=>none
noncomputable def j08:List AV->Option QR.Ans
 | [.x (.agg l)]=>match jg8 l with
  | some (s,A)=>some ⟨[.c (.v (.int .i64 (chE s))),.c (.v (.int .i64 (chN s)))],[],imsG s :: A⟩
  | none=>none
 | _=>none
set_option maxRecDepth 100000 in
theorem ym9 (n:Int) (V:List QR.XV->List (List QR.CV)->Prop):QR.ja5 Tryd.prog (QR.orc []) (QR.ja4) (Tryd.f57.body.getD .skip) Tryd.f57.results.toList Tryd.f57.ntmps [.x (.c (.v (.int .i64 n)))] V=(True/\ja0 (ige n (-1048576)) (True/\True/\V [XV.c (CV.v (Value.bool (ile n 1048576)))] []) (True/\True/\V [XV.c (CV.v (Value.bool false))] [])):=by
 kernel_rfl
set_option maxRecDepth 100000 in
theorem zb8 (n:Int) (V:List QR.XV->List (List QR.CV)->Prop):QR.ja5 Tryd.prog (QR.orc []) (QR.ja4) (Tryd.f39.body.getD .skip) Tryd.f39.results.toList Tryd.f39.ntmps [.x (.c (.v (.int .i64 n)))] V=(True/\ja0 (ilt n (-1048576)) (True/\True/\V [XV.c (CV.v (Value.bool true))] []) (True/\True/\V [XV.c (CV.v (Value.bool (igt n 1048576)))] [])):=by
 kernel_rfl
def vj2:QR.ja8:=QR.orc [(56,jv7),(57,jx3)]
set_option maxRecDepth 100000 in
theorem yn0 (a b c d:Int) (V:List QR.XV->List (List QR.CV)->Prop):QR.ja5 Tryd.prog (vj2) (QR.ja4) (Tryd.f32.body.getD .skip) Tryd.f32.results.toList Tryd.f32.ntmps [.x (.agg [.v (.int .i64 a),.v (.int .i64 b),.v (.int .i64 c),.v (.int .i64 d)])] V=(True/\∀(i:Int),i=raV a b c d->True/\ja0 (igt i 0) (ja0 (ile i 16777216) (ja0 (jg4 a) (True/\True/\V [XV.c (CV.v (Value.bool (jg4 b)))] []) (True/\True/\V [XV.c (CV.v (Value.bool false))] [])) (True/\True/\V [XV.c (CV.v (Value.bool false))] [])) (True/\True/\V [XV.c (CV.v (Value.bool false))] [])):=by
 try delta vj2
 try delta jv7
 try delta jx3
 generalize @jg4=jg4
 generalize @raV=raV
 kernel_rfl
noncomputable def vj3:QR.ja8:=QR.orc [(60,jp4)]
set_option maxRecDepth 100000 in
theorem yn1 (m:Int) (l:Int->Int) (n:Int) (V:List QR.XV->List (List QR.CV)->Prop):QR.ja5 Tryd.prog (vj3) (QR.ja4) (Tryd.f34.body.getD .skip) Tryd.f34.results.toList Tryd.f34.ntmps [.x (.c (.slc 1 m (.fn λ i _=>.v (.int .i64 (l i))))),.x (.c (.v (.int .i64 n)))] V=(True/\∀(i:Int),i=m->True/\ja0 (ieq i 0) (True/\True/\V [XV.c (CV.v (Value.bool true))] []) ((intRow IntKind.i64 1 m (QR.Row.fn λ (i:Int) (x:Nat)=>CV.v (Value.int .i64 (l i)))/\ile 0 m=true/\True)/\True/\True/\V [XV.c (CV.v (Value.bool (orB m (λ (i:Int) (x:Nat)=>l i) n)))] [])):=by
 try delta vj3
 try delta jp4
 generalize @intRow=intRow
 generalize @orB=orB
 generalize @orN=orN
 generalize @orW=orW
 kernel_rfl
noncomputable def yd1:QR.ja8:=QR.orc [(29,ji6),(32,q51),(33,jl3),(34,q52)]
set_option maxRecDepth 100000 in
theorem y16 (s:Sc) (V:List QR.XV->List (List QR.CV)->Prop):QR.ja5 Tryd.prog (yd1) (QR.ja4) (Tryd.f15.body.getD .skip) Tryd.f15.results.toList Tryd.f15.ntmps [.x (.agg (jf6 s))] V=(True/\∀(i:Int),i=smV s.1->True/\True/\ja0 (bnot (smOk s.1)) (True/\True/\V [XV.c (CV.v (Value.int .i64 1))] []) (True/\ja0 (bnot (plcB s.2 s.3 s.4 s.5)) (True/\True/\V [XV.c (CV.v (Value.int .i64 2))] []) (∀(i:Int),i=tiX s.2 s.3 s.4 s.5 s.6 s.7->∀(i_1:Int),i_1=tiY s.2 s.3 s.4 s.5 s.6 s.7->True/\True/\ja0 (bnot (tiB s.2 s.3 s.4 s.5 s.6 s.7)) (True/\True/\V [XV.c (CV.v (Value.int .i64 3))] []) ((intRow IntKind.i64 1 s.8 (QR.Row.fn λ (i:Int) (x:Nat)=>CV.v (Value.int .i64 (s.9 i)))/\ile 0 s.8=true/\True)/\ja0 (bnot (ordB s.8 (λ (i:Int)=>s.9 i) (imul IntKind.i64 i i_1))) (True/\True/\V [XV.c (CV.v (Value.int .i64 4))] []) (∀(i:Int),i=s.10->ja0 (igt i 64) (True/\True/\True/\V [XV.c (CV.v (Value.int .i64 5))] []) (∀(i:Int),i=s.12->True/\ja0 (igt i 4096) (True/\True/\V [XV.c (CV.v (Value.int .i64 5))] []) (True/\True/\V [XV.c (CV.v (Value.int .i64 0))] []))))))):=by
 try delta yd1
 try delta ji6
 try delta q51
 try delta jl3
 try delta q52
 generalize @intRow=intRow
 generalize @ordB=ordB
 generalize @plcB=plcB
 generalize @smOk=smOk
 generalize @smV=smV
 generalize @tiB=tiB
 generalize @tiX=tiX
 generalize @tiY=tiY
 kernel_rfl
noncomputable def vj4:QR.ja8:=QR.orc [(35,ji6),(37,jh5),(38,jv7),(39,qh0),(24,jl3),(40,jp4)]
set_option maxRecDepth 100000 in
theorem yn2 (s:Sc) (V:List QR.XV->List (List QR.CV)->Prop):QR.ja5 Tryd.prog (vj4) (QR.ja4) (Tryd.f19.body.getD .skip) Tryd.f19.results.toList Tryd.f19.ntmps [.x (.agg (jf6 s))] V=(True/\∀(i:Int),i=smV s.1->True/\True/\ja0 (bnot (smOk s.1)) (True/\True/\V [XV.c (CV.v (Value.int .i64 1))] []) (ja0 (reB s.2 s.3 s.4 s.5) (True/\True/\True/\V [XV.c (CV.v (Value.int .i64 2))] []) (∀(i:Int),i=raV s.2 s.3 s.4 s.5->ja0 (igt i 16777216) (True/\True/\True/\V [XV.c (CV.v (Value.int .i64 2))] []) (ja0 (bnot (jg4 s.2)) (True/\True/\True/\V [XV.c (CV.v (Value.int .i64 2))] []) (True/\ja0 (bnot (jg4 s.3)) (True/\True/\V [XV.c (CV.v (Value.int .i64 2))] []) (∀(i:Int),i=tiX s.2 s.3 s.4 s.5 s.6 s.7->∀(i_1:Int),i_1=tiY s.2 s.3 s.4 s.5 s.6 s.7->True/\True/\ja0 (bnot (tiB s.2 s.3 s.4 s.5 s.6 s.7)) (True/\True/\V [XV.c (CV.v (Value.int .i64 3))] []) ((intRow IntKind.i64 1 s.8 (QR.Row.fn λ (i:Int) (x:Nat)=>CV.v (Value.int .i64 (s.9 i)))/\ile 0 s.8=true/\True)/\True/\ja0 (bnot (orB s.8 (λ (i:Int) (x:Nat)=>s.9 i) (imul IntKind.i64 i i_1))) (True/\True/\V [XV.c (CV.v (Value.int .i64 4))] []) (∀(i:Int),i=s.10->ja0 (igt i 64) (True/\True/\True/\V [XV.c (CV.v (Value.int .i64 5))] []) (∀(i:Int),i=s.12->True/\ja0 (igt i 4096) (True/\True/\V [XV.c (CV.v (Value.int .i64 5))] []) (True/\True/\V [XV.c (CV.v (Value.int .i64 0))] [])))))))))):=by
 try delta vj4
 try delta ji6
 try delta jh5
 try delta jv7
 try delta qh0
 try delta jl3
 try delta jp4
 generalize @intRow=intRow
 generalize @jg4=jg4
 generalize @orB=orB
 generalize @orN=orN
 generalize @orW=orW
 generalize @raV=raV
 generalize @reB=reB
 generalize @smOk=smOk
 generalize @smV=smV
 generalize @tiB=tiB
 generalize @tiX=tiX
 generalize @tiY=tiY
 kernel_rfl
set_option maxRecDepth 100000 in
theorem y17 (o:Ov) (V:List QR.XV->List (List QR.CV)->Prop):QR.ja5 Tryd.prog (QR.orc []) (QR.ja4) (Tryd.f41.body.getD .skip) Tryd.f41.results.toList Tryd.f41.ntmps [.x (.agg (j07 o))] V=(True/\True/\True/\ja0 (ieq o.1 1) (ja0 o.11 (True/\True/\True/\V [XV.c (CV.v (Value.bool false))] []) (True/\ja0 o.12 (True/\True/\V [XV.c (CV.v (Value.bool false))] []) (ja0 (ine o.5 0) (True/\True/\V [XV.c (CV.v (Value.bool true))] []) (ja0 (ieq o.6 0) (True/\True/\V [XV.c (CV.v (Value.bool (ieq o.7 0)))] []) (True/\True/\V [XV.c (CV.v (Value.bool false))] []))))) (True/\ja0 (ieq o.1 2) (ja0 (ine o.2 0) (True/\True/\True/\V [XV.c (CV.v (Value.bool false))] []) (ja0 (ine o.3 0) (True/\True/\True/\V [XV.c (CV.v (Value.bool false))] []) (True/\ja0 (ine o.4 0) (True/\True/\V [XV.c (CV.v (Value.bool false))] []) (ja0 (ine o.5 0) (True/\True/\V [XV.c (CV.v (Value.bool true))] []) (ja0 (ieq o.6 0) (True/\True/\V [XV.c (CV.v (Value.bool (ieq o.7 0)))] []) (True/\True/\V [XV.c (CV.v (Value.bool false))] [])))))) (True/\ja0 (ieq o.1 3) (True/\True/\V [XV.c (CV.v (Value.bool (band (ieq o.1 3) (band (ieq o.2 0) (band (ieq o.3 0) (band (ieq o.4 0) (band (ieq o.5 0) (band (ieq o.6 0) (band (ieq o.7 0) (band (ieq o.8 0) (band (ieq o.9 0) (band (ieq o.10 0) (band (beq' o.11 false) (band (beq' o.12 false) true))))))))))))))] []) (ja0 (ine o.5 0) (True/\True/\V [XV.c (CV.v (Value.bool true))] []) (ja0 (ieq o.6 0) (True/\True/\V [XV.c (CV.v (Value.bool (ieq o.7 0)))] []) (True/\True/\V [XV.c (CV.v (Value.bool false))] [])))))):=by
 kernel_rfl
set_option maxRecDepth 100000 in
theorem yn3 (o:Ov) (V:List QR.XV->List (List QR.CV)->Prop):QR.ja5 Tryd.prog (QR.orc []) (QR.ja4) (Tryd.f43.body.getD .skip) Tryd.f43.results.toList Tryd.f43.ntmps [.x (.agg (j07 o))] V=(True/\True/\True/\ja0 (ieq o.1 3) (True/\True/\V [XV.c (CV.v (Value.bool (bnot (band (ieq o.1 o.1) (band (ieq o.2 0) (band (ieq o.3 0) (band (ieq o.4 0) (band (ieq o.5 0) (band (ieq o.6 0) (band (ieq o.7 0) (band (ieq o.8 0) (band (ieq o.9 0) (band (ieq o.10 0) (band (beq' o.11 false) (band (beq' o.12 false) true)))))))))))))))] []) (True/\True/\ja0 (ieq o.1 1) (True/\True/\ja0 (ieq o.5 0) (True/\True/\True/\V [XV.c (CV.v (Value.bool (bnot (band (ieq o.1 o.1) (band (ieq o.2 o.2) (band (ieq o.3 o.3) (band (ieq o.4 o.4) (band (ieq o.5 o.5) (band (ieq o.6 0) (band (ieq o.7 0) (band (ieq o.8 o.8) (band (ieq o.9 o.9) (band (ieq o.10 o.10) (band (beq' o.11 false) (band (beq' o.12 false) true)))))))))))))))] []) (True/\True/\V [XV.c (CV.v (Value.bool (bnot (band (ieq o.1 o.1) (band (ieq o.2 o.2) (band (ieq o.3 o.3) (band (ieq o.4 o.4) (band (ieq o.5 o.5) (band (ieq o.6 o.6) (band (ieq o.7 o.7) (band (ieq o.8 o.8) (band (ieq o.9 o.9) (band (ieq o.10 o.10) (band (beq' o.11 false) (band (beq' o.12 false) true)))))))))))))))] [])) (True/\True/\ja0 (ieq o.5 0) (True/\True/\True/\V [XV.c (CV.v (Value.bool (bnot (band (ieq o.1 o.1) (band (ieq o.2 0) (band (ieq o.3 0) (band (ieq o.4 0) (band (ieq o.5 o.5) (band (ieq o.6 0) (band (ieq o.7 0) (band (ieq o.8 o.8) (band (ieq o.9 o.9) (band (ieq o.10 o.10) (band (beq' o.11 o.11) (band (beq' o.12 o.12) true)))))))))))))))] []) (True/\True/\V [XV.c (CV.v (Value.bool (bnot (band (ieq o.1 o.1) (band (ieq o.2 0) (band (ieq o.3 0) (band (ieq o.4 0) (band (ieq o.5 o.5) (band (ieq o.6 o.6) (band (ieq o.7 o.7) (band (ieq o.8 o.8) (band (ieq o.9 o.9) (band (ieq o.10 o.10) (band (beq' o.11 o.11) (band (beq' o.12 o.12) true)))))))))))))))] [])))):=by
 kernel_rfl
set_option maxRecDepth 100000 in
theorem yn4 (o:Ov) (n:Int) (V:List QR.XV->List (List QR.CV)->Prop):QR.ja5 Tryd.prog (QR.orc []) (QR.ja4) (Tryd.f67.body.getD .skip) Tryd.f67.results.toList Tryd.f67.ntmps [.x (.agg (j07 o)),.x (.c (.v (.int .i64 n)))] V=(True/\ja0 (ieq o.1 1) (ja0 (ilt o.2 0) (True/\True/\True/\V [XV.c (CV.v (Value.bool false))] []) (True/\ja0 (ige o.2 n) (True/\True/\V [XV.c (CV.v (Value.bool false))] []) (ja0 (ige o.5 0) (True/\True/\V [XV.c (CV.v (Value.bool (ile o.5 n)))] []) (True/\True/\V [XV.c (CV.v (Value.bool false))] [])))) (True/\ja0 (ige o.5 0) (True/\True/\V [XV.c (CV.v (Value.bool (ile o.5 n)))] []) (True/\True/\V [XV.c (CV.v (Value.bool false))] []))):=by
 kernel_rfl
set_option maxRecDepth 100000 in
theorem yn5 (k:Int) (g:Int->Ov) (V:List QR.XV->List (List QR.CV)->Prop):QR.ja5 Tryd.prog (QR.orc []) (QR.ja4) (Tryd.f70.body.getD .skip) Tryd.f70.results.toList Tryd.f70.ntmps [.x (.c (.slc 12 k (jf3 g)))] V=(True/\∀(i:Int),i=k->True/\ja0 (ieq i 0) (True/\True/\V [XV.c (CV.v (Value.bool true))] []) (∀(i:Int),i=k->(ile 0 (isub IntKind.i64 i 1)=true/\ilt (isub IntKind.i64 i 1) k=true/\True)/\ja0 (g (isub IntKind.i64 i 1)).11 (True/\True/\V [XV.c (CV.v (Value.bool (bnot (g (isub IntKind.i64 i 1)).12)))] []) (True/\True/\V [XV.c (CV.v (Value.bool false))] []))):=by
 kernel_rfl
def yd2:QR.ja8:=QR.orc [(29,ji6),(67,q54),(57,jx3),(68,jv6),(69,jv5),(70,q55)]
set_option maxRecDepth 100000 in
theorem y18 (o:Ov) (s:Sc) (k:Int) (g:Int->Ov) (V:List QR.XV->List (List QR.CV)->Prop):QR.ja5 Tryd.prog (yd2) (QR.ja4) (Tryd.f42.body.getD .skip) Tryd.f42.results.toList Tryd.f42.ntmps [.x (.agg (j07 o)),.x (.agg (jf6 s)),.x (.c (.slc 12 k (jf3 g)))] V=(True/\∀(i:Int),i=smV s.1->True/\∀(i_1:Int),i_1=s.10->True/\ja0 (bnot (refB o i_1)) (True/\True/\V [XV.c (CV.v (Value.int .i64 11))] []) (ja0 (bnot (jg4 o.3)) (True/\True/\True/\V [XV.c (CV.v (Value.int .i64 12))] []) (ja0 (bnot (jg4 o.4)) (True/\True/\True/\V [XV.c (CV.v (Value.int .i64 12))] []) (ja0 (bnot (jg4 o.6)) (True/\True/\True/\V [XV.c (CV.v (Value.int .i64 12))] []) (True/\ja0 (bnot (jg4 o.7)) (True/\True/\V [XV.c (CV.v (Value.int .i64 12))] []) (True/\ja0 (igt o.8 i) (True/\True/\V [XV.c (CV.v (Value.int .i64 13))] []) (True/\ja0 (seqB (qk4 o.9) (bs [])) (True/\True/\V [XV.c (CV.v (Value.int .i64 14))] []) (True/\ja0 (seqB (qd8 o.10) (bs [])) (True/\True/\V [XV.c (CV.v (Value.int .i64 15))] []) (ja0 (ine o.9 4) ((jc9 k (QR.Row.col 0 (λ (i:Int)=>CV.v (Value.int .i64 (g i).1)) (QR.Row.col 1 (λ (i:Int)=>CV.v (Value.int .i64 (g i).2)) (QR.Row.col 2 (λ (i:Int)=>CV.v (Value.int .i64 (g i).3)) (QR.Row.col 3 (λ (i:Int)=>CV.v (Value.int .i64 (g i).4)) (QR.Row.col 4 (λ (i:Int)=>CV.v (Value.int .i64 (g i).5)) (QR.Row.col 5 (λ (i:Int)=>CV.v (Value.int .i64 (g i).6)) (QR.Row.col 6 (λ (i:Int)=>CV.v (Value.int .i64 (g i).7)) (QR.Row.col 7 (λ (i:Int)=>CV.v (Value.int .u16 (g i).8)) (QR.Row.col 8 (λ (i:Int)=>CV.v (Value.int .i64 (g i).9)) (QR.Row.col 9 (λ (i:Int)=>CV.v (Value.int .i64 (g i).10)) (QR.Row.col 10 (λ (i:Int)=>CV.v (Value.bool (g i).11)) (QR.Row.col 11 (λ (i:Int)=>CV.v (Value.bool (g i).12)) (QR.Row.zer [])))))))))))))/\ile 0 k=true/\ile k 9223372036854775807=true/\True)/\ja0 (bnot (anyB k (jm4 (λ (i:Int)=>g i) k))) (True/\True/\V [XV.c (CV.v (Value.int .i64 16))] []) (ja0 (ieq o.1 2) (∀(i:Int),i=k->True/\ja0 (ige i 64) (True/\True/\V [XV.c (CV.v (Value.int .i64 17))] []) (True/\True/\V [XV.c (CV.v (Value.int .i64 0))] [])) (True/\True/\True/\V [XV.c (CV.v (Value.int .i64 0))] []))) (True/\ja0 (ieq o.1 2) (∀(i:Int),i=k->True/\ja0 (ige i 64) (True/\True/\V [XV.c (CV.v (Value.int .i64 17))] []) (True/\True/\V [XV.c (CV.v (Value.int .i64 0))] [])) (True/\True/\True/\V [XV.c (CV.v (Value.int .i64 0))] []))))))))))):=by
 try delta yd2
 try delta ji6
 try delta q54
 try delta jx3
 try delta jv6
 try delta jv5
 try delta q55
 try delta jt6
 generalize @anyB=anyB
 generalize @jm4=jm4
 generalize @qd8=qd8
 generalize @jg4=jg4
 generalize @qk4=qk4
 generalize @jc9=jc9
 generalize @refB=refB
 generalize @smOk=smOk
 generalize @smV=smV
 kernel_rfl
def yd3:QR.ja8:=QR.orc [(41,vo8),(42,vo9)]
def zz942 (fz0:Int) (fz1:Int->Ov) (fz2:Sc):Prop:=(jc9 fz0 (QR.Row.col 0 (λ (bz0:Int)=>CV.v (Value.int .i64 (fz1 bz0).1)) (QR.Row.col 1 (λ (bz1:Int)=>CV.v (Value.int .i64 (fz1 bz1).2)) (QR.Row.col 2 (λ (bz2:Int)=>CV.v (Value.int .i64 (fz1 bz2).3)) (QR.Row.col 3 (λ (bz3:Int)=>CV.v (Value.int .i64 (fz1 bz3).4)) (QR.Row.col 4 (λ (bz4:Int)=>CV.v (Value.int .i64 (fz1 bz4).5)) (QR.Row.col 5 (λ (bz5:Int)=>CV.v (Value.int .i64 (fz1 bz5).6)) (QR.Row.col 6 (λ (bz6:Int)=>CV.v (Value.int .i64 (fz1 bz6).7)) (QR.Row.col 7 (λ (bz7:Int)=>CV.v (Value.int .u16 (fz1 bz7).8)) (QR.Row.col 8 (λ (bz8:Int)=>CV.v (Value.int .i64 (fz1 bz8).9)) (QR.Row.col 9 (λ (bz9:Int)=>CV.v (Value.int .i64 (fz1 bz9).10)) (QR.Row.col 10 (λ (bz10:Int)=>CV.v (Value.bool (fz1 bz10).11)) (QR.Row.col 11 (λ (bz11:Int)=>CV.v (Value.bool (fz1 bz11).12)) (QR.Row.zer [])))))))))))))/\ile 0 fz0=true/\ile fz0 9223372036854775807=true/\intRow IntKind.i64 1 fz2.8 (QR.Row.fn λ (bz12:Int) (bz13:Nat)=>CV.v (Value.int .i64 (fz2.9 bz12)))/\jf7 fz2.10 (QR.Row.col 0 (λ (bz14:Int)=>CV.v (Value.int .i64 (fz2.11 bz14).1)) (QR.Row.col 1 (λ (bz15:Int)=>CV.v (Value.int .i64 (fz2.11 bz15).2)) (QR.Row.col 2 (λ (bz16:Int)=>CV.v (Value.bool (fz2.11 bz16).3)) (QR.Row.col 3 (λ (bz17:Int)=>CV.v (Value.int .u16 (fz2.11 bz17).4)) (QR.Row.col 4 (λ (bz18:Int)=>CV.v (Value.int .u16 (fz2.11 bz18).5)) (QR.Row.col 5 (λ (bz19:Int)=>CV.v (Value.int .u16 (fz2.11 bz19).6)) (QR.Row.col 6 (λ (bz20:Int)=>CV.v (Value.int .u16 (fz2.11 bz20).7)) (QR.Row.col 7 (λ (bz21:Int)=>CV.v (Value.int .u16 (fz2.11 bz21).8)) (QR.Row.col 8 (λ (bz22:Int)=>CV.v (Value.int .i64 (fz2.11 bz22).9.1)) (QR.Row.col 9 (λ (bz23:Int)=>CV.v (Value.int .i64 (fz2.11 bz23).9.2)) (QR.Row.col 10 (λ (bz24:Int)=>CV.v (Value.int .i64 (fz2.11 bz24).9.3)) (QR.Row.col 11 (λ (bz25:Int)=>CV.slc 1 (fz2.11 bz25).9.4 (QR.Row.fn λ (bz26:Int) (bz27:Nat)=>CV.v (Value.int .u16 ((fz2.11 bz25).9.5 bz26)))) (QR.Row.col 12 (λ (bz28:Int)=>CV.v (Value.int .i64 (fz2.11 bz28).10.1)) (QR.Row.col 13 (λ (bz29:Int)=>CV.v (Value.int .i64 (fz2.11 bz29).10.2)) (QR.Row.col 14 (λ (bz30:Int)=>CV.v (Value.int .i64 (fz2.11 bz30).10.3)) (QR.Row.col 15 (λ (bz31:Int)=>CV.slc 1 (fz2.11 bz31).10.4 (QR.Row.fn λ (bz32:Int) (bz33:Nat)=>CV.v (Value.int .u16 ((fz2.11 bz31).10.5 bz32)))) (QR.Row.col 16 (λ (bz34:Int)=>CV.v (Value.int .i64 (fz2.11 bz34).11.1)) (QR.Row.col 17 (λ (bz35:Int)=>CV.v (Value.int .i64 (fz2.11 bz35).11.2)) (QR.Row.col 18 (λ (bz36:Int)=>CV.v (Value.int .i64 (fz2.11 bz36).11.3)) (QR.Row.col 19 (λ (bz37:Int)=>CV.slc 1 (fz2.11 bz37).11.4 (QR.Row.fn λ (bz38:Int) (bz39:Nat)=>CV.v (Value.int .u16 ((fz2.11 bz37).11.5 bz38)))) (QR.Row.col 20 (λ (bz40:Int)=>CV.v (Value.int .i64 (fz2.11 bz40).12.1)) (QR.Row.col 21 (λ (bz41:Int)=>CV.v (Value.int .i64 (fz2.11 bz41).12.2)) (QR.Row.col 22 (λ (bz42:Int)=>CV.v (Value.int .i64 (fz2.11 bz42).12.3)) (QR.Row.col 23 (λ (bz43:Int)=>CV.slc 1 (fz2.11 bz43).12.4 (QR.Row.fn λ (bz44:Int) (bz45:Nat)=>CV.v (Value.int .u16 ((fz2.11 bz43).12.5 bz44)))) (QR.Row.col 24 (λ (bz46:Int)=>CV.v (Value.int .i64 (fz2.11 bz46).13.1)) (QR.Row.col 25 (λ (bz47:Int)=>CV.v (Value.int .i64 (fz2.11 bz47).13.2)) (QR.Row.col 26 (λ (bz48:Int)=>CV.v (Value.int .i64 (fz2.11 bz48).13.3)) (QR.Row.col 27 (λ (bz49:Int)=>CV.slc 1 (fz2.11 bz49).13.4 (QR.Row.fn λ (bz50:Int) (bz51:Nat)=>CV.v (Value.int .u16 ((fz2.11 bz49).13.5 bz50)))) (QR.Row.zer [])))))))))))))))))))))))))))))/\jc9 fz2.12 (QR.Row.col 0 (λ (bz52:Int)=>CV.v (Value.int .i64 (fz2.13 bz52).1)) (QR.Row.col 1 (λ (bz53:Int)=>CV.v (Value.int .i64 (fz2.13 bz53).2)) (QR.Row.col 2 (λ (bz54:Int)=>CV.v (Value.int .i64 (fz2.13 bz54).3)) (QR.Row.col 3 (λ (bz55:Int)=>CV.v (Value.int .i64 (fz2.13 bz55).4)) (QR.Row.col 4 (λ (bz56:Int)=>CV.v (Value.int .i64 (fz2.13 bz56).5)) (QR.Row.col 5 (λ (bz57:Int)=>CV.v (Value.int .i64 (fz2.13 bz57).6)) (QR.Row.col 6 (λ (bz58:Int)=>CV.v (Value.int .i64 (fz2.13 bz58).7)) (QR.Row.col 7 (λ (bz59:Int)=>CV.v (Value.int .u16 (fz2.13 bz59).8)) (QR.Row.col 8 (λ (bz60:Int)=>CV.v (Value.int .i64 (fz2.13 bz60).9)) (QR.Row.col 9 (λ (bz61:Int)=>CV.v (Value.int .i64 (fz2.13 bz61).10)) (QR.Row.col 10 (λ (bz62:Int)=>CV.v (Value.bool (fz2.13 bz62).11)) (QR.Row.col 11 (λ (bz63:Int)=>CV.v (Value.bool (fz2.13 bz63).12)) (QR.Row.zer [])))))))))))))/\ile 0 fz2.8=true/\ile 0 fz2.10=true/\ile 0 fz2.12=true/\True)
set_option maxRecDepth 100000 in
theorem y19 (s:Sc) (i k:Int) (g:Int->Ov) (V:List QR.XV->List (List QR.CV)->Prop):QR.ja5 Tryd.prog (yd3) (QR.ja4) (Tryd.f21.body.getD .skip) Tryd.f21.results.toList Tryd.f21.ntmps [.x (.agg (jf6 s)),.x (.c (.v (.int .i64 i))),.x (.c (.slc 12 k (jf3 g)))] V=(True/\ja0 (ilt i 0) (True/\True/\True/\V [XV.c (CV.v (Value.int .i64 21))] []) (∀(i_1:Int),i_1=s.12->True/\ja0 (ige i i_1) (True/\True/\V [XV.c (CV.v (Value.int .i64 21))] []) ((ile 0 i=true/\ilt i s.12=true/\True)/\ja0 (ine (s.13 i).1 1) (ja0 (ine (s.13 i).1 2) (True/\ja0 (ine (s.13 i).1 3) (True/\True/\V [XV.c (CV.v (Value.int .i64 9))] []) ((ile 1 (s.13 i).1=true/\ile (s.13 i).1 3=true/\True)/\ja0 (bnot (uzB (s.13 i))) (True/\True/\V [XV.c (CV.v (Value.int .i64 10))] []) (True/\ja0 (ine (s.13 i).1 3) (∀(i_2:Int),i_2=elE s.1 s.10 (s.13 i) k (jm4 (λ (i:Int)=>g i) k)->(zz942 k g s)/\True/\V [XV.c (CV.v (Value.int .i64 i_2))] []) (∀(i:Int),i=k->True/\ja0 (ieq i 0) (True/\True/\V [XV.c (CV.v (Value.int .i64 18))] []) (True/\True/\V [XV.c (CV.v (Value.int .i64 0))] []))))) (True/\(ile 1 (s.13 i).1=true/\ile (s.13 i).1 3=true/\True)/\ja0 (bnot (uzB (s.13 i))) (True/\True/\V [XV.c (CV.v (Value.int .i64 10))] []) (True/\ja0 (ine (s.13 i).1 3) (∀(i_2:Int),i_2=elE s.1 s.10 (s.13 i) k (jm4 (λ (i:Int)=>g i) k)->(zz942 k g s)/\True/\V [XV.c (CV.v (Value.int .i64 i_2))] []) (∀(i:Int),i=k->True/\ja0 (ieq i 0) (True/\True/\V [XV.c (CV.v (Value.int .i64 18))] []) (True/\True/\V [XV.c (CV.v (Value.int .i64 0))] []))))) (True/\(ile 1 (s.13 i).1=true/\ile (s.13 i).1 3=true/\True)/\ja0 (bnot (uzB (s.13 i))) (True/\True/\V [XV.c (CV.v (Value.int .i64 10))] []) (True/\ja0 (ine (s.13 i).1 3) (∀(i_2:Int),i_2=elE s.1 s.10 (s.13 i) k (jm4 (λ (i:Int)=>g i) k)->(zz942 k g s)/\True/\V [XV.c (CV.v (Value.int .i64 i_2))] []) (∀(i:Int),i=k->True/\ja0 (ieq i 0) (True/\True/\V [XV.c (CV.v (Value.int .i64 18))] []) (True/\True/\V [XV.c (CV.v (Value.int .i64 0))] []))))))):=by
 delta zz942
 try delta yd3
 try delta vo8
 try delta vo9
 try delta jt6
 try delta jg8
 generalize @elE=elE
 generalize @jf7=jf7
 generalize @intRow=intRow
 generalize @jm4=jm4
 generalize @jc9=jc9
 generalize @uzB=uzB
 kernel_rfl
def vj5:QR.ja8:=QR.orc [(43,q53),(35,ji6),(39,qh0),(44,jp0),(45,jo9)]
set_option maxRecDepth 100000 in
theorem yn6 (s:Sc) (i k:Int) (g:Int->Ov) (V:List QR.XV->List (List QR.CV)->Prop):QR.ja5 Tryd.prog (vj5) (QR.ja4) (Tryd.f22.body.getD .skip) Tryd.f22.results.toList Tryd.f22.ntmps [.x (.agg (jf6 s)),.x (.c (.v (.int .i64 i))),.x (.c (.slc 12 k (jf3 g)))] V=(True/\ja0 (ilt i 0) (True/\True/\True/\V [XV.c (CV.v (Value.int .i64 21))] []) (∀(i_1:Int),i_1=s.12->True/\ja0 (ige i i_1) (True/\True/\V [XV.c (CV.v (Value.int .i64 21))] []) ((ile 0 i=true/\ilt i s.12=true/\True)/\ja0 (ilt (s.13 i).1 1) (True/\True/\True/\V [XV.c (CV.v (Value.int .i64 9))] []) (True/\ja0 (igt (s.13 i).1 3) (True/\True/\V [XV.c (CV.v (Value.int .i64 9))] []) ((ile 1 (s.13 i).1=true/\ile (s.13 i).1 3=true/\True)/\ja0 (bnot (uzB (s.13 i))) (True/\True/\V [XV.c (CV.v (Value.int .i64 10))] []) (True/\ja0 (ieq (s.13 i).1 3) (∀(i:Int),i=k->True/\ja0 (ieq i 0) (True/\True/\V [XV.c (CV.v (Value.int .i64 18))] []) (True/\True/\V [XV.c (CV.v (Value.int .i64 0))] [])) (∀(i_2:Int),i_2=smV s.1->True/\ja0 (ieq (s.13 i).1 1) (ja0 (ilt (s.13 i).2 0) (True/\True/\True/\V [XV.c (CV.v (Value.int .i64 11))] []) (∀(i_3:Int),i_3=s.10->ja0 (ige (s.13 i).2 i_3) (True/\True/\True/\V [XV.c (CV.v (Value.int .i64 11))] []) (ja0 (ilt (s.13 i).5 0) (True/\True/\True/\V [XV.c (CV.v (Value.int .i64 11))] []) (∀(i_4:Int),i_4=s.10->True/\ja0 (igt (s.13 i).5 i_4) (True/\True/\V [XV.c (CV.v (Value.int .i64 11))] []) (ja0 (bnot (jg4 (s.13 i).3)) (True/\True/\True/\V [XV.c (CV.v (Value.int .i64 12))] []) (ja0 (bnot (jg4 (s.13 i).4)) (True/\True/\True/\V [XV.c (CV.v (Value.int .i64 12))] []) (ja0 (bnot (jg4 (s.13 i).6)) (True/\True/\True/\V [XV.c (CV.v (Value.int .i64 12))] []) (True/\ja0 (bnot (jg4 (s.13 i).7)) (True/\True/\V [XV.c (CV.v (Value.int .i64 12))] []) (True/\ja0 (igt (s.13 i).8 i_2) (True/\True/\V [XV.c (CV.v (Value.int .i64 13))] []) (True/\ja0 (bnot (band (ige (s.13 i).9 1) (ile (s.13 i).9 12))) (True/\True/\V [XV.c (CV.v (Value.int .i64 14))] []) (True/\ja0 (bnot (band (ige (s.13 i).10 1) (ile (s.13 i).10 12))) (True/\True/\V [XV.c (CV.v (Value.int .i64 15))] []) (∀(i_5:Int),i_5=k->True/\ja0 (ine (s.13 i).9 4) (ja0 (igt i_5 0) (ja0 (g (isub IntKind.i64 i_5 1)).12 ((ile 0 (isub IntKind.i64 i_5 1)=true/\ilt (isub IntKind.i64 i_5 1) k=true/\True)/\True/\True/\V [XV.c (CV.v (Value.int .i64 16))] []) ((ile 0 (isub IntKind.i64 i_5 1)=true/\ilt (isub IntKind.i64 i_5 1) k=true/\ile 0 (isub IntKind.i64 i_5 1)=true/\ilt (isub IntKind.i64 i_5 1) k=true/\True)/\ja0 (bnot (g (isub IntKind.i64 i_5 1)).11) (True/\True/\V [XV.c (CV.v (Value.int .i64 16))] []) (ja0 (ieq (s.13 i).1 2) (∀(i:Int),i=k->True/\ja0 (ige i 64) (True/\True/\V [XV.c (CV.v (Value.int .i64 17))] []) (True/\True/\V [XV.c (CV.v (Value.int .i64 0))] [])) (True/\True/\True/\V [XV.c (CV.v (Value.int .i64 0))] [])))) (True/\ja0 (ieq (s.13 i).1 2) (∀(i:Int),i=k->True/\ja0 (ige i 64) (True/\True/\V [XV.c (CV.v (Value.int .i64 17))] []) (True/\True/\V [XV.c (CV.v (Value.int .i64 0))] [])) (True/\True/\True/\V [XV.c (CV.v (Value.int .i64 0))] []))) (True/\ja0 (ieq (s.13 i).1 2) (∀(i:Int),i=k->True/\ja0 (ige i 64) (True/\True/\V [XV.c (CV.v (Value.int .i64 17))] []) (True/\True/\V [XV.c (CV.v (Value.int .i64 0))] [])) (True/\True/\True/\V [XV.c (CV.v (Value.int .i64 0))] [])))))))))))))) (ja0 (ilt (s.13 i).5 0) (True/\True/\True/\V [XV.c (CV.v (Value.int .i64 11))] []) (∀(i_3:Int),i_3=s.10->True/\ja0 (igt (s.13 i).5 i_3) (True/\True/\V [XV.c (CV.v (Value.int .i64 11))] []) (ja0 (bnot (jg4 (s.13 i).3)) (True/\True/\True/\V [XV.c (CV.v (Value.int .i64 12))] []) (ja0 (bnot (jg4 (s.13 i).4)) (True/\True/\True/\V [XV.c (CV.v (Value.int .i64 12))] []) (ja0 (bnot (jg4 (s.13 i).6)) (True/\True/\True/\V [XV.c (CV.v (Value.int .i64 12))] []) (True/\ja0 (bnot (jg4 (s.13 i).7)) (True/\True/\V [XV.c (CV.v (Value.int .i64 12))] []) (True/\ja0 (igt (s.13 i).8 i_2) (True/\True/\V [XV.c (CV.v (Value.int .i64 13))] []) (True/\ja0 (bnot (band (ige (s.13 i).9 1) (ile (s.13 i).9 12))) (True/\True/\V [XV.c (CV.v (Value.int .i64 14))] []) (True/\ja0 (bnot (band (ige (s.13 i).10 1) (ile (s.13 i).10 12))) (True/\True/\V [XV.c (CV.v (Value.int .i64 15))] []) (∀(i_4:Int),i_4=k->True/\ja0 (ine (s.13 i).9 4) (ja0 (igt i_4 0) (ja0 (g (isub IntKind.i64 i_4 1)).12 ((ile 0 (isub IntKind.i64 i_4 1)=true/\ilt (isub IntKind.i64 i_4 1) k=true/\True)/\True/\True/\V [XV.c (CV.v (Value.int .i64 16))] []) ((ile 0 (isub IntKind.i64 i_4 1)=true/\ilt (isub IntKind.i64 i_4 1) k=true/\ile 0 (isub IntKind.i64 i_4 1)=true/\ilt (isub IntKind.i64 i_4 1) k=true/\True)/\ja0 (bnot (g (isub IntKind.i64 i_4 1)).11) (True/\True/\V [XV.c (CV.v (Value.int .i64 16))] []) (ja0 (ieq (s.13 i).1 2) (∀(i:Int),i=k->True/\ja0 (ige i 64) (True/\True/\V [XV.c (CV.v (Value.int .i64 17))] []) (True/\True/\V [XV.c (CV.v (Value.int .i64 0))] [])) (True/\True/\True/\V [XV.c (CV.v (Value.int .i64 0))] [])))) (True/\ja0 (ieq (s.13 i).1 2) (∀(i:Int),i=k->True/\ja0 (ige i 64) (True/\True/\V [XV.c (CV.v (Value.int .i64 17))] []) (True/\True/\V [XV.c (CV.v (Value.int .i64 0))] [])) (True/\True/\True/\V [XV.c (CV.v (Value.int .i64 0))] []))) (True/\ja0 (ieq (s.13 i).1 2) (∀(i:Int),i=k->True/\ja0 (ige i 64) (True/\True/\V [XV.c (CV.v (Value.int .i64 17))] []) (True/\True/\V [XV.c (CV.v (Value.int .i64 0))] [])) (True/\True/\True/\V [XV.c (CV.v (Value.int .i64 0))] []))))))))))))))))))):=by
 try delta vj5
 try delta q53
 try delta ji6
 try delta qh0
 try delta jp0
 try delta jo9
 try delta jt6
 generalize @jg4=jg4
 generalize @smOk=smOk
 generalize @smV=smV
 generalize @uzB=uzB
 kernel_rfl
end Go.Proofs.YthkidembkknoeaaDoor
