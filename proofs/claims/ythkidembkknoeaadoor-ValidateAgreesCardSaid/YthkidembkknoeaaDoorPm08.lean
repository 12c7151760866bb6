import Derived.Test.YthkidembkknoeaaDoorPm07
import Derived.Test.YthkidembkknoeaaDoorPm06
namespace Go.Proofs.YthkidembkknoeaaDoor
open Go.RowKit PR QR
set_option linter.unusedVariables false
def qg8:List AV->Option QR.Ans
 | [.x (.c (.v (.int .i64 w))),.x (.c (.v (.int .i64 h)))]=>some ⟨[.c (.v (.bool (fitB w h)))],[],[in64 w=true,in64 h=true]⟩
 | _=>none
def ji7:List AV->Option QR.Ans
 | [.x (.agg [.v (.int .i64 w),.v (.int .i64 h),.v (.int .i64 s),c])]=>match jf4 1 c with
  | some (n,r)=>some ⟨[.c (.v (.bool (plB w h s n)))],[],[intRow .u16 1 n r,ile 0 n=true,in64 w=true,in64 h=true,in64 s=true]⟩
  | none=>none
 | _=>none
set_option maxRecDepth 100000 in
theorem ym5 (w h:Int) (V:List QR.XV->List (List QR.CV)->Prop):QR.ja5 Tryd.prog (QR.orc []) (QR.ja4) (Tryd.f61.body.getD .skip) Tryd.f61.results.toList Tryd.f61.ntmps [.x (.c (.v (.int .i64 w))),.x (.c (.v (.int .i64 h)))] V=(True/\ja0 (ige w 1) (ja0 (ige h 1) (ja0 (ile w 16777216) ((ine w 0=true/\True)/\True/\V [XV.c (CV.v (Value.bool (ile h (iquo IntKind.i64 16777216 w))))] []) (True/\True/\V [XV.c (CV.v (Value.bool false))] [])) (True/\True/\V [XV.c (CV.v (Value.bool false))] [])) (True/\True/\V [XV.c (CV.v (Value.bool false))] [])):=by
 kernel_rfl
def y00:QR.ja8:=QR.orc [(61,qg8)]
set_option maxRecDepth 100000 in
theorem y01 (w h s n:Int) (l:Int->Nat->Int) (V:List QR.XV->List (List QR.CV)->Prop):QR.ja5 Tryd.prog (y00) (QR.ja4) (Tryd.f80.body.getD .skip) Tryd.f80.results.toList Tryd.f80.ntmps [.x (.agg [.v (.int .i64 w),.v (.int .i64 h),.v (.int .i64 s),.slc 1 n (.fn λ i j=>.v (.int .u16 (l i j)))])] V=(True/\ja0 (fitB w h) (ja0 (ige s w) (ja0 (ile s 16777216) (∀(i:Int),i=n->(in64 w=true/\in64 h=true/\True)/\True/\V [XV.c (CV.v (Value.bool (ige i (iadd IntKind.i64 (imul IntKind.i64 (isub IntKind.i64 h 1) s) w))))] []) ((in64 w=true/\in64 h=true/\True)/\True/\V [XV.c (CV.v (Value.bool false))] [])) ((in64 w=true/\in64 h=true/\True)/\True/\V [XV.c (CV.v (Value.bool false))] [])) ((in64 w=true/\in64 h=true/\True)/\True/\V [XV.c (CV.v (Value.bool false))] [])):=by
 try delta y00
 try delta qg8
 generalize @fitB=fitB
 generalize @in64=in64
 kernel_rfl
def vu9:QR.ja8:=QR.orc [(80,ji7)]
end Go.Proofs.YthkidembkknoeaaDoor
namespace Go.Proofs.YthkidembkknoeaaDoor
open Go.RowKit PR QR
set_option linter.unusedVariables false
def rtiV (j:Nat) (a b c d:Int):Int:=r4G j (r4T ⟨a,b,c,d⟩)
def jx6 (a:Int):Bool:=decide (-1073741824<=a/\a<=1073741824)
def q44:List AV->Option QR.Ans
 | [.x (.c (.v (.int .i64 a)))]=>some ⟨[.c (.v (.bool (jx6 a)))],[],[]⟩
 | _=>none
def jp1:List AV->Option QR.Ans
 | [.x (.agg [.v (.int .i64 a),.v (.int .i64 b),.v (.int .i64 c),.v (.int .i64 d)])]=>some ⟨[.c (.v (.bool (rvB a b c d)))],[],[]⟩
 | _=>none
def jh5:List AV->Option QR.Ans
 | [.x (.agg [.v (.int .i64 a),.v (.int .i64 b),.v (.int .i64 c),.v (.int .i64 d)])]=>some ⟨[.c (.v (.bool (reB a b c d)))],[],[]⟩
 | _=>none
def jv7:List AV->Option QR.Ans
 | [.x (.agg [.v (.int .i64 a),.v (.int .i64 b),.v (.int .i64 c),.v (.int .i64 d)])]=>some ⟨[.c (.v (.int .i64 (raV a b c d)))],[],[]⟩
 | _=>none
def q45:List AV->Option QR.Ans
 | [.x (.agg [.v (.int .i64 a),.v (.int .i64 b),.v (.int .i64 c),.v (.int .i64 d)])]=>some ⟨[.agg [.v (.int .i64 (rtiV 0 a b c d)),.v (.int .i64 (rtiV 1 a b c d)),.v (.int .i64 (rtiV 2 a b c d)),.v (.int .i64 (rtiV 3 a b c d))]],[],[]⟩
 | _=>none
def ya6:QR.ja8:=QR.orc [(84,q44)]
def ya7:QR.ja8:=QR.orc [(78,jp1)]
def o_re:QR.ja8:=QR.orc [(58,jh5)]
set_option maxRecDepth 100000 in
theorem ym0 (a:Int) (V:List QR.XV->List (List QR.CV)->Prop):QR.ja5 Tryd.prog (QR.orc []) (QR.ja4) (Tryd.f84.body.getD .skip) Tryd.f84.results.toList Tryd.f84.ntmps [.x (.c (.v (.int .i64 a)))] V=(True/\ja0 (ile (-1073741824) a) (True/\True/\V [XV.c (CV.v (Value.bool (ile a 1073741824)))] []) (True/\True/\V [XV.c (CV.v (Value.bool false))] [])):=by
 kernel_rfl
set_option maxRecDepth 100000 in
theorem vu8 (a b c d:Int) (V:List QR.XV->List (List QR.CV)->Prop):QR.ja5 Tryd.prog (ya6) (QR.ja4) (Tryd.f78.body.getD .skip) Tryd.f78.results.toList Tryd.f78.ntmps [.x (.agg [.v (.int .i64 a),.v (.int .i64 b),.v (.int .i64 c),.v (.int .i64 d)])] V=(True/\ja0 (jx6 a) (ja0 (jx6 b) (ja0 (jx6 c) (True/\True/\V [XV.c (CV.v (Value.bool (jx6 d)))] []) (True/\True/\V [XV.c (CV.v (Value.bool false))] [])) (True/\True/\V [XV.c (CV.v (Value.bool false))] [])) (True/\True/\V [XV.c (CV.v (Value.bool false))] [])):=by
 try delta ya6
 try delta q44
 generalize @jx6=jx6
 kernel_rfl
set_option maxRecDepth 100000 in
theorem ya8 (a b c d:Int) (V:List QR.XV->List (List QR.CV)->Prop):QR.ja5 Tryd.prog (ya7) (QR.ja4) (Tryd.f58.body.getD .skip) Tryd.f58.results.toList Tryd.f58.ntmps [.x (.agg [.v (.int .i64 a),.v (.int .i64 b),.v (.int .i64 c),.v (.int .i64 d)])] V=(True/\ja0 (bnot (rvB a b c d)) (True/\True/\V [XV.c (CV.v (Value.bool true))] []) (ja0 (ige a c) (True/\True/\V [XV.c (CV.v (Value.bool true))] []) (True/\True/\V [XV.c (CV.v (Value.bool (ige b d)))] []))):=by
 try delta ya7
 try delta jp1
 generalize @rvB=rvB
 kernel_rfl
set_option maxRecDepth 100000 in
theorem ym1 (a b c d:Int) (V:List QR.XV->List (List QR.CV)->Prop):QR.ja5 Tryd.prog (o_re) (QR.ja4) (Tryd.f56.body.getD .skip) Tryd.f56.results.toList Tryd.f56.ntmps [.x (.agg [.v (.int .i64 a),.v (.int .i64 b),.v (.int .i64 c),.v (.int .i64 d)])] V=(True/\True/\ja0 (reB a b c d) (True/\True/\V [XV.c (CV.v (Value.int .i64 0))] []) (True/\True/\V [XV.c (CV.v (Value.int .i64 (imul IntKind.i64 (isub IntKind.i64 c a) (isub IntKind.i64 d b))))] [])):=by
 try delta o_re
 try delta jh5
 generalize @reB=reB
 kernel_rfl
def yz4:QR.ja8:=QR.orc [(65,jp1)]
def o_fe:QR.ja8:=QR.orc [(37,jh5)]
def vi6:QR.ja8:=QR.orc [(66,q45)]
set_option maxRecDepth 100000 in
theorem ya9 (a b c d:Int) (V:List QR.XV->List (List QR.CV)->Prop):QR.ja5 Tryd.prog (QR.orc []) (QR.ja4) (Tryd.f65.body.getD .skip) Tryd.f65.results.toList Tryd.f65.ntmps [.x (.agg [.v (.int .i64 a),.v (.int .i64 b),.v (.int .i64 c),.v (.int .i64 d)])] V=(True/\ja0 (ige a (-1073741824)) (ja0 (ile a 1073741824) (ja0 (ige b (-1073741824)) (ja0 (ile b 1073741824) (ja0 (ige c (-1073741824)) (ja0 (ile c 1073741824) (ja0 (ige d (-1073741824)) (True/\True/\V [XV.c (CV.v (Value.bool (ile d 1073741824)))] []) (True/\True/\V [XV.c (CV.v (Value.bool false))] [])) (True/\True/\V [XV.c (CV.v (Value.bool false))] [])) (True/\True/\V [XV.c (CV.v (Value.bool false))] [])) (True/\True/\V [XV.c (CV.v (Value.bool false))] [])) (True/\True/\V [XV.c (CV.v (Value.bool false))] [])) (True/\True/\V [XV.c (CV.v (Value.bool false))] [])) (True/\True/\V [XV.c (CV.v (Value.bool false))] [])):=by
 kernel_rfl
set_option maxRecDepth 100000 in
theorem yb0 (a b c d:Int) (V:List QR.XV->List (List QR.CV)->Prop):QR.ja5 Tryd.prog (yz4) (QR.ja4) (Tryd.f37.body.getD .skip) Tryd.f37.results.toList Tryd.f37.ntmps [.x (.agg [.v (.int .i64 a),.v (.int .i64 b),.v (.int .i64 c),.v (.int .i64 d)])] V=(True/\ja0 (bnot (rvB a b c d)) (True/\True/\V [XV.c (CV.v (Value.bool true))] []) (ja0 (ige a c) (True/\True/\V [XV.c (CV.v (Value.bool true))] []) (True/\True/\V [XV.c (CV.v (Value.bool (ige b d)))] []))):=by
 try delta yz4
 try delta jp1
 generalize @rvB=rvB
 kernel_rfl
set_option maxRecDepth 100000 in
theorem ym2 (a b c d:Int) (V:List QR.XV->List (List QR.CV)->Prop):QR.ja5 Tryd.prog (o_fe) (QR.ja4) (Tryd.f66.body.getD .skip) Tryd.f66.results.toList Tryd.f66.ntmps [.x (.agg [.v (.int .i64 a),.v (.int .i64 b),.v (.int .i64 c),.v (.int .i64 d)])] V=(True/\True/\ja0 (reB a b c d) (True/\True/\V [XV.agg [CV.v (Value.int .i64 0),CV.v (Value.int .i64 0),CV.v (Value.int .i64 0),CV.v (Value.int .i64 0)]] []) (True/\True/\V [XV.agg [CV.v (Value.int .i64 a),CV.v (Value.int .i64 b),CV.v (Value.int .i64 c),CV.v (Value.int .i64 d)]] [])):=by
 try delta o_fe
 try delta jh5
 generalize @reB=reB
 kernel_rfl
set_option maxRecDepth 100000 in
theorem ym3 (a b c d:Int) (V:List QR.XV->List (List QR.CV)->Prop):QR.ja5 Tryd.prog (vi6) (QR.ja4) (Tryd.f38.body.getD .skip) Tryd.f38.results.toList Tryd.f38.ntmps [.x (.agg [.v (.int .i64 a),.v (.int .i64 b),.v (.int .i64 c),.v (.int .i64 d)])] V=(True/\∀(i:Int),i=rtiV 0 a b c d->∀(i_1:Int),i_1=rtiV 1 a b c d->∀(i_2:Int),i_2=rtiV 2 a b c d->∀(i_3:Int),i_3=rtiV 3 a b c d->True/\True/\True/\V [XV.c (CV.v (Value.int .i64 (imul IntKind.i64 (isub IntKind.i64 i_2 i) (isub IntKind.i64 i_3 i_1))))] []):=by
 try delta vi6
 try delta q45
 generalize @rtiV=rtiV
 kernel_rfl
end Go.Proofs.YthkidembkknoeaaDoor
namespace Go.Proofs.YthkidembkknoeaaDoor.QR
open Go.RowKit PR
set_option linter.unusedVariables false
set_option linter.unusedSimpArgs false
def yc2 (U:Nat) (blocks:List (Nat×Blk)) (ρ:Nat->Nat):Bool:=blocks.all λ p=>bif Nat.ble PN p.1 then (bif Nat.ble (PN + U) p.1 then true else Nat.beq (ρ p.1) p.1) else true
def pinK (U:Nat) (I:Inv) (k:Ex->PSt->Prop):Ex->PSt->Prop:=λ e s=>match e with
 | .normal=>s.ok/\∃i,I.good i/\yc2 U (I.blocks i) (rho (rename s (I.slots i) (I.blocks i)))=true/\qp3 I s i (rho (rename s (I.slots i) (I.blocks i)))
 | .exit m=>k (.exit m) s
 | .ret=>k .ret s
structure CfgK where
 L:Nat->Option Ann
 J:Nat->Option Inl
 JT:Nat->Option Inl
 JP:Nat->Option Inv
 U:Nat
section
variable {P:Program} {O:ja8} {base:Nat} {X F0:Nat->Prop} {B:Nat->(Nat×Value)×Bool}
theorem yc3 {U:Nat} {I:Inv} {k:Ex->PSt->Prop} (hk:∀e s,k e s->s.ok):∀e s,pinK U I k e s->s.ok:=by
 intro e s he
 cases e with
 | normal=>exact he.1
 | exit m=>exact hk _ _ he
 | ret=>exact hk _ _ he
theorem yc4 {U:Nat} {I:Inv} {s:PSt} {i:I.ι} {a:Act} {w:World} (hNF:nf B) (hs:yc2 U (I.blocks i) (rho (rename s (I.slots i) (I.blocks i)))=true) (hm:qp3 I s i (rho (rename s (I.slots i) (I.blocks i)))) (gen:Nat) (R:Rel base X F0 B s a w) :
  ∃B',agree U B' B/\nf B'/\Rel base X F0 B' (ist I i gen) a w:=by
 obtain ⟨E,R⟩:=R
 let ρ:=rho (rename s (I.slots i) (I.blocks i))
 let B':Nat->(Nat×Value)×Bool:=λ m=>if PN + U<=m then ((E.β (ρ m),E.ν (ρ m)),false) else B m
 have hBB:agree U B' B:=λ m hm=>if_neg (by omega)
 have hN':nf B':=λ m=>by
  show (if PN + U<=m then ((E.β (ρ m),E.ν (ρ m)),false) else B m).2=false
  split
  ·rfl
  ·exact hNF m
 obtain ⟨E',_,_,R'⟩:=Inv.relE (I:=I) (i:=i) (yw7 _) hm gen R (B':=B') hN' λ m b hb hP=>by
  by_cases h1:PN + U<=m
  ·have e:B' m=((E.β (ρ m),E.ν (ρ m)),false):=if_pos h1
   rw [e];exact ⟨rfl,rfl⟩
  ·have hmem:=jn6 hb
   have hs:=List.all_eq_true.1 hs _ hmem
   rw [show Nat.ble PN m=true from vh4 hP,cond_true] at hs
   have h2:Nat.ble (PN + U) m=false:=by
    cases h:Nat.ble (PN + U) m
    ·rfl
    ·exact absurd (jy2 h) h1
   rw [h2,cond_false] at hs
   have e':ρ m=m:=Nat.eq_of_beq_eq_true hs
   have hB:=qp2 hm.2.2 _ hmem
   show E.β (ρ m)=(B' m).1.1/\E.ν (ρ m)=(B' m).1.2
   rw [e',hBB m (by omega)]
   refine R.pin m (Or.inl hP) ?_
   have hB:leB _ (s.mem (ρ m)) b:=hB
   rw [e'] at hB
   cases hs:s.mem m with
   | none=>rw [hs] at hB;cases b <;> exact hB.elim
   | some b0=>rfl
 exact ⟨B',hBB,hN',E',R'⟩
structure CfgKOK (P:Program) (C:CfgK) (T:Nat):Prop where
 J:∀n c,C.J n=some c->qg3 P c/\GB<=c.T
 JT:∀n c,C.JT n=some c->qg3 P c/\T<=c.T
 JP:(∀n,C.JP n=none)\/T<=C.U
end
section
variable {P:Program} {O:ja8}
theorem ym8 (hO:je9 P O) (hm:P.follows .mixedOrders=true) (L:Nat->Option Ann) {J':Nat->Option Inl} (hJ:∀n c,J' n=some c->qg3 P c/\GB<=c.T) {j:Nat} {f:FuncId} {fn:Func} (hf:P.funcs[f]?=some fn) (hn:(fn.name == "runtime.NumGoroutine")=false) (hb:fn.body=some (fn.body.getD .skip)) :
  qg3 P ⟨j,GB,f,fn.ntmps,fn.results.toList,jc1 P O L J' (fn.body.getD .skip)⟩/\GB<=(⟨j,GB,f,fn.ntmps,fn.results.toList,jc1 P O L J' (fn.body.getD .skip)⟩:Inl).T :=
 ⟨⟨fn,_,hf,hn,hb,rfl,rfl,jg2 hO hm L hJ GB _,λ h=>absurd h (show ¬ GB=FLT by decide)⟩,Nat.le_refl _⟩
end
end Go.Proofs.YthkidembkknoeaaDoor.QR
