import Derived.Test.YthkidembkknoeaaDoorPl07
import Derived.Test.YthkidembkknoeaaDoorPl06
namespace Go.Proofs.YthkidembkknoeaaDoor
open Go.RowKit PR QR
set_option linter.unusedVariables false
def jv8 (a:Int):Bool:=decide (-1073741824<=a/\a<=1073741824)
def qz8:List AV->Option QR.Ans
 | [.x (.c (.v (.int .i64 a)))]=>some ⟨[.c (.v (.bool (jv8 a)))],[],[]⟩
 | _=>none
def jn7:List AV->Option QR.Ans
 | [.x (.agg [.v (.int .i64 a),.v (.int .i64 b),.v (.int .i64 c),.v (.int .i64 d)])]=>some ⟨[.c (.v (.bool (rvB a b c d)))],[],[]⟩
 | _=>none
def jk5:List AV->Option QR.Ans
 | [.x (.agg [.v (.int .i64 a),.v (.int .i64 b),.v (.int .i64 c),.v (.int .i64 d)])]=>some ⟨[.c (.v (.bool (reB a b c d)))],[],[]⟩
 | _=>none
def qz9:List AV->Option QR.Ans
 | [.x (.agg [.v (.int .i64 a),.v (.int .i64 b),.v (.int .i64 c),.v (.int .i64 d)])]=>some ⟨[.c (.v (.int .i64 (raV a b c d)))],[],[]⟩
 | _=>none
def vx7:QR.ja7:=QR.orc [(84,qz8)]
def vx8:QR.ja7:=QR.orc [(78,jn7)]
def o_re:QR.ja7:=QR.orc [(58,jk5)]
set_option maxRecDepth 100000 in
theorem yf8 (a:Int) (V:List QR.XV->List (List QR.CV)->Prop):QR.ja9 Tryd.prog (QR.orc []) (QR.ja4) (Tryd.f84.body.getD .skip) Tryd.f84.results.toList Tryd.f84.ntmps [.x (.c (.v (.int .i64 a)))] V=(True/\ja0 (ile (-1073741824) a) (True/\True/\V [XV.c (CV.v (Value.bool (ile a 1073741824)))] []) (True/\True/\V [XV.c (CV.v (Value.bool false))] [])):=by
 kernel_rfl
set_option maxRecDepth 100000 in
theorem vp7 (a b c d:Int) (V:List QR.XV->List (List QR.CV)->Prop):QR.ja9 Tryd.prog (vx7) (QR.ja4) (Tryd.f78.body.getD .skip) Tryd.f78.results.toList Tryd.f78.ntmps [.x (.agg [.v (.int .i64 a),.v (.int .i64 b),.v (.int .i64 c),.v (.int .i64 d)])] V=(True/\ja0 (jv8 a) (ja0 (jv8 b) (ja0 (jv8 c) (True/\True/\V [XV.c (CV.v (Value.bool (jv8 d)))] []) (True/\True/\V [XV.c (CV.v (Value.bool false))] [])) (True/\True/\V [XV.c (CV.v (Value.bool false))] [])) (True/\True/\V [XV.c (CV.v (Value.bool false))] [])):=by
 try delta vx7
 try delta qz8
 generalize @jv8=jv8
 kernel_rfl
set_option maxRecDepth 100000 in
theorem vx9 (a b c d:Int) (V:List QR.XV->List (List QR.CV)->Prop):QR.ja9 Tryd.prog (vx8) (QR.ja4) (Tryd.f58.body.getD .skip) Tryd.f58.results.toList Tryd.f58.ntmps [.x (.agg [.v (.int .i64 a),.v (.int .i64 b),.v (.int .i64 c),.v (.int .i64 d)])] V=(True/\ja0 (bnot (rvB a b c d)) (True/\True/\V [XV.c (CV.v (Value.bool true))] []) (ja0 (ige a c) (True/\True/\V [XV.c (CV.v (Value.bool true))] []) (True/\True/\V [XV.c (CV.v (Value.bool (ige b d)))] []))):=by
 try delta vx8
 try delta jn7
 generalize @rvB=rvB
 kernel_rfl
set_option maxRecDepth 100000 in
theorem yf9 (a b c d:Int) (V:List QR.XV->List (List QR.CV)->Prop):QR.ja9 Tryd.prog (o_re) (QR.ja4) (Tryd.f56.body.getD .skip) Tryd.f56.results.toList Tryd.f56.ntmps [.x (.agg [.v (.int .i64 a),.v (.int .i64 b),.v (.int .i64 c),.v (.int .i64 d)])] V=(True/\True/\ja0 (reB a b c d) (True/\True/\V [XV.c (CV.v (Value.int .i64 0))] []) (True/\True/\V [XV.c (CV.v (Value.int .i64 (imul IntKind.i64 (isub IntKind.i64 c a) (isub IntKind.i64 d b))))] [])):=by
 try delta o_re
 try delta jk5
 generalize @reB=reB
 kernel_rfl
def ys5:QR.ja7:=QR.orc [(65,jn7)]
set_option maxRecDepth 100000 in
theorem vy0 (a b c d:Int) (V:List QR.XV->List (List QR.CV)->Prop):QR.ja9 Tryd.prog (QR.orc []) (QR.ja4) (Tryd.f65.body.getD .skip) Tryd.f65.results.toList Tryd.f65.ntmps [.x (.agg [.v (.int .i64 a),.v (.int .i64 b),.v (.int .i64 c),.v (.int .i64 d)])] V=(True/\ja0 (ige a (-1073741824)) (ja0 (ile a 1073741824) (ja0 (ige b (-1073741824)) (ja0 (ile b 1073741824) (ja0 (ige c (-1073741824)) (ja0 (ile c 1073741824) (ja0 (ige d (-1073741824)) (True/\True/\V [XV.c (CV.v (Value.bool (ile d 1073741824)))] []) (True/\True/\V [XV.c (CV.v (Value.bool false))] [])) (True/\True/\V [XV.c (CV.v (Value.bool false))] [])) (True/\True/\V [XV.c (CV.v (Value.bool false))] [])) (True/\True/\V [XV.c (CV.v (Value.bool false))] [])) (True/\True/\V [XV.c (CV.v (Value.bool false))] [])) (True/\True/\V [XV.c (CV.v (Value.bool false))] [])) (True/\True/\V [XV.c (CV.v (Value.bool false))] [])):=by
 kernel_rfl
set_option maxRecDepth 100000 in
theorem vy1 (a b c d:Int) (V:List QR.XV->List (List QR.CV)->Prop):QR.ja9 Tryd.prog (ys5) (QR.ja4) (Tryd.f37.body.getD .skip) Tryd.f37.results.toList Tryd.f37.ntmps [.x (.agg [.v (.int .i64 a),.v (.int .i64 b),.v (.int .i64 c),.v (.int .i64 d)])] V=(True/\ja0 (bnot (rvB a b c d)) (True/\True/\V [XV.c (CV.v (Value.bool true))] []) (ja0 (ige a c) (True/\True/\V [XV.c (CV.v (Value.bool true))] []) (True/\True/\V [XV.c (CV.v (Value.bool (ige b d)))] []))):=by
 try delta ys5
 try delta jn7
 generalize @rvB=rvB
 kernel_rfl
end Go.Proofs.YthkidembkknoeaaDoor
namespace Go.Proofs.YthkidembkknoeaaDoor.QR
open Go.RowKit PR
set_option linter.unusedVariables false
set_option linter.unusedSimpArgs false
def vz2 (U:Nat) (blocks:List (Nat×Blk)) (ρ:Nat->Nat):Bool:=blocks.all λ p=>bif Nat.ble PN p.1 then (bif Nat.ble (PN + U) p.1 then true else Nat.beq (ρ p.1) p.1) else true
def pinK (U:Nat) (I:Inv) (k:Ex->PSt->Prop):Ex->PSt->Prop:=λ e s=>match e with
 | .normal=>s.ok/\∃i,I.good i/\vz2 U (I.blocks i) (rho (rename s (I.slots i) (I.blocks i)))=true/\qm7 I s i (rho (rename s (I.slots i) (I.blocks i)))
 | .exit m=>k (.exit m) s
 | .ret=>k .ret s
structure CfgK where
 L:Nat->Option Ann
 J:Nat->Option Inl
 JT:Nat->Option Inl
 JP:Nat->Option Inv
 U:Nat
section
variable {P:Program} {O:ja7} {base:Nat} {X F0:Nat->Prop} {B:Nat->(Nat×Value)×Bool}
theorem vz3 {U:Nat} {I:Inv} {k:Ex->PSt->Prop} (hk:∀e s,k e s->s.ok):∀e s,pinK U I k e s->s.ok:=by
 intro e s he
 cases e with
 | normal=>exact he.1
 | exit m=>exact hk _ _ he
 | ret=>exact hk _ _ he
theorem vz4 {U:Nat} {I:Inv} {s:PSt} {i:I.ι} {a:Act} {w:World} (hNF:nf B) (hs:vz2 U (I.blocks i) (rho (rename s (I.slots i) (I.blocks i)))=true) (hm:qm7 I s i (rho (rename s (I.slots i) (I.blocks i)))) (gen:Nat) (R:Rel base X F0 B s a w) :
  ∃B',agree U B' B/\nf B'/\Rel base X F0 B' (ist I i gen) a w:=by
 obtain ⟨E,R⟩:=R
 let ρ:=rho (rename s (I.slots i) (I.blocks i))
 let B':Nat->(Nat×Value)×Bool:=λ m=>if PN + U<=m then ((E.β (ρ m),E.ν (ρ m)),false) else B m
 have hBB:agree U B' B:=λ m hm=>if_neg (by omega)
 have hN':nf B':=λ m=>by
  show (if PN + U<=m then ((E.β (ρ m),E.ν (ρ m)),false) else B m).2=false
  split
  ·rfl
  ·exact hNF m
 obtain ⟨E',_,_,R'⟩:=Inv.relE (I:=I) (i:=i) (yq0 _) hm gen R (B':=B') hN' λ m b hb hP=>by
  by_cases h1:PN + U<=m
  ·have e:B' m=((E.β (ρ m),E.ν (ρ m)),false):=if_pos h1
   rw [e];exact ⟨rfl,rfl⟩
  ·have hmem:=jm4 hb
   have hs:=List.all_eq_true.1 hs _ hmem
   rw [show Nat.ble PN m=true from vd9 hP,cond_true] at hs
   have h2:Nat.ble (PN + U) m=false:=by
    cases h:Nat.ble (PN + U) m
    ·rfl
    ·exact absurd (jw3 h) h1
   rw [h2,cond_false] at hs
   have e':ρ m=m:=Nat.eq_of_beq_eq_true hs
   have hB:=qm6 hm.2.2 _ hmem
   show E.β (ρ m)=(B' m).1.1/\E.ν (ρ m)=(B' m).1.2
   rw [e',hBB m (by omega)]
   refine R.pin m (Or.inl hP) ?_
   have hB:leB _ (s.mem (ρ m)) b:=hB
   rw [e'] at hB
   cases hs:s.mem m with
   | none=>rw [hs] at hB;cases b <;> exact hB.elim
   | some b0=>rfl
 exact ⟨B',hBB,hN',E',R'⟩
structure CfgKOK (P:Program) (C:CfgK) (T:Nat):Prop where
 J:∀n c,C.J n=some c->qe3 P c/\GB<=c.T
 JT:∀n c,C.JT n=some c->qe3 P c/\T<=c.T
 JP:(∀n,C.JP n=none)\/T<=C.U
end
section
variable {P:Program} {O:ja7}
theorem yg5 (hO:je7 P O) (hm:P.follows .mixedOrders=true) (L:Nat->Option Ann) {J':Nat->Option Inl} (hJ:∀n c,J' n=some c->qe3 P c/\GB<=c.T) {j:Nat} {f:FuncId} {fn:Func} (hf:P.funcs[f]?=some fn) (hn:(fn.name == "runtime.NumGoroutine")=false) (hb:fn.body=some (fn.body.getD .skip)) :
  qe3 P ⟨j,GB,f,fn.ntmps,fn.results.toList,jb7 P O L J' (fn.body.getD .skip)⟩/\GB<=(⟨j,GB,f,fn.ntmps,fn.results.toList,jb7 P O L J' (fn.body.getD .skip)⟩:Inl).T :=
 ⟨⟨fn,_,hf,hn,hb,rfl,rfl,jf5 hO hm L hJ GB _,λ h=>absurd h (show ¬ GB=FLT by decide)⟩,Nat.le_refl _⟩
end
end Go.Proofs.YthkidembkknoeaaDoor.QR
