import Derived.Test.YthkidembkknoeaaDoorPk07
namespace Go.Proofs.YthkidembkknoeaaDoor.QR
open Go.RowKit PR
set_option linter.unusedVariables false
set_option linter.unusedSimpArgs false
def v96 (U:Nat) (blocks:List (Nat×Blk)) (ρ:Nat→Nat):Bool:=blocks.all fun p=>bif Nat.ble PN p.1 then (bif Nat.ble (PN + U) p.1 then true else Nat.beq (ρ p.1) p.1) else true
def pinK (U:Nat) (I:Inv) (k:Ex→PSt→Prop):Ex→PSt→Prop:=fun e s=>match e with
  | .normal=>s.ok∧∃i,I.good i∧v96 U (I.blocks i) (rho (rename s (I.slots i) (I.blocks i)))=true∧qo3 I s i (rho (rename s (I.slots i) (I.blocks i)))
  | .exit m=>k (.exit m) s
  | .ret=>k .ret s
structure CfgK where
  L:Nat→Option Ann
  J:Nat→Option Inl
  JT:Nat→Option Inl
  JP:Nat→Option Inv
  U:Nat
section
variable {P:Program} {O:ja7} {base:Nat} {X F0:Nat→Prop} {B:Nat→(Nat×Value)×Bool}
theorem v97 {U:Nat} {I:Inv} {k:Ex→PSt→Prop} (hk:∀e s,k e s→s.ok):∀e s,pinK U I k e s→s.ok:=by
  intro e s he
  cases e with
  | normal=>exact he.1
  | exit m=>exact hk _ _ he
  | ret=>exact hk _ _ he
theorem v98 {U:Nat} {I:Inv} {s:PSt} {i:I.ι} {a:Act} {w:World} (hNF:nf B) (hs:v96 U (I.blocks i) (rho (rename s (I.slots i) (I.blocks i)))=true) (hm:qo3 I s i (rho (rename s (I.slots i) (I.blocks i)))) (gen:Nat) (R:Rel base X F0 B s a w) :
    ∃B',agree U B' B∧nf B'∧Rel base X F0 B' (ist I i gen) a w:=by
  obtain ⟨E,R⟩:=R
  let ρ:=rho (rename s (I.slots i) (I.blocks i))
  let B':Nat→(Nat×Value)×Bool:=fun m=>if PN + U≤m then ((E.β (ρ m),E.ν (ρ m)),false) else B m
  have hBB:agree U B' B:=fun m hm=>if_neg (by omega)
  have hN':nf B':=fun m=>by
    show (if PN + U≤m then ((E.β (ρ m),E.ν (ρ m)),false) else B m).2=false
    split
    · rfl
    · exact hNF m
  obtain ⟨E',_,_,R'⟩:=Inv.relE (I:=I) (i:=i) (yu0 _) hm gen R (B':=B') hN' fun m b hb hP=>by
    by_cases h1:PN + U≤m
    · have e:B' m=((E.β (ρ m),E.ν (ρ m)),false):=if_pos h1
      rw [e];exact ⟨rfl,rfl⟩
    · have hmem:=jn2 hb
      have hs:=List.all_eq_true.1 hs _ hmem
      rw [show Nat.ble PN m=true from vg8 hP,cond_true] at hs
      have h2:Nat.ble (PN + U) m=false:=by
        cases h:Nat.ble (PN + U) m
        · rfl
        · exact absurd (jy3 h) h1
      rw [h2,cond_false] at hs
      have e':ρ m=m:=Nat.eq_of_beq_eq_true hs
      have hB:=qo2 hm.2.2 _ hmem
      show E.β (ρ m)=(B' m).1.1∧E.ν (ρ m)=(B' m).1.2
      rw [e',hBB m (by omega)]
      refine R.pin m (Or.inl hP) ?_
      have hB:leB _ (s.mem (ρ m)) b:=hB
      rw [e'] at hB
      cases hs:s.mem m with
      | none=>rw [hs] at hB;cases b <;> exact hB.elim
      | some b0=>rfl
  exact ⟨B',hBB,hN',E',R'⟩
structure CfgKOK (P:Program) (C:CfgK) (T:Nat):Prop where
  J:∀n c,C.J n=some c→qf9 P c∧GB≤c.T
  JT:∀n c,C.JT n=some c→qf9 P c∧T≤c.T
  JP:(∀n,C.JP n=none)∨T≤C.U
end
section
variable {P:Program} {O:ja7}
theorem yj8 (hO:je9 P O) (hm:P.follows .mixedOrders=true) (L:Nat→Option Ann) {J':Nat→Option Inl} (hJ:∀n c,J' n=some c→qf9 P c∧GB≤c.T) {j:Nat} {f:FuncId} {fn:Func} (hf:P.funcs[f]?=some fn) (hn:(fn.name == "runtime.NumGoroutine")=false) (hb:fn.body=some (fn.body.getD .skip)) :
    qf9 P ⟨j,GB,f,fn.ntmps,fn.results.toList,jc0 P O L J' (fn.body.getD .skip)⟩∧GB≤(⟨j,GB,f,fn.ntmps,fn.results.toList,jc0 P O L J' (fn.body.getD .skip)⟩:Inl).T :=
  ⟨⟨fn,_,hf,hn,hb,rfl,rfl,jf8 hO hm L hJ GB _,fun h=>absurd h (show ¬ GB=FLT by decide)⟩,Nat.le_refl _⟩
end
end Go.Proofs.YthkidembkknoeaaDoor.QR
