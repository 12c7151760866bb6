import Derived.Test.YthkidembkknoeaaDoorPm18
import Derived.Test.YthkidembkknoeaaDoorPm15
import Derived.Test.YthkidembkknoeaaDoorPm08
import Derived.Test.YthkidembkknoeaaDoorPm13
import Derived.OwnWalkIn
import Derived.TacticsInMore
import Derived.Test.YthkidembkknoeaaDoorPm11
import Derived.Test.YthkidembkknoeaaDoorPm14
import Derived.Test.YthkidembkknoeaaDoorPm10
import Derived.Test.YthkidembkknoeaaDoorPm12
namespace Go.Proofs.YthkidembkknoeaaDoor
open Go.RowKit PR
set_option linter.unusedVariables false
def opB (k:Int):Bool:=decide (1<=k/\k<=12)
section
variable {k a b m:Int}
theorem q43 (h:1<=k/\k<=12):k=1\/k=2\/k=3\/k=4\/k=5\/k=6\/k=7\/k=8\/k=9\/k=10\/k=11\/k=12:=by omega
end
end Go.Proofs.YthkidembkknoeaaDoor
namespace Go.Proofs.YthkidembkknoeaaDoor
open Go.RowKit PR QR
set_option linter.unusedVariables false
def qk4 (m:Int):ByteArray:=if m=1 then bs [99,108,101,97,114] else if m=2 then bs [115,114,99] else if m=3 then bs [100,115,116] else if m=4 then bs [115,114,99,45,111,118,101,114] else if m=5 then bs [100,115,116,45,111,118,101,114] else if m=6 then bs [115,114,99,45,105,110] else if m=7 then bs [100,115,116,45,105,110] else if m=8 then bs [115,114,99,45,111,117,116] else if m=9 then bs [100,115,116,45,111,117,116] else if m=10 then bs [115,114,99,45,97,116,111,112] else if m=11 then bs [100,115,116,45,97,116,111,112] else if m=12 then bs [120,111,114] else bs []
def jv6:List AV->Option QR.Ans
 | [.x (.c (.v (.int .i64 m)))]=>some ⟨[.c (.v (.string (qk4 m)))],[],[]⟩
 | _=>none
def jp0:List AV->Option QR.Ans
 | [.x (.c (.v (.int .i64 m)))]=>some ⟨[.c (.v (.bool (band (ige m 1) (ile m 12))))],[],[]⟩
 | _=>none
def yy0:QR.ja8:=QR.orc [(71,jv6)]
def yy1:QR.ja8:=QR.orc [(81,jp0)]
set_option maxRecDepth 100000 in
theorem v96 (m:Int) (V:List QR.XV->List (List QR.CV)->Prop):QR.ja5 Tryd.prog (QR.orc []) (QR.ja4) (Tryd.f71.body.getD .skip) Tryd.f71.results.toList Tryd.f71.ntmps [.x (.c (.v (.int .i64 m)))] V=(True/\True/\ja0 (ilt m 1) (True/\True/\True/\V [XV.c (CV.v (Value.string (bs [])))] []) (∀(i:Int),i=13->True/\ja0 (ige m i) (True/\True/\V [XV.c (CV.v (Value.string (bs [])))] []) ((ile 0 m=true/\ilt m 13=true/\True)/\True/\V [XV.c (CV.v (Value.string (ssel (ieq m 12) (bs [120,111,114]) (ssel (ieq m 11) (bs [100,115,116,45,97,116,111,112]) (ssel (ieq m 10) (bs [115,114,99,45,97,116,111,112]) (ssel (ieq m 9) (bs [100,115,116,45,111,117,116]) (ssel (ieq m 8) (bs [115,114,99,45,111,117,116]) (ssel (ieq m 7) (bs [100,115,116,45,105,110]) (ssel (ieq m 6) (bs [115,114,99,45,105,110]) (ssel (ieq m 5) (bs [100,115,116,45,111,118,101,114]) (ssel (ieq m 4) (bs [115,114,99,45,111,118,101,114]) (ssel (ieq m 3) (bs [100,115,116]) (ssel (ieq m 2) (bs [115,114,99]) (ssel (ieq m 1) (bs [99,108,101,97,114]) (ssel (ieq m 0) (bs []) (bs []))))))))))))))))] []))):=by
 kernel_rfl
set_option maxRecDepth 100000 in
theorem yy2 (m:Int) (V:List QR.XV->List (List QR.CV)->Prop):QR.ja5 Tryd.prog (yy0) (QR.ja4) (Tryd.f44.body.getD .skip) Tryd.f44.results.toList Tryd.f44.ntmps [.x (.c (.v (.int .i64 m)))] V=(True/\True/\True/\V [XV.c (CV.v (Value.bool (bnot (seqB (qk4 m) (bs [])))))] []):=by
 try delta yy0
 try delta jv6
 generalize @qk4=qk4
 kernel_rfl
set_option maxRecDepth 100000 in
theorem v97 (m:Int) (V:List QR.XV->List (List QR.CV)->Prop):QR.ja5 Tryd.prog (QR.orc []) (QR.ja4) (Tryd.f81.body.getD .skip) Tryd.f81.results.toList Tryd.f81.ntmps [.x (.c (.v (.int .i64 m)))] V=(True/\ja0 (ige m 1) (True/\True/\V [XV.c (CV.v (Value.bool (ile m 12)))] []) (True/\True/\V [XV.c (CV.v (Value.bool false))] [])):=by
 kernel_rfl
set_option maxRecDepth 100000 in
theorem yl2 (m:Int) (V:List QR.XV->List (List QR.CV)->Prop):QR.ja5 Tryd.prog (yy1) (QR.ja4) (Tryd.f68.body.getD .skip) Tryd.f68.results.toList Tryd.f68.ntmps [.x (.c (.v (.int .i64 m)))] V=(True/\True/\ja0 (bnot (band (ige m 1) (ile m 12))) (True/\True/\V [XV.c (CV.v (Value.string (bs [])))] []) (ja0 (ieq m 0) ((true=true/\true=true/\True)/\True/\V [XV.c (CV.v (Value.string (bs [])))] []) (ja0 (ieq m 1) ((true=true/\true=true/\True)/\True/\V [XV.c (CV.v (Value.string (bs [99,108,101,97,114])))] []) (ja0 (ieq m 2) ((true=true/\true=true/\True)/\True/\V [XV.c (CV.v (Value.string (bs [115,114,99])))] []) (ja0 (ieq m 3) ((true=true/\true=true/\True)/\True/\V [XV.c (CV.v (Value.string (bs [100,115,116])))] []) (ja0 (ieq m 4) ((true=true/\true=true/\True)/\True/\V [XV.c (CV.v (Value.string (bs [115,114,99,45,111,118,101,114])))] []) (ja0 (ieq m 5) ((true=true/\true=true/\True)/\True/\V [XV.c (CV.v (Value.string (bs [100,115,116,45,111,118,101,114])))] []) (ja0 (ieq m 6) ((true=true/\true=true/\True)/\True/\V [XV.c (CV.v (Value.string (bs [115,114,99,45,105,110])))] []) (ja0 (ieq m 7) ((true=true/\true=true/\True)/\True/\V [XV.c (CV.v (Value.string (bs [100,115,116,45,105,110])))] []) (ja0 (ieq m 8) ((true=true/\true=true/\True)/\True/\V [XV.c (CV.v (Value.string (bs [115,114,99,45,111,117,116])))] []) (ja0 (ieq m 9) ((true=true/\true=true/\True)/\True/\V [XV.c (CV.v (Value.string (bs [100,115,116,45,111,117,116])))] []) (ja0 (ieq m 10) ((true=true/\true=true/\True)/\True/\V [XV.c (CV.v (Value.string (bs [115,114,99,45,97,116,111,112])))] []) (ja0 (ieq m 11) ((true=true/\true=true/\True)/\True/\V [XV.c (CV.v (Value.string (bs [100,115,116,45,97,116,111,112])))] []) (ja0 (ieq m 12) ((true=true/\true=true/\True)/\True/\V [XV.c (CV.v (Value.string (bs [120,111,114])))] []) False)))))))))))))):=by
 try delta yy1
 try delta jp0
 kernel_rfl
end Go.Proofs.YthkidembkknoeaaDoor
namespace Go.Proofs.YthkidembkknoeaaDoor
open Go.RowKit PR QR
set_option linter.unusedVariables false
set_option linter.unusedSimpArgs false
theorem v98 {m:Int}:band (ige m 1) (ile m 12)=opB m:=by
 unfold band ige ile opB;simp
theorem yl3:ja6 81 jp0:=by
 intro al ans h hq
 unfold jp0 at h
 split at h <;> try (simp at h;done)
 rename_i m
 simp only [Option.some.injEq] at h
 subst h
 have hq:=asked hq
 refine QR.ja2 (O:=(QR.orc [])) QR.jb1 mixed (QR.ja4) Tryd.func81 (by kernel_rfl) (by kernel_rfl) (by simp) ?_
 rw [v97]
 simp only [ja1,jb4,eqXs,eqX,eqo,eqLo,eqL,eqc,veq,eqUs,forall_eq,true_and,and_true,band]
 refine ⟨λ c=>?_,λ c=>?_⟩ <;> simp [c]
theorem jx1 {m:Int} (h:¬ (1<=m/\m<=12)):qk4 m=bs []:=by unfold qk4;rw [if_neg (by omega),if_neg (by omega),if_neg (by omega),if_neg (by omega),if_neg (by omega),if_neg (by omega),if_neg (by omega),if_neg (by omega),if_neg (by omega),if_neg (by omega),if_neg (by omega),if_neg (by omega)]
theorem qr6 {m:Int}:bnot (seqB (qk4 m) (bs []))=opB m:=by
 by_cases h:1<=m/\m<=12
 ·rcases q43 h with rfl | rfl | rfl | rfl | rfl | rfl | rfl | rfl | rfl | rfl | rfl | rfl <;> rfl
 ·rw [jx1 h]
  unfold opB
  rw [decide_eq_false h];rfl
theorem yl4:ja6 71 jv6:=by
 intro al ans h hq
 unfold jv6 at h
 split at h <;> try (simp at h;done)
 rename_i m
 simp only [Option.some.injEq] at h
 subst h
 have hq:=asked hq
 refine QR.ja2 (O:=(QR.orc [])) QR.jb1 mixed (QR.ja4) Tryd.func71 (by kernel_rfl) (by kernel_rfl) (by simp) ?_
 rw [v96]
 simp only [ja1,jb4,eqXs,eqX,eqo,eqLo,eqc,veq,eqUs,forall_eq,true_and,and_true,ilt,ile,ige,ge_iff_le,decide_eq_true_eq,decide_eq_false_iff_not]
 refine ⟨λ c=>?_,λ c=>⟨λ e=>?_,λ e=>?_⟩⟩
 ·exact (jx1 (by omega)).symm
 ·exact (jx1 (by omega)).symm
 ·refine ⟨by omega,?_⟩
  rcases q43 (k:=m) (by omega) with rfl | rfl | rfl | rfl | rfl | rfl | rfl | rfl | rfl | rfl | rfl | rfl <;> rfl
theorem za0:ja6 44 jp0:=by
 intro al ans h hq
 unfold jp0 at h
 split at h <;> try (simp at h;done)
 rename_i m
 simp only [Option.some.injEq] at h
 subst h
 have hq:=asked hq
 refine QR.ja2 (O:=yy0) (QR.ja3 yl4 QR.jb1) mixed (QR.ja4) Tryd.func44 (by kernel_rfl) (by kernel_rfl) (by simp) ?_
 rw [yy2]
 simp only [jb4,eqXs,eqX,eqo,eqLo,eqc,veq,eqUs,true_and,and_true,qr6,v98]
theorem yy3:ja6 68 jv6:=by
 intro al ans h hq
 unfold jv6 at h
 split at h <;> try (simp at h;done)
 rename_i m
 simp only [Option.some.injEq] at h
 subst h
 have hq:=asked hq
 refine QR.ja2 (O:=yy1) (QR.ja3 yl3 QR.jb1) mixed (QR.ja4) Tryd.func68 (by kernel_rfl) (by kernel_rfl) (by simp) ?_
 rw [yl2]
 rw [v98]
 unfold opB
 by_cases h:1<=m/\m<=12
 ·rcases q43 h with rfl | rfl | rfl | rfl | rfl | rfl | rfl | rfl | rfl | rfl | rfl | rfl <;> simp [ja1,bnot,ieq,jb4,eqXs,eqX,eqo,eqLo,eqc,veq,eqUs,qk4]
 ·simp [ja1,bnot,h,jb4,eqXs,eqX,eqo,eqLo,eqc,veq,eqUs,jx1]
end Go.Proofs.YthkidembkknoeaaDoor
namespace Go.Proofs.YthkidembkknoeaaDoor
open Go.RowKit PR QR
set_option linter.unusedVariables false
set_option linter.unusedSimpArgs false
end Go.Proofs.YthkidembkknoeaaDoor
namespace Go.Proofs.YthkidembkknoeaaDoor
open Go.RowKit PR QR
set_option linter.unusedVariables false
set_option linter.unusedSimpArgs false
def qs4 (n k:Int) (sg:Bool):Bool:=bif sg then decide (-(2 ^ (8 * k - 1).toNat)<=n/\n < 2 ^ (8 * k - 1).toNat) else decide (0<=n/\n < 2 ^ (8 * k).toNat)
end Go.Proofs.YthkidembkknoeaaDoor
namespace Go.Proofs.YthkidembkknoeaaDoor
open Go.RowKit PR QR
set_option linter.unusedVariables false
set_option linter.unusedSimpArgs false
def imsG (s:Sc):Prop:=∀i:Nat,(i:Int) < s.mn->imG (s.ml i)
def zb7 (o:Ov):Bool:=qs4 o.kd 1 false && (qs4 o.im 1 false && (qs4 o.msk 1 false && (qs4 o.opr 1 false && (qs4 o.md 1 false && (qs4 o.x 4 true && (qs4 o.y 4 true && (qs4 o.mx 4 true && qs4 o.my 4 true)))))))
def je1 (n i:Int):Nat:=(n - i).toNat
end Go.Proofs.YthkidembkknoeaaDoor
namespace Go.Proofs.YthkidembkknoeaaDoor
open Go.RowKit PR QR
set_option linter.unusedVariables false
set_option linter.unusedSimpArgs false
set_option maxRecDepth 20000
theorem jv9 {l:List CV} {s:Sc} {A:List Prop} (h:jg8 l=some (s,A)) (ha:∀p∈A,p):eqCs l (jf6 s)/\0<=s.on/\0<=s.mn/\0<=s.pn:=by
 unfold jg8 at h
 split at h <;> try (simp at h;done)
 rename_i b x0 y0 x1 y1 tw th oc mc pc
 split at h <;> try (simp at h;done)
 rename_i on o mn m pn p e1 e2 e3
 simp only [Option.some.injEq,Prod.mk.injEq] at h
 obtain ⟨rfl,rfl⟩:=h
 obtain ⟨h1,h2,h3,h4,h5,h6,_⟩:=asked ha
 refine ⟨⟨.v _,.v _,.v _,.v _,.v _,.v _,.v _,qe3 e1 h1,jl2 e2 (by decide) h2,jl2 e3 (by decide) h3,trivial⟩,je3 h4,je3 h5,je3 h6⟩
end Go.Proofs.YthkidembkknoeaaDoor
namespace Go.Proofs.YthkidembkknoeaaDoor
open Go.RowKit PR QR
set_option linter.unusedVariables false
set_option linter.unusedSimpArgs false
set_option maxRecDepth 20000
theorem jf9 (k:IntKind) (n:Int) (f:Int->Int):intRow k 1 n (.fn λ i _=>.v (.int k (f i))):=λ _ _ _ _=>rfl
theorem qg9 (n:Int) (f:Int->Im):jf7 n (jm3 f):=λ i j _ hj=>by
 rw [show imAt (jm3 f)=f from rfl]
 match j,hj with
 | 0,_ | 1,_ | 2,_ | 3,_ | 4,_ | 5,_ | 6,_ | 7,_ | 8,_ | 9,_ | 10,_ | 12,_ | 13,_ | 14,_ | 16,_ | 17,_ | 18,_ | 20,_ | 21,_ | 22,_ | 24,_ | 25,_ | 26,_=>exact .v _
 | 11,_ | 15,_ | 19,_ | 23,_ | 27,_=>exact .slc λ _ _ _ _=>.v _
 | n + 28,h=>omega
theorem j06 (n:Int) (f:Int->Ov):jc9 n (jf3 f):=λ i j _ hj=>by
 rw [show ovAt (jf3 f)=f from rfl]
 match j,hj with
 | 0,_ | 1,_ | 2,_ | 3,_ | 4,_ | 5,_ | 6,_ | 7,_ | 8,_ | 9,_ | 10,_ | 11,_=>exact .v _
 | n + 12,h=>omega
end Go.Proofs.YthkidembkknoeaaDoor
namespace Go.Proofs.YthkidembkknoeaaDoor
open Go.RowKit PR QR
set_option linter.unusedVariables false
def prB (w h s:Int):Bool:=decide (fitB w h=true/\w<=s/\s<=16777216)
def ndN (w h s:Int):Int:=(h - 1) * s + w
def ym6:List AV->Option QR.Ans
 | [.x (.c (.v (.int .i64 w))),.x (.c (.v (.int .i64 h))),.x (.c (.v (.int .i64 s)))]=>some ⟨[.c (.v (.bool (prB w h s)))],[],[in64 w=true,in64 h=true,in64 s=true]⟩
 | _=>none
def ym7:List AV->Option QR.Ans
 | [.x (.c (.v (.int .i64 w))),.x (.c (.v (.int .i64 h))),.x (.c (.v (.int .i64 s)))]=>some ⟨[.c (.v (.int .i64 (ndN w h s)))],[],[prB w h s=true]⟩
 | _=>none
def y02:QR.ja8:=QR.orc [(85,ym6),(86,ym7)]
set_option maxRecDepth 100000 in
theorem y03 (w h s:Int) (V:List QR.XV->List (List QR.CV)->Prop):QR.ja5 Tryd.prog (QR.orc []) (QR.ja4) (Tryd.f85.body.getD .skip) Tryd.f85.results.toList Tryd.f85.ntmps [.x (.c (.v (.int .i64 w))),.x (.c (.v (.int .i64 h))),.x (.c (.v (.int .i64 s)))] V=(True/\ja0 (ile 1 w) (ja0 (ile w s) (ja0 (ile s 16777216) (ja0 (ile 1 h) (ja0 (ile h 16777216) (True/\True/\V [XV.c (CV.v (Value.bool (ile (imul IntKind.i64 w h) 16777216)))] []) (True/\True/\V [XV.c (CV.v (Value.bool false))] [])) (True/\True/\V [XV.c (CV.v (Value.bool false))] [])) (True/\True/\V [XV.c (CV.v (Value.bool false))] [])) (True/\True/\V [XV.c (CV.v (Value.bool false))] [])) (True/\True/\V [XV.c (CV.v (Value.bool false))] [])):=by
 kernel_rfl
set_option maxRecDepth 100000 in
theorem y04 (w h s:Int) (V:List QR.XV->List (List QR.CV)->Prop):QR.ja5 Tryd.prog (QR.orc []) (QR.ja4) (Tryd.f86.body.getD .skip) Tryd.f86.results.toList Tryd.f86.ntmps [.x (.c (.v (.int .i64 w))),.x (.c (.v (.int .i64 h))),.x (.c (.v (.int .i64 s)))] V=(True/\True/\True/\V [XV.c (CV.v (Value.int .i64 (iadd IntKind.i64 (imul IntKind.i64 (isub IntKind.i64 h 1) s) w)))] []):=by
 kernel_rfl
set_option maxRecDepth 100000 in
theorem y05 (w h s n:Int) (l:Int->Nat->Int) (V:List QR.XV->List (List QR.CV)->Prop):QR.ja5 Tryd.prog (y02) (QR.ja4) (Tryd.f83.body.getD .skip) Tryd.f83.results.toList Tryd.f83.ntmps [.x (.agg [.v (.int .i64 w),.v (.int .i64 h),.v (.int .i64 s),.slc 1 n (.fn λ i j=>.v (.int .u16 (l i j)))])] V=(True/\ja0 (prB w h s) (∀(i:Int),i=n->∀(i_1:Int),i_1=ndN w h s->(prB w h s=true/\in64 w=true/\in64 h=true/\in64 s=true/\True)/\True/\V [XV.c (CV.v (Value.bool (ige i i_1)))] []) ((in64 w=true/\in64 h=true/\in64 s=true/\True)/\True/\V [XV.c (CV.v (Value.bool false))] [])):=by
 try delta y02
 try delta ym6
 try delta ym7
 generalize @in64=in64
 generalize @ndN=ndN
 generalize @prB=prB
 kernel_rfl
end Go.Proofs.YthkidembkknoeaaDoor
namespace Go.Proofs.YthkidembkknoeaaDoor
open Go Go.RowKit PR QR
set_option linter.unusedVariables false
set_option linter.unusedSimpArgs false
set_option maxRecDepth 20000
theorem za8:ja6 85 ym6:=by
 intro al ans h hq
 unfold ym6 at h
 split at h <;> try (simp at h;done)
 rename_i w h s
 simp only [Option.some.injEq] at h
 subst h
 have hq:=asked hq
 refine QR.ja2 (O:=(QR.orc [])) QR.jb1 mixed (QR.ja4) Tryd.func85 (by kernel_rfl) (by kernel_rfl) (by simp) ?_
 rw [y03]
 obtain ⟨iw,ih,is,_⟩:=hq
 simp only [jb4,eqXs,eqX,eqo,eqLo,eqc,veq,eqUs,ja1,ile,decide_eq_true_eq,decide_eq_false_iff_not,true_and,and_true]
 have no:¬ (fitB w h=true/\w<=s/\s<=16777216)->false=prB w h s:=λ k=>(decide_eq_false k).symm
 refine ⟨λ h1=>⟨λ h2=>⟨λ h3=>⟨λ h4=>⟨λ h5=>?_,λ h5=>?_⟩,λ h4=>?_⟩,λ h3=>?_⟩,λ h2=>?_⟩,λ h1=>?_⟩
 ·have p0:=Int.mul_nonneg (show 0<=w by omega) (show 0<=h by omega)
  have p1:=Int.mul_le_mul (show w<=16777216 by omega) h5 (by omega) (by decide)
  rw [show imul .i64 w h=w * h from IntWalk.i64_in _ (by omega)]
  unfold prB
  rw [Bool.eq_iff_iff,decide_eq_true_eq,decide_eq_true_eq,jg7]
  exact ⟨λ k=>⟨⟨h1,h4,k⟩,h2,h3⟩,λ k=>k.1.2.2⟩
 ·exact no λ k=>h5 (jy5 k.1).2
 ·exact no λ k=>h4 (jg7.1 k.1).2.1
 ·exact no λ k=>h3 k.2.2
 ·exact no λ k=>h2 k.2.1
 ·exact no λ k=>h1 (jg7.1 k.1).1
theorem yb6 {w h s:Int}:prB w h s=true↔fitB w h=true/\w<=s/\s<=16777216:=by unfold prB;rw [decide_eq_true_eq]
theorem za9:ja6 86 ym7:=by
 intro al ans h hq
 unfold ym7 at h
 split at h <;> try (simp at h;done)
 rename_i w h s
 simp only [Option.some.injEq] at h
 subst h
 have hq:=asked hq
 refine QR.ja2 (O:=(QR.orc [])) QR.jb1 mixed (QR.ja4) Tryd.func86 (by kernel_rfl) (by kernel_rfl) (by simp) ?_
 rw [y04]
 obtain ⟨hp,_⟩:=hq
 have hp:=yb6.1 hp
 obtain ⟨f1,f2⟩:=jy5 hp.1
 have f3:=jg7.1 hp.1
 obtain ⟨e1,e2,e3,_⟩:=yb5 (h:=h) (s:=s) (w:=w) (by omega) f2 (by omega) hp.2.2 (by omega) f1
 simp only [jb4,eqXs,eqX,eqo,eqLo,eqc,veq,eqUs,true_and,and_true]
 rw [e1,e2,e3];rfl
theorem zg8 {w h s:Int} (f:prB w h s=false) {q:Prop}:¬ (fitB w h=true/\w<=s/\s<=16777216/\q):=λ k=>by
 have:=yb6.2 ⟨k.1,k.2.1,k.2.2.1⟩
 rw [f] at this;cases this
theorem zg9:ja6 83 ji7:=by
 intro al ans hh hq
 unfold ji7 at hh
 split at hh <;> try (simp at hh;done)
 rename_i w h s c
 cases e:jf4 1 c with
 | none=>rw [e] at hh;simp at hh
 | some p =>
  obtain ⟨n,r⟩:=p
  rw [e] at hh
  simp only [Option.some.injEq] at hh
  subst hh
  obtain ⟨hr,hn,iw,ih,is,_⟩:=asked hq
  refine jc0 (al':=[.x (.agg [.v (.int .i64 w),.v (.int .i64 h),.v (.int .i64 s),.slc 1 n (ints .u16 r)])]) ⟨⟨.v _,.v _,.v _,jh1 e (by decide) hr,trivial⟩,trivial⟩ ?_
  have ri:=qe2 .u16 1 n (λ i j=>intC (den r i j))
  unfold ints
  refine QR.ja2 (O:=y02) (QR.ja3 za8 (QR.ja3 za9 QR.jb1)) mixed (QR.ja4) Tryd.func83 (by kernel_rfl) (by kernel_rfl) (by simp) ?_
  rw [y05]
  try dsimp only
  cases f:prB w h s
  ·have z:plB w h s n=false:=decide_eq_false (zg8 f)
   simp [jb4,eqXs,eqX,eqo,eqLo,eqL,eqc,veq,eqUs,ja1,bnot,f,z,iw,ih,is]
  ·have f':=yb6.1 f
   simp only [jb4,eqXs,eqX,eqo,eqLo,eqL,eqc,veq,eqUs,ja1,bnot,f,iw,ih,is,ige,true_and,and_true,forall_eq,true_implies,reduceCtorEq,false_implies]
   rw [Bool.eq_iff_iff,decide_eq_true_eq,vo4]
   exact ⟨λ k=>⟨f'.1,f'.2.1,f'.2.2,k⟩,λ k=>k.2.2.2⟩
end Go.Proofs.YthkidembkknoeaaDoor
namespace Go.Proofs.YthkidembkknoeaaDoor
open Go.RowKit PR QR
set_option linter.unusedVariables false
set_option linter.unusedSimpArgs false
set_option maxRecDepth 20000
def imFt (m:Im):Int:=bif fitB m.w m.h then (bif imF m then 0 else 7) else 6
def vaW (m:Im):Int:=bif m.sol then 1 else m.w
def vaH (m:Im):Int:=bif m.sol then 1 else m.h
def q83:List AV->Option QR.Ans
 | [.ref 0 l]=>match ji3 l with
  | some (m,A)=>some ⟨[.c (.v (.int .i64 (imFt m)))],[imC m],imG m :: A⟩
  | none=>none
 | _=>none
def q84:List AV->Option QR.Ans
 | [.ref 0 l]=>match ji3 l with
  | some (m,A)=>some ⟨[.agg [.v (.int .i64 0),.v (.int .i64 0),.v (.int .i64 m.w),.v (.int .i64 m.h)]],[imC m],A⟩
  | none=>none
 | _=>none
def qm0:List AV->Option QR.Ans
 | [.ref 0 l]=>match ji3 l with
  | some (m,A)=>some ⟨[.agg [.v (.int .i64 0),.v (.int .i64 0),.v (.int .i64 (vaW m)),.v (.int .i64 (vaH m))]],[imC m],A⟩
  | none=>none
 | _=>none
def qm1:List AV->Option QR.Ans
 | [.ref 0 l,.x (.c (.v (.int .i64 x))),.x (.c (.v (.int .i64 y)))]=>match ji3 l with
  | some (m,A)=>some ⟨[.agg [.v (.int .u16 (pxV m 0 x y)),.v (.int .u16 (pxV m 1 x y)),.v (.int .u16 (pxV m 2 x y)),.v (.int .u16 (pxV m 3 x y)),.v (.int .u16 (pxV m 4 x y))]],[imC m],imG m :: (imIn m x y=true) :: A⟩
  | none=>none
 | _=>none
def vr4:List AV->Option QR.Ans
 | [.x (.agg [.v (.int .i64 a),.v (.int .i64 b),.v (.int .i64 c),.v (.int .i64 d)])]=>some ⟨[.c (.clo 76 [[.int .i64 a,.int .i64 b,.int .i64 c,.int .i64 d]])],[],[]⟩
 | _=>none
set_option maxRecDepth 100000 in
theorem y64 (w h:Int) (V:List QR.XV->List (List QR.CV)->Prop):QR.ja5 Tryd.prog (QR.orc []) (QR.ja4) (Tryd.f74.body.getD .skip) Tryd.f74.results.toList Tryd.f74.ntmps [.x (.c (.v (.int .i64 w))),.x (.c (.v (.int .i64 h)))] V=(True/\ja0 (ige w 1) (ja0 (ige h 1) ((ine w 0=true/\True)/\True/\V [XV.c (CV.v (Value.bool (ile h (iquo IntKind.i64 16777216 w))))] []) (True/\True/\V [XV.c (CV.v (Value.bool false))] [])) (True/\True/\V [XV.c (CV.v (Value.bool false))] [])):=by
 kernel_rfl
set_option maxRecDepth 100000 in
theorem yh5 (m:Im) (V:List QR.XV->List (List QR.CV)->Prop):QR.ja5 Tryd.prog (QR.orc []) (QR.ja4) (Tryd.f77.body.getD .skip) Tryd.f77.results.toList Tryd.f77.ntmps [.ref 0 (imC m)] V=(True/\True/\True/\V [XV.agg [CV.v (Value.int .i64 0),CV.v (Value.int .i64 0),CV.v (Value.int .i64 m.1),CV.v (Value.int .i64 m.2)]] [(zz13 m)]):=by
 delta zz13
 kernel_rfl
def yh6:QR.ja8:=QR.orc [(77,q84)]
set_option maxRecDepth 100000 in
theorem yq7 (m:Im) (V:List QR.XV->List (List QR.CV)->Prop):QR.ja5 Tryd.prog (yh6) (QR.ja4) (Tryd.f53.body.getD .skip) Tryd.f53.results.toList Tryd.f53.ntmps [.ref 0 (imC m)] V=(True/\True/\ja0 m.3 (True/\True/\V [XV.agg [CV.v (Value.int .i64 0),CV.v (Value.int .i64 0),CV.v (Value.int .i64 1),CV.v (Value.int .i64 1)]] [(zz13 m)]) (∀(i:Int),i=0->∀(i_1:Int),i_1=0->∀(i_2:Int),i_2=m.1->∀(i_3:Int),i_3=m.2->(zz44 m)/\True/\V [XV.agg [CV.v (Value.int .i64 i),CV.v (Value.int .i64 i_1),CV.v (Value.int .i64 i_2),CV.v (Value.int .i64 i_3)]] [(zz13 m)])):=by
 delta zz13 zz44
 try delta yh6
 try delta q84
 try delta ji3
 generalize @intRow=intRow
 generalize @w2=w2
 kernel_rfl
set_option maxRecDepth 100000 in
theorem y65 (a b c d:Int) (V:List QR.XV->List (List QR.CV)->Prop):QR.ja5 Tryd.prog (QR.orc []) (QR.ja4) (Tryd.f52.body.getD .skip) Tryd.f52.results.toList Tryd.f52.ntmps [.x (.agg [.v (.int .i64 a),.v (.int .i64 b),.v (.int .i64 c),.v (.int .i64 d)])] V=(True/\True/\True/\V [XV.c (CV.clo 76 [[Value.int .i64 a,Value.int .i64 b,Value.int .i64 c,Value.int .i64 d]])] []):=by
 kernel_rfl
set_option maxRecDepth 100000 in
theorem y66 (m:Im) (x y:Int) (V:List QR.XV->List (List QR.CV)->Prop):QR.ja5 Tryd.prog (QR.orc []) (λ n=>bif Nat.beq n 5 then some (.rounds 6) else none) (Tryd.f55.body.getD .skip) Tryd.f55.results.toList Tryd.f55.ntmps [.ref 0 (imC m),.x (.c (.v (.int .i64 x))),.x (.c (.v (.int .i64 y)))] V=(True/\True/\ja0 m.3 (True/\True/\V [XV.agg [CV.v (Value.int .u16 m.4),CV.v (Value.int .u16 m.5),CV.v (Value.int .u16 m.6),CV.v (Value.int .u16 m.7),CV.v (Value.int .u16 m.8)]] [(zz13 m)]) (True/\True/\True/\True/\(true=true/\true=true/\True)/\(true=true/\true=true/\ile 0 (iadd IntKind.i64 (imul IntKind.i64 y m.9.3) x)=true/\ilt (iadd IntKind.i64 (imul IntKind.i64 y m.9.3) x) m.9.4=true/\True)/\True/\True/\True/\(true=true/\true=true/\True)/\(true=true/\true=true/\ile 0 (iadd IntKind.i64 (imul IntKind.i64 y m.10.3) x)=true/\ilt (iadd IntKind.i64 (imul IntKind.i64 y m.10.3) x) m.10.4=true/\True)/\True/\True/\True/\(true=true/\true=true/\True)/\(true=true/\true=true/\ile 0 (iadd IntKind.i64 (imul IntKind.i64 y m.11.3) x)=true/\ilt (iadd IntKind.i64 (imul IntKind.i64 y m.11.3) x) m.11.4=true/\True)/\True/\True/\True/\(true=true/\true=true/\True)/\(true=true/\true=true/\ile 0 (iadd IntKind.i64 (imul IntKind.i64 y m.12.3) x)=true/\ilt (iadd IntKind.i64 (imul IntKind.i64 y m.12.3) x) m.12.4=true/\True)/\True/\True/\True/\(true=true/\true=true/\True)/\(true=true/\true=true/\ile 0 (iadd IntKind.i64 (imul IntKind.i64 y m.13.3) x)=true/\ilt (iadd IntKind.i64 (imul IntKind.i64 y m.13.3) x) m.13.4=true/\True)/\True/\True/\(true=true/\true=true/\true=true/\true=true/\true=true/\true=true/\true=true/\true=true/\true=true/\true=true/\True)/\True/\V (zz140 m y x) [(zz13 m)])):=by
 delta zz13 zz140
 kernel_rfl
def vr5:QR.ja8:=QR.orc [(83,ji7)]
noncomputable def jr8:QR.Inl:=⟨6,QR.GB,75,Tryd.f75.ntmps,Tryd.f75.results.toList,QR.jc1 Tryd.prog vr5 QR.ja4 (λ _=>none) (Tryd.f75.body.getD .skip)⟩
noncomputable def jj5:QR.Cfg:=⟨λ n=>bif Nat.beq n 6 then some (.rounds 6) else none,λ _=>none,λ n=>bif Nat.beq n 8 then some jr8 else none,λ _=>none,λ _=>none,500⟩
def vw1:QR.ja8:=QR.orc [(74,qg8)]
set_option maxHeartbeats 8000000 in
set_option maxRecDepth 100000 in
theorem yq8 (m:Im) (V:List QR.XV->List (List QR.CV)->Prop):QR.qs2 Tryd.prog (vw1) (jj5) ((⟨itP,nthI,lnI,jx7,jt5⟩:QR.jx8)) (Tryd.f51.body.getD .skip) Tryd.f51.results.toList Tryd.f51.ntmps [.ref 0 (imC ⟨m.w,m.h,true,m.c0,m.c1,m.c2,m.a,m.f,m.p0,m.p1,m.p2,m.p3,m.p4⟩)] V=(True/\(in64 m.1=true/\in64 m.2=true/\True)/\ja0 (bnot (fitB m.1 m.2)) (True/\True/\V [XV.c (CV.v (Value.int .i64 6))] [(zz2 m)]) (ja0 (bnot true) (True/\ja0 (bnot (band (band (ieq m.4 0) (band (ieq m.5 0) (band (ieq m.6 0) true))) (band (ieq m.7 0) (band (ieq m.8 0) true)))) (True/\True/\V [XV.c (CV.v (Value.int .i64 7))] [(zz2 m)]) (True/\True/\True/\(true=true/\true=true/\True)/\True/\True/\ja0 (ieq m.9.1 0) (ja0 (ieq m.9.2 0) (ja0 (ieq m.9.3 0) (∀(i:Int),i=m.9.4->True/\True/\true=true/\True/\ja0 (bnot (ieq i 0)) (True/\True/\V [XV.c (CV.v (Value.int .i64 7))] [(zz2 m)]) (True/\True/\True/\(true=true/\true=true/\True)/\True/\True/\ja0 (ieq m.10.1 0) (ja0 (ieq m.10.2 0) (ja0 (ieq m.10.3 0) (∀(i:Int),i=m.10.4->True/\True/\true=true/\True/\ja0 (bnot (ieq i 0)) (True/\True/\V [XV.c (CV.v (Value.int .i64 7))] [(zz2 m)]) (True/\True/\True/\(true=true/\true=true/\True)/\True/\True/\ja0 (ieq m.11.1 0) (ja0 (ieq m.11.2 0) (ja0 (ieq m.11.3 0) (∀(i:Int),i=m.11.4->True/\True/\true=true/\True/\ja0 (bnot (ieq i 0)) (True/\True/\V [XV.c (CV.v (Value.int .i64 7))] [(zz2 m)]) (True/\True/\True/\(true=true/\true=true/\True)/\True/\True/\ja0 (ieq m.12.1 0) (ja0 (ieq m.12.2 0) (ja0 (ieq m.12.3 0) (∀(i:Int),i=m.12.4->True/\True/\true=true/\True/\ja0 (bnot (ieq i 0)) (True/\True/\V [XV.c (CV.v (Value.int .i64 7))] [(zz2 m)]) (True/\True/\True/\(true=true/\true=true/\True)/\True/\True/\ja0 (ieq m.13.1 0) (ja0 (ieq m.13.2 0) (ja0 (ieq m.13.3 0) (∀(i:Int),i=m.13.4->True/\True/\true=true/\True/\ja0 (bnot (ieq i 0)) (True/\True/\V [XV.c (CV.v (Value.int .i64 7))] [(zz2 m)]) (True/\True/\True/\True/\V [XV.c (CV.v (Value.int .i64 0))] [(zz2 m)])) (True/\True/\true=true/\True/\True/\True/\V [XV.c (CV.v (Value.int .i64 7))] [(zz2 m)])) (True/\True/\true=true/\True/\True/\True/\V [XV.c (CV.v (Value.int .i64 7))] [(zz2 m)])) (True/\True/\true=true/\True/\True/\True/\V [XV.c (CV.v (Value.int .i64 7))] [(zz2 m)]))) (True/\True/\true=true/\True/\True/\True/\V [XV.c (CV.v (Value.int .i64 7))] [(zz2 m)])) (True/\True/\true=true/\True/\True/\True/\V [XV.c (CV.v (Value.int .i64 7))] [(zz2 m)])) (True/\True/\true=true/\True/\True/\True/\V [XV.c (CV.v (Value.int .i64 7))] [(zz2 m)]))) (True/\True/\true=true/\True/\True/\True/\V [XV.c (CV.v (Value.int .i64 7))] [(zz2 m)])) (True/\True/\true=true/\True/\True/\True/\V [XV.c (CV.v (Value.int .i64 7))] [(zz2 m)])) (True/\True/\true=true/\True/\True/\True/\V [XV.c (CV.v (Value.int .i64 7))] [(zz2 m)]))) (True/\True/\true=true/\True/\True/\True/\V [XV.c (CV.v (Value.int .i64 7))] [(zz2 m)])) (True/\True/\true=true/\True/\True/\True/\V [XV.c (CV.v (Value.int .i64 7))] [(zz2 m)])) (True/\True/\true=true/\True/\True/\True/\V [XV.c (CV.v (Value.int .i64 7))] [(zz2 m)]))) (True/\True/\true=true/\True/\True/\True/\V [XV.c (CV.v (Value.int .i64 7))] [(zz2 m)])) (True/\True/\true=true/\True/\True/\True/\V [XV.c (CV.v (Value.int .i64 7))] [(zz2 m)])) (True/\True/\true=true/\True/\True/\True/\V [XV.c (CV.v (Value.int .i64 7))] [(zz2 m)]))) (True/\True/\True/\True/\(true=true/\true=true/\True)/\True/\True/\ja0 (ieq m.9.1 0) (ja0 (ieq m.9.2 0) (ja0 (ieq m.9.3 0) (∀(i:Int),i=m.9.4->True/\True/\true=true/\True/\ja0 (bnot (ieq i 0)) (True/\True/\V [XV.c (CV.v (Value.int .i64 7))] [(zz2 m)]) (True/\True/\True/\(true=true/\true=true/\True)/\True/\True/\ja0 (ieq m.10.1 0) (ja0 (ieq m.10.2 0) (ja0 (ieq m.10.3 0) (∀(i:Int),i=m.10.4->True/\True/\true=true/\True/\ja0 (bnot (ieq i 0)) (True/\True/\V [XV.c (CV.v (Value.int .i64 7))] [(zz2 m)]) (True/\True/\True/\(true=true/\true=true/\True)/\True/\True/\ja0 (ieq m.11.1 0) (ja0 (ieq m.11.2 0) (ja0 (ieq m.11.3 0) (∀(i:Int),i=m.11.4->True/\True/\true=true/\True/\ja0 (bnot (ieq i 0)) (True/\True/\V [XV.c (CV.v (Value.int .i64 7))] [(zz2 m)]) (True/\True/\True/\(true=true/\true=true/\True)/\True/\True/\ja0 (ieq m.12.1 0) (ja0 (ieq m.12.2 0) (ja0 (ieq m.12.3 0) (∀(i:Int),i=m.12.4->True/\True/\true=true/\True/\ja0 (bnot (ieq i 0)) (True/\True/\V [XV.c (CV.v (Value.int .i64 7))] [(zz2 m)]) (True/\True/\True/\(true=true/\true=true/\True)/\True/\True/\ja0 (ieq m.13.1 0) (ja0 (ieq m.13.2 0) (ja0 (ieq m.13.3 0) (∀(i:Int),i=m.13.4->True/\True/\true=true/\True/\ja0 (bnot (ieq i 0)) (True/\True/\V [XV.c (CV.v (Value.int .i64 7))] [(zz2 m)]) (True/\True/\True/\True/\V [XV.c (CV.v (Value.int .i64 0))] [(zz2 m)])) (True/\True/\true=true/\True/\True/\True/\V [XV.c (CV.v (Value.int .i64 7))] [(zz2 m)])) (True/\True/\true=true/\True/\True/\True/\V [XV.c (CV.v (Value.int .i64 7))] [(zz2 m)])) (True/\True/\true=true/\True/\True/\True/\V [XV.c (CV.v (Value.int .i64 7))] [(zz2 m)]))) (True/\True/\true=true/\True/\True/\True/\V [XV.c (CV.v (Value.int .i64 7))] [(zz2 m)])) (True/\True/\true=true/\True/\True/\True/\V [XV.c (CV.v (Value.int .i64 7))] [(zz2 m)])) (True/\True/\true=true/\True/\True/\True/\V [XV.c (CV.v (Value.int .i64 7))] [(zz2 m)]))) (True/\True/\true=true/\True/\True/\True/\V [XV.c (CV.v (Value.int .i64 7))] [(zz2 m)])) (True/\True/\true=true/\True/\True/\True/\V [XV.c (CV.v (Value.int .i64 7))] [(zz2 m)])) (True/\True/\true=true/\True/\True/\True/\V [XV.c (CV.v (Value.int .i64 7))] [(zz2 m)]))) (True/\True/\true=true/\True/\True/\True/\V [XV.c (CV.v (Value.int .i64 7))] [(zz2 m)])) (True/\True/\true=true/\True/\True/\True/\V [XV.c (CV.v (Value.int .i64 7))] [(zz2 m)])) (True/\True/\true=true/\True/\True/\True/\V [XV.c (CV.v (Value.int .i64 7))] [(zz2 m)]))) (True/\True/\true=true/\True/\True/\True/\V [XV.c (CV.v (Value.int .i64 7))] [(zz2 m)])) (True/\True/\true=true/\True/\True/\True/\V [XV.c (CV.v (Value.int .i64 7))] [(zz2 m)])) (True/\True/\true=true/\True/\True/\True/\V [XV.c (CV.v (Value.int .i64 7))] [(zz2 m)])))):=by
 delta zz2
 try delta vw1
 try delta jj5
 try delta qg8
 try delta jr8
 try delta vr5
 try delta ji7
 generalize @fitB=fitB
 generalize @in64=in64
 generalize @intRow=intRow
 generalize @itP=itP
 generalize @jt5=jt5
 generalize @lnI=lnI
 generalize @nthI=nthI
 generalize @plB=plB
 generalize @jx7=jx7
 kernel_rfl
set_option maxHeartbeats 8000000 in
set_option maxRecDepth 100000 in
theorem yq9 (m:Im) (V:List QR.XV->List (List QR.CV)->Prop):QR.qs2 Tryd.prog (vw1) (jj5) ((⟨itP,nthI,lnI,jx7,jt5⟩:QR.jx8)) (Tryd.f51.body.getD .skip) Tryd.f51.results.toList Tryd.f51.ntmps [.ref 0 (imC ⟨m.w,m.h,false,m.c0,m.c1,m.c2,m.a,m.f,m.p0,m.p1,m.p2,m.p3,m.p4⟩)] V=(True/\(in64 m.1=true/\in64 m.2=true/\True)/\ja0 (bnot (fitB m.1 m.2)) (True/\True/\V [XV.c (CV.v (Value.int .i64 6))] [(zz3 m)]) (ja0 (bnot false) (True/\ja0 (bnot (band (band (ieq m.4 0) (band (ieq m.5 0) (band (ieq m.6 0) true))) (band (ieq m.7 0) (band (ieq m.8 0) true)))) (True/\True/\V [XV.c (CV.v (Value.int .i64 7))] [(zz3 m)]) (True/\True/\True/\(true=true/\true=true/\True)/\True/\True/\ja0 (ieq m.9.1 m.1) (ja0 (ieq m.9.2 m.2) ((zz70 m)/\True/\true=true/\True/\ja0 (bnot (plB m.9.1 m.9.2 m.9.3 m.9.4)) (True/\True/\V [XV.c (CV.v (Value.int .i64 7))] [(zz3 m)]) (True/\True/\True/\(true=true/\true=true/\True)/\True/\True/\ja0 (ieq m.10.1 m.1) (ja0 (ieq m.10.2 m.2) ((zz61 m)/\True/\true=true/\True/\ja0 (bnot (plB m.10.1 m.10.2 m.10.3 m.10.4)) (True/\True/\V [XV.c (CV.v (Value.int .i64 7))] [(zz3 m)]) (True/\True/\True/\(true=true/\true=true/\True)/\True/\True/\ja0 (ieq m.11.1 m.1) (ja0 (ieq m.11.2 m.2) ((zz62 m)/\True/\true=true/\True/\ja0 (bnot (plB m.11.1 m.11.2 m.11.3 m.11.4)) (True/\True/\V [XV.c (CV.v (Value.int .i64 7))] [(zz3 m)]) (True/\True/\True/\(true=true/\true=true/\True)/\True/\True/\ja0 (ieq m.12.1 m.1) (ja0 (ieq m.12.2 m.2) ((zz63 m)/\True/\true=true/\True/\ja0 (bnot (plB m.12.1 m.12.2 m.12.3 m.12.4)) (True/\True/\V [XV.c (CV.v (Value.int .i64 7))] [(zz3 m)]) (True/\True/\True/\(true=true/\true=true/\True)/\True/\True/\ja0 (ieq m.13.1 m.1) (ja0 (ieq m.13.2 m.2) ((zz64 m)/\True/\true=true/\True/\ja0 (bnot (plB m.13.1 m.13.2 m.13.3 m.13.4)) (True/\True/\V [XV.c (CV.v (Value.int .i64 7))] [(zz3 m)]) (True/\True/\True/\True/\V [XV.c (CV.v (Value.int .i64 0))] [(zz3 m)])) (True/\True/\true=true/\True/\True/\True/\V [XV.c (CV.v (Value.int .i64 7))] [(zz3 m)])) (True/\True/\true=true/\True/\True/\True/\V [XV.c (CV.v (Value.int .i64 7))] [(zz3 m)]))) (True/\True/\true=true/\True/\True/\True/\V [XV.c (CV.v (Value.int .i64 7))] [(zz3 m)])) (True/\True/\true=true/\True/\True/\True/\V [XV.c (CV.v (Value.int .i64 7))] [(zz3 m)]))) (True/\True/\true=true/\True/\True/\True/\V [XV.c (CV.v (Value.int .i64 7))] [(zz3 m)])) (True/\True/\true=true/\True/\True/\True/\V [XV.c (CV.v (Value.int .i64 7))] [(zz3 m)]))) (True/\True/\true=true/\True/\True/\True/\V [XV.c (CV.v (Value.int .i64 7))] [(zz3 m)])) (True/\True/\true=true/\True/\True/\True/\V [XV.c (CV.v (Value.int .i64 7))] [(zz3 m)]))) (True/\True/\true=true/\True/\True/\True/\V [XV.c (CV.v (Value.int .i64 7))] [(zz3 m)])) (True/\True/\true=true/\True/\True/\True/\V [XV.c (CV.v (Value.int .i64 7))] [(zz3 m)]))) (True/\True/\True/\True/\(true=true/\true=true/\True)/\True/\True/\ja0 (ieq m.9.1 m.1) (ja0 (ieq m.9.2 m.2) ((zz70 m)/\True/\true=true/\True/\ja0 (bnot (plB m.9.1 m.9.2 m.9.3 m.9.4)) (True/\True/\V [XV.c (CV.v (Value.int .i64 7))] [(zz3 m)]) (True/\True/\True/\(true=true/\true=true/\True)/\True/\True/\ja0 (ieq m.10.1 m.1) (ja0 (ieq m.10.2 m.2) ((zz61 m)/\True/\true=true/\True/\ja0 (bnot (plB m.10.1 m.10.2 m.10.3 m.10.4)) (True/\True/\V [XV.c (CV.v (Value.int .i64 7))] [(zz3 m)]) (True/\True/\True/\(true=true/\true=true/\True)/\True/\True/\ja0 (ieq m.11.1 m.1) (ja0 (ieq m.11.2 m.2) ((zz62 m)/\True/\true=true/\True/\ja0 (bnot (plB m.11.1 m.11.2 m.11.3 m.11.4)) (True/\True/\V [XV.c (CV.v (Value.int .i64 7))] [(zz3 m)]) (True/\True/\True/\(true=true/\true=true/\True)/\True/\True/\ja0 (ieq m.12.1 m.1) (ja0 (ieq m.12.2 m.2) ((zz63 m)/\True/\true=true/\True/\ja0 (bnot (plB m.12.1 m.12.2 m.12.3 m.12.4)) (True/\True/\V [XV.c (CV.v (Value.int .i64 7))] [(zz3 m)]) (True/\True/\True/\(true=true/\true=true/\True)/\True/\True/\ja0 (ieq m.13.1 m.1) (ja0 (ieq m.13.2 m.2) ((zz64 m)/\True/\true=true/\True/\ja0 (bnot (plB m.13.1 m.13.2 m.13.3 m.13.4)) (True/\True/\V [XV.c (CV.v (Value.int .i64 7))] [(zz3 m)]) (True/\True/\True/\True/\V [XV.c (CV.v (Value.int .i64 0))] [(zz3 m)])) (True/\True/\true=true/\True/\True/\True/\V [XV.c (CV.v (Value.int .i64 7))] [(zz3 m)])) (True/\True/\true=true/\True/\True/\True/\V [XV.c (CV.v (Value.int .i64 7))] [(zz3 m)]))) (True/\True/\true=true/\True/\True/\True/\V [XV.c (CV.v (Value.int .i64 7))] [(zz3 m)])) (True/\True/\true=true/\True/\True/\True/\V [XV.c (CV.v (Value.int .i64 7))] [(zz3 m)]))) (True/\True/\true=true/\True/\True/\True/\V [XV.c (CV.v (Value.int .i64 7))] [(zz3 m)])) (True/\True/\true=true/\True/\True/\True/\V [XV.c (CV.v (Value.int .i64 7))] [(zz3 m)]))) (True/\True/\true=true/\True/\True/\True/\V [XV.c (CV.v (Value.int .i64 7))] [(zz3 m)])) (True/\True/\true=true/\True/\True/\True/\V [XV.c (CV.v (Value.int .i64 7))] [(zz3 m)]))) (True/\True/\true=true/\True/\True/\True/\V [XV.c (CV.v (Value.int .i64 7))] [(zz3 m)])) (True/\True/\true=true/\True/\True/\True/\V [XV.c (CV.v (Value.int .i64 7))] [(zz3 m)])))):=by
 delta zz3 zz61 zz62 zz63 zz64 zz70
 try delta vw1
 try delta jj5
 try delta qg8
 try delta jr8
 try delta vr5
 try delta ji7
 generalize @fitB=fitB
 generalize @in64=in64
 generalize @intRow=intRow
 generalize @itP=itP
 generalize @jt5=jt5
 generalize @lnI=lnI
 generalize @nthI=nthI
 generalize @plB=plB
 generalize @jx7=jx7
 kernel_rfl
end Go.Proofs.YthkidembkknoeaaDoor
