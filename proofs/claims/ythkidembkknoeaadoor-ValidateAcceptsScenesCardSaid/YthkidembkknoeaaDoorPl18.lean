import Derived.Test.YthkidembkknoeaaDoorPl05
import Derived.Test.YthkidembkknoeaaDoorPl06
import Derived.Test.YthkidembkknoeaaDoorPl16
import Derived.Test.YthkidembkknoeaaDoorPl07
import Derived.Test.YthkidembkknoeaaDoorPl14
import Derived.OwnWalkIn
import Derived.TacticsInMore
namespace Go.Proofs.YthkidembkknoeaaDoor
open Go.RowKit PR
set_option linter.unusedVariables false
def y07 (s a d b:Int):Int:=if 2 * s<=a then 2 * s * d else a * b - 2 * (b - d) * (a - s)
def y08 (s a d b:Int):Int:=if d=0 then 0 else if b * (a - s)<=d * a then a * b else a * a * d
def y09 (s a d b:Int):Int:=if d=0 then 1 else if b * (a - s)<=d * a then 1 else a - s
def y83 (s a d b:Int):Int:=if d=b then a * b else if s * b<=(b - d) * a then 0 else a * b * s - (b - d) * a * a
def y84 (s a d b:Int):Int:=if d=b then 1 else if s * b<=(b - d) * a then 1 else s
def y85 (s a d b:Int):Int:=if b=0 then 0 else if 2 * s<=a then d * a * b - (a - 2 * s) * d * (b - d) else if 4 * d<=b then d * a * (b * b) + (2 * s - a) * d * (16 * d * d + 3 * b * b - 12 * d * b) else 2 * d * (a - s)
def y86 (s a d b:Int):Int:=if b=0 then 0 else if 2 * s<=a then 0 else if 4 * d<=b then 0 else 2 * s - a
def y87 (s a d b:Int):Int:=if b=0 then 0 else if 2 * s<=a then 0 else if 4 * d<=b then 0 else d * b
def y88 (s a d b:Int):Int:=if b=0 then 1 else if 2 * s<=a then b else if 4 * d<=b then b * b else 1
def minI (x y:Int):Int:=if x<=y then x else y
def maxI (x y:Int):Int:=if x<=y then y else x
def blT (k s a d b:Int):Int :=
 if k=1 then s * b else if k=2 then s * d else if k=3 then s * b + d * a - s * d else if k=4 then y07 d b s a
 else if k=5 then minI (s * b) (d * a) else if k=6 then maxI (s * b) (d * a) else if k=7 then y08 s a d b else if k=8 then y83 s a d b
 else if k=9 then y07 s a d b else if k=10 then y85 s a d b else if k=11 then maxI (s * b) (d * a) - minI (s * b) (d * a) else s * b + d * a - 2 * s * d
def blOk (k s a d b:Int):Bool:=decide (1<=k/\k<=12/\s<=a/\d<=b)
def blP (k s a d b:Int):Int:=bif blOk k s a d b then blT k s a d b else 0
def blQ (k s a d b:Int):Int:=bif blOk k s a d b then (if k=10 then y86 s a d b else 0) else 0
def blR (k s a d b:Int):Int:=bif blOk k s a d b then (if k=10 then y87 s a d b else 0) else 0
def blD (k s a d b:Int):Int:=bif blOk k s a d b then (if k=7 then y09 s a d b else if k=8 then y84 s a d b else if k=10 then y88 s a d b else 1) else 0
section
variable {s a d b:Int}
end
end Go.Proofs.YthkidembkknoeaaDoor
namespace Go.Proofs.YthkidembkknoeaaDoor
open Go.RowKit PR
set_option linter.unusedVariables false
end Go.Proofs.YthkidembkknoeaaDoor
namespace Go.Proofs.YthkidembkknoeaaDoor
open Go.RowKit PR QR
set_option linter.unusedVariables false
def qo7 (m:Int):ByteArray:=if m=1 then bs [110,111,114,109,97,108] else if m=2 then bs [109,117,108,116,105,112,108,121] else if m=3 then bs [115,99,114,101,101,110] else if m=4 then bs [111,118,101,114,108,97,121] else if m=5 then bs [100,97,114,107,101,110] else if m=6 then bs [108,105,103,104,116,101,110] else if m=7 then bs [99,111,108,111,114,45,100,111,100,103,101] else if m=8 then bs [99,111,108,111,114,45,98,117,114,110] else if m=9 then bs [104,97,114,100,45,108,105,103,104,116] else if m=10 then bs [115,111,102,116,45,108,105,103,104,116] else if m=11 then bs [100,105,102,102,101,114,101,110,99,101] else if m=12 then bs [101,120,99,108,117,115,105,111,110] else bs []
def qi6:List AV->Option QR.Ans
 | [.x (.c (.v (.int .i64 m)))]=>some ⟨[.c (.v (.bool (band (ige m 1) (ile m 12))))],[],[]⟩
 | _=>none
def qz2:List AV->Option QR.Ans
 | [.x (.c (.v (.int .i64 m)))]=>some ⟨[.c (.v (.string (qo7 m)))],[],[]⟩
 | _=>none
def o_n6:QR.ja7:=QR.orc [(82,qi6)]
set_option maxRecDepth 100000 in
theorem vw6 (m:Int) (V:List QR.XV->List (List QR.CV)->Prop):QR.ja9 Tryd.prog (QR.orc []) (QR.ja4) (Tryd.f82.body.getD .skip) Tryd.f82.results.toList Tryd.f82.ntmps [.x (.c (.v (.int .i64 m)))] V=(True/\ja0 (ige m 1) (True/\True/\V [XV.c (CV.v (Value.bool (ile m 12)))] []) (True/\True/\V [XV.c (CV.v (Value.bool false))] [])):=by
 kernel_rfl
set_option maxRecDepth 100000 in
theorem ye9 (m:Int) (V:List QR.XV->List (List QR.CV)->Prop):QR.ja9 Tryd.prog (o_n6) (QR.ja4) (Tryd.f69.body.getD .skip) Tryd.f69.results.toList Tryd.f69.ntmps [.x (.c (.v (.int .i64 m)))] V=(True/\True/\ja0 (bnot (band (ige m 1) (ile m 12))) (True/\True/\V [XV.c (CV.v (Value.string (bs [])))] []) (ja0 (ieq m 0) ((true=true/\true=true/\True)/\True/\V [XV.c (CV.v (Value.string (bs [])))] []) (ja0 (ieq m 1) ((true=true/\true=true/\True)/\True/\V [XV.c (CV.v (Value.string (bs [110,111,114,109,97,108])))] []) (ja0 (ieq m 2) ((true=true/\true=true/\True)/\True/\V [XV.c (CV.v (Value.string (bs [109,117,108,116,105,112,108,121])))] []) (ja0 (ieq m 3) ((true=true/\true=true/\True)/\True/\V [XV.c (CV.v (Value.string (bs [115,99,114,101,101,110])))] []) (ja0 (ieq m 4) ((true=true/\true=true/\True)/\True/\V [XV.c (CV.v (Value.string (bs [111,118,101,114,108,97,121])))] []) (ja0 (ieq m 5) ((true=true/\true=true/\True)/\True/\V [XV.c (CV.v (Value.string (bs [100,97,114,107,101,110])))] []) (ja0 (ieq m 6) ((true=true/\true=true/\True)/\True/\V [XV.c (CV.v (Value.string (bs [108,105,103,104,116,101,110])))] []) (ja0 (ieq m 7) ((true=true/\true=true/\True)/\True/\V [XV.c (CV.v (Value.string (bs [99,111,108,111,114,45,100,111,100,103,101])))] []) (ja0 (ieq m 8) ((true=true/\true=true/\True)/\True/\V [XV.c (CV.v (Value.string (bs [99,111,108,111,114,45,98,117,114,110])))] []) (ja0 (ieq m 9) ((true=true/\true=true/\True)/\True/\V [XV.c (CV.v (Value.string (bs [104,97,114,100,45,108,105,103,104,116])))] []) (ja0 (ieq m 10) ((true=true/\true=true/\True)/\True/\V [XV.c (CV.v (Value.string (bs [115,111,102,116,45,108,105,103,104,116])))] []) (ja0 (ieq m 11) ((true=true/\true=true/\True)/\True/\V [XV.c (CV.v (Value.string (bs [100,105,102,102,101,114,101,110,99,101])))] []) (ja0 (ieq m 12) ((true=true/\true=true/\True)/\True/\V [XV.c (CV.v (Value.string (bs [101,120,99,108,117,115,105,111,110])))] []) False)))))))))))))):=by
 try delta o_n6
 try delta qi6
 kernel_rfl
end Go.Proofs.YthkidembkknoeaaDoor
namespace Go.Proofs.YthkidembkknoeaaDoor
open Go.RowKit PR QR
set_option linter.unusedVariables false
set_option linter.unusedSimpArgs false
theorem y89 (a b:Int):iadd .u64 a b=(a + b) % 18446744073709551616:=by unfold iadd;rw [IntKind.wrap_u64]
theorem y92 (a b:Int):isub .u64 a b=(a - b) % 18446744073709551616:=by unfold isub;rw [IntKind.wrap_u64]
theorem y94 (a b:Int):imul .u64 a b=(a * b) % 18446744073709551616:=by unfold imul;rw [IntKind.wrap_u64]
theorem eMl (a b m:Int):(a % m * b) % m=(a * b) % m:=by rw [Int.mul_emod,Int.emod_emod,<- Int.mul_emod]
theorem eMr (a b m:Int):(a * (b % m)) % m=(a * b) % m:=by rw [Int.mul_emod,Int.emod_emod,<- Int.mul_emod]
theorem eAl (a b m:Int):(a % m + b) % m=(a + b) % m:=by rw [Int.add_emod,Int.emod_emod,<- Int.add_emod]
theorem eAr (a b m:Int):(a + b % m) % m=(a + b) % m:=by rw [Int.add_emod,Int.emod_emod,<- Int.add_emod]
theorem eSl (a b m:Int):(a % m - b) % m=(a - b) % m:=by rw [Int.sub_emod,Int.emod_emod,<- Int.sub_emod]
theorem eSr (a b m:Int):(a - b % m) % m=(a - b) % m:=by rw [Int.sub_emod,Int.emod_emod,<- Int.sub_emod]
end Go.Proofs.YthkidembkknoeaaDoor
namespace Go.Proofs.YthkidembkknoeaaDoor
open Go.RowKit PR QR
set_option linter.unusedVariables false
set_option linter.unusedSimpArgs false
theorem modes {k:Int} (h:1<=k/\k<=12):k=1\/k=2\/k=3\/k=4\/k=5\/k=6\/k=7\/k=8\/k=9\/k=10\/k=11\/k=12:=by omega
theorem y10 {m:Int}:band (ige m 1) (ile m 12)=decide (1<=m/\m<=12):=by
 unfold band ige ile;simp
theorem yf0:jb0 82 qi6:=by
 intro al ans h hq
 unfold qi6 at h
 split at h <;> try (simp at h;done)
 rename_i m
 simp only [Option.some.injEq] at h
 subst h
 have hq:=asked hq
 refine QR.ja2 (O:=(QR.orc [])) QR.jb2 mixed (QR.ja4) Tryd.func82 (by kernel_rfl) (by kernel_rfl) (by simp) ?_
 rw [vw6]
 simp only [ja1,jb6,eqXs,eqX,eqo,eqLo,eqL,eqc,veq,eqUs,forall_eq,true_and,and_true,y89,y92,y94,eMl,eMr,eAl,eAr,eSl,eSr,ile,ige,igt,ilt,ieq,ge_iff_le,gt_iff_lt,decide_eq_true_eq,decide_eq_false_iff_not,beq_iff_eq,beq_eq_false_iff_ne,ne_eq,Int.mul_one]
 refine ⟨λ c=>?_,λ c=>?_⟩
 ·simp [band,c]
 ·simp [band,c]
theorem ve8 {m:Int}:bnot (seqB (qo7 m) (bs []))=decide (1<=m/\m<=12):=by
 by_cases h:1<=m/\m<=12
 ·rcases modes h with rfl | rfl | rfl | rfl | rfl | rfl | rfl | rfl | rfl | rfl | rfl | rfl <;> rfl
 ·have e:qo7 m=bs []:=by unfold qo7;rw [if_neg (by omega),if_neg (by omega),if_neg (by omega),if_neg (by omega),if_neg (by omega),if_neg (by omega),if_neg (by omega),if_neg (by omega),if_neg (by omega),if_neg (by omega),if_neg (by omega),if_neg (by omega)]
  rw [e,decide_eq_false h];rfl
theorem vp6 {m:Int} (h:¬ (1<=m/\m<=12)):qo7 m=bs []:=by unfold qo7;rw [if_neg (by omega),if_neg (by omega),if_neg (by omega),if_neg (by omega),if_neg (by omega),if_neg (by omega),if_neg (by omega),if_neg (by omega),if_neg (by omega),if_neg (by omega),if_neg (by omega),if_neg (by omega)]
theorem yr0:jb0 69 qz2:=by
 intro al ans h hq
 unfold qz2 at h
 split at h <;> try (simp at h;done)
 rename_i m
 simp only [Option.some.injEq] at h
 subst h
 have hq:=asked hq
 refine QR.ja2 (O:=o_n6) (QR.ja3 yf0 QR.jb2) mixed (QR.ja4) Tryd.func69 (by kernel_rfl) (by kernel_rfl) (by simp) ?_
 rw [ye9]
 rw [y10]
 by_cases h:1<=m/\m<=12
 ·rcases modes h with rfl | rfl | rfl | rfl | rfl | rfl | rfl | rfl | rfl | rfl | rfl | rfl <;> simp [ja1,bnot,ieq,jb6,eqXs,eqX,eqo,eqLo,eqc,veq,eqUs,qo7]
 ·simp [ja1,bnot,h,jb6,eqXs,eqX,eqo,eqLo,eqc,veq,eqUs,vp6]
end Go.Proofs.YthkidembkknoeaaDoor
namespace Go.Proofs.YthkidembkknoeaaDoor
open Go.RowKit PR
set_option linter.unusedVariables false
def opB (k:Int):Bool:=decide (1<=k/\k<=12)
section
variable {k a b m:Int}
theorem vj7 (h:1<=k/\k<=12):k=1\/k=2\/k=3\/k=4\/k=5\/k=6\/k=7\/k=8\/k=9\/k=10\/k=11\/k=12:=by omega
end
end Go.Proofs.YthkidembkknoeaaDoor
namespace Go.Proofs.YthkidembkknoeaaDoor
open Go.RowKit PR QR
set_option linter.unusedVariables false
def qz3 (m:Int):ByteArray:=if m=1 then bs [99,108,101,97,114] else if m=2 then bs [115,114,99] else if m=3 then bs [100,115,116] else if m=4 then bs [115,114,99,45,111,118,101,114] else if m=5 then bs [100,115,116,45,111,118,101,114] else if m=6 then bs [115,114,99,45,105,110] else if m=7 then bs [100,115,116,45,105,110] else if m=8 then bs [115,114,99,45,111,117,116] else if m=9 then bs [100,115,116,45,111,117,116] else if m=10 then bs [115,114,99,45,97,116,111,112] else if m=11 then bs [100,115,116,45,97,116,111,112] else if m=12 then bs [120,111,114] else bs []
def qz4:List AV->Option QR.Ans
 | [.x (.c (.v (.int .i64 m)))]=>some ⟨[.c (.v (.string (qz3 m)))],[],[]⟩
 | _=>none
def qi7:List AV->Option QR.Ans
 | [.x (.c (.v (.int .i64 m)))]=>some ⟨[.c (.v (.bool (band (ige m 1) (ile m 12))))],[],[]⟩
 | _=>none
def yr1:QR.ja7:=QR.orc [(81,qi7)]
set_option maxRecDepth 100000 in
theorem vw7 (m:Int) (V:List QR.XV->List (List QR.CV)->Prop):QR.ja9 Tryd.prog (QR.orc []) (QR.ja4) (Tryd.f81.body.getD .skip) Tryd.f81.results.toList Tryd.f81.ntmps [.x (.c (.v (.int .i64 m)))] V=(True/\ja0 (ige m 1) (True/\True/\V [XV.c (CV.v (Value.bool (ile m 12)))] []) (True/\True/\V [XV.c (CV.v (Value.bool false))] [])):=by
 kernel_rfl
set_option maxRecDepth 100000 in
theorem yf1 (m:Int) (V:List QR.XV->List (List QR.CV)->Prop):QR.ja9 Tryd.prog (yr1) (QR.ja4) (Tryd.f68.body.getD .skip) Tryd.f68.results.toList Tryd.f68.ntmps [.x (.c (.v (.int .i64 m)))] V=(True/\True/\ja0 (bnot (band (ige m 1) (ile m 12))) (True/\True/\V [XV.c (CV.v (Value.string (bs [])))] []) (ja0 (ieq m 0) ((true=true/\true=true/\True)/\True/\V [XV.c (CV.v (Value.string (bs [])))] []) (ja0 (ieq m 1) ((true=true/\true=true/\True)/\True/\V [XV.c (CV.v (Value.string (bs [99,108,101,97,114])))] []) (ja0 (ieq m 2) ((true=true/\true=true/\True)/\True/\V [XV.c (CV.v (Value.string (bs [115,114,99])))] []) (ja0 (ieq m 3) ((true=true/\true=true/\True)/\True/\V [XV.c (CV.v (Value.string (bs [100,115,116])))] []) (ja0 (ieq m 4) ((true=true/\true=true/\True)/\True/\V [XV.c (CV.v (Value.string (bs [115,114,99,45,111,118,101,114])))] []) (ja0 (ieq m 5) ((true=true/\true=true/\True)/\True/\V [XV.c (CV.v (Value.string (bs [100,115,116,45,111,118,101,114])))] []) (ja0 (ieq m 6) ((true=true/\true=true/\True)/\True/\V [XV.c (CV.v (Value.string (bs [115,114,99,45,105,110])))] []) (ja0 (ieq m 7) ((true=true/\true=true/\True)/\True/\V [XV.c (CV.v (Value.string (bs [100,115,116,45,105,110])))] []) (ja0 (ieq m 8) ((true=true/\true=true/\True)/\True/\V [XV.c (CV.v (Value.string (bs [115,114,99,45,111,117,116])))] []) (ja0 (ieq m 9) ((true=true/\true=true/\True)/\True/\V [XV.c (CV.v (Value.string (bs [100,115,116,45,111,117,116])))] []) (ja0 (ieq m 10) ((true=true/\true=true/\True)/\True/\V [XV.c (CV.v (Value.string (bs [115,114,99,45,97,116,111,112])))] []) (ja0 (ieq m 11) ((true=true/\true=true/\True)/\True/\V [XV.c (CV.v (Value.string (bs [100,115,116,45,97,116,111,112])))] []) (ja0 (ieq m 12) ((true=true/\true=true/\True)/\True/\V [XV.c (CV.v (Value.string (bs [120,111,114])))] []) False)))))))))))))):=by
 try delta yr1
 try delta qi7
 kernel_rfl
end Go.Proofs.YthkidembkknoeaaDoor
namespace Go.Proofs.YthkidembkknoeaaDoor
open Go.RowKit PR QR
set_option linter.unusedVariables false
set_option linter.unusedSimpArgs false
theorem yr2 {m:Int}:band (ige m 1) (ile m 12)=opB m:=by
 unfold band ige ile opB;simp
theorem yf2:jb0 81 qi7:=by
 intro al ans h hq
 unfold qi7 at h
 split at h <;> try (simp at h;done)
 rename_i m
 simp only [Option.some.injEq] at h
 subst h
 have hq:=asked hq
 refine QR.ja2 (O:=(QR.orc [])) QR.jb2 mixed (QR.ja4) Tryd.func81 (by kernel_rfl) (by kernel_rfl) (by simp) ?_
 rw [vw7]
 simp only [ja1,jb6,eqXs,eqX,eqo,eqLo,eqL,eqc,veq,eqUs,forall_eq,true_and,and_true,band]
 refine ⟨λ c=>?_,λ c=>?_⟩ <;> simp [c]
theorem qt8 {m:Int} (h:¬ (1<=m/\m<=12)):qz3 m=bs []:=by unfold qz3;rw [if_neg (by omega),if_neg (by omega),if_neg (by omega),if_neg (by omega),if_neg (by omega),if_neg (by omega),if_neg (by omega),if_neg (by omega),if_neg (by omega),if_neg (by omega),if_neg (by omega),if_neg (by omega)]
theorem ve9 {m:Int}:bnot (seqB (qz3 m) (bs []))=opB m:=by
 by_cases h:1<=m/\m<=12
 ·rcases vj7 h with rfl | rfl | rfl | rfl | rfl | rfl | rfl | rfl | rfl | rfl | rfl | rfl <;> rfl
 ·rw [qt8 h]
  unfold opB
  rw [decide_eq_false h];rfl
theorem yr3:jb0 68 qz4:=by
 intro al ans h hq
 unfold qz4 at h
 split at h <;> try (simp at h;done)
 rename_i m
 simp only [Option.some.injEq] at h
 subst h
 have hq:=asked hq
 refine QR.ja2 (O:=yr1) (QR.ja3 yf2 QR.jb2) mixed (QR.ja4) Tryd.func68 (by kernel_rfl) (by kernel_rfl) (by simp) ?_
 rw [yf1]
 rw [yr2]
 unfold opB
 by_cases h:1<=m/\m<=12
 ·rcases vj7 h with rfl | rfl | rfl | rfl | rfl | rfl | rfl | rfl | rfl | rfl | rfl | rfl <;> simp [ja1,bnot,ieq,jb6,eqXs,eqX,eqo,eqLo,eqc,veq,eqUs,qz3]
 ·simp [ja1,bnot,h,jb6,eqXs,eqX,eqo,eqLo,eqc,veq,eqUs,qt8]
end Go.Proofs.YthkidembkknoeaaDoor
namespace Go.Proofs.YthkidembkknoeaaDoor
open Go.RowKit PR QR
set_option linter.unusedVariables false
set_option linter.unusedSimpArgs false
end Go.Proofs.YthkidembkknoeaaDoor
namespace Go.Proofs.YthkidembkknoeaaDoor
open Go.RowKit PR QR
set_option linter.unusedVariables false
set_option linter.unusedSimpArgs false
def qp4 (n k:Int) (sg:Bool):Bool:=bif sg then decide (-(2 ^ (8 * k - 1).toNat)<=n/\n < 2 ^ (8 * k - 1).toNat) else decide (0<=n/\n < 2 ^ (8 * k).toNat)
end Go.Proofs.YthkidembkknoeaaDoor
namespace Go.Proofs.YthkidembkknoeaaDoor
open Go.RowKit PR QR
set_option linter.unusedVariables false
set_option linter.unusedSimpArgs false
def imsG (s:Sc):Prop:=∀i:Nat,(i:Int) < s.mn->imG (s.ml i)
def y40 (o:Ov):Bool:=qp4 o.kd 1 false && (qp4 o.im 1 false && (qp4 o.msk 1 false && (qp4 o.opr 1 false && (qp4 o.md 1 false && (qp4 o.x 4 true && (qp4 o.y 4 true && (qp4 o.mx 4 true && qp4 o.my 4 true)))))))
def je5 (n i:Int):Nat:=(n - i).toNat
end Go.Proofs.YthkidembkknoeaaDoor
namespace Go.Proofs.YthkidembkknoeaaDoor
open Go.RowKit PR QR
set_option linter.unusedVariables false
set_option linter.unusedSimpArgs false
set_option maxRecDepth 20000
theorem qp5 {l:List CV} {s:Sc} {A:List Prop} (h:jj6 l=some (s,A)) (ha:∀p∈A,p):eqCs l (jk1 s)/\0<=s.on/\0<=s.mn/\0<=s.pn:=by
 unfold jj6 at h
 split at h <;> try (simp at h;done)
 rename_i b x0 y0 x1 y1 tw th oc mc pc
 split at h <;> try (simp at h;done)
 rename_i on o mn m pn p e1 e2 e3
 simp only [Option.some.injEq,Prod.mk.injEq] at h
 obtain ⟨rfl,rfl⟩:=h
 obtain ⟨h1,h2,h3,h4,h5,h6,_⟩:=asked ha
 refine ⟨⟨.v _,.v _,.v _,.v _,.v _,.v _,.v _,qp7 e1 h1,jn9 e2 (by decide) h2,jn9 e3 (by decide) h3,trivial⟩,jg1 h4,jg1 h5,jg1 h6⟩
end Go.Proofs.YthkidembkknoeaaDoor
namespace Go.Proofs.YthkidembkknoeaaDoor
open Go.RowKit PR QR
set_option linter.unusedVariables false
set_option linter.unusedSimpArgs false
set_option maxRecDepth 20000
theorem jh3 (k:IntKind) (n:Int) (f:Int->Int):intRow k 1 n (.fn λ i _=>.v (.int k (f i))):=λ _ _ _ _=>rfl
theorem vp8 (n:Int) (f:Int->Im):jh6 n (jr3 f):=λ i j _ hj=>by
 rw [show imAt (jr3 f)=f from rfl]
 match j,hj with
 | 0,_ | 1,_ | 2,_ | 3,_ | 4,_ | 5,_ | 6,_ | 7,_ | 8,_ | 9,_ | 10,_ | 12,_ | 13,_ | 14,_ | 16,_ | 17,_ | 18,_ | 20,_ | 21,_ | 22,_ | 24,_ | 25,_ | 26,_=>exact .v _
 | 11,_ | 15,_ | 19,_ | 23,_ | 27,_=>exact .slc λ _ _ _ _=>.v _
 | n + 28,h=>omega
theorem q06 (n:Int) (f:Int->Ov):jd7 n (jh4 f):=λ i j _ hj=>by
 rw [show ovAt (jh4 f)=f from rfl]
 match j,hj with
 | 0,_ | 1,_ | 2,_ | 3,_ | 4,_ | 5,_ | 6,_ | 7,_ | 8,_ | 9,_ | 10,_ | 11,_=>exact .v _
 | n + 12,h=>omega
end Go.Proofs.YthkidembkknoeaaDoor
namespace Go.Proofs.YthkidembkknoeaaDoor
open Go.RowKit PR QR
set_option linter.unusedVariables false
def prB (w h s:Int):Bool:=decide (fitB w h=true/\w<=s/\s<=16777216)
def ndN (w h s:Int):Int:=(h - 1) * s + w
def yg3:List AV->Option QR.Ans
 | [.x (.c (.v (.int .i64 w))),.x (.c (.v (.int .i64 h))),.x (.c (.v (.int .i64 s)))]=>some ⟨[.c (.v (.bool (prB w h s)))],[],[in64 w=true,in64 h=true,in64 s=true]⟩
 | _=>none
def yg4:List AV->Option QR.Ans
 | [.x (.c (.v (.int .i64 w))),.x (.c (.v (.int .i64 h))),.x (.c (.v (.int .i64 s)))]=>some ⟨[.c (.v (.int .i64 (ndN w h s)))],[],[prB w h s=true]⟩
 | _=>none
def yt1:QR.ja7:=QR.orc [(85,yg3),(86,yg4)]
set_option maxRecDepth 100000 in
theorem yt2 (w h s:Int) (V:List QR.XV->List (List QR.CV)->Prop):QR.ja9 Tryd.prog (QR.orc []) (QR.ja4) (Tryd.f85.body.getD .skip) Tryd.f85.results.toList Tryd.f85.ntmps [.x (.c (.v (.int .i64 w))),.x (.c (.v (.int .i64 h))),.x (.c (.v (.int .i64 s)))] V=(True/\ja0 (ile 1 w) (ja0 (ile w s) (ja0 (ile s 16777216) (ja0 (ile 1 h) (ja0 (ile h 16777216) (True/\True/\V [XV.c (CV.v (Value.bool (ile (imul IntKind.i64 w h) 16777216)))] []) (True/\True/\V [XV.c (CV.v (Value.bool false))] [])) (True/\True/\V [XV.c (CV.v (Value.bool false))] [])) (True/\True/\V [XV.c (CV.v (Value.bool false))] [])) (True/\True/\V [XV.c (CV.v (Value.bool false))] [])) (True/\True/\V [XV.c (CV.v (Value.bool false))] [])):=by
 kernel_rfl
set_option maxRecDepth 100000 in
theorem yt3 (w h s:Int) (V:List QR.XV->List (List QR.CV)->Prop):QR.ja9 Tryd.prog (QR.orc []) (QR.ja4) (Tryd.f86.body.getD .skip) Tryd.f86.results.toList Tryd.f86.ntmps [.x (.c (.v (.int .i64 w))),.x (.c (.v (.int .i64 h))),.x (.c (.v (.int .i64 s)))] V=(True/\True/\True/\V [XV.c (CV.v (Value.int .i64 (iadd IntKind.i64 (imul IntKind.i64 (isub IntKind.i64 h 1) s) w)))] []):=by
 kernel_rfl
set_option maxRecDepth 100000 in
theorem yt4 (w h s n:Int) (l:Int->Nat->Int) (V:List QR.XV->List (List QR.CV)->Prop):QR.ja9 Tryd.prog (yt1) (QR.ja4) (Tryd.f83.body.getD .skip) Tryd.f83.results.toList Tryd.f83.ntmps [.x (.agg [.v (.int .i64 w),.v (.int .i64 h),.v (.int .i64 s),.slc 1 n (.fn λ i j=>.v (.int .u16 (l i j)))])] V=(True/\ja0 (prB w h s) (∀(i:Int),i=n->∀(i_1:Int),i_1=ndN w h s->(prB w h s=true/\in64 w=true/\in64 h=true/\in64 s=true/\True)/\True/\V [XV.c (CV.v (Value.bool (ige i i_1)))] []) ((in64 w=true/\in64 h=true/\in64 s=true/\True)/\True/\V [XV.c (CV.v (Value.bool false))] [])):=by
 try delta yt1
 try delta yg3
 try delta yg4
 generalize @in64=in64
 generalize @ndN=ndN
 generalize @prB=prB
 kernel_rfl
end Go.Proofs.YthkidembkknoeaaDoor
namespace Go.Proofs.YthkidembkknoeaaDoor
open Go Go.RowKit PR QR
set_option linter.unusedVariables false
set_option linter.unusedSimpArgs false
set_option maxRecDepth 20000
theorem y18:jb0 85 yg3:=by
 intro al ans h hq
 unfold yg3 at h
 split at h <;> try (simp at h;done)
 rename_i w h s
 simp only [Option.some.injEq] at h
 subst h
 have hq:=asked hq
 refine QR.ja2 (O:=(QR.orc [])) QR.jb2 mixed (QR.ja4) Tryd.func85 (by kernel_rfl) (by kernel_rfl) (by simp) ?_
 rw [yt2]
 obtain ⟨iw,ih,is,_⟩:=hq
 simp only [jb6,eqXs,eqX,eqo,eqLo,eqc,veq,eqUs,ja1,ile,decide_eq_true_eq,decide_eq_false_iff_not,true_and,and_true]
 have no:¬ (fitB w h=true/\w<=s/\s<=16777216)->false=prB w h s:=λ k=>(decide_eq_false k).symm
 refine ⟨λ h1=>⟨λ h2=>⟨λ h3=>⟨λ h4=>⟨λ h5=>?_,λ h5=>?_⟩,λ h4=>?_⟩,λ h3=>?_⟩,λ h2=>?_⟩,λ h1=>?_⟩
 ·have p0:=Int.mul_nonneg (show 0<=w by omega) (show 0<=h by omega)
  have p1:=Int.mul_le_mul (show w<=16777216 by omega) h5 (by omega) (by decide)
  rw [show imul .i64 w h=w * h from IntWalk.i64_in _ (by omega)]
  unfold prB
  rw [Bool.eq_iff_iff,decide_eq_true_eq,decide_eq_true_eq,jg0]
  exact ⟨λ k=>⟨⟨h1,h4,k⟩,h2,h3⟩,λ k=>k.1.2.2⟩
 ·exact no λ k=>h5 (qb3 k.1).2
 ·exact no λ k=>h4 (jg0.1 k.1).2.1
 ·exact no λ k=>h3 k.2.2
 ·exact no λ k=>h2 k.2.1
 ·exact no λ k=>h1 (jg0.1 k.1).1
theorem vy6 {w h s:Int}:prB w h s=true↔fitB w h=true/\w<=s/\s<=16777216:=by unfold prB;rw [decide_eq_true_eq]
theorem y19:jb0 86 yg4:=by
 intro al ans h hq
 unfold yg4 at h
 split at h <;> try (simp at h;done)
 rename_i w h s
 simp only [Option.some.injEq] at h
 subst h
 have hq:=asked hq
 refine QR.ja2 (O:=(QR.orc [])) QR.jb2 mixed (QR.ja4) Tryd.func86 (by kernel_rfl) (by kernel_rfl) (by simp) ?_
 rw [yt3]
 obtain ⟨hp,_⟩:=hq
 have hp:=vy6.1 hp
 obtain ⟨f1,f2⟩:=qb3 hp.1
 have f3:=jg0.1 hp.1
 obtain ⟨e1,e2,e3,_⟩:=vy5 (h:=h) (s:=s) (w:=w) (by omega) f2 (by omega) hp.2.2 (by omega) f1
 simp only [jb6,eqXs,eqX,eqo,eqLo,eqc,veq,eqUs,true_and,and_true]
 rw [e1,e2,e3];rfl
theorem za3 {w h s:Int} (f:prB w h s=false) {q:Prop}:¬ (fitB w h=true/\w<=s/\s<=16777216/\q):=λ k=>by
 have:=vy6.2 ⟨k.1,k.2.1,k.2.2.1⟩
 rw [f] at this;cases this
theorem za4:jb0 83 jt6:=by
 intro al ans hh hq
 unfold jt6 at hh
 split at hh <;> try (simp at hh;done)
 rename_i w h s c
 cases e:jf1 1 c with
 | none=>rw [e] at hh;simp at hh
 | some p =>
  obtain ⟨n,r⟩:=p
  rw [e] at hh
  simp only [Option.some.injEq] at hh
  subst hh
  obtain ⟨hr,hn,iw,ih,is,_⟩:=asked hq
  refine jd6 (al':=[.x (.agg [.v (.int .i64 w),.v (.int .i64 h),.v (.int .i64 s),.slc 1 n (ints .u16 r)])]) ⟨⟨.v _,.v _,.v _,jj0 e (by decide) hr,trivial⟩,trivial⟩ ?_
  have ri:=qp2 .u16 1 n (λ i j=>intC (den r i j))
  unfold ints
  refine QR.ja2 (O:=yt1) (QR.ja3 y18 (QR.ja3 y19 QR.jb2)) mixed (QR.ja4) Tryd.func83 (by kernel_rfl) (by kernel_rfl) (by simp) ?_
  rw [yt4]
  try dsimp only
  cases f:prB w h s
  ·have z:plB w h s n=false:=decide_eq_false (za3 f)
   simp [jb6,eqXs,eqX,eqo,eqLo,eqL,eqc,veq,eqUs,ja1,bnot,f,z,iw,ih,is]
  ·have f':=vy6.1 f
   simp only [jb6,eqXs,eqX,eqo,eqLo,eqL,eqc,veq,eqUs,ja1,bnot,f,iw,ih,is,ige,true_and,and_true,forall_eq,true_implies,reduceCtorEq,false_implies]
   rw [Bool.eq_iff_iff,decide_eq_true_eq,qu6]
   exact ⟨λ k=>⟨f'.1,f'.2.1,f'.2.2,k⟩,λ k=>k.2.2.2⟩
end Go.Proofs.YthkidembkknoeaaDoor
