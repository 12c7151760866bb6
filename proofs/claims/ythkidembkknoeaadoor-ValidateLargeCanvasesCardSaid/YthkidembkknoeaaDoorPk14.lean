import Derived.Test.YthkidembkknoeaaDoorPk06
import Derived.Test.YthkidembkknoeaaDoorPk07
import Derived.Test.YthkidembkknoeaaDoorPk08
import Derived.Test.YthkidembkknoeaaDoorPk13
import Derived.Test.YthkidembkknoeaaDoorPk12
namespace Go.Proofs.YthkidembkknoeaaDoor
open Go.RowKit PR
set_option linter.unusedVariables false
section
variable {s a d b:Int}
end
end Go.Proofs.YthkidembkknoeaaDoor
namespace Go.Proofs.YthkidembkknoeaaDoor
open Go.RowKit PR
set_option linter.unusedVariables false
end Go.Proofs.YthkidembkknoeaaDoor
namespace Go.Proofs.YthkidembkknoeaaDoor
open Go.RowKit PR QR
set_option linter.unusedVariables false
def qd5 (m:Int):ByteArray:=if m=1 then bs [110,111,114,109,97,108] else if m=2 then bs [109,117,108,116,105,112,108,121] else if m=3 then bs [115,99,114,101,101,110] else if m=4 then bs [111,118,101,114,108,97,121] else if m=5 then bs [100,97,114,107,101,110] else if m=6 then bs [108,105,103,104,116,101,110] else if m=7 then bs [99,111,108,111,114,45,100,111,100,103,101] else if m=8 then bs [99,111,108,111,114,45,98,117,114,110] else if m=9 then bs [104,97,114,100,45,108,105,103,104,116] else if m=10 then bs [115,111,102,116,45,108,105,103,104,116] else if m=11 then bs [100,105,102,102,101,114,101,110,99,101] else if m=12 then bs [101,120,99,108,117,115,105,111,110] else bs []
def jo8:List AV→Option QR.Ans
  | [.x (.c (.v (.int .i64 m)))]=>some ⟨[.c (.v (.bool (band (ige m 1) (ile m 12))))],[],[]⟩
  | _=>none
def jv2:List AV→Option QR.Ans
  | [.x (.c (.v (.int .i64 m)))]=>some ⟨[.c (.v (.string (qd5 m)))],[],[]⟩
  | _=>none
def o_n6:QR.ja7:=QR.orc [(82,jo8)]
def yu9:QR.ja7:=QR.orc [(72,jv2)]
set_option maxRecDepth 100000 in
theorem vy9 (m:Int) (V:List QR.XV→List (List QR.CV)→Prop):QR.ja5 Tryd.prog (QR.orc []) (QR.ja4) (Tryd.f82.body.getD .skip) Tryd.f82.results.toList Tryd.f82.ntmps [.x (.c (.v (.int .i64 m)))] V=(True∧ja0 (ige m 1) (True∧True∧V [XV.c (CV.v (Value.bool (ile m 12)))] []) (True∧True∧V [XV.c (CV.v (Value.bool false))] [])):=by
  kernel_rfl
set_option maxRecDepth 100000 in
theorem vz0 (m:Int) (V:List QR.XV→List (List QR.CV)→Prop):QR.ja5 Tryd.prog (yu9) (QR.ja4) (Tryd.f45.body.getD .skip) Tryd.f45.results.toList Tryd.f45.ntmps [.x (.c (.v (.int .i64 m)))] V=(True∧True∧True∧V [XV.c (CV.v (Value.bool (bnot (seqB (qd5 m) (bs [])))))] []):=by
  try delta yu9
  try delta jv2
  generalize @qd5=qd5
  kernel_rfl
set_option maxRecDepth 100000 in
theorem vz1 (m:Int) (V:List QR.XV→List (List QR.CV)→Prop):QR.ja5 Tryd.prog (QR.orc []) (QR.ja4) (Tryd.f72.body.getD .skip) Tryd.f72.results.toList Tryd.f72.ntmps [.x (.c (.v (.int .i64 m)))] V=(True∧True∧ja0 (ilt m 1) (True∧True∧True∧V [XV.c (CV.v (Value.string (bs [])))] []) (∀(i:Int),i=13→True∧ja0 (ige m i) (True∧True∧V [XV.c (CV.v (Value.string (bs [])))] []) ((ile 0 m=true∧ilt m 13=true∧True)∧True∧V [XV.c (CV.v (Value.string (ssel (ieq m 12) (bs [101,120,99,108,117,115,105,111,110]) (ssel (ieq m 11) (bs [100,105,102,102,101,114,101,110,99,101]) (ssel (ieq m 10) (bs [115,111,102,116,45,108,105,103,104,116]) (ssel (ieq m 9) (bs [104,97,114,100,45,108,105,103,104,116]) (ssel (ieq m 8) (bs [99,111,108,111,114,45,98,117,114,110]) (ssel (ieq m 7) (bs [99,111,108,111,114,45,100,111,100,103,101]) (ssel (ieq m 6) (bs [108,105,103,104,116,101,110]) (ssel (ieq m 5) (bs [100,97,114,107,101,110]) (ssel (ieq m 4) (bs [111,118,101,114,108,97,121]) (ssel (ieq m 3) (bs [115,99,114,101,101,110]) (ssel (ieq m 2) (bs [109,117,108,116,105,112,108,121]) (ssel (ieq m 1) (bs [110,111,114,109,97,108]) (ssel (ieq m 0) (bs []) (bs []))))))))))))))))] []))):=by
  kernel_rfl
set_option maxRecDepth 100000 in
theorem yh9 (m:Int) (V:List QR.XV→List (List QR.CV)→Prop):QR.ja5 Tryd.prog (o_n6) (QR.ja4) (Tryd.f69.body.getD .skip) Tryd.f69.results.toList Tryd.f69.ntmps [.x (.c (.v (.int .i64 m)))] V=(True∧True∧ja0 (bnot (band (ige m 1) (ile m 12))) (True∧True∧V [XV.c (CV.v (Value.string (bs [])))] []) (ja0 (ieq m 0) ((true=true∧true=true∧True)∧True∧V [XV.c (CV.v (Value.string (bs [])))] []) (ja0 (ieq m 1) ((true=true∧true=true∧True)∧True∧V [XV.c (CV.v (Value.string (bs [110,111,114,109,97,108])))] []) (ja0 (ieq m 2) ((true=true∧true=true∧True)∧True∧V [XV.c (CV.v (Value.string (bs [109,117,108,116,105,112,108,121])))] []) (ja0 (ieq m 3) ((true=true∧true=true∧True)∧True∧V [XV.c (CV.v (Value.string (bs [115,99,114,101,101,110])))] []) (ja0 (ieq m 4) ((true=true∧true=true∧True)∧True∧V [XV.c (CV.v (Value.string (bs [111,118,101,114,108,97,121])))] []) (ja0 (ieq m 5) ((true=true∧true=true∧True)∧True∧V [XV.c (CV.v (Value.string (bs [100,97,114,107,101,110])))] []) (ja0 (ieq m 6) ((true=true∧true=true∧True)∧True∧V [XV.c (CV.v (Value.string (bs [108,105,103,104,116,101,110])))] []) (ja0 (ieq m 7) ((true=true∧true=true∧True)∧True∧V [XV.c (CV.v (Value.string (bs [99,111,108,111,114,45,100,111,100,103,101])))] []) (ja0 (ieq m 8) ((true=true∧true=true∧True)∧True∧V [XV.c (CV.v (Value.string (bs [99,111,108,111,114,45,98,117,114,110])))] []) (ja0 (ieq m 9) ((true=true∧true=true∧True)∧True∧V [XV.c (CV.v (Value.string (bs [104,97,114,100,45,108,105,103,104,116])))] []) (ja0 (ieq m 10) ((true=true∧true=true∧True)∧True∧V [XV.c (CV.v (Value.string (bs [115,111,102,116,45,108,105,103,104,116])))] []) (ja0 (ieq m 11) ((true=true∧true=true∧True)∧True∧V [XV.c (CV.v (Value.string (bs [100,105,102,102,101,114,101,110,99,101])))] []) (ja0 (ieq m 12) ((true=true∧true=true∧True)∧True∧V [XV.c (CV.v (Value.string (bs [101,120,99,108,117,115,105,111,110])))] []) False)))))))))))))):=by
  try delta o_n6
  try delta jo8
  kernel_rfl
end Go.Proofs.YthkidembkknoeaaDoor
namespace Go.Proofs.YthkidembkknoeaaDoor
open Go.RowKit PR QR
set_option linter.unusedVariables false
set_option linter.unusedSimpArgs false
theorem zd3 (a b:Int):iadd .u64 a b=(a + b) % 18446744073709551616:=by unfold iadd;rw [IntKind.wrap_u64]
theorem zd4 (a b:Int):isub .u64 a b=(a - b) % 18446744073709551616:=by unfold isub;rw [IntKind.wrap_u64]
theorem zd5 (a b:Int):imul .u64 a b=(a * b) % 18446744073709551616:=by unfold imul;rw [IntKind.wrap_u64]
theorem eMl (a b m:Int):(a % m * b) % m=(a * b) % m:=by rw [Int.mul_emod,Int.emod_emod,← Int.mul_emod]
theorem eMr (a b m:Int):(a * (b % m)) % m=(a * b) % m:=by rw [Int.mul_emod,Int.emod_emod,← Int.mul_emod]
theorem eAl (a b m:Int):(a % m + b) % m=(a + b) % m:=by rw [Int.add_emod,Int.emod_emod,← Int.add_emod]
theorem eAr (a b m:Int):(a + b % m) % m=(a + b) % m:=by rw [Int.add_emod,Int.emod_emod,← Int.add_emod]
theorem eSl (a b m:Int):(a % m - b) % m=(a - b) % m:=by rw [Int.sub_emod,Int.emod_emod,← Int.sub_emod]
theorem eSr (a b m:Int):(a - b % m) % m=(a - b) % m:=by rw [Int.sub_emod,Int.emod_emod,← Int.sub_emod]
end Go.Proofs.YthkidembkknoeaaDoor
namespace Go.Proofs.YthkidembkknoeaaDoor
open Go.RowKit PR QR
set_option linter.unusedVariables false
set_option linter.unusedSimpArgs false
theorem modes {k:Int} (h:1≤k∧k≤12):k=1∨k=2∨k=3∨k=4∨k=5∨k=6∨k=7∨k=8∨k=9∨k=10∨k=11∨k=12:=by omega
theorem vz2 {m:Int}:band (ige m 1) (ile m 12)=decide (1≤m∧m≤12):=by
  unfold band ige ile;simp
theorem yi0:ja6 82 jo8:=by
  intro al ans h hq
  unfold jo8 at h
  split at h <;> try (simp at h;done)
  rename_i m
  simp only [Option.some.injEq] at h
  subst h
  have hq:=asked hq
  refine QR.ja2 (O:=(QR.orc [])) QR.jb4 mixed (QR.ja4) Tryd.func82 (by kernel_rfl) (by kernel_rfl) (by simp) ?_
  rw [vy9]
  simp only [ja1,jb5,eqXs,eqX,eqo,eqLo,eqL,eqc,veq,eqUs,forall_eq,true_and,and_true,zd3,zd4,zd5,eMl,eMr,eAl,eAr,eSl,eSr,ile,ige,igt,ilt,ieq,ge_iff_le,gt_iff_lt,decide_eq_true_eq,decide_eq_false_iff_not,beq_iff_eq,beq_eq_false_iff_ne,ne_eq,Int.mul_one]
  refine ⟨fun c=>?_,fun c=>?_⟩
  · simp [band,c]
  · simp [band,c]
theorem qq5 {m:Int}:bnot (seqB (qd5 m) (bs []))=decide (1≤m∧m≤12):=by
  by_cases h:1≤m∧m≤12
  · rcases modes h with rfl | rfl | rfl | rfl | rfl | rfl | rfl | rfl | rfl | rfl | rfl | rfl <;> rfl
  · have e:qd5 m=bs []:=by unfold qd5;rw [if_neg (by omega),if_neg (by omega),if_neg (by omega),if_neg (by omega),if_neg (by omega),if_neg (by omega),if_neg (by omega),if_neg (by omega),if_neg (by omega),if_neg (by omega),if_neg (by omega),if_neg (by omega)]
    rw [e,decide_eq_false h];rfl
theorem qg1 {m:Int} (h:¬ (1≤m∧m≤12)):qd5 m=bs []:=by unfold qd5;rw [if_neg (by omega),if_neg (by omega),if_neg (by omega),if_neg (by omega),if_neg (by omega),if_neg (by omega),if_neg (by omega),if_neg (by omega),if_neg (by omega),if_neg (by omega),if_neg (by omega),if_neg (by omega)]
theorem yi1:ja6 72 jv2:=by
  intro al ans h hq
  unfold jv2 at h
  split at h <;> try (simp at h;done)
  rename_i m
  simp only [Option.some.injEq] at h
  subst h
  have hq:=asked hq
  refine QR.ja2 (O:=(QR.orc [])) QR.jb4 mixed (QR.ja4) Tryd.func72 (by kernel_rfl) (by kernel_rfl) (by simp) ?_
  rw [vz1]
  simp only [ja1,jb5,eqXs,eqX,eqo,eqLo,eqc,veq,eqUs,forall_eq,true_and,and_true,ilt,ile,ige,ge_iff_le,decide_eq_true_eq,decide_eq_false_iff_not]
  refine ⟨fun c=>?_,fun c=>⟨fun e=>?_,fun e=>?_⟩⟩
  · exact (qg1 (by omega)).symm
  · exact (qg1 (by omega)).symm
  · refine ⟨by omega,?_⟩
    rcases modes (k:=m) (by omega) with rfl | rfl | rfl | rfl | rfl | rfl | rfl | rfl | rfl | rfl | rfl | rfl <;> rfl
theorem yi2:ja6 45 jo8:=by
  intro al ans h hq
  unfold jo8 at h
  split at h <;> try (simp at h;done)
  rename_i m
  simp only [Option.some.injEq] at h
  subst h
  have hq:=asked hq
  refine QR.ja2 (O:=yu9) (QR.ja3 yi1 QR.jb4) mixed (QR.ja4) Tryd.func45 (by kernel_rfl) (by kernel_rfl) (by simp) ?_
  rw [vz0]
  simp only [jb5,eqXs,eqX,eqo,eqLo,eqc,veq,eqUs,true_and,and_true,qq5,vz2]
theorem yv0:ja6 69 jv2:=by
  intro al ans h hq
  unfold jv2 at h
  split at h <;> try (simp at h;done)
  rename_i m
  simp only [Option.some.injEq] at h
  subst h
  have hq:=asked hq
  refine QR.ja2 (O:=o_n6) (QR.ja3 yi0 QR.jb4) mixed (QR.ja4) Tryd.func69 (by kernel_rfl) (by kernel_rfl) (by simp) ?_
  rw [yh9]
  rw [vz2]
  by_cases h:1≤m∧m≤12
  · rcases modes h with rfl | rfl | rfl | rfl | rfl | rfl | rfl | rfl | rfl | rfl | rfl | rfl <;> simp [ja1,bnot,ieq,jb5,eqXs,eqX,eqo,eqLo,eqc,veq,eqUs,qd5]
  · simp [ja1,bnot,h,jb5,eqXs,eqX,eqo,eqLo,eqc,veq,eqUs,qg1]
end Go.Proofs.YthkidembkknoeaaDoor
namespace Go.Proofs.YthkidembkknoeaaDoor
open Go.RowKit PR
set_option linter.unusedVariables false
def opB (k:Int):Bool:=decide (1≤k∧k≤12)
section
variable {k a b m:Int}
theorem q26 (h:1≤k∧k≤12):k=1∨k=2∨k=3∨k=4∨k=5∨k=6∨k=7∨k=8∨k=9∨k=10∨k=11∨k=12:=by omega
end
end Go.Proofs.YthkidembkknoeaaDoor
namespace Go.Proofs.YthkidembkknoeaaDoor
open Go.RowKit PR QR
set_option linter.unusedVariables false
def qj4 (m:Int):ByteArray:=if m=1 then bs [99,108,101,97,114] else if m=2 then bs [115,114,99] else if m=3 then bs [100,115,116] else if m=4 then bs [115,114,99,45,111,118,101,114] else if m=5 then bs [100,115,116,45,111,118,101,114] else if m=6 then bs [115,114,99,45,105,110] else if m=7 then bs [100,115,116,45,105,110] else if m=8 then bs [115,114,99,45,111,117,116] else if m=9 then bs [100,115,116,45,111,117,116] else if m=10 then bs [115,114,99,45,97,116,111,112] else if m=11 then bs [100,115,116,45,97,116,111,112] else if m=12 then bs [120,111,114] else bs []
def jv3:List AV→Option QR.Ans
  | [.x (.c (.v (.int .i64 m)))]=>some ⟨[.c (.v (.string (qj4 m)))],[],[]⟩
  | _=>none
def jo9:List AV→Option QR.Ans
  | [.x (.c (.v (.int .i64 m)))]=>some ⟨[.c (.v (.bool (band (ige m 1) (ile m 12))))],[],[]⟩
  | _=>none
def yv1:QR.ja7:=QR.orc [(71,jv3)]
def yv2:QR.ja7:=QR.orc [(81,jo9)]
set_option maxRecDepth 100000 in
theorem vz3 (m:Int) (V:List QR.XV→List (List QR.CV)→Prop):QR.ja5 Tryd.prog (QR.orc []) (QR.ja4) (Tryd.f71.body.getD .skip) Tryd.f71.results.toList Tryd.f71.ntmps [.x (.c (.v (.int .i64 m)))] V=(True∧True∧ja0 (ilt m 1) (True∧True∧True∧V [XV.c (CV.v (Value.string (bs [])))] []) (∀(i:Int),i=13→True∧ja0 (ige m i) (True∧True∧V [XV.c (CV.v (Value.string (bs [])))] []) ((ile 0 m=true∧ilt m 13=true∧True)∧True∧V [XV.c (CV.v (Value.string (ssel (ieq m 12) (bs [120,111,114]) (ssel (ieq m 11) (bs [100,115,116,45,97,116,111,112]) (ssel (ieq m 10) (bs [115,114,99,45,97,116,111,112]) (ssel (ieq m 9) (bs [100,115,116,45,111,117,116]) (ssel (ieq m 8) (bs [115,114,99,45,111,117,116]) (ssel (ieq m 7) (bs [100,115,116,45,105,110]) (ssel (ieq m 6) (bs [115,114,99,45,105,110]) (ssel (ieq m 5) (bs [100,115,116,45,111,118,101,114]) (ssel (ieq m 4) (bs [115,114,99,45,111,118,101,114]) (ssel (ieq m 3) (bs [100,115,116]) (ssel (ieq m 2) (bs [115,114,99]) (ssel (ieq m 1) (bs [99,108,101,97,114]) (ssel (ieq m 0) (bs []) (bs []))))))))))))))))] []))):=by
  kernel_rfl
set_option maxRecDepth 100000 in
theorem yv3 (m:Int) (V:List QR.XV→List (List QR.CV)→Prop):QR.ja5 Tryd.prog (yv1) (QR.ja4) (Tryd.f44.body.getD .skip) Tryd.f44.results.toList Tryd.f44.ntmps [.x (.c (.v (.int .i64 m)))] V=(True∧True∧True∧V [XV.c (CV.v (Value.bool (bnot (seqB (qj4 m) (bs [])))))] []):=by
  try delta yv1
  try delta jv3
  generalize @qj4=qj4
  kernel_rfl
set_option maxRecDepth 100000 in
theorem vz4 (m:Int) (V:List QR.XV→List (List QR.CV)→Prop):QR.ja5 Tryd.prog (QR.orc []) (QR.ja4) (Tryd.f81.body.getD .skip) Tryd.f81.results.toList Tryd.f81.ntmps [.x (.c (.v (.int .i64 m)))] V=(True∧ja0 (ige m 1) (True∧True∧V [XV.c (CV.v (Value.bool (ile m 12)))] []) (True∧True∧V [XV.c (CV.v (Value.bool false))] [])):=by
  kernel_rfl
set_option maxRecDepth 100000 in
theorem yi3 (m:Int) (V:List QR.XV→List (List QR.CV)→Prop):QR.ja5 Tryd.prog (yv2) (QR.ja4) (Tryd.f68.body.getD .skip) Tryd.f68.results.toList Tryd.f68.ntmps [.x (.c (.v (.int .i64 m)))] V=(True∧True∧ja0 (bnot (band (ige m 1) (ile m 12))) (True∧True∧V [XV.c (CV.v (Value.string (bs [])))] []) (ja0 (ieq m 0) ((true=true∧true=true∧True)∧True∧V [XV.c (CV.v (Value.string (bs [])))] []) (ja0 (ieq m 1) ((true=true∧true=true∧True)∧True∧V [XV.c (CV.v (Value.string (bs [99,108,101,97,114])))] []) (ja0 (ieq m 2) ((true=true∧true=true∧True)∧True∧V [XV.c (CV.v (Value.string (bs [115,114,99])))] []) (ja0 (ieq m 3) ((true=true∧true=true∧True)∧True∧V [XV.c (CV.v (Value.string (bs [100,115,116])))] []) (ja0 (ieq m 4) ((true=true∧true=true∧True)∧True∧V [XV.c (CV.v (Value.string (bs [115,114,99,45,111,118,101,114])))] []) (ja0 (ieq m 5) ((true=true∧true=true∧True)∧True∧V [XV.c (CV.v (Value.string (bs [100,115,116,45,111,118,101,114])))] []) (ja0 (ieq m 6) ((true=true∧true=true∧True)∧True∧V [XV.c (CV.v (Value.string (bs [115,114,99,45,105,110])))] []) (ja0 (ieq m 7) ((true=true∧true=true∧True)∧True∧V [XV.c (CV.v (Value.string (bs [100,115,116,45,105,110])))] []) (ja0 (ieq m 8) ((true=true∧true=true∧True)∧True∧V [XV.c (CV.v (Value.string (bs [115,114,99,45,111,117,116])))] []) (ja0 (ieq m 9) ((true=true∧true=true∧True)∧True∧V [XV.c (CV.v (Value.string (bs [100,115,116,45,111,117,116])))] []) (ja0 (ieq m 10) ((true=true∧true=true∧True)∧True∧V [XV.c (CV.v (Value.string (bs [115,114,99,45,97,116,111,112])))] []) (ja0 (ieq m 11) ((true=true∧true=true∧True)∧True∧V [XV.c (CV.v (Value.string (bs [100,115,116,45,97,116,111,112])))] []) (ja0 (ieq m 12) ((true=true∧true=true∧True)∧True∧V [XV.c (CV.v (Value.string (bs [120,111,114])))] []) False)))))))))))))):=by
  try delta yv2
  try delta jo9
  kernel_rfl
end Go.Proofs.YthkidembkknoeaaDoor
namespace Go.Proofs.YthkidembkknoeaaDoor
open Go.RowKit PR QR
set_option linter.unusedVariables false
set_option linter.unusedSimpArgs false
theorem vz5 {m:Int}:band (ige m 1) (ile m 12)=opB m:=by
  unfold band ige ile opB;simp
theorem yi4:ja6 81 jo9:=by
  intro al ans h hq
  unfold jo9 at h
  split at h <;> try (simp at h;done)
  rename_i m
  simp only [Option.some.injEq] at h
  subst h
  have hq:=asked hq
  refine QR.ja2 (O:=(QR.orc [])) QR.jb4 mixed (QR.ja4) Tryd.func81 (by kernel_rfl) (by kernel_rfl) (by simp) ?_
  rw [vz4]
  simp only [ja1,jb5,eqXs,eqX,eqo,eqLo,eqL,eqc,veq,eqUs,forall_eq,true_and,and_true,band]
  refine ⟨fun c=>?_,fun c=>?_⟩ <;> simp [c]
theorem jw9 {m:Int} (h:¬ (1≤m∧m≤12)):qj4 m=bs []:=by unfold qj4;rw [if_neg (by omega),if_neg (by omega),if_neg (by omega),if_neg (by omega),if_neg (by omega),if_neg (by omega),if_neg (by omega),if_neg (by omega),if_neg (by omega),if_neg (by omega),if_neg (by omega),if_neg (by omega)]
theorem qq6 {m:Int}:bnot (seqB (qj4 m) (bs []))=opB m:=by
  by_cases h:1≤m∧m≤12
  · rcases q26 h with rfl | rfl | rfl | rfl | rfl | rfl | rfl | rfl | rfl | rfl | rfl | rfl <;> rfl
  · rw [jw9 h]
    unfold opB
    rw [decide_eq_false h];rfl
theorem yi5:ja6 71 jv3:=by
  intro al ans h hq
  unfold jv3 at h
  split at h <;> try (simp at h;done)
  rename_i m
  simp only [Option.some.injEq] at h
  subst h
  have hq:=asked hq
  refine QR.ja2 (O:=(QR.orc [])) QR.jb4 mixed (QR.ja4) Tryd.func71 (by kernel_rfl) (by kernel_rfl) (by simp) ?_
  rw [vz3]
  simp only [ja1,jb5,eqXs,eqX,eqo,eqLo,eqc,veq,eqUs,forall_eq,true_and,and_true,ilt,ile,ige,ge_iff_le,decide_eq_true_eq,decide_eq_false_iff_not]
  refine ⟨fun c=>?_,fun c=>⟨fun e=>?_,fun e=>?_⟩⟩
  · exact (jw9 (by omega)).symm
  · exact (jw9 (by omega)).symm
  · refine ⟨by omega,?_⟩
    rcases q26 (k:=m) (by omega) with rfl | rfl | rfl | rfl | rfl | rfl | rfl | rfl | rfl | rfl | rfl | rfl <;> rfl
theorem y66:ja6 44 jo9:=by
  intro al ans h hq
  unfold jo9 at h
  split at h <;> try (simp at h;done)
  rename_i m
  simp only [Option.some.injEq] at h
  subst h
  have hq:=asked hq
  refine QR.ja2 (O:=yv1) (QR.ja3 yi5 QR.jb4) mixed (QR.ja4) Tryd.func44 (by kernel_rfl) (by kernel_rfl) (by simp) ?_
  rw [yv3]
  simp only [jb5,eqXs,eqX,eqo,eqLo,eqc,veq,eqUs,true_and,and_true,qq6,vz5]
theorem yv4:ja6 68 jv3:=by
  intro al ans h hq
  unfold jv3 at h
  split at h <;> try (simp at h;done)
  rename_i m
  simp only [Option.some.injEq] at h
  subst h
  have hq:=asked hq
  refine QR.ja2 (O:=yv2) (QR.ja3 yi4 QR.jb4) mixed (QR.ja4) Tryd.func68 (by kernel_rfl) (by kernel_rfl) (by simp) ?_
  rw [yi3]
  rw [vz5]
  unfold opB
  by_cases h:1≤m∧m≤12
  · rcases q26 h with rfl | rfl | rfl | rfl | rfl | rfl | rfl | rfl | rfl | rfl | rfl | rfl <;> simp [ja1,bnot,ieq,jb5,eqXs,eqX,eqo,eqLo,eqc,veq,eqUs,qj4]
  · simp [ja1,bnot,h,jb5,eqXs,eqX,eqo,eqLo,eqc,veq,eqUs,jw9]
end Go.Proofs.YthkidembkknoeaaDoor
namespace Go.Proofs.YthkidembkknoeaaDoor
open Go.RowKit PR QR
set_option linter.unusedVariables false
set_option linter.unusedSimpArgs false
end Go.Proofs.YthkidembkknoeaaDoor
namespace Go.Proofs.YthkidembkknoeaaDoor
open Go.RowKit PR QR
set_option linter.unusedVariables false
set_option linter.unusedSimpArgs false
def tiB (a b c d w h:Int):Bool:=decide (reB a b c d=false∧(1≤w∧w≤c - a)∧1≤h∧h≤d - b)
def tiX (a b c d w h:Int):Int:=if tiB a b c d w h=true then (c - a - 1) / w + 1 else 0
def tiY (a b c d w h:Int):Int:=if tiB a b c d w h=true then (d - b - 1) / h + 1 else 0
theorem ve1 {a b:Int} (h:0≤a) (k:a≤9223372036854775807) (hb:1≤b):iquo .i64 a b=a / b:=by
  unfold iquo
  rw [Int.tdiv_eq_ediv_of_nonneg h]
  have h1:=Int.ediv_nonneg h (show (0:Int)≤b by omega)
  have h2:=Int.ediv_le_self b h
  exact IntWalk.i64_in _ (by omega)
theorem jl2 {u w:Int} (hw:1≤w) (hu:w≤u):(1≤(u - 1) / w + 1∧(u - 1) / w + 1≤u)∧(u - 1) / w * w≤u - 1∧u≤((u - 1) / w + 1) * w:=by
  have h0:0≤u - 1:=by omega
  have h1:=Int.ediv_nonneg h0 (show (0:Int)≤w by omega)
  have h2:=Int.ediv_le_self w h0
  have h3:=Int.mul_ediv_add_emod (u - 1) w
  have h4:=Int.emod_nonneg (u - 1) (show w≠0 by omega)
  have h5:=Int.emod_lt_of_pos (u - 1) (show 0 < w by omega)
  rw [Int.mul_comm] at h3
  refine ⟨⟨by omega,by omega⟩,by omega,?_⟩
  rw [Int.add_mul]
  omega
theorem y04 {a b c d w h:Int} (k:tiB a b c d w h=true):((F30 a∧F30 b∧F30 c∧F30 d)∧a < c∧b < d)∧(1≤w∧w≤c - a)∧1≤h∧h≤d - b:=by
  unfold tiB at k
  rw [decide_eq_true_eq,re_f] at k
  exact k
theorem yl9 {a b c d w h:Int} (k:tiB a b c d w h=true):tiX a b c d w h=(c - a - 1) / w + 1:=by unfold tiX;rw [if_pos k]
theorem ym0 {a b c d w h:Int} (k:tiB a b c d w h=true):tiY a b c d w h=(d - b - 1) / h + 1:=by unfold tiY;rw [if_pos k]
end Go.Proofs.YthkidembkknoeaaDoor
namespace Go.Proofs.YthkidembkknoeaaDoor
open Go.RowKit PR QR
set_option linter.unusedVariables false
def jp2:List AV→Option QR.Ans
  | [.x (.agg [.v (.int .i64 a),.v (.int .i64 b),.v (.int .i64 c),.v (.int .i64 d)]),.x (.c (.v (.int .i64 w))),.x (.c (.v (.int .i64 h)))]=>some ⟨[.c (.v (.int .i64 (tiX a b c d w h))),.c (.v (.int .i64 (tiY a b c d w h))),.c (.v (.bool (tiB a b c d w h)))],[],[]⟩
  | _=>none
def qk8:List AV→Option QR.Ans
  | [.x (.c (.v (.int .i64 a))),.x (.c (.v (.int .i64 b)))]=>some ⟨[.c (.v (.int .i64 (iquo .i64 (isub .i64 (iadd .i64 a b) 1) b)))],[],[ine b 0=true]⟩
  | _=>none
def q67:QR.ja7:=QR.orc [(58,jl0),(59,qk8)]
def q68:QR.ja7:=QR.orc [(37,jl0)]
set_option maxRecDepth 100000 in
theorem yc9 (a b:Int) (V:List QR.XV→List (List QR.CV)→Prop):QR.ja5 Tryd.prog (QR.orc []) (QR.ja4) (Tryd.f59.body.getD .skip) Tryd.f59.results.toList Tryd.f59.ntmps [.x (.c (.v (.int .i64 a))),.x (.c (.v (.int .i64 b)))] V=(True∧(ine b 0=true∧True)∧True∧V [XV.c (CV.v (Value.int .i64 (iquo IntKind.i64 (isub IntKind.i64 (iadd IntKind.i64 a b) 1) b)))] []):=by
  kernel_rfl
set_option maxRecDepth 100000 in
theorem yd0 (a b c d w h:Int) (V:List QR.XV→List (List QR.CV)→Prop):QR.ja5 Tryd.prog (q67) (QR.ja4) (Tryd.f33.body.getD .skip) Tryd.f33.results.toList Tryd.f33.ntmps [.x (.agg [.v (.int .i64 a),.v (.int .i64 b),.v (.int .i64 c),.v (.int .i64 d)]),.x (.c (.v (.int .i64 w))),.x (.c (.v (.int .i64 h)))] V=(True∧True∧ja0 (reB a b c d) (True∧True∧V [XV.c (CV.v (Value.int .i64 0)),XV.c (CV.v (Value.int .i64 0)),XV.c (CV.v (Value.bool false))] []) (True∧ja0 (ilt w 1) (True∧True∧True∧V [XV.c (CV.v (Value.int .i64 0)),XV.c (CV.v (Value.int .i64 0)),XV.c (CV.v (Value.bool false))] []) (ja0 (igt w (isub IntKind.i64 c a)) (True∧True∧True∧V [XV.c (CV.v (Value.int .i64 0)),XV.c (CV.v (Value.int .i64 0)),XV.c (CV.v (Value.bool false))] []) (ja0 (ilt h 1) (True∧True∧True∧V [XV.c (CV.v (Value.int .i64 0)),XV.c (CV.v (Value.int .i64 0)),XV.c (CV.v (Value.bool false))] []) (True∧ja0 (igt h (isub IntKind.i64 d b)) (True∧True∧V [XV.c (CV.v (Value.int .i64 0)),XV.c (CV.v (Value.int .i64 0)),XV.c (CV.v (Value.bool false))] []) (∀(i:Int),i=iquo IntKind.i64 (isub IntKind.i64 (iadd IntKind.i64 (isub IntKind.i64 c a) w) 1) w→∀(i_1:Int),i_1=iquo IntKind.i64 (isub IntKind.i64 (iadd IntKind.i64 (isub IntKind.i64 d b) h) 1) h→(ine h 0=true∧ine w 0=true∧True)∧True∧V [XV.c (CV.v (Value.int .i64 i)),XV.c (CV.v (Value.int .i64 i_1)),XV.c (CV.v (Value.bool true))] [])))))):=by
  try delta q67
  try delta jl0
  try delta qk8
  generalize @reB=reB
  kernel_rfl
set_option maxRecDepth 100000 in
theorem yd1 (a b c d w h:Int) (V:List QR.XV→List (List QR.CV)→Prop):QR.ja5 Tryd.prog (q68) (QR.ja4) (Tryd.f24.body.getD .skip) Tryd.f24.results.toList Tryd.f24.ntmps [.x (.agg [.v (.int .i64 a),.v (.int .i64 b),.v (.int .i64 c),.v (.int .i64 d)]),.x (.c (.v (.int .i64 w))),.x (.c (.v (.int .i64 h)))] V=(True∧ja0 (reB a b c d) (True∧True∧True∧V [XV.c (CV.v (Value.int .i64 0)),XV.c (CV.v (Value.int .i64 0)),XV.c (CV.v (Value.bool false))] []) (ja0 (ilt w 1) (True∧True∧True∧V [XV.c (CV.v (Value.int .i64 0)),XV.c (CV.v (Value.int .i64 0)),XV.c (CV.v (Value.bool false))] []) (ja0 (ilt h 1) (True∧True∧True∧V [XV.c (CV.v (Value.int .i64 0)),XV.c (CV.v (Value.int .i64 0)),XV.c (CV.v (Value.bool false))] []) (ja0 (igt w (isub IntKind.i64 c a)) (True∧True∧True∧V [XV.c (CV.v (Value.int .i64 0)),XV.c (CV.v (Value.int .i64 0)),XV.c (CV.v (Value.bool false))] []) (True∧ja0 (igt h (isub IntKind.i64 d b)) (True∧True∧V [XV.c (CV.v (Value.int .i64 0)),XV.c (CV.v (Value.int .i64 0)),XV.c (CV.v (Value.bool false))] []) ((ine h 0=true∧ine w 0=true∧True)∧True∧V [XV.c (CV.v (Value.int .i64 (iadd IntKind.i64 (iquo IntKind.i64 (isub IntKind.i64 (isub IntKind.i64 c a) 1) w) 1))),XV.c (CV.v (Value.int .i64 (iadd IntKind.i64 (iquo IntKind.i64 (isub IntKind.i64 (isub IntKind.i64 d b) 1) h) 1))),XV.c (CV.v (Value.bool true))] [])))))):=by
  try delta q68
  try delta jl0
  generalize @reB=reB
  kernel_rfl
end Go.Proofs.YthkidembkknoeaaDoor
namespace Go.Proofs.YthkidembkknoeaaDoor
open Go.RowKit PR QR
set_option linter.unusedVariables false
set_option linter.unusedSimpArgs false
set_option maxRecDepth 20000
theorem vo2 {a b:Int} (h:a≤b):igt a b=false:=decide_eq_false (by omega)
theorem za4 {a b c d w h:Int} (k:¬ tiB a b c d w h=true):tiX a b c d w h=0:=by unfold tiX;rw [if_neg k]
theorem za5 {a b c d w h:Int} (k:¬ tiB a b c d w h=true):tiY a b c d w h=0:=by unfold tiY;rw [if_neg k]
theorem vo3 {a b c d w h:Int} (k:¬ tiB a b c d w h=true) (e:reB a b c d=false) (l0:ilt w 1=false) (l1:igt w (isub .i64 c a)=false) (l2:ilt h 1=false) (l3:igt h (isub .i64 d b)=false):False:=by
  apply k
  obtain ⟨⟨f0,f1,f2,f3⟩,g0,g1⟩:=re_f.1 e
  unfold F30 at f0 f1 f2 f3
  rw [qd7 (by omega)] at l1 l3
  have:=of_decide_eq_false l0
  have:=of_decide_eq_false l1
  have:=of_decide_eq_false l2
  have:=of_decide_eq_false l3
  unfold tiB
  rw [decide_eq_true_eq]
  exact ⟨e,⟨by omega,by omega⟩,by omega,by omega⟩
theorem ym1:ja6 24 jp2:=by
  intro al ans h hq
  unfold jp2 at h
  split at h <;> try (simp at h;done)
  rename_i a b c d w h
  simp only [Option.some.injEq] at h
  subst h
  have hq:=asked hq
  refine QR.ja2 (O:=q68) (QR.ja3 yj4 QR.jb4) mixed (QR.ja4) Tryd.func24 (by kernel_rfl) (by kernel_rfl) (by simp) ?_
  rw [yd1]
  by_cases k:tiB a b c d w h=true
  · obtain ⟨⟨⟨f0,f1,f2,f3⟩,g0,g1⟩,⟨hw,hw'⟩,hh,hh'⟩:=y04 k
    have e:reB a b c d=false:=re_f.2 ⟨⟨f0,f1,f2,f3⟩,g0,g1⟩
    unfold F30 at f0 f1 f2 f3
    have s0:isub .i64 c a=c - a:=qd7 (by omega)
    have s1:isub .i64 d b=d - b:=qd7 (by omega)
    have l0:=jn6 hw
    have l1:=vo2 hw'
    have l2:=jn6 hh
    have l3:=vo2 hh'
    have n0:ine w 0=true:=vd7 (by omega)
    have n1:ine h 0=true:=vd7 (by omega)
    have d0:=(jl2 hw hw').1
    have d1:=(jl2 hh hh').1
    have q0:iadd .i64 (iquo .i64 (isub .i64 (c - a) 1) w) 1=tiX a b c d w h:=by
      rw [qd7 (by omega),ve1 (by omega) (by omega) hw,yl9 k,vn0 (by omega)]
    have q1:iadd .i64 (iquo .i64 (isub .i64 (d - b) 1) h) 1=tiY a b c d w h:=by
      rw [qd7 (by omega),ve1 (by omega) (by omega) hh,ym0 k,vn0 (by omega)]
    simp [jb5,eqXs,eqX,eqo,eqLo,eqL,eqc,veq,eqUs,ja1,bnot,e,s0,s1,l0,l1,l2,l3,n0,n1,q0,q1,k]
  · have kX:=za4 k
    have kY:=za5 k
    cases e:reB a b c d <;> cases l0:ilt w 1 <;> cases l1:igt w (isub .i64 c a) <;> cases l2:ilt h 1 <;> cases l3:igt h (isub .i64 d b)
    all_goals first
      | (exfalso;exact vo3 k e l0 l1 l2 l3)
      | (simp [jb5,eqXs,eqX,eqo,eqLo,eqL,eqc,veq,eqUs,ja1,bnot,e,l0,l1,l2,l3,k,kX,kY];done)
end Go.Proofs.YthkidembkknoeaaDoor
namespace Go.Proofs.YthkidembkknoeaaDoor
open Go.RowKit PR QR
set_option linter.unusedVariables false
set_option linter.unusedSimpArgs false
set_option maxRecDepth 20000
theorem ym4:ja6 59 qk8:=by
  intro al ans h hq
  unfold qk8 at h
  split at h <;> try (simp at h;done)
  rename_i a b
  simp only [Option.some.injEq] at h
  subst h
  have hq:=asked hq
  refine QR.ja2 (O:=(QR.orc [])) QR.jb4 mixed (QR.ja4) Tryd.func59 (by kernel_rfl) (by kernel_rfl) (by simp) ?_
  rw [yc9]
  have hb:=hq.1
  simp [jb5,eqXs,eqX,eqo,eqLo,eqL,eqc,veq,eqUs,hb]
theorem ym5:ja6 33 jp2:=by
  intro al ans h hq
  unfold jp2 at h
  split at h <;> try (simp at h;done)
  rename_i a b c d w h
  simp only [Option.some.injEq] at h
  subst h
  have hq:=asked hq
  refine QR.ja2 (O:=q67) (QR.ja3 vm9 (QR.ja3 ym4 QR.jb4)) mixed (QR.ja4) Tryd.func33 (by kernel_rfl) (by kernel_rfl) (by simp) ?_
  rw [yd0]
  simp only [forall_eq]
  by_cases k:tiB a b c d w h=true
  · obtain ⟨⟨⟨f0,f1,f2,f3⟩,g0,g1⟩,⟨hw,hw'⟩,hh,hh'⟩:=y04 k
    have e:reB a b c d=false:=re_f.2 ⟨⟨f0,f1,f2,f3⟩,g0,g1⟩
    unfold F30 at f0 f1 f2 f3
    have s0:isub .i64 c a=c - a:=qd7 (by omega)
    have s1:isub .i64 d b=d - b:=qd7 (by omega)
    have l0:=jn6 hw
    have l1:=vo2 hw'
    have l2:=jn6 hh
    have l3:=vo2 hh'
    have n0:ine w 0=true:=vd7 (by omega)
    have n1:ine h 0=true:=vd7 (by omega)
    have d0:=(jl2 hw hw').1
    have d1:=(jl2 hh hh').1
    have q0:iquo .i64 (isub .i64 (iadd .i64 (c - a) w) 1) w=tiX a b c d w h:=by
      rw [vn0 (by omega),qd7 (by omega),ve1 (by omega) (by omega) hw,yl9 k,show c - a + w - 1=c - a - 1 + 1 * w by omega,Int.add_mul_ediv_right _ _ (by omega)]
    have q1:iquo .i64 (isub .i64 (iadd .i64 (d - b) h) 1) h=tiY a b c d w h:=by
      rw [vn0 (by omega),qd7 (by omega),ve1 (by omega) (by omega) hh,ym0 k,show d - b + h - 1=d - b - 1 + 1 * h by omega,Int.add_mul_ediv_right _ _ (by omega)]
    simp [jb5,eqXs,eqX,eqo,eqLo,eqL,eqc,veq,eqUs,ja1,bnot,e,s0,s1,l0,l1,l2,l3,n0,n1,q0,q1,k]
  · have kX:=za4 k
    have kY:=za5 k
    cases e:reB a b c d <;> cases l0:ilt w 1 <;> cases l1:igt w (isub .i64 c a) <;> cases l2:ilt h 1 <;> cases l3:igt h (isub .i64 d b)
    all_goals first
      | (exfalso;exact vo3 k e l0 l1 l2 l3)
      | (simp [jb5,eqXs,eqX,eqo,eqLo,eqL,eqc,veq,eqUs,ja1,bnot,e,l0,l1,l2,l3,k,kX,kY];done)
end Go.Proofs.YthkidembkknoeaaDoor
namespace Go.Proofs.YthkidembkknoeaaDoor
open Go.RowKit PR QR
set_option linter.unusedVariables false
set_option linter.unusedSimpArgs false
def atV (n:Int) (x:Int) (i:Int):Int:=if 0≤i∧i < n then x else 0
def s_at:List AV→Option QR.Ans
  | [.x (.c (.slc z n r)),.x (.c (.v (.int .i64 i)))]=>bif Nat.beq z 1 then some ⟨[.c (.v (.int .i64 (atV n (intC (den r i 0)) i)))],[],[intRow .i64 1 n r]⟩ else none
  | _=>none
set_option maxRecDepth 100000 in
theorem zd8 (n i:Int) (l:Int→Nat→Int) (V:List QR.XV→List (List QR.CV)→Prop):QR.ja5 Tryd.prog (QR.orc []) (QR.ja4) (Tryd.f46.body.getD .skip) Tryd.f46.results.toList Tryd.f46.ntmps [.x (.c (.slc 1 n (.fn fun i j=>.v (.int .i64 (l i j))))),.x (.c (.v (.int .i64 i)))] V=(True∧ja0 (ilt i 0) (True∧True∧True∧V [XV.c (CV.v (Value.int .i64 0))] []) (∀(i_1:Int),i_1=n→True∧ja0 (ige i i_1) (True∧True∧V [XV.c (CV.v (Value.int .i64 0))] []) ((ile 0 i=true∧ilt i n=true∧True)∧True∧V [XV.c (CV.v (Value.int .i64 (l i 0)))] []))):=by
  kernel_rfl
theorem a_at:ja6 46 s_at:=by
  intro al ans h hq
  unfold s_at at h
  split at h <;> try (simp at h;done)
  rename_i z n r i
  cases hz:Nat.beq z 1
  · rw [hz] at h;simp at h
  rw [hz,cond_true] at h
  obtain rfl:=Nat.eq_of_beq_eq_true hz
  simp only [Option.some.injEq] at h
  subst h
  have hq:=asked hq
  refine ya0 (al':=[.x (.c (.slc 1 n (ints .i64 r))),.x (.c (.v (.int .i64 i)))]) ⟨vd6 hq.1,.v _,trivial⟩ ?_
  refine QR.ja2 (O:=QR.orc []) QR.jb4 mixed QR.ja4 Tryd.func46 (by kernel_rfl) (by kernel_rfl) (by simp) ?_
  unfold ints
  rw [zd8]
  simp only [ja1,jb5,eqXs,eqX,eqo,eqLo,eqc,veq,eqUs,forall_eq,true_and,and_true,ilt,ige,ile,decide_eq_true_eq,decide_eq_false_iff_not,ge_iff_le,gt_iff_lt]
  unfold atV
  refine ⟨fun c=>?_,fun c=>⟨fun e=>?_,fun e=>?_⟩⟩
  · rw [if_neg (by omega)]
  · rw [if_neg (by omega)]
  · rw [if_pos (by omega)];exact ⟨by omega,rfl⟩
end Go.Proofs.YthkidembkknoeaaDoor
namespace Go.Proofs.YthkidembkknoeaaDoor
open Go.RowKit PR QR
set_option linter.unusedVariables false
set_option linter.unusedSimpArgs false
def orW (m:Int) (l:Int→Nat→Int) (i:Int):Int:=if m=0 then i else l i 0
noncomputable def orS (m:Int) (l:Int→Nat→Int) (i k:Int):Bool:=@decide (∃j:Int,0≤j∧j < i∧orW m l j=k) (Classical.propDecidable _)
def orI (m:Int) (l:Int→Nat→Int) (n i:Int):Prop:=(0≤i∧i≤n)∧∀j:Int,0≤j→j < i→(0≤orW m l j∧orW m l j < n)∧∀k:Int,0≤k→k < j→orW m l k≠orW m l j
noncomputable def orB (m:Int) (l:Int→Nat→Int) (n:Int):Bool:=@decide ((0≤n∧n≤16777216)∧(m=0∨m=n)∧orI m l n n) (Classical.propDecidable _)
noncomputable def orN (m:Int) (l:Int→Nat→Int) (n:Int):Int:=if orB m l n=true then n else 0
def orMu (n i:Int):Nat:=(n - i).toNat
noncomputable def qk9:List AV→Option QR.Ans
  | [.x (.c c),.x (.c (.v (.int .i64 n)))]=>match jf4 1 c with
    | some (m,r)=>some ⟨[.c (.fresh 1 (orN m (fun i _=>intC (den r i 0)) n) (.fn fun i j=>.v (.int .i64 (orW m (fun i _=>intC (den r i 0)) i)))),.c (.v (.bool (orB m (fun i _=>intC (den r i 0)) n)))],[],[intRow .i64 1 m r,ile 0 m=true]⟩
    | none=>none
  | _=>none
end Go.Proofs.YthkidembkknoeaaDoor
