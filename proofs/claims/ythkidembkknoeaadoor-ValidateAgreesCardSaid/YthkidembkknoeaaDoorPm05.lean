import Derived.Test.YthkidembkknoeaaDoorPm01
import Derived.Test.YthkidembkknoeaaDoorPm02
namespace Go.Proofs.YthkidembkknoeaaDoor
open Go.RowKit PR
set_option linter.unusedVariables false
def inU (a:Int):Bool:=decide (0<=a/\a < 18446744073709551616)
def w2 (h l:Int):Int:=h * 18446744073709551616 + l
def hlf (n d:Int):Int:=((half n.toNat d.toNat:Nat):Int)
def gmod (n k:Int):Int:=n % k
def jc2 (k:Int):Bool:=decide (1<=k/\k<=4611686018427387904)
def jo4:List Value->Option (Value×List Bool)
 | [.int .i64 n,.int .i64 k]=>some (.int .i64 (gmod n k),[jc2 k])
 | _=>none
def vw4 (f:Nat) (s:List Value->Option (Value×List Bool)):Prop:=vl2 Tryd.prog f s
theorem mixed:Tryd.prog.follows .mixedOrders=true:=by kernel_rfl
theorem qu8:vw4 20 jo4:=by
 intro args v bs h hok
 unfold jo4 at h
 split at h <;> try (simp at h;done)
 simp only [Option.some.injEq,Prod.mk.injEq] at h
 obtain ⟨rfl,rfl⟩:=h
 obtain ⟨h3,_⟩:=hok
 obtain ⟨h1,h2⟩:=of_decide_eq_true h3
 refine qz6 Tryd.func20 (by kernel_rfl) (by kernel_rfl) λ w=>(yu5 _ _ h1 h2 w).mono ?_
 rintro e w' ⟨rfl,rfl⟩
 exact ⟨rfl,Below.refl _ _⟩
end Go.Proofs.YthkidembkknoeaaDoor
namespace Go.Proofs.YthkidembkknoeaaDoor
open Go.RowKit PR
set_option linter.unusedVariables false
def in16 (a:Int):Bool:=decide (0<=a/\a < 65536)
def q87 (n:Int):Int:=if n % 3=2 then 65535 else 255
theorem qk8 (a:Int):ieq a a=true:=by simp [ieq]
theorem wf16 {a:Int} (h:(Lit.int .u16 a).wf=true):in16 a=true:=by
 simp only [Lit.wf,Bool.and_eq_true,decide_eq_true_eq] at h
 have h1:IntKind.u16.min=0:=rfl
 have h2:IntKind.u16.max=65535:=rfl
 unfold in16;rw [decide_eq_true_eq];omega
end Go.Proofs.YthkidembkknoeaaDoor
namespace Go.Proofs.YthkidembkknoeaaDoor
open Go.RowKit PR
set_option linter.unusedVariables false
end Go.Proofs.YthkidembkknoeaaDoor
namespace Go.Proofs.YthkidembkknoeaaDoor
open Go.RowKit PR
set_option linter.unusedVariables false
end Go.Proofs.YthkidembkknoeaaDoor
namespace Go.Proofs.YthkidembkknoeaaDoor
open Go.RowKit PR
set_option linter.unusedVariables false
end Go.Proofs.YthkidembkknoeaaDoor
namespace Go.Proofs.YthkidembkknoeaaDoor
open Go.RowKit PR
set_option linter.unusedVariables false
end Go.Proofs.YthkidembkknoeaaDoor
namespace Go.Proofs.YthkidembkknoeaaDoor
open Go.RowKit PR
set_option linter.unusedVariables false
def smV (b:Int):Int:=if b=8 then 255 else if b=16 then 65535 else 0
def smOk (b:Int):Bool:=decide (b=8\/b=16)
def pvB (c0 c1 c2 a f m:Int):Bool:=decide (c0<=a/\c1<=a/\c2<=a/\a<=f/\f<=m)
def gsV (n m:Int):Int :=
 bif ieq (gmod n 8) 0 then 0 else bif ieq (gmod n 8) 1 then m else bif ieq (gmod n 8) 2 then m
 else bif ieq (gmod n 8) 3 then jj2 .u16 (iquo .i64 (iadd .i64 (jj2 .i64 m) (gmod (iquo .i64 n 8) 2)) 2)
 else bif ieq (gmod n 8) 4 then jj2 .u16 (jf2 (jj2 .i64 m) (gmod (iquo .i64 n 8) 4))
 else jj2 .u16 (gmod (iquo .i64 n 8) (iadd .i64 (jj2 .i64 m) 1))
def gpF (n4 m:Int):Int:=gsV n4 m
def gpA (n3 n4 m:Int):Int:=bif igt (gmod n3 3) 0 then gsV (iquo .i64 n3 3) (gpF n4 m) else gpF n4 m
def gpC (n n3 n4 m:Int):Int:=gsV n (gpA n3 n4 m)
end Go.Proofs.YthkidembkknoeaaDoor
namespace Go.Proofs.YthkidembkknoeaaDoor
open Go.RowKit PR
set_option linter.unusedVariables false
theorem jk9 {a:Int}:in16 a=true↔0<=a/\a < 65536:=by simp [in16]
theorem vw5 {a:Int} (h:0<=a) (k:a < 65536):jj2 .u16 a=a:=by unfold jj2;rw [IntKind.wrap_u16];omega
theorem yr6 {a:Int} (h:0<=a) (k:a < 9223372036854775808):jj2 .i64 a=a:=by unfold jj2;exact IntWalk.i64_in _ (by omega)
theorem vw6 (b:Int):(b=8/\smV b=255/\smOk b=true)\/(b=16/\smV b=65535/\smOk b=true)\/(b≠8/\b≠16/\smV b=0/\smOk b=false):=by
 by_cases h:b=8
 ·subst h;exact Or.inl ⟨rfl,rfl,rfl⟩
 ·by_cases k:b=16
  ·subst k;exact Or.inr (Or.inl ⟨rfl,rfl,rfl⟩)
  ·exact Or.inr (Or.inr ⟨h,k,by unfold smV;rw [if_neg h,if_neg k],decide_eq_false (by omega)⟩)
theorem jd5 (n:Int) {k:Int} (h:0 < k):0<=gmod n k/\gmod n k < k:=by
 unfold gmod;exact ⟨Int.emod_nonneg _ (by omega),Int.emod_lt_of_pos _ h⟩
theorem ju0 (n:Int) {m:Int} (h:in16 m=true):0<=gsV n m/\gsV n m<=m:=by
 rw [jk9] at h
 have em:jj2 .i64 m=m:=yr6 h.1 (by omega)
 unfold gsV
 simp only [Bool.cond_eq_ite]
 split
 ·omega
 split
 ·omega
 split
 ·omega
 split
 ·have g:=jd5 (iquo .i64 n 8) (k:=2) (by decide)
  generalize gmod (iquo .i64 n 8) 2=z at *
  have e1:iadd .i64 (jj2 .i64 m) z=m + z:=by
   rw [em];unfold iadd;exact IntWalk.i64_in _ (by omega)
  have e2:iquo .i64 (m + z) 2=(m + z) / 2:=by
   unfold iquo;rw [Int.tdiv_eq_ediv_of_nonneg (by omega)];exact IntWalk.i64_in _ (by omega)
  rw [e1,e2,vw5 (by omega) (by omega)]
  omega
 split
 ·have g:=jd5 (iquo .i64 n 8) (k:=4) (by decide)
  have e1:0<=jf2 m (gmod (iquo .i64 n 8) 4)/\jf2 m (gmod (iquo .i64 n 8) 4)<=m:=by unfold jf2;split <;> omega
  rw [em,vw5 (by omega) (by omega)]
  omega
 ·have e1:iadd .i64 (jj2 .i64 m) 1=m + 1:=by
   rw [em];unfold iadd;exact IntWalk.i64_in _ (by omega)
  have g:=jd5 (iquo .i64 n 8) (k:=m + 1) (by omega)
  rw [e1,vw5 (by omega) (by omega)]
  omega
theorem qz7 (n:Int) {m:Int} (h:in16 m=true):in16 (gsV n m)=true:=by
 have:=ju0 n h
 rw [jk9] at *
 omega
theorem vw7 {k:Int} (h:1<=k) (h':k<=65536):jc2 k=true:=decide_eq_true (by omega)
theorem qz8 (n4:Int) {m:Int} (h:in16 m=true):in16 (gpF n4 m)=true:=qz7 _ h
theorem qm5 (n3 n4:Int) {m:Int} (h:in16 m=true):0<=gpA n3 n4 m/\gpA n3 n4 m<=gpF n4 m:=by
 have k:=qz8 n4 h
 unfold gpA
 simp only [Bool.cond_eq_ite]
 split
 ·exact ju0 _ k
 ·rw [jk9] at k;omega
theorem yi3 (n3 n4:Int) {m:Int} (h:in16 m=true):in16 (gpA n3 n4 m)=true:=by
 have:=qm5 n3 n4 h
 have k:=qz8 n4 h
 rw [jk9] at *
 omega
theorem qb8 (n n3 n4:Int) {m:Int} (h:in16 m=true):0<=gpC n n3 n4 m/\gpC n n3 n4 m<=gpA n3 n4 m:=ju0 _ (yi3 n3 n4 h)
theorem yi4 (n0 n1 n2 n3 n4:Int) {m:Int} (h:in16 m=true):pvB (gpC n0 n3 n4 m) (gpC n1 n3 n4 m) (gpC n2 n3 n4 m) (gpA n3 n4 m) (gpF n4 m) m=true:=by
 have a0:=qb8 n0 n3 n4 h
 have a1:=qb8 n1 n3 n4 h
 have a2:=qb8 n2 n3 n4 h
 have a3:=qm5 n3 n4 h
 have a4:0<=gpF n4 m/\gpF n4 m<=m:=ju0 n4 h
 exact decide_eq_true (by omega)
end Go.Proofs.YthkidembkknoeaaDoor
