import Derived.Test.YthkidembkknoeaaDoorPl11
import Derived.Test.YthkidembkknoeaaDoorPl19
import Derived.Test.YthkidembkknoeaaDoorPl18
namespace Go.Proofs.YthkidembkknoeaaDoor
open Go.RowKit PR QR
set_option linter.unusedVariables false
set_option linter.unusedSimpArgs false
set_option maxRecDepth 20000
theorem zc5 (m:Im):imFt m=bif fitB m.w m.h then (bif imF m then 0 else 7) else 6:=rfl
theorem va_e {m:Im}:vaW m=(bif m.sol then 1 else m.w)/\vaH m=bif m.sol then 1 else m.h:=⟨rfl,rfl⟩
theorem y76 {m:Im} (f:fitB m.w m.h=true):(1<=vaW m/\vaW m<=m.w)/\1<=vaH m/\vaH m<=m.h:=by
 have f4:=jg0.1 f
 rw [va_e.1,va_e.2]
 cases m.sol <;> simp <;> omega
theorem yn7 {m:Im} {t:Int} (f:fitB m.w m.h=true):qc8 m t=true↔∀x y:Int,0<=x->x < vaW m->0<=y->y < vaH m->pxB m t x y=true:=by
 have f4:=jg0.1 f
 rw [va_e.1,va_e.2]
 cases hs:m.sol
 ·exact ju1 f
 ·have pb:∀x y,pxB m t x y=pvB m.c0 m.c1 m.c2 m.a m.f t:=λ x y=>by unfold pxB pxV;rw [hs];rfl
  rw [qc9 f hs]
  exact ⟨λ h x y _ _ _ _=>by rw [pb];exact h,λ h=>by have:=h 0 0 (by omega) (by simp) (by omega) (by simp);rwa [pb] at this⟩
theorem yy7 {w h:Int} {p:List (List Int)} (hp:qd0 0 0 w h p) (hw:1<=w) {x y:Int} (hx:0<=x/\x < w) (hy:0<=y/\y < h) : [x,y]∈p:=by
 obtain ⟨h1,h2⟩:=hp
 rw [Int.sub_zero,Int.sub_zero] at h1
 have m0:=Int.mul_nonneg hy.1 (show 0<=w by omega)
 have m1:=Int.mul_le_mul_of_nonneg_right (show y<=h - 1 by omega) (show 0<=w by omega)
 have m2:(h - 1) * w=h * w - w:=by rw [Int.sub_mul,Int.one_mul]
 have hl:(y * w + x).toNat < p.length:=by unfold lnI at h1;omega
 have e:=h2 _ _ (List.getElem?_eq_getElem hl)
 have:yb8 0 0 w (y * w + x).toNat=[x,y]:=by
  unfold yb8
  rw [Int.toNat_of_nonneg (by omega),Int.sub_zero,Int.add_comm (y * w),Int.add_mul_emod_self_right,Int.emod_eq_of_lt hx.1 hx.2,Int.add_mul_ediv_right _ _ (by omega),Int.ediv_eq_zero_of_lt hx.1 hx.2,Int.zero_add,Int.zero_add,Int.zero_add]
 rw [this] at e
 rw [<- e]
 exact List.getElem_mem hl
theorem zc6 {m:Im} (ok:imOk m=true) {x y:Int} (hx:0<=x/\x < vaW m) (hy:0<=y/\y < vaH m):imIn m x y=true:=by
 have:=y76 (jr8.1 ok).1
 exact yj9.2 ⟨ok,⟨hx.1,by omega⟩,hy.1,by omega⟩
theorem a_iv:jb0 30 yj6:=by
 intro al ans hh hq
 unfold yj6 at hh
 split at hh <;> try (simp at hh;done)
 rename_i l t
 cases em:jj7 l with
 | none=>simp [em] at hh
 | some pm =>
 obtain ⟨m,Am⟩:=pm
 simp only [em] at hh
 simp only [Option.some.injEq] at hh
 subst hh
 refine jd6 (al':=[.x (.agg (imC m)),.x (.c (.v (.int .u16 t)))]) ⟨qf0 em λ p hp=>hq p (by simp [hp]),.v _,trivial⟩ ?_
 have hq:=asked hq
 refine QR.q05 (O:=yc0) (QR.ja3 yk7 (QR.ja3 yy4 (QR.ja3 y73 (QR.ja3 ya6 (QR.ja3 yk6 QR.jb2))))) mixed ((QR.ja4)) ((λ n=>bif Nat.beq n 7 then some (vc3 m t) else none)) vz0 Tryd.func30 (by kernel_rfl) (by kernel_rfl) (by simp) ?_
 rw [yk9]
 delta zz1 zz12 zz44 zz108
 have hG:=hq.1
 have e:imE m t=bif fitB m.w m.h then (bif imF m then (bif qc8 m t then 0 else 8) else 7) else 6:=rfl
 generalize imE m t=b at e ⊢
 have ef:=zc5 m
 cases f:fitB m.w m.h
 ·rw [f] at e ef
  simp [qq9,jb6,eqXs,eqX,eqo,eqLo,eqL,eqc,veq,eqUs,ja1,bnot,jk2,hG,f,e,ef,ine]
 cases g:imF m
 ·rw [f,g] at e ef
  simp [qq9,jb6,eqXs,eqX,eqo,eqLo,eqL,eqc,veq,eqUs,ja1,bnot,jk2,hG,f,g,e,ef,ine]
 rw [f,g] at e ef
 have ok:=jr8.2 ⟨f,g⟩
 have v1:=y76 f
 have w1:=qb3 f
 have it:=y75 (a:=0) (b:=0) (c:=vaW m) (d:=vaH m) ⟨by omega,by omega,by omega⟩ ⟨by omega,by omega,by omega⟩
 simp only [qq9,jb6,eqXs,eqX,eqo,eqLo,eqL,eqc,veq,eqUs,ja1,bnot,jk2,hG,f,g,ef,cond_true,ine,bne_self_eq_false,true_and,and_true,and_self,implies_true,true_implies,reduceCtorEq,false_implies,Bool.not_true,Bool.not_false,forall_eq,or_false,exists_eq_right,exists_eq_right',Bool.false_eq_true]
 refine ⟨it,λ v ⟨x,y,e,_⟩=>(by rw [e];rfl),λ v hv=>(by simp at hv),λ pre v hg hl hv=>?_,λ pre hp hg=>?_⟩
 ·obtain ⟨x,y,rfl,hx,hy⟩:=hv
  have hx':nthI [x,y] 0=x:=rfl
  have hy':nthI [x,y] 1=y:=rfl
  rw [hx',hy']
  refine ⟨zc6 ok hx hy,λ h=>?_,λ h u hu=>?_⟩
  ·have:qc8 m t=false:=by
    rw [<- Bool.not_eq_true,yn7 f]
    intro k
    have k:pvB _ _ _ _ _ _=true:=k x y hx.1 hx.2 hy.1 hy.2
    rw [k] at h;simp at h
   rw [e,this];rfl
  ·unfold jv9 at hu
   rcases List.mem_append.1 hu with hu | hu
   ·exact hg u hu
   ·simp only [List.mem_singleton] at hu
    subst hu
    show pvB _ _ _ _ _ _=true
    rw [hx',hy']
    cases q:pvB (pxV m 0 x y) (pxV m 1 x y) (pxV m 2 x y) (pxV m 3 x y) (pxV m 4 x y) t
    ·rw [q] at h;simp at h
    ·rfl
 ·have:qc8 m t=true:=by
   rw [yn7 f]
   intro x y x0 x1 y0 y1
   exact hg _ (yy7 hp (by omega) ⟨x0,x1⟩ ⟨y0,y1⟩)
  rw [e,this];rfl
end Go.Proofs.YthkidembkknoeaaDoor
namespace Go.Proofs.YthkidembkknoeaaDoor
open Go.RowKit PR QR
structure Rw where
 kd:Int
 im:Int
 x:Int
 y:Int
 msk:Int
 mx:Int
 my:Int
 op:Int
 opr:Int
 md:Int
 fl:Int
structure Pc where
 W:Int
 H:Int
 S:Int
 md:Int
 n:Int
 q:Int->Nat->Int
structure Sn where
 b:Int
 x:Int
 y:Int
 w:Int
 h:Int
 tw:Int
 th:Int
 m:Int
 ol:Int->Int
 pn:Int
 pq:Int->Pc
 rn:Int
 rq:Int->Rw
structure Dx where
 b:Bool
 m:List Int
 i:Int
 n:Int
 on:Int
 ol:Int->Int
 mn:Int
 ml:Int->Im
 pn:Int
 pl:Int->Ov
end Go.Proofs.YthkidembkknoeaaDoor
