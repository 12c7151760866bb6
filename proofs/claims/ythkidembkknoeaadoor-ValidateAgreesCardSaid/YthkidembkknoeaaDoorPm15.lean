import Derived.Test.YthkidembkknoeaaDoorPm11
import Derived.Test.YthkidembkknoeaaDoorPm12
import Derived.Test.YthkidembkknoeaaDoorPm14
import Derived.Test.YthkidembkknoeaaDoorPm07
namespace Go.Proofs.YthkidembkknoeaaDoor
open Go.RowKit PR QR
set_option linter.unusedVariables false
set_option linter.unusedSimpArgs false
set_option maxRecDepth 20000
def iQ (k:IntKind) (z:Nat) (n:Int) (q:Int->Nat->Int):Prop:=intRow k z n (.fn λ i j=>.v (.int k (q i j)))
def e64 (a b:Int):Prop:=IntKind.i64=IntKind.i64/\a=b
def eP (p q:Pl):Prop:=1=1/\p.n=q.n/\True/\∀i:Nat,ilt (Int.ofNat i) p.n=true->IntKind.u16=IntKind.u16/\p.l (Int.ofNat i)=q.l (Int.ofNat i)
def imR (m:Im):Prop:=imG m/\imOk m=true/\imL m=true
theorem qa8 {x:Int} (h:0<=x) (k:x<=1099511627776):in64 x=true:=ql8.2 (by omega)
theorem ze4 {w h n:Int} {q:Int->Nat->Int} {k:Nat} (ok:jo1 w h n=true) (H:∀i:Int,0<=i->i < n->in16 (q i k)=true):plG (jk4 w h n q k)/\plB w h w n=true/\plL (jk4 w h n q k)=true:=by
 have o:=of_decide_eq_true ok
 have f:=jg7.1 o.1
 have l:=jy5 o.1
 refine ⟨⟨qa8 (x:=w) (by omega) (by omega),qa8 (x:=h) (by omega) (by omega),qa8 (x:=w) (by omega) (by omega),jb2 (show 0<=n by have:=Int.mul_nonneg (show 0<=w by omega) (show 0<=h by omega);omega),λ i hi=>H i (by omega) hi⟩,vo4.2 ⟨o.1,by omega,by omega,?_⟩,decide_eq_true (show n<=1099511627776 by omega)⟩
 rw [Int.sub_mul,Int.mul_comm h w];omega
theorem yh4 {w h n:Int} {q:Int->Nat->Int} (ok:jo1 w h n=true) (H:∀(i:Int) (k:Nat),0<=i->i < n->k < 5->in16 (q i k)=true):imR (jc5 w h n q):=by
 have o:=of_decide_eq_true ok
 have f:=jg7.1 o.1
 have l:=jy5 o.1
 have p:=λ (k:Nat) (hk:k < 5)=>ze4 (k:=k) ok (λ i h0 h1=>H i k h0 h1 hk)
 rw [vf3 ok]
 refine ⟨⟨⟨qa8 (x:=w) (by omega) (by omega),qa8 (x:=h) (by omega) (by omega)⟩,⟨rfl,rfl,rfl,rfl,rfl⟩,(p 0 (by decide)).1,(p 1 (by decide)).1,(p 2 (by decide)).1,(p 3 (by decide)).1,(p 4 (by decide)).1⟩,qu1.2 ⟨o.1,?_⟩,?_⟩
 ·rw [vl0 rfl]
  ·rfl
  ·intro k hk
   have hk':k=0\/k=1\/k=2\/k=3\/k=4:=by omega
   rcases hk' with rfl | rfl | rfl | rfl | rfl <;> exact jq2.2 ⟨(p _ hk).2.1,rfl,rfl⟩
 ·unfold imL
  simp only [(p 0 (by decide)).2.2,(p 1 (by decide)).2.2,(p 2 (by decide)).2.2,(p 3 (by decide)).2.2,(p 4 (by decide)).2.2,Bool.and_self]
theorem qu3 {w h n:Int} {q:Int->Nat->Int} (ok:jo1 w h n=true) {k:Nat} (hk:k < 5) (x y:Int):pxV (jc5 w h n q) k x y=q (y * w + x) k:=by
 rw [vf3 ok]
 have hk':k=0\/k=1\/k=2\/k=3\/k=4:=by omega
 rcases hk' with rfl | rfl | rfl | rfl | rfl <;> rfl
theorem y63 {w h n:Int} {q:Int->Nat->Int} (ok:jo1 w h n=true):(jc5 w h n q).w=w/\(jc5 w h n q).h=h/\(jc5 w h n q).sol=false:=by rw [vf3 ok];exact ⟨rfl,rfl,rfl⟩
theorem vr2 {w h c0 c1 c2 a f:Int} (hf:fitB w h=true) (h0:in16 c0=true) (h1:in16 c1=true) (h2:in16 c2=true) (h3:in16 a=true) (h4:in16 f=true):imR (qk7 w h c0 c1 c2 a f):=by
 have f':=jg7.1 hf
 have l:=jy5 hf
 have p:plG jl9:=⟨rfl,rfl,rfl,rfl,λ _ _=>rfl⟩
 exact ⟨⟨⟨qa8 (x:=w) (by omega) (by omega),qa8 (x:=h) (by omega) (by omega)⟩,⟨h0,h1,h2,h3,h4⟩,p,p,p,p,p⟩,qu1.2 ⟨hf,rfl⟩,rfl⟩
theorem yq6 (W H S md n:Int) (q:Int->Nat->Int) {x0 y0 x1 y1 t:Int} (ht:in16 t=true) (hg:gcv x0 y0 x1 y1=true) :
  imR (gimV W H S md n q x0 y0 x1 y1 t)/\(gimV W H S md n q x0 y0 x1 y1 t).w=gimW W x0 x1/\(gimV W H S md n q x0 y0 x1 y1 t).h=gimH W H y0 y1/\qa3 (gimV W H S md n q x0 y0 x1 y1 t) t=true:=by
 obtain ⟨_,_,_,_,_,_,w1,h1,m1,m2⟩:=vr1 (W:=W) (H:=H) hg
 have f:fitB (gimW W x0 x1) (gimH W H y0 y1)=true:=jg7.2 ⟨w1.1,h1.1,by omega⟩
 cases c:(gmod S 2 == 0)
 ·have e:gimV W H S md n q x0 y0 x1 y1 t=jc5 (gimW W x0 x1) (gimH W H y0 y1) (gimW W x0 x1 * gimH W H y0 y1) (gpxV md n q t):=by unfold gimV;rw [c];rfl
  have ok:jo1 (gimW W x0 x1) (gimH W H y0 y1) (gimW W x0 x1 * gimH W H y0 y1)=true:=decide_eq_true ⟨f,rfl⟩
  rw [e]
  obtain ⟨e1,e2,e3⟩:=y63 (q:=gpxV md n q t) ok
  refine ⟨yh4 ok λ i k _ _ hk=>vv9 md n q ht i hk,e1,e2,(jw2 (by rw [e1,e2];exact f)).2 λ x y _ _ _ _=>?_⟩
  unfold pxB
  rw [qu3 ok (by decide),qu3 ok (by decide),qu3 ok (by decide),qu3 ok (by decide),qu3 ok (by decide)]
  exact qt5 md n q ht _
 ·have e:gimV W H S md n q x0 y0 x1 y1 t=qk7 (gimW W x0 x1) (gimH W H y0 y1) (gpxV md n q t 0 0) (gpxV md n q t 0 1) (gpxV md n q t 0 2) (gpxV md n q t 0 3) (gpxV md n q t 0 4):=by unfold gimV;rw [c];rfl
  rw [e]
  refine ⟨vr2 f (vv9 md n q ht 0 (by decide)) (vv9 md n q ht 0 (by decide)) (vv9 md n q ht 0 (by decide)) (vv9 md n q ht 0 (by decide)) (vv9 md n q ht 0 (by decide)),rfl,rfl,?_⟩
  rw [qf0 f rfl]
  exact qt5 md n q ht 0
theorem vr3 {m:Im} {t:Int} (ok:imOk m=true) (h:qa3 m t=true):imE m t=0:=by
 have o:=qu1.1 ok
 unfold imE
 rw [o.1,o.2,h];rfl
end Go.Proofs.YthkidembkknoeaaDoor
namespace Go.Proofs.YthkidembkknoeaaDoor
open Go.RowKit PR QR
set_option linter.unusedVariables false
def share {α:Type} (a:α) (f:α->Prop):Prop:=f a
theorem q82 {α:Type} {a:α} {f:α->Prop} (h:∀x,x=a->f x):share a f:=h a rfl
end Go.Proofs.YthkidembkknoeaaDoor
namespace Go.Proofs.YthkidembkknoeaaDoor
open Go.RowKit PR QR
set_option linter.unusedVariables false
set_option linter.unusedSimpArgs false
structure Ov where
 kd:Int
 im:Int
 x:Int
 y:Int
 msk:Int
 mx:Int
 my:Int
 op:Int
 opr:Int
 md:Int
 iso:Bool
 kno:Bool
structure Sc where
 b:Int
 x0:Int
 y0:Int
 x1:Int
 y1:Int
 tw:Int
 th:Int
 on:Int
 ol:Int->Int
 mn:Int
 ml:Int->Im
 pn:Int
 pl:Int->Ov
def j07 (o:Ov):List CV:=[.v (.int .i64 o.kd),.v (.int .i64 o.im),.v (.int .i64 o.x),.v (.int .i64 o.y),.v (.int .i64 o.msk),.v (.int .i64 o.mx),.v (.int .i64 o.my),.v (.int .u16 o.op),.v (.int .i64 o.opr),.v (.int .i64 o.md),.v (.bool o.iso),.v (.bool o.kno)]
def jf3 (f:Int->Ov):QR.Row:=.col 0 (λ i=>.v (.int .i64 (f i).kd)) (.col 1 (λ i=>.v (.int .i64 (f i).im)) (.col 2 (λ i=>.v (.int .i64 (f i).x)) (.col 3 (λ i=>.v (.int .i64 (f i).y)) (.col 4 (λ i=>.v (.int .i64 (f i).msk)) (.col 5 (λ i=>.v (.int .i64 (f i).mx)) (.col 6 (λ i=>.v (.int .i64 (f i).my)) (.col 7 (λ i=>.v (.int .u16 (f i).op)) (.col 8 (λ i=>.v (.int .i64 (f i).opr)) (.col 9 (λ i=>.v (.int .i64 (f i).md)) (.col 10 (λ i=>.v (.bool (f i).iso)) (.col 11 (λ i=>.v (.bool (f i).kno)) (.zer []))))))))))))
def qk6 (k:Nat) (p:Int->Pl) (r:QR.Row):QR.Row:=.col k (λ i=>.v (.int .i64 (p i).w)) (.col (k + 1) (λ i=>.v (.int .i64 (p i).h)) (.col (k + 2) (λ i=>.v (.int .i64 (p i).s)) (.col (k + 3) (λ i=>.slc 1 (p i).n (.fn λ a _=>.v (.int .u16 ((p i).l a)))) r)))
def jm3 (f:Int->Im):QR.Row:=.col 0 (λ i=>.v (.int .i64 (f i).w)) (.col 1 (λ i=>.v (.int .i64 (f i).h)) (.col 2 (λ i=>.v (.bool (f i).sol)) (.col 3 (λ i=>.v (.int .u16 (f i).c0)) (.col 4 (λ i=>.v (.int .u16 (f i).c1)) (.col 5 (λ i=>.v (.int .u16 (f i).c2)) (.col 6 (λ i=>.v (.int .u16 (f i).a)) (.col 7 (λ i=>.v (.int .u16 (f i).f))
 (qk6 8 (λ i=>(f i).p0) (qk6 12 (λ i=>(f i).p1) (qk6 16 (λ i=>(f i).p2) (qk6 20 (λ i=>(f i).p3) (qk6 24 (λ i=>(f i).p4) (.zer [])))))))))))))
def jf6 (s:Sc):List CV:=[.v (.int .i64 s.b),.v (.int .i64 s.x0),.v (.int .i64 s.y0),.v (.int .i64 s.x1),.v (.int .i64 s.y1),.v (.int .i64 s.tw),.v (.int .i64 s.th),.slc 1 s.on (.fn λ i _=>.v (.int .i64 (s.ol i))),.slc 28 s.mn (jm3 s.ml),.slc 12 s.pn (jf3 s.pl)]
def y15:CV->Bool
 | .v (.bool b)=>b
 | _=>false
def slcN:CV->Int
 | .slc _ n _=>n
 | _=>0
def slcW:CV->QR.Row
 | .slc _ _ r=>r
 | _=>.zer []
def plAt (r:QR.Row) (i:Int) (k:Nat):Pl:=⟨intC (den r i k),intC (den r i (k + 1)),intC (den r i (k + 2)),slcN (den r i (k + 3)),λ a=>intC (den (slcW (den r i (k + 3))) a 0)⟩
def imAt (r:QR.Row) (i:Int):Im:=⟨intC (den r i 0),intC (den r i 1),y15 (den r i 2),intC (den r i 3),intC (den r i 4),intC (den r i 5),intC (den r i 6),intC (den r i 7),plAt r i 8,plAt r i 12,plAt r i 16,plAt r i 20,plAt r i 24⟩
def ovAt (r:QR.Row) (i:Int):Ov:=⟨intC (den r i 0),intC (den r i 1),intC (den r i 2),intC (den r i 3),intC (den r i 4),intC (den r i 5),intC (den r i 6),intC (den r i 7),intC (den r i 8),intC (den r i 9),y15 (den r i 10),y15 (den r i 11)⟩
def jf7 (n:Int) (r:QR.Row):Prop:=∀i j:Nat,(i:Int) < n->j < 28->EqC (den r i j) (den (jm3 (imAt r)) i j)
def jc9 (n:Int) (r:QR.Row):Prop:=∀i j:Nat,(i:Int) < n->j < 12->EqC (den r i j) (den (jf3 (ovAt r)) i j)
def jg8:List CV->Option (Sc×List Prop)
 | [.v (.int .i64 b),.v (.int .i64 x0),.v (.int .i64 y0),.v (.int .i64 x1),.v (.int .i64 y1),.v (.int .i64 tw),.v (.int .i64 th),oc,mc,pc]=>match jf4 1 oc,jf4 28 mc,jf4 12 pc with
  | some (on,o),some (mn,m),some (pn,p)=>some (⟨b,x0,y0,x1,y1,tw,th,on,λ i=>intC (den o i 0),mn,imAt m,pn,ovAt p⟩,[intRow .i64 1 on o,jf7 mn m,jc9 pn p,ile 0 on=true,ile 0 mn=true,ile 0 pn=true])
  | _,_,_=>none
 | _=>none
theorem jl2 {z:Nat} {c:CV} {n:Int} {r R:QR.Row} (h:jf4 z c=some (n,r)) (hz:0 < z) (hr:∀i j:Nat,(i:Int) < n->j < z->EqC (den r i j) (den R i j)):EqC c (.slc z n R):=by
 unfold jf4 at h
 split at h
 ·rename_i z' n' r'
  cases e:Nat.beq z' z
  ·rw [e] at h;simp at h
  ·rw [e,cond_true,Option.some.injEq,Prod.mk.injEq] at h
   obtain ⟨rfl,rfl⟩:=h
   obtain rfl:=Nat.eq_of_beq_eq_true e
   exact .slc λ i j hi hj=>hr i j hi hj
 ·rw [Option.some.injEq,Prod.mk.injEq] at h
  obtain ⟨rfl,rfl⟩:=h
  exact .nil hz rfl
 ·simp at h
theorem qe3 {k:IntKind} {c:CV} {n:Int} {r:QR.Row} (h:jf4 1 c=some (n,r)) (hr:intRow k 1 n r):EqC c (.slc 1 n (.fn λ i _=>.v (.int k (intC (den r i 0))))) :=
 jl2 h (by decide) λ i j hi hj=>by
  obtain rfl:j=0:=by omega
  rw [hr i 0 hi hj];exact .v _
end Go.Proofs.YthkidembkknoeaaDoor
namespace Go.Proofs.YthkidembkknoeaaDoor
open Go.RowKit PR QR
set_option linter.unusedVariables false
def imsE (n:Int) (f g:Int->Im):Prop:=(((((((((((((((((((((((((((True/\∀i:Nat,ilt (Int.ofNat i) n=true->IntKind.i64=IntKind.i64/\(f (Int.ofNat i)).1=(g (Int.ofNat i)).1)/\∀i:Nat,ilt (Int.ofNat i) n=true->IntKind.i64=IntKind.i64/\(f (Int.ofNat i)).2=(g (Int.ofNat i)).2)/\∀i:Nat,ilt (Int.ofNat i) n=true->(f (Int.ofNat i)).3=(g (Int.ofNat i)).3)/\∀i:Nat,ilt (Int.ofNat i) n=true->IntKind.u16=IntKind.u16/\(f (Int.ofNat i)).4=(g (Int.ofNat i)).4)/\∀i:Nat,ilt (Int.ofNat i) n=true->IntKind.u16=IntKind.u16/\(f (Int.ofNat i)).5=(g (Int.ofNat i)).5)/\∀i:Nat,ilt (Int.ofNat i) n=true->IntKind.u16=IntKind.u16/\(f (Int.ofNat i)).6=(g (Int.ofNat i)).6)/\∀i:Nat,ilt (Int.ofNat i) n=true->IntKind.u16=IntKind.u16/\(f (Int.ofNat i)).7=(g (Int.ofNat i)).7)/\∀i:Nat,ilt (Int.ofNat i) n=true->IntKind.u16=IntKind.u16/\(f (Int.ofNat i)).8=(g (Int.ofNat i)).8)/\∀i:Nat,ilt (Int.ofNat i) n=true->IntKind.i64=IntKind.i64/\(f (Int.ofNat i)).9.1=(g (Int.ofNat i)).9.1)/\∀i:Nat,ilt (Int.ofNat i) n=true->IntKind.i64=IntKind.i64/\(f (Int.ofNat i)).9.2=(g (Int.ofNat i)).9.2)/\∀i:Nat,ilt (Int.ofNat i) n=true->IntKind.i64=IntKind.i64/\(f (Int.ofNat i)).9.3=(g (Int.ofNat i)).9.3)/\∀i:Nat,ilt (Int.ofNat i) n=true->EqC (CV.slc 1 (f (Int.ofNat i)).9.4 (QR.Row.fn λ (a:Int) (x:Nat)=>CV.v (Value.int .u16 ((f (Int.ofNat i)).9.5 a)))) (CV.slc 1 (g (Int.ofNat i)).9.4 (QR.Row.fn λ (a:Int) (x:Nat)=>CV.v (Value.int .u16 ((g (Int.ofNat i)).9.5 a)))))/\∀i:Nat,ilt (Int.ofNat i) n=true->IntKind.i64=IntKind.i64/\(f (Int.ofNat i)).10.1=(g (Int.ofNat i)).10.1)/\∀i:Nat,ilt (Int.ofNat i) n=true->IntKind.i64=IntKind.i64/\(f (Int.ofNat i)).10.2=(g (Int.ofNat i)).10.2)/\∀i:Nat,ilt (Int.ofNat i) n=true->IntKind.i64=IntKind.i64/\(f (Int.ofNat i)).10.3=(g (Int.ofNat i)).10.3)/\∀i:Nat,ilt (Int.ofNat i) n=true->EqC (CV.slc 1 (f (Int.ofNat i)).10.4 (QR.Row.fn λ (a:Int) (x:Nat)=>CV.v (Value.int .u16 ((f (Int.ofNat i)).10.5 a)))) (CV.slc 1 (g (Int.ofNat i)).10.4 (QR.Row.fn λ (a:Int) (x:Nat)=>CV.v (Value.int .u16 ((g (Int.ofNat i)).10.5 a)))))/\∀i:Nat,ilt (Int.ofNat i) n=true->IntKind.i64=IntKind.i64/\(f (Int.ofNat i)).11.1=(g (Int.ofNat i)).11.1)/\∀i:Nat,ilt (Int.ofNat i) n=true->IntKind.i64=IntKind.i64/\(f (Int.ofNat i)).11.2=(g (Int.ofNat i)).11.2)/\∀i:Nat,ilt (Int.ofNat i) n=true->IntKind.i64=IntKind.i64/\(f (Int.ofNat i)).11.3=(g (Int.ofNat i)).11.3)/\∀i:Nat,ilt (Int.ofNat i) n=true->EqC (CV.slc 1 (f (Int.ofNat i)).11.4 (QR.Row.fn λ (a:Int) (x:Nat)=>CV.v (Value.int .u16 ((f (Int.ofNat i)).11.5 a)))) (CV.slc 1 (g (Int.ofNat i)).11.4 (QR.Row.fn λ (a:Int) (x:Nat)=>CV.v (Value.int .u16 ((g (Int.ofNat i)).11.5 a)))))/\∀i:Nat,ilt (Int.ofNat i) n=true->IntKind.i64=IntKind.i64/\(f (Int.ofNat i)).12.1=(g (Int.ofNat i)).12.1)/\∀i:Nat,ilt (Int.ofNat i) n=true->IntKind.i64=IntKind.i64/\(f (Int.ofNat i)).12.2=(g (Int.ofNat i)).12.2)/\∀i:Nat,ilt (Int.ofNat i) n=true->IntKind.i64=IntKind.i64/\(f (Int.ofNat i)).12.3=(g (Int.ofNat i)).12.3)/\∀i:Nat,ilt (Int.ofNat i) n=true->EqC (CV.slc 1 (f (Int.ofNat i)).12.4 (QR.Row.fn λ (a:Int) (x:Nat)=>CV.v (Value.int .u16 ((f (Int.ofNat i)).12.5 a)))) (CV.slc 1 (g (Int.ofNat i)).12.4 (QR.Row.fn λ (a:Int) (x:Nat)=>CV.v (Value.int .u16 ((g (Int.ofNat i)).12.5 a)))))/\∀i:Nat,ilt (Int.ofNat i) n=true->IntKind.i64=IntKind.i64/\(f (Int.ofNat i)).13.1=(g (Int.ofNat i)).13.1)/\∀i:Nat,ilt (Int.ofNat i) n=true->IntKind.i64=IntKind.i64/\(f (Int.ofNat i)).13.2=(g (Int.ofNat i)).13.2)/\∀i:Nat,ilt (Int.ofNat i) n=true->IntKind.i64=IntKind.i64/\(f (Int.ofNat i)).13.3=(g (Int.ofNat i)).13.3)/\∀i:Nat,ilt (Int.ofNat i) n=true->EqC (CV.slc 1 (f (Int.ofNat i)).13.4 (QR.Row.fn λ (a:Int) (x:Nat)=>CV.v (Value.int .u16 ((f (Int.ofNat i)).13.5 a)))) (CV.slc 1 (g (Int.ofNat i)).13.4 (QR.Row.fn λ (a:Int) (x:Nat)=>CV.v (Value.int .u16 ((g (Int.ofNat i)).13.5 a))))
def opsE (n:Int) (f g:Int->Ov):Prop:=(((((((((((True/\∀i:Nat,ilt (Int.ofNat i) n=true->IntKind.i64=IntKind.i64/\(f (Int.ofNat i)).1=(g (Int.ofNat i)).1)/\∀i:Nat,ilt (Int.ofNat i) n=true->IntKind.i64=IntKind.i64/\(f (Int.ofNat i)).2=(g (Int.ofNat i)).2)/\∀i:Nat,ilt (Int.ofNat i) n=true->IntKind.i64=IntKind.i64/\(f (Int.ofNat i)).3=(g (Int.ofNat i)).3)/\∀i:Nat,ilt (Int.ofNat i) n=true->IntKind.i64=IntKind.i64/\(f (Int.ofNat i)).4=(g (Int.ofNat i)).4)/\∀i:Nat,ilt (Int.ofNat i) n=true->IntKind.i64=IntKind.i64/\(f (Int.ofNat i)).5=(g (Int.ofNat i)).5)/\∀i:Nat,ilt (Int.ofNat i) n=true->IntKind.i64=IntKind.i64/\(f (Int.ofNat i)).6=(g (Int.ofNat i)).6)/\∀i:Nat,ilt (Int.ofNat i) n=true->IntKind.i64=IntKind.i64/\(f (Int.ofNat i)).7=(g (Int.ofNat i)).7)/\∀i:Nat,ilt (Int.ofNat i) n=true->IntKind.u16=IntKind.u16/\(f (Int.ofNat i)).8=(g (Int.ofNat i)).8)/\∀i:Nat,ilt (Int.ofNat i) n=true->IntKind.i64=IntKind.i64/\(f (Int.ofNat i)).9=(g (Int.ofNat i)).9)/\∀i:Nat,ilt (Int.ofNat i) n=true->IntKind.i64=IntKind.i64/\(f (Int.ofNat i)).10=(g (Int.ofNat i)).10)/\∀i:Nat,ilt (Int.ofNat i) n=true->(f (Int.ofNat i)).11=(g (Int.ofNat i)).11)/\∀i:Nat,ilt (Int.ofNat i) n=true->(f (Int.ofNat i)).12=(g (Int.ofNat i)).12
end Go.Proofs.YthkidembkknoeaaDoor
namespace Go.Proofs.YthkidembkknoeaaDoor
open Go.RowKit PR QR
set_option linter.unusedVariables false
set_option linter.unusedSimpArgs false
def atV (n:Int) (x:Int) (i:Int):Int:=if 0<=i/\i < n then x else 0
def s_at:List AV->Option QR.Ans
 | [.x (.c (.slc z n r)),.x (.c (.v (.int .i64 i)))]=>bif Nat.beq z 1 then some ⟨[.c (.v (.int .i64 (atV n (intC (den r i 0)) i)))],[],[intRow .i64 1 n r]⟩ else none
 | _=>none
set_option maxRecDepth 100000 in
theorem zg6 (n i:Int) (l:Int->Nat->Int) (V:List QR.XV->List (List QR.CV)->Prop):QR.ja5 Tryd.prog (QR.orc []) (QR.ja4) (Tryd.f46.body.getD .skip) Tryd.f46.results.toList Tryd.f46.ntmps [.x (.c (.slc 1 n (.fn λ i j=>.v (.int .i64 (l i j))))),.x (.c (.v (.int .i64 i)))] V=(True/\ja0 (ilt i 0) (True/\True/\True/\V [XV.c (CV.v (Value.int .i64 0))] []) (∀(i_1:Int),i_1=n->True/\ja0 (ige i i_1) (True/\True/\V [XV.c (CV.v (Value.int .i64 0))] []) ((ile 0 i=true/\ilt i n=true/\True)/\True/\V [XV.c (CV.v (Value.int .i64 (l i 0)))] []))):=by
 kernel_rfl
theorem a_at:ja6 46 s_at:=by
 intro al ans h hq
 unfold s_at at h
 split at h <;> try (simp at h;done)
 rename_i z n r i
 cases hz:Nat.beq z 1
 ·rw [hz] at h;simp at h
 rw [hz,cond_true] at h
 obtain rfl:=Nat.eq_of_beq_eq_true hz
 simp only [Option.some.injEq] at h
 subst h
 have hq:=asked hq
 refine yc6 (al':=[.x (.c (.slc 1 n (ints .i64 r))),.x (.c (.v (.int .i64 i)))]) ⟨ve3 hq.1,.v _,trivial⟩ ?_
 refine QR.ja2 (O:=QR.orc []) QR.jb1 mixed QR.ja4 Tryd.func46 (by kernel_rfl) (by kernel_rfl) (by simp) ?_
 unfold ints
 rw [zg6]
 simp only [ja1,jb4,eqXs,eqX,eqo,eqLo,eqc,veq,eqUs,forall_eq,true_and,and_true,ilt,ige,ile,decide_eq_true_eq,decide_eq_false_iff_not,ge_iff_le,gt_iff_lt]
 unfold atV
 refine ⟨λ c=>?_,λ c=>⟨λ e=>?_,λ e=>?_⟩⟩
 ·rw [if_neg (by omega)]
 ·rw [if_neg (by omega)]
 ·rw [if_pos (by omega)];exact ⟨by omega,rfl⟩
end Go.Proofs.YthkidembkknoeaaDoor
namespace Go.Proofs.YthkidembkknoeaaDoor
open Go.RowKit PR QR
set_option linter.unusedVariables false
set_option linter.unusedSimpArgs false
def tiB (a b c d w h:Int):Bool:=decide (reB a b c d=false/\(1<=w/\w<=c - a)/\1<=h/\h<=d - b)
def tiX (a b c d w h:Int):Int:=if tiB a b c d w h=true then (c - a - 1) / w + 1 else 0
def tiY (a b c d w h:Int):Int:=if tiB a b c d w h=true then (d - b - 1) / h + 1 else 0
theorem vp7 {a b:Int} (h:0<=a) (k:a<=9223372036854775807) (hb:1<=b):iquo .i64 a b=a / b:=by
 unfold iquo
 rw [Int.tdiv_eq_ediv_of_nonneg h]
 have h1:=Int.ediv_nonneg h (show (0:Int)<=b by omega)
 have h2:=Int.ediv_le_self b h
 exact IntWalk.i64_in _ (by omega)
theorem jl4 {u w:Int} (hw:1<=w) (hu:w<=u):(1<=(u - 1) / w + 1/\(u - 1) / w + 1<=u)/\(u - 1) / w * w<=u - 1/\u<=((u - 1) / w + 1) * w:=by
 have h0:0<=u - 1:=by omega
 have h1:=Int.ediv_nonneg h0 (show (0:Int)<=w by omega)
 have h2:=Int.ediv_le_self w h0
 have h3:=Int.mul_ediv_add_emod (u - 1) w
 have h4:=Int.emod_nonneg (u - 1) (show w≠0 by omega)
 have h5:=Int.emod_lt_of_pos (u - 1) (show 0 < w by omega)
 rw [Int.mul_comm] at h3
 refine ⟨⟨by omega,by omega⟩,by omega,?_⟩
 rw [Int.add_mul]
 omega
theorem y48 {a b c d w h:Int} (k:tiB a b c d w h=true):((F30 a/\F30 b/\F30 c/\F30 d)/\a < c/\b < d)/\(1<=w/\w<=c - a)/\1<=h/\h<=d - b:=by
 unfold tiB at k
 rw [decide_eq_true_eq,re_f] at k
 exact k
theorem yp0 {a b c d w h:Int} (k:tiB a b c d w h=true):tiX a b c d w h=(c - a - 1) / w + 1:=by unfold tiX;rw [if_pos k]
theorem yp1 {a b c d w h:Int} (k:tiB a b c d w h=true):tiY a b c d w h=(d - b - 1) / h + 1:=by unfold tiY;rw [if_pos k]
end Go.Proofs.YthkidembkknoeaaDoor
