import Derived.Test.YthkidembkknoeaaDoorPl12
import Derived.Test.YthkidembkknoeaaDoorPl15
import Derived.Test.YthkidembkknoeaaDoorPl07
import Derived.Test.YthkidembkknoeaaDoorPl14
namespace Go.Proofs.YthkidembkknoeaaDoor
open Go.RowKit PR QR
set_option linter.unusedVariables false
set_option linter.unusedSimpArgs false
structure Ov where
 kd:Int
 im:Int
 x:Int
 y:Int
 msk:Int
 mx:Int
 my:Int
 op:Int
 opr:Int
 md:Int
 iso:Bool
 kno:Bool
structure Sc where
 b:Int
 x0:Int
 y0:Int
 x1:Int
 y1:Int
 tw:Int
 th:Int
 on:Int
 ol:Int->Int
 mn:Int
 ml:Int->Im
 pn:Int
 pl:Int->Ov
def qp6 (o:Ov):List CV:=[.v (.int .i64 o.kd),.v (.int .i64 o.im),.v (.int .i64 o.x),.v (.int .i64 o.y),.v (.int .i64 o.msk),.v (.int .i64 o.mx),.v (.int .i64 o.my),.v (.int .u16 o.op),.v (.int .i64 o.opr),.v (.int .i64 o.md),.v (.bool o.iso),.v (.bool o.kno)]
def jh4 (f:Int->Ov):QR.Row:=.col 0 (λ i=>.v (.int .i64 (f i).kd)) (.col 1 (λ i=>.v (.int .i64 (f i).im)) (.col 2 (λ i=>.v (.int .i64 (f i).x)) (.col 3 (λ i=>.v (.int .i64 (f i).y)) (.col 4 (λ i=>.v (.int .i64 (f i).msk)) (.col 5 (λ i=>.v (.int .i64 (f i).mx)) (.col 6 (λ i=>.v (.int .i64 (f i).my)) (.col 7 (λ i=>.v (.int .u16 (f i).op)) (.col 8 (λ i=>.v (.int .i64 (f i).opr)) (.col 9 (λ i=>.v (.int .i64 (f i).md)) (.col 10 (λ i=>.v (.bool (f i).iso)) (.col 11 (λ i=>.v (.bool (f i).kno)) (.zer []))))))))))))
def q07 (k:Nat) (p:Int->Pl) (r:QR.Row):QR.Row:=.col k (λ i=>.v (.int .i64 (p i).w)) (.col (k + 1) (λ i=>.v (.int .i64 (p i).h)) (.col (k + 2) (λ i=>.v (.int .i64 (p i).s)) (.col (k + 3) (λ i=>.slc 1 (p i).n (.fn λ a _=>.v (.int .u16 ((p i).l a)))) r)))
def jr3 (f:Int->Im):QR.Row:=.col 0 (λ i=>.v (.int .i64 (f i).w)) (.col 1 (λ i=>.v (.int .i64 (f i).h)) (.col 2 (λ i=>.v (.bool (f i).sol)) (.col 3 (λ i=>.v (.int .u16 (f i).c0)) (.col 4 (λ i=>.v (.int .u16 (f i).c1)) (.col 5 (λ i=>.v (.int .u16 (f i).c2)) (.col 6 (λ i=>.v (.int .u16 (f i).a)) (.col 7 (λ i=>.v (.int .u16 (f i).f))
 (q07 8 (λ i=>(f i).p0) (q07 12 (λ i=>(f i).p1) (q07 16 (λ i=>(f i).p2) (q07 20 (λ i=>(f i).p3) (q07 24 (λ i=>(f i).p4) (.zer [])))))))))))))
def jk1 (s:Sc):List CV:=[.v (.int .i64 s.b),.v (.int .i64 s.x0),.v (.int .i64 s.y0),.v (.int .i64 s.x1),.v (.int .i64 s.y1),.v (.int .i64 s.tw),.v (.int .i64 s.th),.slc 1 s.on (.fn λ i _=>.v (.int .i64 (s.ol i))),.slc 28 s.mn (jr3 s.ml),.slc 12 s.pn (jh4 s.pl)]
def yu3:CV->Bool
 | .v (.bool b)=>b
 | _=>false
def slcN:CV->Int
 | .slc _ n _=>n
 | _=>0
def slcW:CV->QR.Row
 | .slc _ _ r=>r
 | _=>.zer []
def plAt (r:QR.Row) (i:Int) (k:Nat):Pl:=⟨intC (den r i k),intC (den r i (k + 1)),intC (den r i (k + 2)),slcN (den r i (k + 3)),λ a=>intC (den (slcW (den r i (k + 3))) a 0)⟩
def imAt (r:QR.Row) (i:Int):Im:=⟨intC (den r i 0),intC (den r i 1),yu3 (den r i 2),intC (den r i 3),intC (den r i 4),intC (den r i 5),intC (den r i 6),intC (den r i 7),plAt r i 8,plAt r i 12,plAt r i 16,plAt r i 20,plAt r i 24⟩
def ovAt (r:QR.Row) (i:Int):Ov:=⟨intC (den r i 0),intC (den r i 1),intC (den r i 2),intC (den r i 3),intC (den r i 4),intC (den r i 5),intC (den r i 6),intC (den r i 7),intC (den r i 8),intC (den r i 9),yu3 (den r i 10),yu3 (den r i 11)⟩
def jh6 (n:Int) (r:QR.Row):Prop:=∀i j:Nat,(i:Int) < n->j < 28->EqC (den r i j) (den (jr3 (imAt r)) i j)
def jd7 (n:Int) (r:QR.Row):Prop:=∀i j:Nat,(i:Int) < n->j < 12->EqC (den r i j) (den (jh4 (ovAt r)) i j)
def jj6:List CV->Option (Sc×List Prop)
 | [.v (.int .i64 b),.v (.int .i64 x0),.v (.int .i64 y0),.v (.int .i64 x1),.v (.int .i64 y1),.v (.int .i64 tw),.v (.int .i64 th),oc,mc,pc]=>match jf1 1 oc,jf1 28 mc,jf1 12 pc with
  | some (on,o),some (mn,m),some (pn,p)=>some (⟨b,x0,y0,x1,y1,tw,th,on,λ i=>intC (den o i 0),mn,imAt m,pn,ovAt p⟩,[intRow .i64 1 on o,jh6 mn m,jd7 pn p,ile 0 on=true,ile 0 mn=true,ile 0 pn=true])
  | _,_,_=>none
 | _=>none
theorem jn9 {z:Nat} {c:CV} {n:Int} {r R:QR.Row} (h:jf1 z c=some (n,r)) (hz:0 < z) (hr:∀i j:Nat,(i:Int) < n->j < z->EqC (den r i j) (den R i j)):EqC c (.slc z n R):=by
 unfold jf1 at h
 split at h
 ·rename_i z' n' r'
  cases e:Nat.beq z' z
  ·rw [e] at h;simp at h
  ·rw [e,cond_true,Option.some.injEq,Prod.mk.injEq] at h
   obtain ⟨rfl,rfl⟩:=h
   obtain rfl:=Nat.eq_of_beq_eq_true e
   exact .slc λ i j hi hj=>hr i j hi hj
 ·rw [Option.some.injEq,Prod.mk.injEq] at h
  obtain ⟨rfl,rfl⟩:=h
  exact .nil hz rfl
 ·simp at h
theorem qp7 {k:IntKind} {c:CV} {n:Int} {r:QR.Row} (h:jf1 1 c=some (n,r)) (hr:intRow k 1 n r):EqC c (.slc 1 n (.fn λ i _=>.v (.int k (intC (den r i 0))))) :=
 jn9 h (by decide) λ i j hi hj=>by
  obtain rfl:j=0:=by omega
  rw [hr i 0 hi hj];exact .v _
end Go.Proofs.YthkidembkknoeaaDoor
namespace Go.Proofs.YthkidembkknoeaaDoor
open Go.RowKit PR QR
set_option linter.unusedVariables false
def imsE (n:Int) (f g:Int->Im):Prop:=(((((((((((((((((((((((((((True/\∀i:Nat,ilt (Int.ofNat i) n=true->IntKind.i64=IntKind.i64/\(f (Int.ofNat i)).1=(g (Int.ofNat i)).1)/\∀i:Nat,ilt (Int.ofNat i) n=true->IntKind.i64=IntKind.i64/\(f (Int.ofNat i)).2=(g (Int.ofNat i)).2)/\∀i:Nat,ilt (Int.ofNat i) n=true->(f (Int.ofNat i)).3=(g (Int.ofNat i)).3)/\∀i:Nat,ilt (Int.ofNat i) n=true->IntKind.u16=IntKind.u16/\(f (Int.ofNat i)).4=(g (Int.ofNat i)).4)/\∀i:Nat,ilt (Int.ofNat i) n=true->IntKind.u16=IntKind.u16/\(f (Int.ofNat i)).5=(g (Int.ofNat i)).5)/\∀i:Nat,ilt (Int.ofNat i) n=true->IntKind.u16=IntKind.u16/\(f (Int.ofNat i)).6=(g (Int.ofNat i)).6)/\∀i:Nat,ilt (Int.ofNat i) n=true->IntKind.u16=IntKind.u16/\(f (Int.ofNat i)).7=(g (Int.ofNat i)).7)/\∀i:Nat,ilt (Int.ofNat i) n=true->IntKind.u16=IntKind.u16/\(f (Int.ofNat i)).8=(g (Int.ofNat i)).8)/\∀i:Nat,ilt (Int.ofNat i) n=true->IntKind.i64=IntKind.i64/\(f (Int.ofNat i)).9.1=(g (Int.ofNat i)).9.1)/\∀i:Nat,ilt (Int.ofNat i) n=true->IntKind.i64=IntKind.i64/\(f (Int.ofNat i)).9.2=(g (Int.ofNat i)).9.2)/\∀i:Nat,ilt (Int.ofNat i) n=true->IntKind.i64=IntKind.i64/\(f (Int.ofNat i)).9.3=(g (Int.ofNat i)).9.3)/\∀i:Nat,ilt (Int.ofNat i) n=true->EqC (CV.slc 1 (f (Int.ofNat i)).9.4 (QR.Row.fn λ (a:Int) (x:Nat)=>CV.v (Value.int .u16 ((f (Int.ofNat i)).9.5 a)))) (CV.slc 1 (g (Int.ofNat i)).9.4 (QR.Row.fn λ (a:Int) (x:Nat)=>CV.v (Value.int .u16 ((g (Int.ofNat i)).9.5 a)))))/\∀i:Nat,ilt (Int.ofNat i) n=true->IntKind.i64=IntKind.i64/\(f (Int.ofNat i)).10.1=(g (Int.ofNat i)).10.1)/\∀i:Nat,ilt (Int.ofNat i) n=true->IntKind.i64=IntKind.i64/\(f (Int.ofNat i)).10.2=(g (Int.ofNat i)).10.2)/\∀i:Nat,ilt (Int.ofNat i) n=true->IntKind.i64=IntKind.i64/\(f (Int.ofNat i)).10.3=(g (Int.ofNat i)).10.3)/\∀i:Nat,ilt (Int.ofNat i) n=true->EqC (CV.slc 1 (f (Int.ofNat i)).10.4 (QR.Row.fn λ (a:Int) (x:Nat)=>CV.v (Value.int .u16 ((f (Int.ofNat i)).10.5 a)))) (CV.slc 1 (g (Int.ofNat i)).10.4 (QR.Row.fn λ (a:Int) (x:Nat)=>CV.v (Value.int .u16 ((g (Int.ofNat i)).10.5 a)))))/\∀i:Nat,ilt (Int.ofNat i) n=true->IntKind.i64=IntKind.i64/\(f (Int.ofNat i)).11.1=(g (Int.ofNat i)).11.1)/\∀i:Nat,ilt (Int.ofNat i) n=true->IntKind.i64=IntKind.i64/\(f (Int.ofNat i)).11.2=(g (Int.ofNat i)).11.2)/\∀i:Nat,ilt (Int.ofNat i) n=true->IntKind.i64=IntKind.i64/\(f (Int.ofNat i)).11.3=(g (Int.ofNat i)).11.3)/\∀i:Nat,ilt (Int.ofNat i) n=true->EqC (CV.slc 1 (f (Int.ofNat i)).11.4 (QR.Row.fn λ (a:Int) (x:Nat)=>CV.v (Value.int .u16 ((f (Int.ofNat i)).11.5 a)))) (CV.slc 1 (g (Int.ofNat i)).11.4 (QR.Row.fn λ (a:Int) (x:Nat)=>CV.v (Value.int .u16 ((g (Int.ofNat i)).11.5 a)))))/\∀i:Nat,ilt (Int.ofNat i) n=true->IntKind.i64=IntKind.i64/\(f (Int.ofNat i)).12.1=(g (Int.ofNat i)).12.1)/\∀i:Nat,ilt (Int.ofNat i) n=true->IntKind.i64=IntKind.i64/\(f (Int.ofNat i)).12.2=(g (Int.ofNat i)).12.2)/\∀i:Nat,ilt (Int.ofNat i) n=true->IntKind.i64=IntKind.i64/\(f (Int.ofNat i)).12.3=(g (Int.ofNat i)).12.3)/\∀i:Nat,ilt (Int.ofNat i) n=true->EqC (CV.slc 1 (f (Int.ofNat i)).12.4 (QR.Row.fn λ (a:Int) (x:Nat)=>CV.v (Value.int .u16 ((f (Int.ofNat i)).12.5 a)))) (CV.slc 1 (g (Int.ofNat i)).12.4 (QR.Row.fn λ (a:Int) (x:Nat)=>CV.v (Value.int .u16 ((g (Int.ofNat i)).12.5 a)))))/\∀i:Nat,ilt (Int.ofNat i) n=true->IntKind.i64=IntKind.i64/\(f (Int.ofNat i)).13.1=(g (Int.ofNat i)).13.1)/\∀i:Nat,ilt (Int.ofNat i) n=true->IntKind.i64=IntKind.i64/\(f (Int.ofNat i)).13.2=(g (Int.ofNat i)).13.2)/\∀i:Nat,ilt (Int.ofNat i) n=true->IntKind.i64=IntKind.i64/\(f (Int.ofNat i)).13.3=(g (Int.ofNat i)).13.3)/\∀i:Nat,ilt (Int.ofNat i) n=true->EqC (CV.slc 1 (f (Int.ofNat i)).13.4 (QR.Row.fn λ (a:Int) (x:Nat)=>CV.v (Value.int .u16 ((f (Int.ofNat i)).13.5 a)))) (CV.slc 1 (g (Int.ofNat i)).13.4 (QR.Row.fn λ (a:Int) (x:Nat)=>CV.v (Value.int .u16 ((g (Int.ofNat i)).13.5 a))))
def opsE (n:Int) (f g:Int->Ov):Prop:=(((((((((((True/\∀i:Nat,ilt (Int.ofNat i) n=true->IntKind.i64=IntKind.i64/\(f (Int.ofNat i)).1=(g (Int.ofNat i)).1)/\∀i:Nat,ilt (Int.ofNat i) n=true->IntKind.i64=IntKind.i64/\(f (Int.ofNat i)).2=(g (Int.ofNat i)).2)/\∀i:Nat,ilt (Int.ofNat i) n=true->IntKind.i64=IntKind.i64/\(f (Int.ofNat i)).3=(g (Int.ofNat i)).3)/\∀i:Nat,ilt (Int.ofNat i) n=true->IntKind.i64=IntKind.i64/\(f (Int.ofNat i)).4=(g (Int.ofNat i)).4)/\∀i:Nat,ilt (Int.ofNat i) n=true->IntKind.i64=IntKind.i64/\(f (Int.ofNat i)).5=(g (Int.ofNat i)).5)/\∀i:Nat,ilt (Int.ofNat i) n=true->IntKind.i64=IntKind.i64/\(f (Int.ofNat i)).6=(g (Int.ofNat i)).6)/\∀i:Nat,ilt (Int.ofNat i) n=true->IntKind.i64=IntKind.i64/\(f (Int.ofNat i)).7=(g (Int.ofNat i)).7)/\∀i:Nat,ilt (Int.ofNat i) n=true->IntKind.u16=IntKind.u16/\(f (Int.ofNat i)).8=(g (Int.ofNat i)).8)/\∀i:Nat,ilt (Int.ofNat i) n=true->IntKind.i64=IntKind.i64/\(f (Int.ofNat i)).9=(g (Int.ofNat i)).9)/\∀i:Nat,ilt (Int.ofNat i) n=true->IntKind.i64=IntKind.i64/\(f (Int.ofNat i)).10=(g (Int.ofNat i)).10)/\∀i:Nat,ilt (Int.ofNat i) n=true->(f (Int.ofNat i)).11=(g (Int.ofNat i)).11)/\∀i:Nat,ilt (Int.ofNat i) n=true->(f (Int.ofNat i)).12=(g (Int.ofNat i)).12
end Go.Proofs.YthkidembkknoeaaDoor
namespace Go.Proofs.YthkidembkknoeaaDoor
open Go.RowKit PR QR
set_option linter.unusedVariables false
set_option linter.unusedSimpArgs false
def atV (n:Int) (x:Int) (i:Int):Int:=if 0<=i/\i < n then x else 0
def s_at:List AV->Option QR.Ans
 | [.x (.c (.slc z n r)),.x (.c (.v (.int .i64 i)))]=>bif Nat.beq z 1 then some ⟨[.c (.v (.int .i64 (atV n (intC (den r i 0)) i)))],[],[intRow .i64 1 n r]⟩ else none
 | _=>none
set_option maxRecDepth 100000 in
theorem za1 (n i:Int) (l:Int->Nat->Int) (V:List QR.XV->List (List QR.CV)->Prop):QR.ja9 Tryd.prog (QR.orc []) (QR.ja4) (Tryd.f46.body.getD .skip) Tryd.f46.results.toList Tryd.f46.ntmps [.x (.c (.slc 1 n (.fn λ i j=>.v (.int .i64 (l i j))))),.x (.c (.v (.int .i64 i)))] V=(True/\ja0 (ilt i 0) (True/\True/\True/\V [XV.c (CV.v (Value.int .i64 0))] []) (∀(i_1:Int),i_1=n->True/\ja0 (ige i i_1) (True/\True/\V [XV.c (CV.v (Value.int .i64 0))] []) ((ile 0 i=true/\ilt i n=true/\True)/\True/\V [XV.c (CV.v (Value.int .i64 (l i 0)))] []))):=by
 kernel_rfl
theorem a_at:jb0 46 s_at:=by
 intro al ans h hq
 unfold s_at at h
 split at h <;> try (simp at h;done)
 rename_i z n r i
 cases hz:Nat.beq z 1
 ·rw [hz] at h;simp at h
 rw [hz,cond_true] at h
 obtain rfl:=Nat.eq_of_beq_eq_true hz
 simp only [Option.some.injEq] at h
 subst h
 have hq:=asked hq
 refine vz6 (al':=[.x (.c (.slc 1 n (ints .i64 r))),.x (.c (.v (.int .i64 i)))]) ⟨va7 hq.1,.v _,trivial⟩ ?_
 refine QR.ja2 (O:=QR.orc []) QR.jb2 mixed QR.ja4 Tryd.func46 (by kernel_rfl) (by kernel_rfl) (by simp) ?_
 unfold ints
 rw [za1]
 simp only [ja1,jb6,eqXs,eqX,eqo,eqLo,eqc,veq,eqUs,forall_eq,true_and,and_true,ilt,ige,ile,decide_eq_true_eq,decide_eq_false_iff_not,ge_iff_le,gt_iff_lt]
 unfold atV
 refine ⟨λ c=>?_,λ c=>⟨λ e=>?_,λ e=>?_⟩⟩
 ·rw [if_neg (by omega)]
 ·rw [if_neg (by omega)]
 ·rw [if_pos (by omega)];exact ⟨by omega,rfl⟩
end Go.Proofs.YthkidembkknoeaaDoor
namespace Go.Proofs.YthkidembkknoeaaDoor
open Go.RowKit PR QR
set_option linter.unusedVariables false
set_option linter.unusedSimpArgs false
def tiB (a b c d w h:Int):Bool:=decide (reB a b c d=false/\(1<=w/\w<=c - a)/\1<=h/\h<=d - b)
def tiX (a b c d w h:Int):Int:=if tiB a b c d w h=true then (c - a - 1) / w + 1 else 0
def tiY (a b c d w h:Int):Int:=if tiB a b c d w h=true then (d - b - 1) / h + 1 else 0
theorem vl6 {a b:Int} (h:0<=a) (k:a<=9223372036854775807) (hb:1<=b):iquo .i64 a b=a / b:=by
 unfold iquo
 rw [Int.tdiv_eq_ediv_of_nonneg h]
 have h1:=Int.ediv_nonneg h (show (0:Int)<=b by omega)
 have h2:=Int.ediv_le_self b h
 exact IntWalk.i64_in _ (by omega)
theorem jk6 {u w:Int} (hw:1<=w) (hu:w<=u):(1<=(u - 1) / w + 1/\(u - 1) / w + 1<=u)/\(u - 1) / w * w<=u - 1/\u<=((u - 1) / w + 1) * w:=by
 have h0:0<=u - 1:=by omega
 have h1:=Int.ediv_nonneg h0 (show (0:Int)<=w by omega)
 have h2:=Int.ediv_le_self w h0
 have h3:=Int.mul_ediv_add_emod (u - 1) w
 have h4:=Int.emod_nonneg (u - 1) (show w≠0 by omega)
 have h5:=Int.emod_lt_of_pos (u - 1) (show 0 < w by omega)
 rw [Int.mul_comm] at h3
 refine ⟨⟨by omega,by omega⟩,by omega,?_⟩
 rw [Int.add_mul]
 omega
theorem yv9 {a b c d w h:Int} (k:tiB a b c d w h=true):((F30 a/\F30 b/\F30 c/\F30 d)/\a < c/\b < d)/\(1<=w/\w<=c - a)/\1<=h/\h<=d - b:=by
 unfold tiB at k
 rw [decide_eq_true_eq,re_f] at k
 exact k
theorem yi2 {a b c d w h:Int} (k:tiB a b c d w h=true):tiX a b c d w h=(c - a - 1) / w + 1:=by unfold tiX;rw [if_pos k]
theorem yi3 {a b c d w h:Int} (k:tiB a b c d w h=true):tiY a b c d w h=(d - b - 1) / h + 1:=by unfold tiY;rw [if_pos k]
end Go.Proofs.YthkidembkknoeaaDoor
namespace Go.Proofs.YthkidembkknoeaaDoor
open Go.RowKit PR QR
set_option linter.unusedVariables false
set_option linter.unusedSimpArgs false
def orW (m:Int) (l:Int->Nat->Int) (i:Int):Int:=if m=0 then i else l i 0
noncomputable def orS (m:Int) (l:Int->Nat->Int) (i k:Int):Bool:=@decide (∃j:Int,0<=j/\j < i/\orW m l j=k) (Classical.propDecidable _)
def orI (m:Int) (l:Int->Nat->Int) (n i:Int):Prop:=(0<=i/\i<=n)/\∀j:Int,0<=j->j < i->(0<=orW m l j/\orW m l j < n)/\∀k:Int,0<=k->k < j->orW m l k≠orW m l j
noncomputable def orB (m:Int) (l:Int->Nat->Int) (n:Int):Bool:=@decide ((0<=n/\n<=16777216)/\(m=0\/m=n)/\orI m l n n) (Classical.propDecidable _)
noncomputable def orN (m:Int) (l:Int->Nat->Int) (n:Int):Int:=if orB m l n=true then n else 0
def orMu (n i:Int):Nat:=(n - i).toNat
noncomputable def qj2:List AV->Option QR.Ans
 | [.x (.c c),.x (.c (.v (.int .i64 n)))]=>match jf1 1 c with
  | some (m,r)=>some ⟨[.c (.fresh 1 (orN m (λ i _=>intC (den r i 0)) n) (.fn λ i j=>.v (.int .i64 (orW m (λ i _=>intC (den r i 0)) i)))),.c (.v (.bool (orB m (λ i _=>intC (den r i 0)) n)))],[],[intRow .i64 1 m r,ile 0 m=true]⟩
  | none=>none
 | _=>none
end Go.Proofs.YthkidembkknoeaaDoor
namespace Go.Proofs.YthkidembkknoeaaDoor
open Go.RowKit PR QR
set_option linter.unusedVariables false
set_option linter.unusedSimpArgs false
def pmS (g:Nat->Int) (n:Nat):Nat->List Int×List Int
 | 0=>([],(List.range n).map Int.ofNat)
 | i + 1=>((pmS g n i).1 ++ [(pmS g n i).2.getD (gmod (g i) (pmS g n i).2.length).toNat 0],(pmS g n i).2.eraseIdx (gmod (g i) (pmS g n i).2.length).toNat)
def pmA (m:Int) (l:Int->Nat->Int) (i:Nat):Int:=if (i:Int) < m then l i 0 else 0
def pmR (m:Int) (l:Int->Nat->Int) (n i a:Int):Int:=(pmS (pmA m l) n.toNat i.toNat).2.getD a.toNat 0
def pmO (m:Int) (l:Int->Nat->Int) (n i a:Int):Int:=(pmS (pmA m l) n.toNat i.toNat).1.getD a.toNat 0
def pfV (i a:Int):Int:=if a < i then a else 0
def qv1 (n i:Int):Prop:=0<=i/\i<=n
def pfMu (n i:Int):Nat:=(n - i).toNat
def pmG0 (n i:Int):Prop:=(0<=i/\i<=n)/\i=0
def pmG1 (n i:Int):Prop:=(0<=i/\i<=n)/\1<=i
def pmB (m n:Int):Bool:=decide (¬ m=0/\n<=64)
def pmN (m n:Int):Int:=if pmB m n=true then n else 0
def q38:List AV->Option QR.Ans
 | [.x (.c c),.x (.c (.v (.int .i64 n)))]=>match jf1 1 c with
  | some (m,r)=>some ⟨[.c (.fresh 1 (pmN m n) (.fn λ i j=>.v (.int .i64 (pmO m (λ i _=>intC (den r i 0)) n n i))))],[],[intRow .i64 1 m r,ile 0 m=true,ile 0 n=true]⟩
  | none=>none
 | _=>none
def vg6:QR.ja7:=QR.orc [(46,s_at),(20,QR.qe4 jm0)]
noncomputable def q39 (m:Int) (l:Int->Nat->Int) (n:Int):QR.Inv where
 ι:=Int
 good i:=qv1 n i
 slots i:=QR.slotsOf Tryd.f25.ntmps [(0,.x (.c (.slc 1 m (.fn λ a b=>.v (.int .i64 (l a b)))))),(1,.x (.c (.v (.int .i64 n)))),(5,.x (.c (.own 1000000000000000 n))),(6,.x (.c (.v (.int .i64 i))))]
 blocks i:=[(1000000000000000,.row 1 n (.fn λ a b=>.v (.int .i64 (pfV i a))))]
 μ i:=pfMu n i
noncomputable def qp9 (m:Int) (l:Int->Nat->Int) (n:Int):QR.Inv where
 ι:=Int
 good i:=pmG0 n i
 slots i:=QR.slotsOf Tryd.f25.ntmps [(0,.x (.c (.slc 1 m (.fn λ a b=>.v (.int .i64 (l a b)))))),(5,.x (.c (.own 1000000000000000 (subZ n i)))),(7,.x (.c (.v (.slice none 0 0)))),(8,.x (.c (.v (.int .i64 i))))]
 blocks i:=[(1000000000000000,.row 1 (subZ n i) (.fn λ a b=>.v (.int .i64 (pmR m l n i a))))]
 μ i:=pfMu n i
noncomputable def qq0 (m:Int) (l:Int->Nat->Int) (n:Int):QR.Inv where
 ι:=Int
 good i:=pmG1 n i
 slots i:=QR.slotsOf Tryd.f25.ntmps [(0,.x (.c (.slc 1 m (.fn λ a b=>.v (.int .i64 (l a b)))))),(5,.x (.c (.own 1000000000000000 (subZ n i)))),(7,.x (.c (.own 1000000000000001 i))),(8,.x (.c (.v (.int .i64 i))))]
 blocks i:=[(1000000000000000,.row 1 (subZ n i) (.fn λ a b=>.v (.int .i64 (pmR m l n i a)))),(1000000000000001,.row 1 i (.fn λ a b=>.v (.int .i64 (pmO m l n i a))))]
 μ i:=pfMu n i
set_option maxRecDepth 100000 in
theorem yi6 (m:Int) (l:Int->Nat->Int) (n:Int) (V:List QR.XV->List (List QR.CV)->Prop):QR.ja9 Tryd.prog (vg6) (λ k=>bif Nat.beq k 5 then some (.inv (q39 m l n)) else bif Nat.beq k 10 then some (.invs [qp9 m l n,qq0 m l n]) else none) (Tryd.f25.body.getD .skip) Tryd.f25.results.toList Tryd.f25.ntmps [.x (.c (.slc 1 m (.fn λ i j=>.v (.int .i64 (l i j))))),.x (.c (.v (.int .i64 n)))] V=(True/\∀(i:Int),i=m->ja0 (ieq i 0) (True/\True/\True/\V [XV.c (CV.v (Value.slice Option.none 0 0))] []) (True/\ja0 (igt n 64) (True/\True/\V [XV.c (CV.v (Value.slice Option.none 0 0))] []) ((ile 0 n=true/\ile n n=true/\ile (jd8 n 8) 140737488355328=true/\ile n 140737488355328=true/\True)/\True/\(∃(i:Int),qv1 n i/\True/\true=true/\((true=true/\1=1/\m=m/\True/\∀(i:Nat),ilt (Int.ofNat i) m=true->IntKind.i64=IntKind.i64/\l (Int.ofNat i) 0=l (Int.ofNat i) 0)/\(true=true/\IntKind.i64=IntKind.i64/\n=n)/\(true=true/\3073=3073/\n=n)/\(true=true/\IntKind.i64=IntKind.i64/\(0:Int)=i)/\True)/\(1=1/\n=n/\True/\∀(i_1:Nat),ilt (Int.ofNat i_1) n=true->IntKind.i64=IntKind.i64/\(0:Int)=pfV i (Int.ofNat i_1))/\True)/\∀(i:Int),qv1 n i->True/\ja0 (ilt i n) ((ile 0 i=true/\ilt i n=true/\True)/\True/\∃(j:Int),qv1 n j/\(True/\true=true/\((true=true/\1=1/\m=m/\True/\∀(i:Nat),ilt (Int.ofNat i) m=true->IntKind.i64=IntKind.i64/\l (Int.ofNat i) 0=l (Int.ofNat i) 0)/\(true=true/\IntKind.i64=IntKind.i64/\n=n)/\(true=true/\1000000000000000=1000000000000000/\n=n)/\(true=true/\IntKind.i64=IntKind.i64/\iadd IntKind.i64 i 1=j)/\True)/\(1=1/\n=n/\True/\∀(i_1:Nat),ilt (Int.ofNat i_1) n=true->IntKind.i64=IntKind.i64/\isel (ieq (Int.ofNat i_1) i) i (pfV i (Int.ofNat i_1))=pfV j (Int.ofNat i_1))/\True)/\Nat.le (Nat.succ (pfMu n j)) (pfMu n i)) (True/\True/\((∃(i_1:Int),pmG0 n i_1/\True/\true=true/\((true=true/\1=1/\m=m/\True/\∀(i:Nat),ilt (Int.ofNat i) m=true->IntKind.i64=IntKind.i64/\l (Int.ofNat i) 0=l (Int.ofNat i) 0)/\(true=true/\1000000000000000=1000000000000000/\n=subZ n i_1)/\(true=true/\Value.slice Option.none 0 0=Value.slice Option.none 0 0)/\(true=true/\IntKind.i64=IntKind.i64/\(0:Int)=i_1)/\True)/\(1=1/\n=subZ n i_1/\True/\∀(i_2:Nat),ilt (Int.ofNat i_2) n=true->IntKind.i64=IntKind.i64/\pfV i (Int.ofNat i_2)=pmR m l n i_1 (Int.ofNat i_2))/\True)\/(∃(i_1:Int),pmG1 n i_1/\True/\true=true/\((true=true/\1=1/\m=m/\True/\∀(i:Nat),ilt (Int.ofNat i) m=true->IntKind.i64=IntKind.i64/\l (Int.ofNat i) 0=l (Int.ofNat i) 0)/\(true=true/\1000000000000000=1000000000000000/\n=subZ n i_1)/\(true=true/\False)/\(true=true/\IntKind.i64=IntKind.i64/\(0:Int)=i_1)/\True)/\(1=1/\n=subZ n i_1/\True/\∀(i_2:Nat),ilt (Int.ofNat i_2) n=true->IntKind.i64=IntKind.i64/\pfV i (Int.ofNat i_2)=pmR m l n i_1 (Int.ofNat i_2))/\False/\True)\/False)/\(∀(i:Int),pmG0 n i->∀(i_1:Int),i_1=subZ n i->True/\ja0 (igt i_1 0) (∀(i_2:Int),i_2=atV m (l i 0) i->∀(i_3:Int),i_3=subZ n i->∀(i_4:Int),i_4=gmod i_2 i_3->(jb8 i_3=true/\intRow IntKind.i64 1 m (QR.Row.fn λ (a:Int) (b:Nat)=>CV.v (Value.int .i64 (l a b)))/\True)/\(true=true/\ile 0 i_4=true/\ilt i_4 (subZ n i)=true/\True)/\(ile (jd8 (addZ (subZ i_4 0) (subZ (subZ n i) (iadd IntKind.i64 i_4 1))) 8) 140737488355328=true/\ile 0 (iadd IntKind.i64 i_4 1)=true/\ile (iadd IntKind.i64 i_4 1) (subZ n i)=true/\ile (subZ n i) (subZ n i)=true/\ile (jd8 (subZ i_4 0) 8) 140737488355328=true/\true=true/\ile 0 i_4=true/\ile i_4 (subZ n i)=true/\True)/\True/\((∃(i_5:Int),pmG0 n i_5/\(True/\true=true/\((true=true/\1=1/\m=m/\True/\∀(i:Nat),ilt (Int.ofNat i) m=true->IntKind.i64=IntKind.i64/\l (Int.ofNat i) 0=l (Int.ofNat i) 0)/\(true=true/\8402952=8402952/\addZ (subZ i_4 0) (subZ (subZ n i) (iadd IntKind.i64 i_4 1))=subZ n i_5)/\(true=true/\False)/\(true=true/\IntKind.i64=IntKind.i64/\iadd IntKind.i64 i 1=i_5)/\True)/\(1=1/\addZ (subZ i_4 0) (subZ (subZ n i) (iadd IntKind.i64 i_4 1))=subZ n i_5/\True/\∀(i_6:Nat),ilt (Int.ofNat i_6) (addZ (subZ i_4 0) (subZ (subZ n i) (iadd IntKind.i64 i_4 1)))=true->IntKind.i64=IntKind.i64/\isel (ilt (Int.ofNat i_6) (subZ i_4 0)) (pmR m l n i (addZ (Int.ofNat i_6) 0)) (pmR m l n i (addZ (subZ (Int.ofNat i_6) (subZ i_4 0)) (iadd IntKind.i64 i_4 1)))=pmR m l n i_5 (Int.ofNat i_6))/\True)/\Nat.le (Nat.succ (pfMu n i_5)) (pfMu n i))\/(∃(i_5:Int),pmG1 n i_5/\(True/\true=true/\((true=true/\1=1/\m=m/\True/\∀(i:Nat),ilt (Int.ofNat i) m=true->IntKind.i64=IntKind.i64/\l (Int.ofNat i) 0=l (Int.ofNat i) 0)/\(true=true/\8402952=8402952/\addZ (subZ i_4 0) (subZ (subZ n i) (iadd IntKind.i64 i_4 1))=subZ n i_5)/\(true=true/\8401926=8401926/\1=i_5)/\(true=true/\IntKind.i64=IntKind.i64/\iadd IntKind.i64 i 1=i_5)/\True)/\(1=1/\addZ (subZ i_4 0) (subZ (subZ n i) (iadd IntKind.i64 i_4 1))=subZ n i_5/\True/\∀(i_6:Nat),ilt (Int.ofNat i_6) (addZ (subZ i_4 0) (subZ (subZ n i) (iadd IntKind.i64 i_4 1)))=true->IntKind.i64=IntKind.i64/\isel (ilt (Int.ofNat i_6) (subZ i_4 0)) (pmR m l n i (addZ (Int.ofNat i_6) 0)) (pmR m l n i (addZ (subZ (Int.ofNat i_6) (subZ i_4 0)) (iadd IntKind.i64 i_4 1)))=pmR m l n i_5 (Int.ofNat i_6))/\(1=1/\1=i_5/\True/\∀(i_6:Nat),ilt (Int.ofNat i_6) 1=true->IntKind.i64=IntKind.i64/\isel (ieq (Int.ofNat i_6) 0) (pmR m l n i i_4) 0=pmO m l n i_5 (Int.ofNat i_6))/\True)/\Nat.le (Nat.succ (pfMu n i_5)) (pfMu n i))\/False)) (True/\True/\V [XV.c (CV.v (Value.slice Option.none 0 0))] []))/\(∀(i:Int),pmG1 n i->∀(i_1:Int),i_1=subZ n i->True/\ja0 (igt i_1 0) (∀(i_2:Int),i_2=atV m (l i 0) i->∀(i_3:Int),i_3=subZ n i->∀(i_4:Int),i_4=gmod i_2 i_3->(jb8 i_3=true/\intRow IntKind.i64 1 m (QR.Row.fn λ (a:Int) (b:Nat)=>CV.v (Value.int .i64 (l a b)))/\True)/\(ile (jd8 (addZ i 1) 8) 140737488355328=true/\ile 0 i_4=true/\ilt i_4 (subZ n i)=true/\True)/\(ile (jd8 (addZ (subZ i_4 0) (subZ (subZ n i) (iadd IntKind.i64 i_4 1))) 8) 140737488355328=true/\ile 0 (iadd IntKind.i64 i_4 1)=true/\ile (iadd IntKind.i64 i_4 1) (subZ n i)=true/\ile (subZ n i) (subZ n i)=true/\ile (jd8 (subZ i_4 0) 8) 140737488355328=true/\true=true/\ile 0 i_4=true/\ile i_4 (subZ n i)=true/\True)/\True/\((∃(i_5:Int),pmG0 n i_5/\(True/\true=true/\((true=true/\1=1/\m=m/\True/\∀(i:Nat),ilt (Int.ofNat i) m=true->IntKind.i64=IntKind.i64/\l (Int.ofNat i) 0=l (Int.ofNat i) 0)/\(true=true/\8402952=8402952/\addZ (subZ i_4 0) (subZ (subZ n i) (iadd IntKind.i64 i_4 1))=subZ n i_5)/\(true=true/\False)/\(true=true/\IntKind.i64=IntKind.i64/\iadd IntKind.i64 i 1=i_5)/\True)/\(1=1/\addZ (subZ i_4 0) (subZ (subZ n i) (iadd IntKind.i64 i_4 1))=subZ n i_5/\True/\∀(i_6:Nat),ilt (Int.ofNat i_6) (addZ (subZ i_4 0) (subZ (subZ n i) (iadd IntKind.i64 i_4 1)))=true->IntKind.i64=IntKind.i64/\isel (ilt (Int.ofNat i_6) (subZ i_4 0)) (pmR m l n i (addZ (Int.ofNat i_6) 0)) (pmR m l n i (addZ (subZ (Int.ofNat i_6) (subZ i_4 0)) (iadd IntKind.i64 i_4 1)))=pmR m l n i_5 (Int.ofNat i_6))/\True)/\Nat.le (Nat.succ (pfMu n i_5)) (pfMu n i))\/(∃(i_5:Int),pmG1 n i_5/\(True/\true=true/\((true=true/\1=1/\m=m/\True/\∀(i:Nat),ilt (Int.ofNat i) m=true->IntKind.i64=IntKind.i64/\l (Int.ofNat i) 0=l (Int.ofNat i) 0)/\(true=true/\8402952=8402952/\addZ (subZ i_4 0) (subZ (subZ n i) (iadd IntKind.i64 i_4 1))=subZ n i_5)/\(true=true/\8401926=8401926/\addZ i 1=i_5)/\(true=true/\IntKind.i64=IntKind.i64/\iadd IntKind.i64 i 1=i_5)/\True)/\(1=1/\addZ (subZ i_4 0) (subZ (subZ n i) (iadd IntKind.i64 i_4 1))=subZ n i_5/\True/\∀(i_6:Nat),ilt (Int.ofNat i_6) (addZ (subZ i_4 0) (subZ (subZ n i) (iadd IntKind.i64 i_4 1)))=true->IntKind.i64=IntKind.i64/\isel (ilt (Int.ofNat i_6) (subZ i_4 0)) (pmR m l n i (addZ (Int.ofNat i_6) 0)) (pmR m l n i (addZ (subZ (Int.ofNat i_6) (subZ i_4 0)) (iadd IntKind.i64 i_4 1)))=pmR m l n i_5 (Int.ofNat i_6))/\(1=1/\addZ i 1=i_5/\True/\∀(i_6:Nat),ilt (Int.ofNat i_6) (addZ i 1)=true->IntKind.i64=IntKind.i64/\isel (ilt (Int.ofNat i_6) i) (pmO m l n i (Int.ofNat i_6)) (isel (ieq (subZ (Int.ofNat i_6) i) 0) (pmR m l n i i_4) 0)=pmO m l n i_5 (Int.ofNat i_6))/\True)/\Nat.le (Nat.succ (pfMu n i_5)) (pfMu n i))\/False)) (True/\True/\V [XV.c (CV.fresh 1 i (QR.Row.fn λ (a:Int) (b:Nat)=>CV.v (Value.int .i64 (pmO m l n i a))))] []))/\True)))):=by
 try delta vg6
 try delta q39
 try delta qp9
 try delta qq0
 try delta s_at
 try delta jm0
 generalize @atV=atV
 generalize @gmod=gmod
 generalize @intRow=intRow
 generalize @jb8=jb8
 generalize @qv1=qv1
 generalize @pfMu=pfMu
 generalize @pfV=pfV
 generalize @pmG0=pmG0
 generalize @pmG1=pmG1
 generalize @pmO=pmO
 generalize @pmR=pmR
 kernel_rfl
end Go.Proofs.YthkidembkknoeaaDoor
namespace Go.Proofs.YthkidembkknoeaaDoor
open Go.RowKit PR QR
set_option linter.unusedVariables false
set_option linter.unusedSimpArgs false
set_option maxRecDepth 20000
theorem vq1 (l:Int->Nat->Int) (i:Int):orW 0 l i=i:=by unfold orW;rw [if_pos rfl]
theorem y57 {m:Int} (h:0 < m) (l:Int->Nat->Int) (i:Int):orW m l i=l i 0:=by unfold orW;rw [if_neg (by omega)]
theorem qp8 {m:Int} {l:Int->Nat->Int} {i k:Int}:orS m l i k=true↔∃j:Int,0<=j/\j < i/\orW m l j=k:=by unfold orS;rw [@decide_eq_true_eq _ (Classical.propDecidable _)]
theorem zb5 (m:Int) (l:Int->Nat->Int) (k:Int):orS m l 0 k=false:=by
 rw [<- Bool.not_eq_true,qp8]
 rintro ⟨j,h0,h1,_⟩
 omega
theorem yi5 {m:Int} {l:Int->Nat->Int} {i:Int} (h:0<=i) (k:Int):bsel (ieq k (orW m l i)) true (orS m l i k)=orS m l (i + 1) k:=by
 rw [Bool.eq_iff_iff,qp8]
 cases e:ieq k (orW m l i)
 ·rw [show bsel false true (orS m l i k)=orS m l i k from rfl,qp8]
  have ne:k≠orW m l i:=by unfold ieq at e;exact of_decide_eq_false (by simpa using e)
  constructor
  ·rintro ⟨j,h0,h1,h2⟩
   exact ⟨j,h0,by omega,h2⟩
  ·rintro ⟨j,h0,h1,h2⟩
   refine ⟨j,h0,?_,h2⟩
   have:j≠i:=λ q=>ne (by rw [<- h2,q])
   omega
 ·have eq:k=orW m l i:=by unfold ieq at e;simpa using e
  rw [show bsel true true (orS m l i k)=true from rfl]
  exact ⟨λ _=>⟨i,h,by omega,eq.symm⟩,λ _=>rfl⟩
theorem yw0 {m:Int} {l:Int->Nat->Int} {n i:Int} (h:orI m l n i) (lt:i < n) (k0:0<=orW m l i) (k1:orW m l i < n) (k2:orS m l i (orW m l i)=false):orI m l n (i + 1):=by
 obtain ⟨⟨i0,i1⟩,hi⟩:=h
 refine ⟨⟨by omega,by omega⟩,λ j j0 j1=>?_⟩
 by_cases e:j < i
 ·exact hi j j0 e
 ·obtain rfl:j=i:=by omega
  refine ⟨⟨k0,k1⟩,λ k h0 h1 e=>?_⟩
  rw [<- Bool.not_eq_true,qp8] at k2
  exact k2 ⟨k,h0,h1,e⟩
theorem yw1 {m:Int} {l:Int->Nat->Int} {n i:Int} (h:orI m l n n) (i0:0<=i) (lt:i < n):(0<=orW m l i/\orW m l i < n)/\orS m l i (orW m l i)=false:=by
 obtain ⟨h0,h1⟩:=h.2 i i0 lt
 refine ⟨h0,?_⟩
 rw [<- Bool.not_eq_true,qp8]
 rintro ⟨j,j0,j1,e⟩
 exact h1 j j0 j1 e
theorem qe7 {m:Int} {l:Int->Nat->Int} {n:Int}:orB m l n=true↔(0<=n/\n<=16777216)/\(m=0\/m=n)/\orI m l n n:=by unfold orB;rw [@decide_eq_true_eq _ (Classical.propDecidable _)]
theorem y58 {m:Int} {l:Int->Nat->Int} {n:Int} (h:¬ ((0<=n/\n<=16777216)/\(m=0\/m=n)/\orI m l n n)):orB m l n=false:=by rw [<- Bool.not_eq_true,qe7];exact h
end Go.Proofs.YthkidembkknoeaaDoor
namespace Go.Proofs.YthkidembkknoeaaDoor
open Go.RowKit PR QR
set_option linter.unusedVariables false
set_option linter.unusedSimpArgs false
set_option maxRecDepth 20000
theorem jt8:∀(l:List Int) (k:Nat) (h:k < l.length),(l[k] :: l.eraseIdx k).Perm l
 | x :: l,0,_=>List.Perm.refl _
 | x :: l,k + 1,h=>by
  have ih:=jt8 l k (by simpa using h)
  exact (List.Perm.swap _ _ _).trans (ih.cons x)
def pmK (g:Nat->Int) (n i:Nat):Nat:=(gmod (g i) (pmS g n i).2.length).toNat
theorem vb2 (g:Nat->Int) (n:Nat):∀i,i<=n->(pmS g n i).1.length=i/\(pmS g n i).2.length=n - i
 | 0,_=>by simp [pmS]
 | i + 1,h=>by
  obtain ⟨h1,h2⟩:=vb2 g n i (by omega)
  have r:=jc6 (g i) (k:=((pmS g n i).2.length:Int)) (by omega)
  have hk:(gmod (g i) (pmS g n i).2.length).toNat < (pmS g n i).2.length:=by omega
  refine ⟨by simp [pmS,h1],?_⟩
  show ((pmS g n i).2.eraseIdx _).length=_
  rw [List.length_eraseIdx_of_lt hk]
  omega
theorem pm_k (g:Nat->Int) {n i:Nat} (h:i < n):pmK g n i < (pmS g n i).2.length/\pmK g n i < n - i:=by
 have l:=vb2 g n i (by omega)
 have r:=jc6 (g i) (k:=((pmS g n i).2.length:Int)) (by omega)
 unfold pmK
 omega
theorem ya3 (g:Nat->Int) (n:Nat):∀i,i<=n->((pmS g n i).1 ++ (pmS g n i).2).Perm ((List.range n).map Int.ofNat)
 | 0,_=>by simp [pmS]
 | i + 1,h=>by
  have ih:=ya3 g n i (by omega)
  obtain ⟨hk,_⟩:=pm_k g (show i < n by omega)
  refine List.Perm.trans ?_ ih
  show (((pmS g n i).1 ++ [(pmS g n i).2.getD (pmK g n i) 0]) ++ (pmS g n i).2.eraseIdx (pmK g n i)).Perm _
  rw [List.append_assoc]
  refine List.Perm.append_left _ ?_
  have e:(pmS g n i).2.getD (pmK g n i) 0=(pmS g n i).2[pmK g n i]:=by simp [List.getD,hk]
  rw [e]
  exact jt8 _ _ hk
theorem yw2 (g:Nat->Int) (n:Nat):(pmS g n n).1.length=n/\((pmS g n n).1).Perm ((List.range n).map Int.ofNat):=by
 obtain ⟨h1,h2⟩:=vb2 g n n (Nat.le_refl n)
 have h:=ya3 g n n (Nat.le_refl n)
 rw [List.eq_nil_of_length_eq_zero (show (pmS g n n).2.length=0 by omega),List.append_nil] at h
 exact ⟨h1,h⟩
theorem vb3 (n:Nat):((List.range n).map Int.ofNat).Nodup:=by
 rw [List.nodup_iff_pairwise_ne,List.pairwise_map]
 exact (List.nodup_iff_pairwise_ne.1 List.nodup_range).imp λ h e=>h (Int.ofNat.inj e)
theorem yi9 (m:Int) (l:Int->Nat->Int) {n:Int} (h0:1<=n):orI n (λ i _=>pmO m l n n i) n n:=by
 obtain ⟨hl,hp⟩:=yw2 (pmA m l) n.toNat
 have hw:∀i,orW n (λ i _=>pmO m l n n i) i=pmO m l n n i:=λ i=>by unfold orW;rw [if_neg (by omega)]
 have nd:(pmS (pmA m l) n.toNat n.toNat).1.Nodup:=hp.symm.nodup (vb3 _)
 have at':∀i:Int,0<=i->i < n->∃h:i.toNat < (pmS (pmA m l) n.toNat n.toNat).1.length,pmO m l n n i=(pmS (pmA m l) n.toNat n.toNat).1[i.toNat]:=λ i i0 i1=>⟨by omega,by unfold pmO;simp [List.getD,hl,show i.toNat < n.toNat by omega]⟩
 refine ⟨⟨by omega,Int.le_refl n⟩,λ j j0 j1=>⟨?_,λ k k0 k1=>?_⟩⟩
 ·rw [hw]
  obtain ⟨hj,e⟩:=at' j j0 j1
  rw [e]
  have:=hp.mem_iff.1 (List.getElem_mem hj)
  simp only [List.mem_map,List.mem_range] at this
  obtain ⟨a,ha,e2⟩:=this
  rw [<- e2]
  constructor
  ·exact Int.natCast_nonneg a
  ·show (a:Int) < n
   omega
 ·rw [hw,hw]
  obtain ⟨hj,e⟩:=at' j j0 j1
  obtain ⟨hk,e2⟩:=at' k k0 (by omega)
  rw [e,e2]
  exact λ e3=>List.pairwise_iff_getElem.1 nd k.toNat j.toNat hk hj (by omega) e3
def pmKI (m:Int) (l:Int->Nat->Int) (n i:Int):Int:=gmod (pmA m l i.toNat) (n - i)
theorem vl9 (m:Int) (l:Int->Nat->Int) {n i:Int} (h0:0<=i) (h1:i < n):(pmKI m l n i).toNat=pmK (pmA m l) n.toNat i.toNat/\0<=pmKI m l n i/\pmKI m l n i < n - i:=by
 have hl:=(vb2 (pmA m l) n.toNat i.toNat (by omega)).2
 have r:=jc6 (pmA m l i.toNat) (k:=n - i) (by omega)
 refine ⟨?_,r.1,r.2⟩
 unfold pmKI pmK
 rw [hl,show ((n.toNat - i.toNat:Nat):Int)=n - i by omega]
theorem vm0 (m:Int) (l:Int->Nat->Int) {n i a:Int} (h0:0<=i) (h1:i < n) (a0:0<=a) (a1:a < i + 1):(if a < i then pmO m l n i a else pmR m l n i (pmKI m l n i))=pmO m l n (i + 1) a:=by
 have hl:=(vb2 (pmA m l) n.toNat i.toNat (by omega)).1
 have e:(pmS (pmA m l) n.toNat (i + 1).toNat).1=(pmS (pmA m l) n.toNat i.toNat).1 ++ [(pmS (pmA m l) n.toNat i.toNat).2.getD (pmK (pmA m l) n.toNat i.toNat) 0]:=by
  rw [show (i + 1).toNat=i.toNat + 1 by omega];rfl
 unfold pmO
 rw [e]
 simp only [List.getD_eq_getElem?_getD,List.getElem?_append,hl]
 by_cases c:a < i
 ·rw [if_pos c,if_pos (by omega)]
 ·rw [if_neg c,if_neg (by omega),show a.toNat - i.toNat=0 by omega]
  unfold pmR
  rw [(vl9 m l h0 h1).1]
  simp [List.getD_eq_getElem?_getD]
theorem yj0 (m:Int) (l:Int->Nat->Int) {n i a:Int} (h0:0<=i) (h1:i < n) (a0:0<=a):(if a < pmKI m l n i then pmR m l n i a else pmR m l n i (a + 1))=pmR m l n (i + 1) a:=by
 have e:(pmS (pmA m l) n.toNat (i + 1).toNat).2=(pmS (pmA m l) n.toNat i.toNat).2.eraseIdx (pmK (pmA m l) n.toNat i.toNat):=by
  rw [show (i + 1).toNat=i.toNat + 1 by omega];rfl
 obtain ⟨k1,k2,k3⟩:=vl9 m l h0 h1
 unfold pmR
 rw [e]
 simp only [List.getD_eq_getElem?_getD,List.getElem?_eraseIdx,<- k1]
 by_cases c:a < pmKI m l n i
 ·rw [if_pos c,if_pos (by omega)]
 ·rw [if_neg c,if_neg (by omega),show (a + 1).toNat=a.toNat + 1 by omega]
theorem zb6 (m:Int) (l:Int->Nat->Int) {n a:Int} (h0:0<=a) (h1:a < n):pmR m l n 0 a=a:=by
 unfold pmR
 show (((List.range n.toNat).map Int.ofNat).getD a.toNat 0)=a
 simp [List.getD_eq_getElem?_getD,show a.toNat < n.toNat by omega]
 omega
end Go.Proofs.YthkidembkknoeaaDoor
namespace Go.Proofs.YthkidembkknoeaaDoor
open Go.RowKit PR QR
set_option linter.unusedVariables false
def jo0:List AV->Option QR.Ans
 | [.x (.agg [.v (.int .i64 a),.v (.int .i64 b),.v (.int .i64 c),.v (.int .i64 d)]),.x (.c (.v (.int .i64 w))),.x (.c (.v (.int .i64 h)))]=>some ⟨[.c (.v (.int .i64 (tiX a b c d w h))),.c (.v (.int .i64 (tiY a b c d w h))),.c (.v (.bool (tiB a b c d w h)))],[],[]⟩
 | _=>none
def qj1:List AV->Option QR.Ans
 | [.x (.c (.v (.int .i64 a))),.x (.c (.v (.int .i64 b)))]=>some ⟨[.c (.v (.int .i64 (iquo .i64 (isub .i64 (iadd .i64 a b) 1) b)))],[],[ine b 0=true]⟩
 | _=>none
def q34:QR.ja7:=QR.orc [(58,jk5),(59,qj1)]
def q36:QR.ja7:=QR.orc [(37,jk5)]
set_option maxRecDepth 100000 in
theorem ya0 (a b:Int) (V:List QR.XV->List (List QR.CV)->Prop):QR.ja9 Tryd.prog (QR.orc []) (QR.ja4) (Tryd.f59.body.getD .skip) Tryd.f59.results.toList Tryd.f59.ntmps [.x (.c (.v (.int .i64 a))),.x (.c (.v (.int .i64 b)))] V=(True/\(ine b 0=true/\True)/\True/\V [XV.c (CV.v (Value.int .i64 (iquo IntKind.i64 (isub IntKind.i64 (iadd IntKind.i64 a b) 1) b)))] []):=by
 kernel_rfl
set_option maxRecDepth 100000 in
theorem ya1 (a b c d w h:Int) (V:List QR.XV->List (List QR.CV)->Prop):QR.ja9 Tryd.prog (q34) (QR.ja4) (Tryd.f33.body.getD .skip) Tryd.f33.results.toList Tryd.f33.ntmps [.x (.agg [.v (.int .i64 a),.v (.int .i64 b),.v (.int .i64 c),.v (.int .i64 d)]),.x (.c (.v (.int .i64 w))),.x (.c (.v (.int .i64 h)))] V=(True/\True/\ja0 (reB a b c d) (True/\True/\V [XV.c (CV.v (Value.int .i64 0)),XV.c (CV.v (Value.int .i64 0)),XV.c (CV.v (Value.bool false))] []) (True/\ja0 (ilt w 1) (True/\True/\True/\V [XV.c (CV.v (Value.int .i64 0)),XV.c (CV.v (Value.int .i64 0)),XV.c (CV.v (Value.bool false))] []) (ja0 (igt w (isub IntKind.i64 c a)) (True/\True/\True/\V [XV.c (CV.v (Value.int .i64 0)),XV.c (CV.v (Value.int .i64 0)),XV.c (CV.v (Value.bool false))] []) (ja0 (ilt h 1) (True/\True/\True/\V [XV.c (CV.v (Value.int .i64 0)),XV.c (CV.v (Value.int .i64 0)),XV.c (CV.v (Value.bool false))] []) (True/\ja0 (igt h (isub IntKind.i64 d b)) (True/\True/\V [XV.c (CV.v (Value.int .i64 0)),XV.c (CV.v (Value.int .i64 0)),XV.c (CV.v (Value.bool false))] []) (∀(i:Int),i=iquo IntKind.i64 (isub IntKind.i64 (iadd IntKind.i64 (isub IntKind.i64 c a) w) 1) w->∀(i_1:Int),i_1=iquo IntKind.i64 (isub IntKind.i64 (iadd IntKind.i64 (isub IntKind.i64 d b) h) 1) h->(ine h 0=true/\ine w 0=true/\True)/\True/\V [XV.c (CV.v (Value.int .i64 i)),XV.c (CV.v (Value.int .i64 i_1)),XV.c (CV.v (Value.bool true))] [])))))):=by
 try delta q34
 try delta jk5
 try delta qj1
 generalize @reB=reB
 kernel_rfl
set_option maxRecDepth 100000 in
theorem ya2 (a b c d w h:Int) (V:List QR.XV->List (List QR.CV)->Prop):QR.ja9 Tryd.prog (q36) (QR.ja4) (Tryd.f24.body.getD .skip) Tryd.f24.results.toList Tryd.f24.ntmps [.x (.agg [.v (.int .i64 a),.v (.int .i64 b),.v (.int .i64 c),.v (.int .i64 d)]),.x (.c (.v (.int .i64 w))),.x (.c (.v (.int .i64 h)))] V=(True/\ja0 (reB a b c d) (True/\True/\True/\V [XV.c (CV.v (Value.int .i64 0)),XV.c (CV.v (Value.int .i64 0)),XV.c (CV.v (Value.bool false))] []) (ja0 (ilt w 1) (True/\True/\True/\V [XV.c (CV.v (Value.int .i64 0)),XV.c (CV.v (Value.int .i64 0)),XV.c (CV.v (Value.bool false))] []) (ja0 (ilt h 1) (True/\True/\True/\V [XV.c (CV.v (Value.int .i64 0)),XV.c (CV.v (Value.int .i64 0)),XV.c (CV.v (Value.bool false))] []) (ja0 (igt w (isub IntKind.i64 c a)) (True/\True/\True/\V [XV.c (CV.v (Value.int .i64 0)),XV.c (CV.v (Value.int .i64 0)),XV.c (CV.v (Value.bool false))] []) (True/\ja0 (igt h (isub IntKind.i64 d b)) (True/\True/\V [XV.c (CV.v (Value.int .i64 0)),XV.c (CV.v (Value.int .i64 0)),XV.c (CV.v (Value.bool false))] []) ((ine h 0=true/\ine w 0=true/\True)/\True/\V [XV.c (CV.v (Value.int .i64 (iadd IntKind.i64 (iquo IntKind.i64 (isub IntKind.i64 (isub IntKind.i64 c a) 1) w) 1))),XV.c (CV.v (Value.int .i64 (iadd IntKind.i64 (iquo IntKind.i64 (isub IntKind.i64 (isub IntKind.i64 d b) 1) h) 1))),XV.c (CV.v (Value.bool true))] [])))))):=by
 try delta q36
 try delta jk5
 generalize @reB=reB
 kernel_rfl
end Go.Proofs.YthkidembkknoeaaDoor
