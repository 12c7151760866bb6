import Derived.Test.YthkidembkknoeaaDoorPm06
import Derived.Deep.Slices
namespace Go.Proofs.YthkidembkknoeaaDoor
open Go.RowKit PR QR Go.Deep Go.WideShapes
set_option linter.unusedVariables false
section
variable {H:Type} {enc:TypeId×Value->H} {P:Program} {W:World} {sp:Nat->Bool} {hd:Bool} {ps:List MemPlace}
theorem vo6 {a:Addr} {v:Value} (h:W.cell? a=some v):a.spot=none/\∃arr t fr,W.heap[a.block]?=some (.cells arr t fr)/\arr[a.off]?=some v:=by
 unfold World.cell? at h
 split at h
 ·rename_i c t fr hb
  split at h
  ·simp at h
  ·rename_i hs
   exact ⟨by cases hh:a.spot with | none=>rfl | some _=>rw [hh] at hs;simp at hs,c,t,fr,hb,h⟩
 ·simp at h
theorem add_block (a:Addr) (n:Nat):(a.add n).block=a.block:=by unfold Addr.add;split <;> rfl
theorem yc5 (a:Addr) (n:Nat):(a.add n).off=a.off + n:=by unfold Addr.add;split <;> simp_all
theorem All2.get {α β:Type} {R:α->β->Prop}:∀{l:List α} {m:List β},All2 R l m->l.length=m.length/\∀(j:Nat) (a:α),l[j]?=some a->∃b,m[j]?=some b/\R a b
 | [],[],_=>⟨rfl,λ j a h=>by simp at h⟩
 | [],b :: m,h=>by simp [All2] at h
 | a :: l,[],h=>by simp [All2] at h
 | a :: l,b :: m,h=>by
  simp only [All2] at h
  obtain ⟨e,k⟩:=All2.get h.2
  refine ⟨by simp [e],λ j x hj=>?_⟩
  cases j with
  | zero=>simp at hj;subst hj;exact ⟨b,by simp,h.1⟩
  | succ j=>simpa using k j x (by simpa using hj)
theorem qs3 {t e:TypeId} {v:Value} (us:List TypeId) (ht:P.underlying t=some (.slice e)) (hfl:flat P 8 e=some us) (hz:P.cellsOf e=us.length) (h0:0 < us.length) (h:Leaf enc P W 0 sp hd ps t v) :
  ∃(n:Nat) (C:Nat->Nat->Value),n<=maxLen/\(∀(i j:Nat) (u:TypeId),i < n->us[j]?=some u->Leaf enc P W 0 sp hd ps u (C i j))/\
   ∀(F:Nat->Prop) (r:QR.Row),(∀x∈ps,F x.block)->(∀i j:Nat,i < n->j < us.length->Rep F W (den r i j) (C i j))->Rep F W (.slc us.length n r) v:=by
 obtain ⟨fuel,y,hy,hps⟩:=h
 rcases open_slice ht hy with ⟨h1,rfl⟩ | ⟨a,len,cap,m,k,D,Pl,h1,hb,hl,hm,hmm,rfl,hx⟩
 ·obtain rfl:v=.slice none 0 0:=by simpa using h1
  exact ⟨0,λ _ _=>undef,Nat.zero_le _,λ i j u hi=>absurd hi (by omega),λ F r _ _=>.nil h0 (λ _=>rfl)⟩
 ·obtain rfl:v=.slice (some a) len cap:=by simpa using h1
  have hlm:len<=m:=by rw [hmm];split <;> omega
  have hrow:∀i,i < len->∃cs,W.cells? 0 (a.add (i * us.length)) us.length=some cs/\All2 (Leaf enc P W 0 sp hd ps) us cs:=by
   intro i hi
   obtain ⟨cs,c1,c2⟩:=hx i (by omega)
   rw [hz] at c1
   refine ⟨cs,c1,All2.imp (λ a b hl=>Leaf.mono hl (λ q hq=>hps q ?_)) _ _ (qb3 8 e us _ _ _ hfl c2)⟩
   exact List.mem_append_right _ (List.mem_flatMap.2 ⟨i,List.mem_range.2 (by omega),hq⟩)
  obtain ⟨R,hR⟩:=choose_lt (α:=List Value) (p:=λ i cs=>W.cells? 0 (a.add (i * us.length)) us.length=some cs/\All2 (Leaf enc P W 0 sp hd ps) us cs) hrow
  refine ⟨len,λ i j=>(R i).getD j undef,by omega,λ i j u hi hu=>?_,λ F r hF hr=>?_⟩
  ·obtain ⟨b,e1,e2⟩:=(hR i hi).2.get.2 j u hu
   show Leaf enc P W 0 sp hd ps u ((R i).getD j undef)
   rw [List.getD,e1];exact e2
  ·by_cases hl0:len=0
   ·subst hl0
    exact .nil h0 (λ e=>by simp at e)
   have hcell:∀i j,i < len->j < us.length->W.cell? ((a.add (i * us.length)).add j)=some ((R i).getD j undef):=by
    intro i j hi hj
    obtain ⟨_,q2,q3⟩:=World.cells?_some (hR i hi).1
    rw [q3 j hj,List.getD,List.getElem?_eq_getElem (by omega)]
    rfl
   have c00:=hcell 0 0 (by omega) h0
   rw [Nat.zero_mul] at c00
   obtain ⟨s0,arr,ty,fr,g1,_⟩:=vo6 c00
   have sa:a.spot=none:=by simpa [Addr.add] using s0
   have ba:((a.add 0).add 0).block=a.block:=by rw [add_block,add_block]
   rw [ba] at g1
   have hblk:F a.block:=by
    have:MemPlace.cell a.block (a.off + 0)∈ps:=hps _ (List.mem_append_left _ (MemPlace.mem_row.2 ⟨0,by rw [hz];exact Nat.mul_pos (by omega) h0,rfl⟩))
    exact hF _ this
   obtain ⟨ab,ao,asp⟩:=a
   simp only at sa
   subst sa
   refine .slc (λ i j=>(R i).getD j undef) h0 hl hblk g1 (λ i j hi hj=>?_) (λ i j hi hj=>hr i j hi hj)
   obtain ⟨_,arr',ty',fr',g2,g3⟩:=vo6 (hcell i j hi hj)
   rw [add_block,add_block] at g2
   rw [yc5,yc5] at g3
   rw [g1] at g2
   simp only [Option.some.injEq,Obj.cells.injEq] at g2
   rw [g2.1]
   exact g3
theorem qe1 {t e:TypeId} {v:Value} {k:IntKind} (us:List TypeId) (ht:P.underlying t=some (.slice e)) (hfl:flat P 8 e=some us) (hz:P.cellsOf e=us.length) (h0:0 < us.length)
  (hk:∀u∈us,P.underlying u=some (.int k)) (h:Leaf enc P W 0 sp hd ps t v) :
  ∃(n:Nat) (f:Int->Nat->Int),n<=maxLen/\(∀(i j:Nat),i < n->j < us.length->(Lit.int k (f i j)).wf=true)/\
   ∀(F:Nat->Prop),(∀x∈ps,F x.block)->Rep F W (.slc us.length n (.fn λ i j=>.v (.int k (f i j)))) v:=by
 obtain ⟨n,C,hz',h1,h2⟩:=qs3 us ht hfl hz h0 h
 have hc:∀(i j:Nat),i < n->j < us.length->∃x,C i j=.int k x/\(Lit.int k x).wf=true:=by
  intro i j hi hj
  have:=h1 i j us[j] hi (List.getElem?_eq_getElem hj)
  exact Leaf.int this (hk _ (List.getElem_mem hj))
 refine ⟨n,λ i j=>(match C i.toNat j with | .int _ x=>x | _=>0),hz',λ i j hi hj=>?_,λ F hF=>h2 F _ hF (λ i j hi hj=>?_)⟩
 ·obtain ⟨x,e1,e2⟩:=hc i j hi hj
  simp only [Int.toNat_natCast,e1];exact e2
 ·obtain ⟨x,e1,e2⟩:=hc i j hi hj
  show Rep F W (.v (.int k (match C ((i:Int).toNat) j with | .int _ x=>x | _=>0))) (C i j)
  rw [Int.toNat_natCast,e1]
  exact .v rfl
section
variable {n:Nat} {C:Nat->Nat->Value} {j:Nat} {u:TypeId}
theorem jj3 {k:IntKind} (h:∀i,i < n->Leaf enc P W 0 sp hd ps u (C i j)) (hk:P.underlying u=some (.int k)) :
  ∃f:Int->Int,(∀i:Nat,i < n->C i j=.int k (f i))/\∀i:Nat,i < n->(Lit.int k (f i)).wf=true:=by
 refine ⟨λ i=>(match C i.toNat j with | .int _ x=>x | _=>0),λ i hi=>?_,λ i hi=>?_⟩
 ·obtain ⟨x,e,_⟩:=Leaf.int (h i hi) hk
  simp only [Int.toNat_natCast,e]
 ·obtain ⟨x,e,w⟩:=Leaf.int (h i hi) hk
  simp only [Int.toNat_natCast,e];exact w
theorem y12 {e:TypeId} {k:IntKind} (us:List TypeId) (h:∀i,i < n->Leaf enc P W 0 sp hd ps u (C i j)) (ht:P.underlying u=some (.slice e)) (hfl:flat P 8 e=some us) (hz:P.cellsOf e=us.length) (h0:0 < us.length)
  (hk:∀v∈us,P.underlying v=some (.int k)) :
  ∃(ln:Int->Nat) (ll:Int->Int->Nat->Int),(∀i:Nat,i < n->ln i<=maxLen)/\(∀i a b:Nat,i < n->a < ln i->b < us.length->(Lit.int k (ll i a b)).wf=true)/\
   ∀(F:Nat->Prop),(∀x∈ps,F x.block)->∀i:Nat,i < n->Rep F W (.slc us.length (ln i) (.fn λ a b=>.v (.int k (ll i a b)))) (C i j):=by
 obtain ⟨L,hL⟩:=choose_lt (α:=Nat) (n:=n) (p:=λ i m=>∃f:Int->Nat->Int,m<=maxLen/\(∀(a b:Nat),a < m->b < us.length->(Lit.int k (f a b)).wf=true)/\∀(F:Nat->Prop),(∀x∈ps,F x.block)->Rep F W (.slc us.length m (.fn λ a b=>.v (.int k (f a b)))) (C i j))
  (λ i hi=>qe1 us ht hfl hz h0 hk (h i hi))
 obtain ⟨f,hf⟩:=choose_lt (α:=Int->Nat->Int) (n:=n) (p:=λ i f=>L i<=maxLen/\(∀(a b:Nat),a < L i->b < us.length->(Lit.int k (f a b)).wf=true)/\∀(F:Nat->Prop),(∀x∈ps,F x.block)->Rep F W (.slc us.length (L i) (.fn λ a b=>.v (.int k (f a b)))) (C i j)) hL
 refine ⟨λ i=>L i.toNat,λ i=>f i.toNat,λ i hi=>?_,λ i a b hi ha hb=>?_,λ F hF i hi=>?_⟩
 ·simp only [Int.toNat_natCast]
  exact (hf i hi).1
 ·simp only [Int.toNat_natCast] at ha ⊢
  exact (hf i hi).2.1 a b ha hb
 ·simp only [Int.toNat_natCast]
  exact (hf i hi).2.2 F hF
end
end
def intC:CV->Int
 | .v (.int _ x)=>x
 | _=>0
def intRow (k:IntKind) (z:Nat) (n:Int) (r:QR.Row):Prop:=∀i j:Nat,(i:Int) < n->j < z->den r i j=.v (.int k (intC (den r i j)))
theorem qe2 (k:IntKind) (z:Nat) (n:Int) (f:Int->Nat->Int):intRow k z n (.fn λ i j=>.v (.int k (f i j))):=λ i j _ _=>rfl
def ints (k:IntKind) (r:QR.Row):QR.Row:=.fn λ i j=>.v (.int k (intC (den r i j)))
theorem ve3 {k:IntKind} {z:Nat} {n:Int} {r:QR.Row} (h:intRow k z n r):EqC (.slc z n r) (.slc z n (ints k r)):=by
 refine .slc λ i j hi hj=>?_
 have:=h i j hi hj
 show EqC (den r i j) (.v (.int k (intC (den r i j))))
 obtain ⟨x,e⟩:∃x,den r i j=.v (.int k x):=⟨_,this⟩
 rw [e];exact .v _
def avEq:AV->AV->Prop
 | .x (.c a),.x (.c b)=>EqC a b
 | a,b=>a=b
def y14:List AV->List AV->Prop
 | [],[]=>True
 | a :: l,b :: m=>avEq a b/\y14 l m
 | _,_=>False
theorem jp2 {F:Nat->Prop} {w:World}:∀{al al':List AV} {ys:List Value} {bs:List Nat},y14 al al'->je7 F w al ys bs->je7 F w al' ys bs
 | [],[],ys,bs,_,h=>h
 | [],_ :: _,_,_,e,_=>e.elim
 | _ :: _,[],_,_,e,_=>e.elim
 | a :: al,b :: al',ys,bs,e,h=>by
  obtain ⟨e1,e2⟩:=e
  unfold avEq at e1
  split at e1
  ·rename_i c c'
   cases ys with
   | nil=>exact h.elim
   | cons y ys=>exact ⟨Rep.eq e1 h.1,jp2 e2 h.2⟩
  ·subst e1
   match a,ys,bs,h with
   | .x v,y :: ys,bs,h=>exact ⟨h.1,jp2 e2 h.2⟩
   | .ref off c,y :: ys,b :: bs,h=>exact ⟨h.1,h.2.1,h.2.2.1,h.2.2.2.1,jp2 e2 h.2.2.2.2⟩
theorem yc6 {P:Program} {f:FuncId} {al al':List AV} {ans:QR.Ans} (e:y14 al al') (h:ji5 P f al' ans):ji5 P f al ans :=
 λ w F ys bs hG hF hA=>h w F ys bs hG hF (jp2 e hA)
theorem yc7 {F F':Nat->Prop} {w:World} (h:Laid F w) (hF:∀k,F k->F' k):Laid F' w:=by
 intro m l e hm
 obtain ⟨h1,arr,t,h2,h3⟩:=h m l e hm
 exact ⟨hF _ h1,arr,t,h2,h3.mono λ _ _=>Rep.mono hF (λ _ _=>rfl)⟩
theorem yc8 {w:World} {ps:List MemPlace} (h:∃F,Laid F w/\∀k,F k->k < w.heap.size) (hlt:∀x∈ps,x.block < w.heap.size):∃F:Nat->Prop,Laid F w/\(∀k,F k->k < w.heap.size)/\∀x∈ps,F x.block:=by
 obtain ⟨F,h1,h2⟩:=h
 refine ⟨λ k=>F k\/∃x∈ps,x.block=k,yc7 h1 λ k hk=>Or.inl hk,?_,λ x hx=>Or.inr ⟨x,hx,rfl⟩⟩
 rintro k (hk | ⟨x,hx,rfl⟩)
 ·exact h2 k hk
 ·exact hlt x hx
theorem vj1 {O:QR.ja8} (hO:QR.je9 Tryd.prog O) (hm:Tryd.prog.follows .mixedOrders=true) (L:Nat->Option QR.Ann) {f:FuncId} {fn:Func} (hf:Tryd.prog.funcs[f]?=some fn) (hb:fn.body=some (fn.body.getD .skip)) {vs:List Value} {args:List AV} (hl:args.length<=500)
  (h:QR.ja5 Tryd.prog O L (fn.body.getD .skip) fn.results.toList fn.ntmps args (jb4 ⟨[.c (.v (.bool true))],[],[]⟩)) (w:World) {F:Nat->Prop} (hG:Laid F w) (hF:∀k,F k->k < w.heap.size) (hA:je7 F w args vs []) :
  Calls Tryd.prog f vs.toArray w λ e w'=>e=.returned (.bool true)/\Below w.heap.size w w':=by
 refine (QR.qv3 hO hm hf hb hl h hG hF hA).mono ?_
 rintro e w' ⟨v,rfl,res,upd,⟨h1,h2⟩,hl,hk,F',f',f1,f2,fb,f3,f4⟩
 have:v=.bool true:=by
  rcases vm8 h1 hl (by decide) f3 with ⟨g,_⟩ | g
  ·have g:Rep _ w' (.v (.bool true)) v:=g
   cases g;rfl
  ·have g:Rep _ w' (.v (.bool true)) v:=g
   cases g;rfl
 subst this
 exact ⟨rfl,⟨hk.os,hk.tape,hk.output,hk.size,λ k hk'=>hk.block k hk' (by simp)⟩⟩
def jf4 (z:Nat):CV->Option (Int×QR.Row)
 | .slc z' n r=>bif Nat.beq z' z then some (n,r) else none
 | .v (.slice _ _ _)=>some (0,.zer [])
 | _=>none
theorem jh1 {k:IntKind} {z:Nat} {c:CV} {n:Int} {r:QR.Row} (h:jf4 z c=some (n,r)) (hz:0 < z) (hr:intRow k z n r):EqC c (.slc z n (ints k r)):=by
 unfold jf4 at h
 split at h
 ·rename_i z' n' r'
  cases e:Nat.beq z' z
  ·rw [e] at h;simp at h
  ·rw [e,cond_true,Option.some.injEq,Prod.mk.injEq] at h
   obtain ⟨rfl,rfl⟩:=h
   obtain rfl:=Nat.eq_of_beq_eq_true e
   exact ve3 hr
 ·rw [Option.some.injEq,Prod.mk.injEq] at h
  obtain ⟨rfl,rfl⟩:=h
  exact .nil hz rfl
 ·simp at h
def eqCs:List CV->List CV->Prop
 | [],[]=>True
 | a :: l,b :: m=>EqC a b/\eqCs l m
 | _,_=>False
def zb5:AV->AV->Prop
 | .x (.c a),.x (.c b)=>EqC a b
 | .x (.agg l),.x (.agg m)=>eqCs l m
 | _,_=>False
def yc9:List AV->List AV->Prop
 | [],[]=>True
 | a :: l,b :: m=>zb5 a b/\yc9 l m
 | _,_=>False
theorem ql7 {F:Nat->Prop} {w:World}:∀{l m:List CV} {ys:List Value},eqCs l m->Fa2 (Rep F w) l ys->Fa2 (Rep F w) m ys
 | [],[],ys,_,h=>h
 | [],_ :: _,_,e,_=>e.elim
 | _ :: _,[],_,e,_=>e.elim
 | a :: l,b :: m,[],_,h=>h.elim
 | a :: l,b :: m,y :: ys,e,h=>⟨Rep.eq e.1 h.1,ql7 e.2 h.2⟩
theorem jt1 {F:Nat->Prop} {w:World}:∀{al al':List AV} {ys:List Value} {bs:List Nat},yc9 al al'->je7 F w al ys bs->je7 F w al' ys bs
 | [],[],ys,bs,_,h=>h
 | [],_ :: _,ys,bs,e,_=>e.elim
 | _ :: _,[],ys,bs,e,_=>e.elim
 | a :: al,b :: al',ys,bs,e,h=>by
  obtain ⟨e1,e2⟩:=e
  unfold zb5 at e1
  split at e1
  ·rename_i c c'
   cases ys with
   | nil=>exact h.elim
   | cons y ys=>exact ⟨Rep.eq e1 h.1,jt1 e2 h.2⟩
  ·rename_i l m
   cases ys with
   | nil=>exact h.elim
   | cons y ys =>
    obtain ⟨zs,hz,h1⟩:=h.1
    exact ⟨⟨zs,hz,ql7 e1 h1⟩,jt1 e2 h.2⟩
  ·exact e1.elim
theorem jc0 {P:Program} {f:FuncId} {al al':List AV} {ans:QR.Ans} (e:yc9 al al') (h:ji5 P f al' ans):ji5 P f al ans :=
 λ w F ys bs hG hF hA=>h w F ys bs hG hF (jt1 e hA)
def zi9 (z:Nat) (n m:Int) (r s:QR.Row):Bool:=n == m && (List.range n.toNat).all λ i=>(List.range z).all λ j=>intC (den r i j) == intC (den s i j)
def in64 (a:Int):Bool:=decide (-9223372036854775808<=a/\a<=9223372036854775807)
theorem ql8 {a:Int}:in64 a=true↔-9223372036854775808<=a/\a<=9223372036854775807:=by unfold in64;rw [decide_eq_true_eq]
theorem ve4 {a b:Int} (h:a≠b):ine a b=true:=by simp [ine,h]
theorem zb6 (a:Int):ine a a=false:=by simp [ine]
theorem jk3 (a b:Int):isel true a b=a:=rfl
theorem jp3 (a b:Int):isel false a b=b:=rfl
theorem yd0 (a b:Int):igt a b=!(decide (a<=b)):=by
 unfold igt;rw [Bool.eq_iff_iff];simp only [Bool.not_eq_true',decide_eq_true_eq,decide_eq_false_iff_not];omega
theorem jb2 {a b:Int} (h:a<=b):ile a b=true:=decide_eq_true h
theorem je3 {a b:Int} (h:ile a b=true):a<=b:=of_decide_eq_true h
theorem ji1 {a b:Int} (h:a < b):ilt a b=true:=decide_eq_true h
theorem ji8 {a b:Int} (h:ilt a b=true):a < b:=of_decide_eq_true h
theorem jy6 {a b:Int} (h:ilt a b=false):b<=a:=by have:=of_decide_eq_false h;omega
theorem qk5 {a b:Int} (h:b<=a):ilt a b=false:=decide_eq_false (by omega)
end Go.Proofs.YthkidembkknoeaaDoor
namespace Go.Proofs.YthkidembkknoeaaDoor
open Go.RowKit PR QR
set_option linter.unusedVariables false
set_option linter.unusedSimpArgs false
def q78:List AV->Option QR.Ans
 | [.x (.c (.v (.int .i64 n)))]=>some ⟨[.c (.v (.int .u16 (q87 n)))],[],[]⟩
 | _=>none
def ji6:List AV->Option QR.Ans
 | [.x (.c (.v (.int .i64 b)))]=>some ⟨[.c (.v (.int .u16 (smV b))),.c (.v (.bool (smOk b)))],[],[]⟩
 | _=>none
def jl5:List AV->Option QR.Ans
 | [.x (.agg [.v (.int .u16 c0),.v (.int .u16 c1),.v (.int .u16 c2),.v (.int .u16 a),.v (.int .u16 f)]),.x (.c (.v (.int .u16 m)))]=>some ⟨[.c (.v (.bool (pvB c0 c1 c2 a f m)))],[],[]⟩
 | _=>none
def jn2:List AV->Option QR.Ans
 | [.x (.c (.v (.int .i64 n))),.x (.c (.v (.int .u16 m)))]=>some ⟨[.c (.v (.int .u16 (gsV n m)))],[],[in16 m=true]⟩
 | _=>none
def qe7:List AV->Option QR.Ans
 | [.x (.agg [.v (.int .i64 n0),.v (.int .i64 n1),.v (.int .i64 n2),.v (.int .i64 n3),.v (.int .i64 n4)]),.x (.c (.v (.int .u16 m)))]=>some ⟨[.agg [.v (.int .u16 (gpC n0 n3 n4 m)),.v (.int .u16 (gpC n1 n3 n4 m)),.v (.int .u16 (gpC n2 n3 n4 m)),.v (.int .u16 (gpA n3 n4 m)),.v (.int .u16 (gpF n4 m))]],[],[in16 m=true]⟩
 | _=>none
def qh6:QR.ja8:=QR.orc [(20,QR.qg4 jo4)]
def qt3:QR.ja8:=QR.orc [(50,jn2),(20,QR.qg4 jo4)]
set_option maxRecDepth 100000 in
theorem yq1 (n:Int) (V:List QR.XV->List (List QR.CV)->Prop):QR.ja5 Tryd.prog (qh6) (QR.ja4) (Tryd.f23.body.getD .skip) Tryd.f23.results.toList Tryd.f23.ntmps [.x (.c (.v (.int .i64 n)))] V=(True/\∀(i:Int),i=gmod n 3->(jc2 3=true/\True)/\ja0 (ieq i 2) (True/\True/\V [XV.c (CV.v (Value.int .u16 65535))] []) (True/\True/\V [XV.c (CV.v (Value.int .u16 255))] [])):=by
 try delta qh6
 try delta jo4
 generalize @gmod=gmod
 generalize @jc2=jc2
 kernel_rfl
set_option maxRecDepth 100000 in
theorem yq2 (b:Int) (V:List QR.XV->List (List QR.CV)->Prop):QR.ja5 Tryd.prog (QR.orc []) (QR.ja4) (Tryd.f29.body.getD .skip) Tryd.f29.results.toList Tryd.f29.ntmps [.x (.c (.v (.int .i64 b)))] V=(True/\True/\True/\ja0 (ieq b 8) (True/\True/\V [XV.c (CV.v (Value.int .u16 255)),XV.c (CV.v (Value.bool true))] []) (True/\ja0 (ieq b 16) (True/\True/\V [XV.c (CV.v (Value.int .u16 65535)),XV.c (CV.v (Value.bool true))] []) (True/\True/\V [XV.c (CV.v (Value.int .u16 0)),XV.c (CV.v (Value.bool false))] []))):=by
 kernel_rfl
set_option maxRecDepth 100000 in
theorem yg2 (b:Int) (V:List QR.XV->List (List QR.CV)->Prop):QR.ja5 Tryd.prog (QR.orc []) (QR.ja4) (Tryd.f35.body.getD .skip) Tryd.f35.results.toList Tryd.f35.ntmps [.x (.c (.v (.int .i64 b)))] V=(True/\True/\True/\ja0 (ieq b 8) (True/\True/\V [XV.c (CV.v (Value.int .u16 255)),XV.c (CV.v (Value.bool true))] []) (True/\ja0 (ieq b 16) (True/\True/\V [XV.c (CV.v (Value.int .u16 65535)),XV.c (CV.v (Value.bool true))] []) (True/\True/\V [XV.c (CV.v (Value.int .u16 0)),XV.c (CV.v (Value.bool false))] []))):=by
 kernel_rfl
set_option maxRecDepth 100000 in
theorem vv6 (c0 c1 c2 a f m:Int) (V:List QR.XV->List (List QR.CV)->Prop):QR.ja5 Tryd.prog (QR.orc []) (λ n=>bif Nat.beq n 2 then some (.rounds 4) else none) (Tryd.f54.body.getD .skip) Tryd.f54.results.toList Tryd.f54.ntmps [.x (.agg [.v (.int .u16 c0),.v (.int .u16 c1),.v (.int .u16 c2),.v (.int .u16 a),.v (.int .u16 f)]),.x (.c (.v (.int .u16 m)))] V=(True/\True/\True/\(true=true/\true=true/\True)/\True/\ja0 (igt c0 a) (True/\True/\V [XV.c (CV.v (Value.bool false))] []) (True/\True/\(true=true/\true=true/\True)/\True/\ja0 (igt c1 a) (True/\True/\V [XV.c (CV.v (Value.bool false))] []) (True/\True/\(true=true/\true=true/\True)/\True/\ja0 (igt c2 a) (True/\True/\V [XV.c (CV.v (Value.bool false))] []) (True/\True/\ja0 (ile a f) (True/\True/\V [XV.c (CV.v (Value.bool (ile f m)))] []) (True/\True/\V [XV.c (CV.v (Value.bool false))] []))))):=by
 kernel_rfl
set_option maxRecDepth 100000 in
theorem vk7 (c0 c1 c2 a f m:Int) (V:List QR.XV->List (List QR.CV)->Prop):QR.ja5 Tryd.prog (QR.orc []) (QR.ja4) (Tryd.f63.body.getD .skip) Tryd.f63.results.toList Tryd.f63.ntmps [.x (.agg [.v (.int .u16 c0),.v (.int .u16 c1),.v (.int .u16 c2),.v (.int .u16 a),.v (.int .u16 f)]),.x (.c (.v (.int .u16 m)))] V=(True/\ja0 (ile c0 a) (ja0 (ile c1 a) (ja0 (ile c2 a) (ja0 (ile a f) ((true=true/\true=true/\true=true/\true=true/\true=true/\true=true/\True)/\True/\V [XV.c (CV.v (Value.bool (ile f m)))] []) ((true=true/\true=true/\true=true/\true=true/\true=true/\true=true/\True)/\True/\V [XV.c (CV.v (Value.bool false))] [])) ((true=true/\true=true/\true=true/\true=true/\true=true/\true=true/\True)/\True/\V [XV.c (CV.v (Value.bool false))] [])) ((true=true/\true=true/\true=true/\true=true/\True)/\True/\V [XV.c (CV.v (Value.bool false))] [])) ((true=true/\true=true/\True)/\True/\V [XV.c (CV.v (Value.bool false))] [])):=by
 kernel_rfl
set_option maxRecDepth 100000 in
theorem vk8 (n m:Int) (V:List QR.XV->List (List QR.CV)->Prop):QR.ja5 Tryd.prog (qh6) (QR.ja4) (Tryd.f50.body.getD .skip) Tryd.f50.results.toList Tryd.f50.ntmps [.x (.c (.v (.int .i64 n))),.x (.c (.v (.int .u16 m)))] V=(True/\True/\∀(i:Int),i=gmod n 8->(jc2 8=true/\True)/\True/\ja0 (ieq i 0) (True/\True/\V [XV.c (CV.v (Value.int .u16 0))] []) (True/\ja0 (ieq i 1) (ja0 (ieq i 1) (True/\True/\V [XV.c (CV.v (Value.int .u16 m))] []) (True/\ja0 (ieq i 3) (∀(i:Int),i=gmod (iquo IntKind.i64 n 8) 2->(true=true/\jc2 2=true/\true=true/\True)/\True/\V [XV.c (CV.v (Value.int .u16 (jj2 IntKind.u16 (iquo IntKind.i64 (iadd IntKind.i64 (jj2 IntKind.i64 m) i) 2))))] []) (True/\ja0 (ieq i 4) (∀(i:Int),i=gmod (iquo IntKind.i64 n 8) 4->∀(i_1:Int),i_1=jf2 (jj2 IntKind.i64 m) i->(jc2 4=true/\true=true/\True)/\True/\V [XV.c (CV.v (Value.int .u16 (jj2 IntKind.u16 i_1)))] []) (∀(i:Int),i=gmod (iquo IntKind.i64 n 8) (iadd IntKind.i64 (jj2 IntKind.i64 m) 1)->(jc2 (iadd IntKind.i64 (jj2 IntKind.i64 m) 1)=true/\true=true/\True)/\True/\V [XV.c (CV.v (Value.int .u16 (jj2 IntKind.u16 i)))] [])))) (True/\ja0 (ieq i 2) (True/\True/\V [XV.c (CV.v (Value.int .u16 m))] []) (True/\ja0 (ieq i 3) (∀(i:Int),i=gmod (iquo IntKind.i64 n 8) 2->(true=true/\jc2 2=true/\true=true/\True)/\True/\V [XV.c (CV.v (Value.int .u16 (jj2 IntKind.u16 (iquo IntKind.i64 (iadd IntKind.i64 (jj2 IntKind.i64 m) i) 2))))] []) (True/\ja0 (ieq i 4) (∀(i:Int),i=gmod (iquo IntKind.i64 n 8) 4->∀(i_1:Int),i_1=jf2 (jj2 IntKind.i64 m) i->(jc2 4=true/\true=true/\True)/\True/\V [XV.c (CV.v (Value.int .u16 (jj2 IntKind.u16 i_1)))] []) (∀(i:Int),i=gmod (iquo IntKind.i64 n 8) (iadd IntKind.i64 (jj2 IntKind.i64 m) 1)->(jc2 (iadd IntKind.i64 (jj2 IntKind.i64 m) 1)=true/\true=true/\True)/\True/\V [XV.c (CV.v (Value.int .u16 (jj2 IntKind.u16 i)))] [])))))):=by
 try delta qh6
 try delta jo4
 generalize @gmod=gmod
 generalize @jf2=jf2
 generalize @jc2=jc2
 kernel_rfl
set_option maxRecDepth 100000 in
theorem vv7 (n0 n1 n2 n3 n4 m:Int) (V:List QR.XV->List (List QR.CV)->Prop):QR.ja5 Tryd.prog (qt3) (QR.ja4) (Tryd.f73.body.getD .skip) Tryd.f73.results.toList Tryd.f73.ntmps [.x (.agg [.v (.int .i64 n0),.v (.int .i64 n1),.v (.int .i64 n2),.v (.int .i64 n3),.v (.int .i64 n4)]),.x (.c (.v (.int .u16 m)))] V=(True/\∀(i:Int),i=gsV n4 m->(in16 m=true/\true=true/\true=true/\True)/\True/\∀(i_1:Int),i_1=gmod n3 3->(jc2 3=true/\true=true/\true=true/\True)/\ja0 (igt i_1 0) (∀(i_2:Int),i_2=gsV (iquo IntKind.i64 n3 3) i->(in16 i=true/\true=true/\true=true/\true=true/\True)/\∀(i_3:Int),i_3=gsV n0 i_2->∀(i_4:Int),i_4=gsV n1 i_2->∀(i_5:Int),i_5=gsV n2 i_2->(in16 i_2=true/\true=true/\true=true/\in16 i_2=true/\true=true/\true=true/\in16 i_2=true/\true=true/\true=true/\True)/\True/\V [XV.agg [CV.v (Value.int .u16 i_3),CV.v (Value.int .u16 i_4),CV.v (Value.int .u16 i_5),CV.v (Value.int .u16 i_2),CV.v (Value.int .u16 i)]] []) (∀(i_2:Int),i_2=gsV n0 i->∀(i_3:Int),i_3=gsV n1 i->∀(i_4:Int),i_4=gsV n2 i->(in16 i=true/\true=true/\true=true/\in16 i=true/\true=true/\true=true/\in16 i=true/\true=true/\true=true/\True)/\True/\V [XV.agg [CV.v (Value.int .u16 i_2),CV.v (Value.int .u16 i_3),CV.v (Value.int .u16 i_4),CV.v (Value.int .u16 i),CV.v (Value.int .u16 i)]] [])):=by
 try delta qt3
 try delta jn2
 try delta jo4
 generalize @gmod=gmod
 generalize @gsV=gsV
 generalize @in16=in16
 generalize @jc2=jc2
 kernel_rfl
theorem y56:ja6 23 q78:=by
 intro al ans h hq
 unfold q78 at h
 split at h <;> try (simp at h;done)
 rename_i n
 simp only [Option.some.injEq] at h
 subst h
 have hq:=asked hq
 refine QR.ja2 (O:=qh6) (QR.ja3 (up qu8) QR.jb1) mixed (QR.ja4) Tryd.func23 (by kernel_rfl) (by kernel_rfl) (by simp) ?_
 rw [yq1]
 have k3:jc2 3=true:=rfl
 simp only [ja1,jb4,eqXs,eqX,eqo,eqLo,eqc,veq,eqUs,ieq,gmod,beq_iff_eq,beq_eq_false_iff_ne,ne_eq,true_and,and_true,forall_eq,k3]
 unfold q87
 refine ⟨λ h=>by rw [if_pos h],λ h=>by rw [if_neg h]⟩
theorem vk9:ja6 29 ji6:=by
 intro al ans h hq
 unfold ji6 at h
 split at h <;> try (simp at h;done)
 rename_i b
 simp only [Option.some.injEq] at h
 subst h
 have hq:=asked hq
 refine QR.ja2 (O:=(QR.orc [])) QR.jb1 mixed (QR.ja4) Tryd.func29 (by kernel_rfl) (by kernel_rfl) (by simp) ?_
 rw [yq2]
 rcases vw6 b with ⟨rfl,h1,h2⟩ | ⟨rfl,h1,h2⟩ | ⟨k1,k2,h1,h2⟩ <;> rw [h1,h2]
 ·simp [ja1,jb4,eqXs,eqX,eqo,eqLo,eqc,veq,eqUs,ieq]
 ·simp [ja1,jb4,eqXs,eqX,eqo,eqLo,eqc,veq,eqUs,ieq]
 ·simp [ja1,jb4,eqXs,eqX,eqo,eqLo,eqc,veq,eqUs,ieq,k1,k2]
theorem q79:ja6 35 ji6:=by
 intro al ans h hq
 unfold ji6 at h
 split at h <;> try (simp at h;done)
 rename_i b
 simp only [Option.some.injEq] at h
 subst h
 have hq:=asked hq
 refine QR.ja2 (O:=(QR.orc [])) QR.jb1 mixed (QR.ja4) Tryd.func35 (by kernel_rfl) (by kernel_rfl) (by simp) ?_
 rw [yg2]
 rcases vw6 b with ⟨rfl,h1,h2⟩ | ⟨rfl,h1,h2⟩ | ⟨k1,k2,h1,h2⟩ <;> rw [h1,h2]
 ·simp [ja1,jb4,eqXs,eqX,eqo,eqLo,eqc,veq,eqUs,ieq]
 ·simp [ja1,jb4,eqXs,eqX,eqo,eqLo,eqc,veq,eqUs,ieq]
 ·simp [ja1,jb4,eqXs,eqX,eqo,eqLo,eqc,veq,eqUs,ieq,k1,k2]
theorem yg3:ja6 54 jl5:=by
 intro al ans h hq
 unfold jl5 at h
 split at h <;> try (simp at h;done)
 rename_i c0 c1 c2 a f m
 simp only [Option.some.injEq] at h
 subst h
 have hq:=asked hq
 refine QR.ja2 (O:=(QR.orc [])) QR.jb1 mixed ((λ n=>bif Nat.beq n 2 then some (.rounds 4) else none)) Tryd.func54 (by kernel_rfl) (by kernel_rfl) (by simp) ?_
 rw [vv6]
 simp only [ja1,jb4,eqXs,eqX,eqo,eqLo,eqc,veq,eqUs,igt,ile,pvB,true_and,and_true,decide_eq_true_eq,decide_eq_false_iff_not,decide_eq_decide,eq_self,false_eq_decide_iff]
 omega
theorem vv8:ja6 63 jl5:=by
 intro al ans h hq
 unfold jl5 at h
 split at h <;> try (simp at h;done)
 rename_i c0 c1 c2 a f m
 simp only [Option.some.injEq] at h
 subst h
 have hq:=asked hq
 refine QR.ja2 (O:=(QR.orc [])) QR.jb1 mixed (QR.ja4) Tryd.func63 (by kernel_rfl) (by kernel_rfl) (by simp) ?_
 rw [vk7]
 simp only [ja1,jb4,eqXs,eqX,eqo,eqLo,eqc,veq,eqUs,ile,pvB,true_and,and_true,decide_eq_true_eq,decide_eq_false_iff_not,decide_eq_decide,eq_self,false_eq_decide_iff]
 omega
theorem qz0:ja6 50 jn2:=by
 intro al ans h hq
 unfold jn2 at h
 split at h <;> try (simp at h;done)
 rename_i n m
 simp only [Option.some.injEq] at h
 subst h
 have hq:=asked hq
 refine QR.ja2 (O:=qh6) (QR.ja3 (up qu8) QR.jb1) mixed (QR.ja4) Tryd.func50 (by kernel_rfl) (by kernel_rfl) (by simp) ?_
 rw [vk8]
 have h1:=hq.1
 rw [jk9] at h1
 have e1:iadd .i64 (jj2 .i64 m) 1=m + 1:=by
  rw [yr6 h1.1 (by omega)];unfold iadd;exact IntWalk.i64_in _ (by omega)
 have k:jc2 (iadd .i64 (jj2 .i64 m) 1)=true:=by rw [e1];exact vw7 (by omega) (by omega)
 have k2:jc2 2=true:=rfl
 have k4:jc2 4=true:=rfl
 have k8:jc2 8=true:=rfl
 unfold gsV
 cases j0:ieq (gmod n 8) 0 <;> cases j1:ieq (gmod n 8) 1 <;> cases j2:ieq (gmod n 8) 2 <;> cases j3:ieq (gmod n 8) 3 <;> cases j4:ieq (gmod n 8) 4 <;> simp [jb4,eqXs,eqX,eqo,eqLo,eqc,veq,eqUs,ja1,k,k2,k4,k8,j0,j1,j2,j3,j4]
theorem yg4:ja6 73 qe7:=by
 intro al ans h hq
 unfold qe7 at h
 split at h <;> try (simp at h;done)
 rename_i n0 n1 n2 n3 n4 m
 simp only [Option.some.injEq] at h
 subst h
 have hq:=asked hq
 refine QR.ja2 (O:=qt3) (QR.ja3 qz0 (QR.ja3 (up qu8) QR.jb1)) mixed (QR.ja4) Tryd.func73 (by kernel_rfl) (by kernel_rfl) (by simp) ?_
 rw [vv7]
 have h1:=hq.1
 have k:=qz8 n4 h1
 have k':in16 (gsV n4 m)=true:=k
 have k3:jc2 3=true:=rfl
 unfold gpC gpA gpF
 cases j:igt (gmod n3 3) 0 <;> simp [jb4,eqXs,eqX,eqo,eqLo,eqc,veq,eqUs,ja1,k3,h1,k',qz7 _ k',j]
end Go.Proofs.YthkidembkknoeaaDoor
namespace Go.Proofs.YthkidembkknoeaaDoor
open Go.RowKit PR QR
set_option linter.unusedVariables false
set_option linter.unusedSimpArgs false
def fitB (w h:Int):Bool:=decide (1<=w/\1<=h/\w * h<=16777216)
def plB (w h s n:Int):Bool:=decide (fitB w h=true/\w<=s/\s<=16777216/\(h - 1) * s + w<=n)
def inB (w h s n x y:Int):Bool:=decide (plB w h s n=true/\(0<=x/\x < w)/\0<=y/\y < h)
def pz (ok:Bool) (x:Int):Int:=bif ok then x else 0
def patI (s x y:Int):Int:=y * s + x
theorem jg7 {w h:Int}:fitB w h=true↔1<=w/\1<=h/\w * h<=16777216:=by unfold fitB;rw [decide_eq_true_eq]
theorem jy5 {w h:Int} (k:fitB w h=true):w<=16777216/\h<=16777216:=by
 obtain ⟨h1,h2,h3⟩:=jg7.1 k
 have a:=Int.mul_le_mul (Int.le_refl w) h2 (by decide) (by omega)
 have b:=Int.mul_le_mul h1 (Int.le_refl h) (by omega) (by omega)
 omega
theorem yb3 {w h:Int} (h1:1<=w) (h2:1<=h):w * h<=16777216↔h<=16777216 / w:=by
 rw [Int.le_ediv_iff_mul_le (by omega),Int.mul_comm]
theorem vo3 {w:Int} (h1:1<=w) (h2:w<=9223372036854775807):iquo .i64 16777216 w=16777216 / w:=by
 unfold iquo
 rw [Int.tdiv_eq_ediv_of_nonneg (by decide)]
 have:=Int.ediv_nonneg (show (0:Int)<=16777216 by decide) (show 0<=w by omega)
 have:=Int.ediv_le_self w (show (0:Int)<=16777216 by decide)
 exact IntWalk.i64_in _ (by omega)
theorem vo4 {w h s n:Int}:plB w h s n=true↔fitB w h=true/\w<=s/\s<=16777216/\(h - 1) * s + w<=n:=by unfold plB;rw [decide_eq_true_eq]
theorem yb4 {w h s n x y:Int}:inB w h s n x y=true↔plB w h s n=true/\(0<=x/\x < w)/\0<=y/\y < h:=by unfold inB;rw [decide_eq_true_eq]
theorem yb5 {h s w:Int} (h1:1<=h) (h2:h<=16777216) (s0:0<=s) (s1:s<=16777216) (w0:0<=w) (w1:w<=16777216) :
  isub .i64 h 1=h - 1/\imul .i64 (h - 1) s=(h - 1) * s/\iadd .i64 ((h - 1) * s) w=(h - 1) * s + w/\0<=(h - 1) * s/\(h - 1) * s<=281474976710656:=by
 have p0:=Int.mul_nonneg (show 0<=h - 1 by omega) s0
 have p1:=Int.mul_le_mul (show h - 1<=16777216 by omega) s1 s0 (by decide)
 refine ⟨IntWalk.i64_in _ (by omega),IntWalk.i64_in _ (by omega),IntWalk.i64_in _ (by omega),p0,by omega⟩
theorem at_in {s x y:Int} (y0:0<=y) (y1:y<=16777216) (s0:0<=s) (s1:s<=16777216) (x0:0<=x) (x1:x<=16777216):imul .i64 y s=y * s/\iadd .i64 (y * s) x=patI s x y/\0<=patI s x y:=by
 have p0:=Int.mul_nonneg y0 s0
 have p1:=Int.mul_le_mul y1 s1 s0 (by decide)
 exact ⟨IntWalk.i64_in _ (by omega),IntWalk.i64_in _ (by omega),by unfold patI;omega⟩
theorem zg7 {w h s n x y:Int} (k:inB w h s n x y=true):0<=patI s x y/\patI s x y < n/\y<=16777216/\s<=16777216/\x<=16777216/\0<=s:=by
 obtain ⟨hp,⟨x0,x1⟩,y0,y1⟩:=yb4.1 k
 obtain ⟨hf,s1,s2,s3⟩:=vo4.1 hp
 obtain ⟨f1,f2⟩:=jy5 hf
 have f3:=jg7.1 hf
 have:=Int.mul_nonneg y0 (show 0<=s by omega)
 have q:=Int.mul_le_mul_of_nonneg_right (show y<=h - 1 by omega) (show 0<=s by omega)
 unfold patI
 exact ⟨by omega,by omega,by omega,s2,by omega,by omega⟩
end Go.Proofs.YthkidembkknoeaaDoor
namespace Go.Proofs.YthkidembkknoeaaDoor
open Go.RowKit PR QR
set_option linter.unusedVariables false
set_option linter.unusedSimpArgs false
def rvB (a b c d:Int):Bool:=decide ((-1073741824<=a/\a<=1073741824)/\(-1073741824<=b/\b<=1073741824)/\(-1073741824<=c/\c<=1073741824)/\(-1073741824<=d/\d<=1073741824))
def reB (a b c d:Int):Bool:=!(decide (((-1073741824<=a/\a<=1073741824)/\(-1073741824<=b/\b<=1073741824)/\(-1073741824<=c/\c<=1073741824)/\(-1073741824<=d/\d<=1073741824))/\a < c/\b < d))
def raV (a b c d:Int):Int:=if reB a b c d=true then 0 else (c - a) * (d - b)
structure R4 where
 a:Int
 b:Int
 c:Int
 d:Int
instance:DecidableEq R4:=λ x y=>if h:x.a=y.a/\x.b=y.b/\x.c=y.c/\x.d=y.d then isTrue (by cases x;cases y;simp_all) else isFalse (λ e=>h (by subst e;simp))
def r4z:R4:=⟨0,0,0,0⟩
def r4G:Nat->R4->Int
 | 0,x=>x.a
 | 1,x=>x.b
 | 2,x=>x.c
 | _,x=>x.d
def r4E (x:R4):Bool:=reB x.a x.b x.c x.d
def r4T (x:R4):R4:=if r4E x=true then r4z else x
def F30 (a:Int):Prop:=-1073741824<=a/\a<=1073741824
theorem re_f {a b c d:Int}:reB a b c d=false↔(F30 a/\F30 b/\F30 c/\F30 d)/\a < c/\b < d:=by
 unfold reB F30;simp only [Bool.not_eq_false',decide_eq_true_eq]
end Go.Proofs.YthkidembkknoeaaDoor
namespace Go.Proofs.YthkidembkknoeaaDoor
open Go.RowKit PR QR
set_option linter.unusedVariables false
set_option linter.unusedSimpArgs false
structure Pl where
 w:Int
 h:Int
 s:Int
 n:Int
 l:Int->Int
structure Im where
 w:Int
 h:Int
 sol:Bool
 c0:Int
 c1:Int
 c2:Int
 a:Int
 f:Int
 p0:Pl
 p1:Pl
 p2:Pl
 p3:Pl
 p4:Pl
def imC (m:Im):List CV:=[.v (.int .i64 m.w),.v (.int .i64 m.h),.v (.bool m.sol),.v (.int .u16 m.c0),.v (.int .u16 m.c1),.v (.int .u16 m.c2),.v (.int .u16 m.a),.v (.int .u16 m.f),
 .v (.int .i64 m.p0.w),.v (.int .i64 m.p0.h),.v (.int .i64 m.p0.s),.slc 1 m.p0.n (.fn λ i _=>.v (.int .u16 (m.p0.l i))),.v (.int .i64 m.p1.w),.v (.int .i64 m.p1.h),.v (.int .i64 m.p1.s),.slc 1 m.p1.n (.fn λ i _=>.v (.int .u16 (m.p1.l i))),
 .v (.int .i64 m.p2.w),.v (.int .i64 m.p2.h),.v (.int .i64 m.p2.s),.slc 1 m.p2.n (.fn λ i _=>.v (.int .u16 (m.p2.l i))),.v (.int .i64 m.p3.w),.v (.int .i64 m.p3.h),.v (.int .i64 m.p3.s),.slc 1 m.p3.n (.fn λ i _=>.v (.int .u16 (m.p3.l i))),
 .v (.int .i64 m.p4.w),.v (.int .i64 m.p4.h),.v (.int .i64 m.p4.s),.slc 1 m.p4.n (.fn λ i _=>.v (.int .u16 (m.p4.l i)))]
def ji3:List CV->Option (Im×List Prop)
 | [.v (.int .i64 w),.v (.int .i64 h),.v (.bool sol),.v (.int .u16 c0),.v (.int .u16 c1),.v (.int .u16 c2),.v (.int .u16 a),.v (.int .u16 f),.v (.int .i64 w0),.v (.int .i64 h0),.v (.int .i64 s0),d0,.v (.int .i64 w1),.v (.int .i64 h1),.v (.int .i64 s1),d1,
   .v (.int .i64 w2),.v (.int .i64 h2),.v (.int .i64 s2),d2,.v (.int .i64 w3),.v (.int .i64 h3),.v (.int .i64 s3),d3,.v (.int .i64 w4),.v (.int .i64 h4),.v (.int .i64 s4),d4] =>
  match jf4 1 d0,jf4 1 d1,jf4 1 d2,jf4 1 d3,jf4 1 d4 with
  | some (n0,r0),some (n1,r1),some (n2,r2),some (n3,r3),some (n4,r4)=>some (⟨w,h,sol,c0,c1,c2,a,f,⟨w0,h0,s0,n0,λ i=>intC (den r0 i 0)⟩,⟨w1,h1,s1,n1,λ i=>intC (den r1 i 0)⟩,⟨w2,h2,s2,n2,λ i=>intC (den r2 i 0)⟩,⟨w3,h3,s3,n3,λ i=>intC (den r3 i 0)⟩,⟨w4,h4,s4,n4,λ i=>intC (den r4 i 0)⟩⟩,[intRow .u16 1 n0 r0,intRow .u16 1 n1 r1,intRow .u16 1 n2 r2,intRow .u16 1 n3 r3,intRow .u16 1 n4 r4])
  | _,_,_,_,_=>none
 | _=>none
theorem eq_one {c:CV} {n:Int} {r:QR.Row} (h:jf4 1 c=some (n,r)) (hr:intRow .u16 1 n r):EqC c (.slc 1 n (.fn λ i _=>.v (.int .u16 (intC (den r i 0))))):=by
 have k:=jh1 h (by decide) hr
 unfold jf4 at h
 split at h
 ·rename_i z n' r'
  cases e:Nat.beq z 1
  ·rw [e] at h;simp at h
  ·rw [e,cond_true,Option.some.injEq,Prod.mk.injEq] at h
   obtain ⟨rfl,rfl⟩:=h
   obtain rfl:=Nat.eq_of_beq_eq_true e
   refine .slc λ i j hi hj=>?_
   obtain rfl:j=0:=by omega
   have:=hr i 0 hi (by decide)
   rw [this];exact .v _
 ·rw [Option.some.injEq,Prod.mk.injEq] at h
  obtain ⟨rfl,rfl⟩:=h
  exact .nil (by decide) rfl
 ·simp at h
theorem jw1 {l:List CV} {m:Im} {A:List Prop} (h:ji3 l=some (m,A)) (hA:∀p∈A,p):eqCs l (imC m):=by
 unfold ji3 at h
 split at h <;> try (simp at h;done)
 split at h <;> try (simp at h;done)
 rename_i e0 e1 e2 e3 e4
 simp only [Option.some.injEq,Prod.mk.injEq] at h
 obtain ⟨rfl,rfl⟩:=h
 exact ⟨.v _,.v _,.v _,.v _,.v _,.v _,.v _,.v _,.v _,.v _,.v _,eq_one e0 (hA _ (by simp)),.v _,.v _,.v _,eq_one e1 (hA _ (by simp)),.v _,.v _,.v _,eq_one e2 (hA _ (by simp)),.v _,.v _,.v _,eq_one e3 (hA _ (by simp)),.v _,.v _,.v _,eq_one e4 (hA _ (by simp)),trivial⟩
theorem jf5 (n:Int) (l:Int->Int):intRow .u16 1 n (.fn λ i _=>.v (.int .u16 (l i))):=λ i j _ _=>rfl
def plZ (p:Pl):Bool:=decide (p.w=0/\p.h=0/\p.s=0/\p.n=0)
def plW (m:Im) (p:Pl):Bool:=decide (plB p.w p.h p.s p.n=true/\p.w=m.w/\p.h=m.h)
def colZ (m:Im):Bool:=decide (m.c0=0/\m.c1=0/\m.c2=0/\m.a=0/\m.f=0)
def imF (m:Im):Bool:=bif m.sol then plZ m.p0 && (plZ m.p1 && (plZ m.p2 && (plZ m.p3 && plZ m.p4))) else plW m m.p0 && (plW m m.p1 && (plW m m.p2 && (plW m m.p3 && (plW m m.p4 && colZ m))))
def imIn (m:Im) (x y:Int):Bool:=decide (fitB m.w m.h=true/\imF m=true/\(0<=x/\x < m.w)/\0<=y/\y < m.h)
def imPl (m:Im):Nat->Pl
 | 0=>m.p0
 | 1=>m.p1
 | 2=>m.p2
 | 3=>m.p3
 | _=>m.p4
def yg5 (m:Im):Nat->Int
 | 0=>m.c0
 | 1=>m.c1
 | 2=>m.c2
 | 3=>m.a
 | _=>m.f
def pxV (m:Im) (k:Nat) (x y:Int):Int:=bif m.sol then yg5 m k else (imPl m k).l (patI (imPl m k).s x y)
def pxB (m:Im) (most x y:Int):Bool:=pvB (pxV m 0 x y) (pxV m 1 x y) (pxV m 2 x y) (pxV m 3 x y) (pxV m 4 x y) most
def qa3 (m:Im) (most:Int):Bool:=(List.range m.h.toNat).all λ y=>(List.range m.w.toNat).all λ x=>pxB m most x y
def imE (m:Im) (most:Int):Int:=bif fitB m.w m.h then (bif imF m then (bif qa3 m most then 0 else 8) else 7) else 6
def plG (p:Pl):Prop:=in64 p.w=true/\in64 p.h=true/\in64 p.s=true/\ile 0 p.n=true/\∀i:Nat,(i:Int) < p.n->in16 (p.l i)=true
def imG (m:Im):Prop:=(in64 m.w=true/\in64 m.h=true)/\(in16 m.c0=true/\in16 m.c1=true/\in16 m.c2=true/\in16 m.a=true/\in16 m.f=true)/\plG m.p0/\plG m.p1/\plG m.p2/\plG m.p3/\plG m.p4
def imOk (m:Im):Bool:=fitB m.w m.h && imF m
def jo1 (w h n:Int):Bool:=decide (fitB w h=true/\n=w * h)
def jl9:Pl:=⟨0,0,0,0,λ _=>0⟩
def qj9:Im:=⟨0,0,false,0,0,0,0,0,jl9,jl9,jl9,jl9,jl9⟩
def qk7 (w h c0 c1 c2 a f:Int):Im:=⟨w,h,true,c0,c1,c2,a,f,jl9,jl9,jl9,jl9,jl9⟩
def jk4 (w h n:Int) (q:Int->Nat->Int) (k:Nat):Pl:=⟨w,h,w,n,λ i=>q i k⟩
def jc5 (w h n:Int) (q:Int->Nat->Int):Im:=bif jo1 w h n then ⟨w,h,false,0,0,0,0,0,jk4 w h n q 0,jk4 w h n q 1,jk4 w h n q 2,jk4 w h n q 3,jk4 w h n q 4⟩ else qj9
def plL (p:Pl):Bool:=decide (p.n<=1099511627776)
def imL (m:Im):Bool:=plL m.p0 && (plL m.p1 && (plL m.p2 && (plL m.p3 && plL m.p4)))
def grQ (n:Int) (q:Int->Nat->Int) (i:Int) (j:Nat):Int:=if 0 < n then q (i % n) j else 0
def grPx (n:Int) (q:Int->Nat->Int) (t i:Int):Nat->Int
 | 0=>gpC (grQ n q i 0) (grQ n q i 3) (grQ n q i 4) t
 | 1=>gpC (grQ n q i 1) (grQ n q i 3) (grQ n q i 4) t
 | 2=>gpC (grQ n q i 2) (grQ n q i 3) (grQ n q i 4) t
 | 3=>gpA (grQ n q i 3) (grQ n q i 4) t
 | _=>gpF (grQ n q i 4) t
def gpxV (mood n:Int) (q:Int->Nat->Int) (t i:Int) (k:Nat):Int :=
 if gmod mood 6=0 then 0 else if gmod mood 6=1 then (if k=3\/k=4 then t else grPx n q t i k) else if gmod mood 6=2 then grPx n q t 0 k else grPx n q t i k
def gimW (W x0 x1:Int):Int:=if gmod (iquo .i64 W 5) 3=0 then x1 - x0 else 1 + gmod W 5
def gimH (W H y0 y1:Int):Int:=if gmod (iquo .i64 W 5) 3=0 then y1 - y0 else 1 + gmod H 4
def gcv (x0 y0 x1 y1:Int):Bool:=decide ((1<=x1 - x0/\x1 - x0<=1024)/\1<=y1 - y0/\y1 - y0<=1024)
def gimV (W H S mood n:Int) (q:Int->Nat->Int) (x0 y0 x1 y1 t:Int):Im :=
 bif gmod S 2 == 0 then qk7 (gimW W x0 x1) (gimH W H y0 y1) (gpxV mood n q t 0 0) (gpxV mood n q t 0 1) (gpxV mood n q t 0 2) (gpxV mood n q t 0 3) (gpxV mood n q t 0 4)
 else jc5 (gimW W x0 x1) (gimH W H y0 y1) (gimW W x0 x1 * gimH W H y0 y1) (gpxV mood n q t)
def gstS (p:Pl) (m:Int):Int:=p.w + gmod m 4
end Go.Proofs.YthkidembkknoeaaDoor
