import Derived.Test.YthkidembkknoeaaDoorPm06
import Derived.Test.YthkidembkknoeaaDoorPm08
import Derived.RangeFuncWrites
import Derived.OrdersIn
import Derived.TacticsIn
import Derived.BigFrameIn
namespace Go.Proofs.YthkidembkknoeaaDoor.QR
open Go.RowKit PR
set_option linter.unusedVariables false
set_option linter.unusedSimpArgs false
def jm1 (o:Oper):Bool:=match o.op with
 | .defer _=>false
 | _=>true
def ji0:Code->Bool
 | .region _ ops _=>ops.toList.all jm1
 | .seq a b=>ji0 a && ji0 b
 | .cond _ a b=>ji0 a && ji0 b
 | .loop a=>ji0 a
 | .block _ a=>ji0 a
 | .skip=>true
 | .label _=>true
 | .exit _=>true
 | .ret=>true
 | _=>false
theorem jt4 {x y:Code} (h:ji0 (.seq x y)=true):ji0 x=true/\ji0 y=true:=by simpa [ji0] using h
theorem yb7 {c:Operand} {x y:Code} (h:ji0 (.cond c x y)=true):ji0 x=true/\ji0 y=true:=by simpa [ji0] using h
theorem vd9 {id:Nat} {ops:Array Oper} {d:Bool} (h:ji0 (.region id ops d)=true):∀o∈ops.toList,jm1 o=true:=by
 have h:ops.toList.all jm1=true:=h
 exact List.all_eq_true.1 h
theorem y06 {o:Oper} (h:jm1 o=true):∀c,o.op≠ .defer c:=by
 intro c e
 unfold jm1 at h
 rw [e] at h
 simp at h
theorem zh0 {id:Nat} {Q:Exit->Act->World->Prop} (h:∀a w,¬ Q .outgrown a w):∀a w,¬ Exit.inBlock id Q .outgrown a w:=λ a w=>h a w
section
variable {P:Program} {rl dp:Nat} {Q:Exit->Act->World->Prop}
theorem y07 {o:Oper} {a:Act} {w:World} {K:Act->World->Prop} (hd:jm1 o=true) (h:o.wp P a w K Q):o.wpIn (Fence.wide.inRound rl) dp P a w K Q:=by
 refine ⟨λ _ _=>trivial,?_⟩
 rw [show (Fence.wide.inRound rl).round=some rl from rfl,Oper.semAt_some rl _ _ (y06 hd)]
 unfold Oper.wp at h
 generalize (execOp a.eval o).run P w=res at h ⊢
 cases res with
 | ok x w' =>
  cases x with
  | value v=>exact h
  | skip=>exact h
  | defer d=>exact h
  | enter f args =>
   rw [Oper.upon_enter] at h
   rw [Oper.uponIn_enter]
   exact ⟨λ h=>by simp [Fence.wide] at h,CallsIn.inRound rl (callsIn_wide.2 (h.mono λ e w'' q=>by cases e <;> exact q))⟩
  | row r args =>
   rw [Oper.upon_row] at h
   rw [Oper.uponIn_row]
   refine ⟨λ h=>by simp [Fence.wide] at h,λ c cs _=>?_⟩
   obtain ⟨v,w'',q,s⟩:=h c cs
   exact ⟨v,w'',q,stepsIn_wide.2 s⟩
  | _=>exact (show False from h).elim
 | halt e w' =>
  cases e with
  | panic v=>exact h
  | _=>exact (show False from h).elim
theorem qy6 {ops:Array Oper} (hd:∀o∈ops.toList,jm1 o=true) (hQ:∀a w,¬ Q .outgrown a w):∀(l:List Nat) (a:Act) (w:World),wpOps P ops Q l a w->wpOpsIn (Fence.wide.inRound rl) dp P ops Q l a w
 | [],a,w,h=>h
 | i :: l,a,w,h=>by
  unfold wpOps at h
  unfold wpOpsIn
  cases ho:ops[i]? with
  | none=>rw [ho] at h;exact qy6 hd hQ l a w h
  | some o =>
   rw [ho] at h
   simp only at h ⊢
   have hm:jm1 o=true:=hd o (by
    have:=Array.mem_of_getElem? ho
    exact Array.mem_toList_iff.2 this)
   split at h
   ·rename_i hw
    rw [if_pos hw]
    rcases h with h | ⟨_,_,_,h⟩
    ·exact y07 hm (Oper.wp_mono (λ a w=>qy6 hd hQ l a w) h)
    ·exact absurd h (hQ _ _)
   ·rename_i hw
    rw [if_neg hw]
    exact ⟨λ _ _=>trivial,qy6 hd hQ l _ w h⟩
theorem least {p:Nat->Prop} (h:∃n,p n):∃n,p n/\∀m,p m->n<=m:=by
 obtain ⟨n,hn⟩:=h
 induction n using Nat.strongRecOn with
 | _ n ih =>
  by_cases e:∃m,m < n/\p m
  ·obtain ⟨m,hm,hp⟩:=e;exact ih m hm hp
  ·refine ⟨n,hn,λ m hp=>?_⟩
   by_cases hm:m < n
   ·exact absurd ⟨m,hm,hp⟩ e
   ·omega
theorem wpIn_loop' {F:Fence} {n:Nat} {c:Code} {ι:Type} (I:ι->Act->World->Prop) (μ:ι->Nat) {a:Act} {w:World} (i0:ι) (h₀:I i0 a w)
  (round:∀i a w,I i a w->c.wpIn F n P (Exit.then (λ a' w'=>∃j,I j a' w'/\μ j < μ i) Q) a w):(Code.loop c).wpIn F n P Q a w:=by
 classical
 let p:Act->World->Nat->Prop:=λ a w n=>∃i,I i a w/\μ i=n
 have ex:∀a w,(∃i,I i a w)->∃n,p a w n/\∀m,p a w m->n<=m:=λ a w ⟨i,h⟩=>least ⟨_,i,h,rfl⟩
 let m:Act->World->Nat:=λ a w=>if h:∃i,I i a w then Classical.choose (ex a w h) else 0
 have ms:∀a w (h:∃i,I i a w),p a w (m a w)/\∀k,p a w k->m a w<=k:=λ a w h=>by
  show p a w (if h:∃i,I i a w then Classical.choose (ex a w h) else 0)/\∀k,p a w k->(if h:∃i,I i a w then Classical.choose (ex a w h) else 0)<=k
  rw [dif_pos h]
  exact Classical.choose_spec (ex a w h)
 refine wpIn_loop (λ a w=>∃i,I i a w) m ⟨i0,h₀⟩ λ a w h=>?_
 obtain ⟨⟨i,hi,e⟩,_⟩:=ms a w h
 refine wpIn_mono (round i a w hi) λ e' a' w' q=>?_
 cases e' with
 | normal =>
  obtain ⟨j,hj,hlt⟩:=q
  refine ⟨⟨j,hj⟩,?_⟩
  have:=(ms a' w' ⟨j,hj⟩).2 _ ⟨j,hj,rfl⟩
  omega
 | _=>exact q
end
section
variable {P:Program} {O:ja8} {base:Nat} {X F0:Nat->Prop} {B:Nat->(Nat×Value)×Bool}
theorem q47 {rl dp:Nat} {id:Nat} {ops:Array Oper} {draw:Bool} {Q:Exit->Act->World->Prop} (hd:∀o∈ops.toList,jm1 o=true) (hQ':∀a w,¬ Q .outgrown a w) (hO:je9 P O) (hm:P.follows .mixedOrders=true) {s:PSt} {a:Act} {w w0:World} {k:PSt->Prop} (hk:∀s,k s->s.ok)
  (h:jr1 P O id ops.toList draw s k) (R:Rel base X F0 B s a w) (hb:base<=w.heap.size) (hbel:jc4 base X F0 w0 w) (hQ:∀s' a' w',Rel base X F0 B s' a' w'->jc4 base X F0 w0 w'->k s'->Q .normal a' w') :
  (Code.region id ops draw).wpIn (Fence.wide.inRound rl) dp P Q a w:=by
 rcases qp1 hO hm hk h R hb hbel hQ with ⟨e,h'⟩ | ⟨e,h'⟩
 ·subst e
  refine wpIn_region_draw λ t=>?_
  simp only [Region.schedule,hm,Bool.true_or,if_true]
  exact qy6 hd hQ' _ _ _ (wpAny_sound ops.size t _ a _ h')
 ·subst e
  exact wpIn_region (qy6 hd hQ' _ _ _ h')
theorem jc6 {rl dp:Nat} (hO:je9 P O) (hm:P.follows .mixedOrders=true) {L:Nat->Option Ann} {J:Nat->Option Inl} (hJ:∀n c,J n=some c->qg3 P c/\GB<=c.T) (hNF:nf B) (w0:World) (hb0:base<=w0.heap.size):∀(c:Code) (k:Ex->PSt->Prop) (Q:Exit->Act->World->Prop) (s:PSt) (a:Act) (w:World),
  (∀e s,k e s->s.ok)->(∀e s a w,Rel base X F0 B s a w->jc4 base X F0 w0 w->base<=w.heap.size->k e s->Q (exOf e) a w)->
  Rel base X F0 B s a w->jc4 base X F0 w0 w->base<=w.heap.size->jc1 P O L J c k s->ji0 c=true->(∀a w,¬ Q .outgrown a w)->c.wpIn (Fence.wide.inRound rl) dp P Q a w
 | .skip,k,Q,s,a,w,hk,hq,R,hbel,hb,h,hn,hQ=>wpIn_skip (hq .normal s a w R hbel hb h)
 | .label _,k,Q,s,a,w,hk,hq,R,hbel,hb,h,hn,hQ=>wpIn_label (hq .normal s a w R hbel hb h)
 | .exit id,k,Q,s,a,w,hk,hq,R,hbel,hb,h,hn,hQ=>wpIn_exit (hq (.exit id) s a w R hbel hb h)
 | .ret,k,Q,s,a,w,hk,hq,R,hbel,hb,h,hn,hQ=>wpIn_ret (hq .ret s a w R hbel hb h)
 | .region id ops draw,k,Q,s,a,w,hk,hq,R,hbel,hb,h,hn,hQ=>by
  unfold jc1 at h
  split at h
  ·rename_i c hc
   split at h
   ·exact h.elim
   ·rename_i hd
    simp only [Bool.not_eq_true] at hd
    subst hd
    obtain ⟨d,hd,h⟩:=q36 hJ hc h
    refine wpIn_region (qy6 (vd9 hn) hQ _ _ _ (q34 hO hd.1 (Or.inl hNF) (λ s hs=>hs.1) h R hb hbel λ B' hB _ s' a' w' R' hb' h=>?_))
    exact hq .normal _ a' w' (Rel.reB hNF (R'.lit True s'.lits s'.gen) λ m hm=>hB m (by have:=hd.2;omega)) hb' (Nat.le_trans hb0 hb'.size) h.2
  ·refine q47 (rl:=rl) (dp:=dp) (vd9 hn) hQ hO hm (λ s hs=>hs.1) h R hb hbel λ s' a' w' R' hb' h=>?_
   exact hq .normal _ a' w' (R'.lit True s'.lits s'.gen) hb' (Nat.le_trans hb0 hb'.size) h.2
 | .seq x y,k,Q,s,a,w,hk,hq,R,hbel,hb,h,hn,hQ=>by
  unfold jc1 at h
  split at h
  ·rename_i I _
   obtain ⟨h,hc⟩:=h
   refine wpIn_seq (jc6 hO hm hJ hNF w0 hb0 x _ _ s a w (jg5 hk) (λ e s' a' w' R' hb' hb2 he=>?_) R hbel hb h (jt4 hn).1 (λ a w=>hQ a w))
   cases e with
   | normal=>obtain ⟨j,hg,hj⟩:=he;exact jc6 hO hm hJ hNF w0 hb0 y k Q _ a' w' hk hq (Inv.rel hNF hj _ R') hb' hb2 (hc j hg) (jt4 hn).2 hQ
   | exit id=>exact hq _ s' a' w' R' hb' hb2 he
   | ret=>exact hq _ s' a' w' R' hb' hb2 he
  ·rename_i l _
   rw [jj1] at h
   obtain ⟨h,hc⟩:=h
   replace hc:=(jl8 l _ λ _ s=>jc1 P O L J y k s).1 hc
   refine wpIn_seq (jc6 hO hm hJ hNF w0 hb0 x _ _ s a w (jg5 hk) (λ e s' a' w' R' hb' hb2 he=>?_) R hbel hb h (jt4 hn).1 (λ a w=>hQ a w))
   cases e with
   | normal=>obtain ⟨j,hg,hj⟩:=he;exact jc6 hO hm hJ hNF w0 hb0 y k Q _ a' w' hk hq (Inv.rel hNF hj _ R') hb' hb2 (hc j hg) (jt4 hn).2 hQ
   | exit id=>exact hq _ s' a' w' R' hb' hb2 he
   | ret=>exact hq _ s' a' w' R' hb' hb2 he
  ·rename_i f _
   rw [jj1] at h
   obtain ⟨h,hc⟩:=h
   replace hc:=(jl8 (f (qv1 s)) _ λ _ s=>jc1 P O L J y k s).1 hc
   refine wpIn_seq (jc6 hO hm hJ hNF w0 hb0 x _ _ s a w (jg5 hk) (λ e s' a' w' R' hb' hb2 he=>?_) R hbel hb h (jt4 hn).1 (λ a w=>hQ a w))
   cases e with
   | normal=>obtain ⟨j,hg,hj⟩:=he;exact jc6 hO hm hJ hNF w0 hb0 y k Q _ a' w' hk hq (Inv.rel hNF hj _ R') hb' hb2 (hc j hg) (jt4 hn).2 hQ
   | exit id=>exact hq _ s' a' w' R' hb' hb2 he
   | ret=>exact hq _ s' a' w' R' hb' hb2 he
  ·rename_i l _
   obtain ⟨h,hc⟩:=h
   refine wpIn_seq (jc6 hO hm hJ hNF w0 hb0 x _ _ s a w (jw8 hk) (λ e s' a' w' R' hb' hb2 he=>?_) R hbel hb h (jt4 hn).1 (λ a w=>hQ a w))
   cases e with
   | normal =>
    obtain ⟨s2,R2,h2⟩:=jr2 hNF hb2 l s' R' he hc
    exact jc6 hO hm hJ hNF w0 hb0 y k Q _ a' w' hk hq R2 hb' hb2 h2 (jt4 hn).2 hQ
   | exit id=>exact hq _ s' a' w' R' hb' hb2 he
   | ret=>exact hq _ s' a' w' R' hb' hb2 he
  ·rename_i l _
   obtain ⟨h,hc⟩:=h
   refine wpIn_seq (jc6 hO hm hJ hNF w0 hb0 x _ _ s a w (jw8 hk) (λ e s' a' w' R' hb' hb2 he=>?_) R hbel hb h (jt4 hn).1 (λ a w=>hQ a w))
   cases e with
   | normal =>
    obtain ⟨s2,R2,h2⟩:=jr2 hNF hb2 (l (qv1 s)) s' R' he hc
    exact jc6 hO hm hJ hNF w0 hb0 y k Q _ a' w' hk hq R2 hb' hb2 h2 (jt4 hn).2 hQ
   | exit id=>exact hq _ s' a' w' R' hb' hb2 he
   | ret=>exact hq _ s' a' w' R' hb' hb2 he
  ·refine wpIn_seq (jc6 hO hm hJ hNF w0 hb0 x _ _ s a w (λ e s' he=>?_) (λ e s' a' w' R' hb' hb2 he=>?_) R hbel hb h (jt4 hn).1 (λ a w=>hQ a w))
   ·cases e with
    | normal=>exact jd1 y k s' hk he
    | exit id=>exact hk _ _ he
    | ret=>exact hk _ _ he
   ·cases e with
    | normal=>exact jc6 hO hm hJ hNF w0 hb0 y k Q s' a' w' hk hq R' hb' hb2 he (jt4 hn).2 hQ
    | exit id=>exact hq _ s' a' w' R' hb' hb2 he
    | ret=>exact hq _ s' a' w' R' hb' hb2 he
 | .cond c x y,k,Q,s,a,w,hk,hq,R,hbel,hb,h,hn,hQ=>by
  have core:∀k',(∀e s,k' e s->s.ok)->(∀e s a w,Rel base X F0 B s a w->jc4 base X F0 w0 w->base<=w.heap.size->k' e s->Q (exOf e) a w)->
    condC s c (jc1 P O L J x k' s) (jc1 P O L J y k' s)->(Code.cond c x y).wpIn (Fence.wide.inRound rl) dp P Q a w:=by
   intro k' hk' hq' h
   unfold condC at h
   split at h <;> try (exact h.elim)
   rename_i b hb'
   have ev:a.eval c=.bool b:=by
    obtain ⟨E,R⟩:=R
    have:=R.eval c (by rw [hb'])
    rw [hb'] at this
    exact cv_v this
   have h:ja0 b (jc1 P O L J x k' s) (jc1 P O L J y k' s):=by
    split at h
    ·cases b <;> exact h
    ·exact h
   rw [ja1] at h
   refine wpIn_cond_split (t:=b) ev (λ e=>?_) (λ e=>?_)
   ·exact jc6 hO hm hJ hNF w0 hb0 x k' Q _ a w hk' hq' R hbel hb (h.1 e) (yb7 hn).1 hQ
   ·exact jc6 hO hm hJ hNF w0 hb0 y k' Q _ a w hk' hq' R hbel hb (h.2 e) (yb7 hn).2 hQ
  unfold jc1 at h
  split at h
  ·rename_i I _
   obtain ⟨h,hc⟩:=h
   exact core (cutK I k) (jg5 hk) (jj8 hNF hq hc) h
  ·rename_i l _
   rw [jj1] at h
   obtain ⟨h,hc⟩:=h
   exact core (cutK (sumI l) k) (jg5 hk) (jj8 hNF hq ((jl8 l _ λ _ s=>k .normal s).1 hc)) h
  ·exact core k hk hq h
 | .loop body,k,Q,s,a,w,hk,hq,R,hbel,hb,h,hn,hQ=>by
  have core:∀(s:PSt) (R:Rel base X F0 B s a w) (I:Inv),(∃i,I.good i/\jh8 I s i)->(∀i,I.good i->jc1 P O L J body (λ e s'=>match e with
    | .normal=>∃j,I.good j/\jh8 I s' j/\I.μ j < I.μ i
    | .exit m=>k (.exit m) s'
    | .ret=>k .ret s') (ist I i (s.gen + 1)))->(Code.loop body).wpIn (Fence.wide.inRound rl) dp P Q a w:=by
   intro s R I ⟨i0,hg0,hi0⟩ hround
   refine wpIn_loop' (λ i a w=>I.good i/\Rel base X F0 B (ist I i (s.gen + 1)) a w/\jc4 base X F0 w0 w/\base<=w.heap.size) I.μ i0 ⟨hg0,Inv.rel hNF hi0 _ R,hbel,hb⟩ (λ i a w hi=>?_)
   obtain ⟨hg,R,hbel,hb⟩:=hi
   refine jc6 hO hm hJ hNF w0 hb0 body _ _ (ist I i (s.gen + 1)) a w (λ e s' he=>?_) (λ e s' a' w' R' hb' hb2 he=>?_) R hbel hb (hround i hg) hn (λ a w=>hQ a w)
   ·cases e with
    | normal=>obtain ⟨j,_,hj,_⟩:=he;exact hj.1
    | exit m=>exact hk _ _ he
    | ret=>exact hk _ _ he
   ·cases e with
    | normal =>
     obtain ⟨j,hgj,hj,hlt⟩:=he
     exact ⟨j,⟨hgj,Inv.rel hNF hj _ R',hb',hb2⟩,hlt⟩
    | exit m=>exact hq (.exit m) s' a' w' R' hb' hb2 he
    | ret=>exact hq .ret s' a' w' R' hb' hb2 he
  have coreL:∀(s:PSt) (R:Rel base X F0 B s a w) (l:List Inv),vz1 l (λ k s=>jc1 P O L J body k s) k s->(Code.loop body).wpIn (Fence.wide.inRound rl) dp P Q a w:=by
   intro s R l h
   refine core s R (sumI l) ((jw7 l s).1 h.1) ?_
   have h2:=(jl8 l _ λ m s0=>jc1 P O L J body (λ e s'=>match e with
    | .normal=>anyP l λ J j=>J.good j/\jh8 J s' j/\J.μ j < m
    | .exit m=>k (.exit m) s'
    | .ret=>k .ret s') s0).1 h.2
   intro i hi
   have:=h2 i hi
   have e:(λ (e:Ex) (s':PSt)=>match e with
    | .normal=>anyP l λ J j=>J.good j/\jh8 J s' j/\J.μ j < (sumI l).μ i
    | .exit m=>k (.exit m) s'
    | .ret=>k .ret s')=(λ (e:Ex) (s':PSt)=>match e with
    | .normal=>∃j,(sumI l).good j/\jh8 (sumI l) s' j/\(sumI l).μ j < (sumI l).μ i
    | .exit m=>k (.exit m) s'
    | .ret=>k .ret s'):=by
    funext e s'
    cases e with
    | normal=>exact propext (qo9 l s' λ n=>n < (sumI l).μ i)
    | exit m=>rfl
    | ret=>rfl
   rw [e] at this
   exact this
  unfold jc1 at h
  split at h <;> try (exact h.elim)
  ·rename_i n _
   refine wpIn_loop' (λ i a w=>∃s',Rel base X F0 B s' a w/\jc4 base X F0 w0 w/\base<=w.heap.size/\vb3 (λ k s=>jc1 P O L J body k s) k i s') (λ i=>i) n ⟨s,R,hbel,hb,h⟩ (λ i a w hi=>?_)
   obtain ⟨s1,R,hbel,hb,h⟩:=hi
   cases i with
   | zero=>exact h.elim
   | succ i =>
    refine jc6 hO hm hJ hNF w0 hb0 body _ _ s1 a w (λ e s' he=>?_) (λ e s' a' w' R' hb' hb2 he=>?_) R hbel hb h hn (λ a w=>hQ a w)
    ·cases e with
     | normal=>exact qd3 (λ k s hk h=>jd1 body k s hk h) i (bump s') hk he
     | exit m=>exact hk _ _ he
     | ret=>exact hk _ _ he
    ·cases e with
     | normal=>exact ⟨i,⟨bump s',R'.lit _ _ _,hb',hb2,he⟩,Nat.lt_succ_self i⟩
     | exit m=>exact hq (.exit m) s' a' w' R' hb' hb2 he
     | ret=>exact hq .ret s' a' w' R' hb' hb2 he
  ·rename_i I hI
   exact core s R I h.1 h.2
  ·rename_i l hI
   exact coreL s R l h
  ·rename_i f hI
   exact coreL s R _ h
  ·rw [force_eq] at h
   exact coreL _ (Rel.qd2 _ _ s R) _ h
 | .block id c,k,Q,s,a,w,hk,hq,R,hbel,hb,h,hn,hQ=>by
  have core:∀k',(∀e s,k' e s->s.ok)->(∀e s a w,Rel base X F0 B s a w->jc4 base X F0 w0 w->base<=w.heap.size->k' e s->Q (exOf e) a w)->
    jc1 P O L J c (ju7 id k') s->(Code.block id c).wpIn (Fence.wide.inRound rl) dp P Q a w:=by
   intro k' hk' hq' h
   refine wpIn_block (jc6 hO hm hJ hNF w0 hb0 c _ _ s a w (jn7 hk') (λ e s' a' w' R' hb' hb2 he=>?_) R hbel hb h hn (λ a w=>zh0 hQ a w))
   cases e with
   | normal=>exact hq' .normal s' a' w' R' hb' hb2 he
   | exit m =>
    simp only [ju7] at he
    simp only [exOf,Exit.inBlock]
    split
    ·rename_i e;rw [if_pos e] at he;exact hq' .normal s' a' w' R' hb' hb2 he
    ·rename_i e;rw [if_neg e] at he;exact hq' (.exit m) s' a' w' R' hb' hb2 he
   | ret=>exact hq' .ret s' a' w' R' hb' hb2 he
  unfold jc1 at h
  split at h
  ·rename_i I _
   obtain ⟨h,hc⟩:=h
   exact core (cutK I k) (jg5 hk) (jj8 hNF hq hc) h
  ·rename_i l _
   rw [jj1] at h
   obtain ⟨h,hc⟩:=h
   exact core (cutK (sumI l) k) (jg5 hk) (jj8 hNF hq ((jl8 l _ λ _ s=>k .normal s).1 hc)) h
  ·exact core k hk hq h
 | .rangeFunc ..,k,Q,s,a,w,hk,hq,R,hbel,hb,h,hn,hQ=>by unfold jc1 at h;exact h.elim
 | .scope _,k,Q,s,a,w,hk,hq,R,hbel,hb,h,hn,hQ=>by unfold jc1 at h;exact h.elim
 | .goto _,k,Q,s,a,w,hk,hq,R,hbel,hb,h,hn,hQ=>by unfold jc1 at h;exact h.elim
 | .refuse _,k,Q,s,a,w,hk,hq,R,hbel,hb,h,hn,hQ=>by unfold jc1 at h;exact h.elim
end
def zb0 (o:Oper):Option (Tmp×Tmp):=match o.dst,o.op,o.guard with
 | some d,.assign (.tmp t),none=>some (d,t)
 | _,_,_=>none
def ve0:List Oper->Option (List (Tmp×Tmp))
 | []=>some []
 | o :: l=>match zb0 o,ve0 l with
  | some p,some m=>some (p :: m)
  | _,_=>none
def jh3:Code->Option (List (Tmp×Tmp))
 | .skip=>some []
 | .region _ ops false=>ve0 ops.toList
 | .seq a b=>match jh3 a,jh3 b with
  | some l,some m=>some (l ++ m)
  | _,_=>none
 | _=>none
def mvA (a:Act):List (Tmp×Tmp)->Act
 | []=>a
 | (d,t) :: l=>mvA (a.put (some d) (a.eval (.tmp t))) l
def mvT (T:List GV):List (Tmp×Tmp)->List GV
 | []=>T
 | (d,t) :: l=>mvT (T.set d (T.getD t (gnow (.tup [])))) l
theorem yb8 (a:Act):∀(l m:List (Tmp×Tmp)),mvA a (l ++ m)=mvA (mvA a l) m
 | [],_=>rfl
 | _ :: l,m=>yb8 _ l m
theorem qy7 (a:Act):∀(l:List (Tmp×Tmp)),(mvA a l).defers=a.defers
 | []=>rfl
 | _ :: l=>(qy7 _ l).trans rfl
def nthI (v:List Int) (j:Nat):Int:=(v[j]?).getD 0
def lnI (pre:List (List Int)):Int:=pre.length
def jx7 (pre:List (List Int)) (v:List Int):List (List Int):=pre ++ [v]
def jt5 (ok:List Int->Prop) (n:Nat):Prop:=∀v,ok v->v.length=n
def q48 (nth:List Int->Nat->Int):List GV->List Tmp->Nat->List Int->List GV
 | T,p :: ps,j,v=>q48 nth (T.set p (gnow (.x (.c (.v (.int .i64 (nth v j))))))) ps (j + 1) v
 | T,[],_,_=>T
def yt3 (P:Program) (f:FuncId) (l:List (List Value)) (ok:List Int->Prop) (S:List (List Int)->Prop) (N:Nat):Prop :=
 (∀args w,(callFunc f args).run P w=.ok (.enter f args) w)/\
 ∀(w:World) (bs:List Nat),Fa2 (λ (c:List Value) (b:Nat)=>∃t,w.heap[b]?=some (.cells c.toArray t (0,0))) l bs->∀n:Nat,
  SeqStopsK (α:={ v:List Int // ok v }) Fence.wide n P f (bs.map λ b=>Value.pointer (some ⟨b,0,none⟩)).toArray (λ v=>(v.1.map λ x=>Value.int .i64 x).toArray) (λ W W'=>∀b∈bs,W'.heap[b]?=W.heap[b]?) (λ xs=>S (xs.map (·.1))) (λ _=>True) N w
structure jx8 where
 it:FuncId->List (List Value)->(List Int->Prop)->(List (List Int)->Prop)->Nat->Prop
 nth:List Int->Nat->Int
 ln:List (List Int)->Int
 snoc:List (List Int)->List Int->List (List Int)
 len:(List Int->Prop)->Nat->Prop
def jx8.OK (P:Program) (W:jx8):Prop:=(∀f l ok S N,W.it f l ok S N->yt3 P f l ok S N)/\W.nth=nthI/\W.ln=lnI/\W.snoc=jx7/\W.len=jt5
structure RAnn where
 ok:List Int->Prop
 S:List (List Int)->Prop
 N:Nat
 good:List (List Int)->Prop
 slots:List GV
 blocks:List (List Int)->List (Nat×Blk)
def RAnn.inv (r:RAnn) (slots:List GV):Inv:=⟨List (List Int),r.good,λ _=>slots,r.blocks,λ _=>0⟩
def pinG (g:GV):Bool:=bif g.k then (match g.v with
 | .x (.c (.v x))=>jh6 x
 | .x (.c (.ptr m _))=>Nat.ble PN m
 | _=>false) else true
def y08 (blocks:List (Nat×Blk)) (g:GV):Bool:=bif g.k then (match g.v with
 | .x (.c (.ptr m _))=>qj5 blocks m
 | _=>true) else true
def vi8 (mem:Nat->Option Blk) (g:GV):Bool:=bif g.k then (match g.v with
 | .x (.c (.ptr m _))=>bif Nat.ble GB m then (gtab m).isSome else (mem m).isSome
 | _=>true) else true
def zb1 (blocks:List (Nat×Blk)) (ρ:Nat->Nat):Bool:=blocks.all λ p=>bif Nat.ble PN p.1 then (bif Nat.ble (PN + 1000) p.1 then true else Nat.beq (ρ p.1) p.1) else true
def yt4 (r:RAnn) (k:Ex->PSt->Prop) (pre:List (List Int)):Ex->PSt->Prop:=λ e s=>match e with
 | .normal=>s.ok/\r.good pre/\r.slots.all (y08 (r.blocks pre))=true/\jh8 (r.inv (r.slots.map λ _=>gunk)) s pre
 | .exit m=>s.ok/\r.slots.all (vi8 s.mem)=true/\k (.exit m) ⟨r.slots,s.mem,s.ok,[],s.gen⟩
 | .ret=>s.ok/\r.slots.all (vi8 s.mem)=true/\k .ret ⟨r.slots,s.mem,s.ok,[],s.gen⟩
def vo5 (P:Program) (O:ja8) (L:Nat->Option Ann) (J:Nat->Option Inl) (IT:jx8) (g:Operand) (ps:Array Tmp) (assign body:Code) (r:RAnn) (k:Ex->PSt->Prop) (s:PSt):Prop :=
 match operand s g,jh3 assign with
 | ⟨true,.x (.c (.clo f l))⟩,some mv =>
  s.ok/\((ji0 body && r.slots.all pinG) && zb1 (r.blocks []) (rho (rename s r.slots (r.blocks []))))=true/\IT.it f l r.ok r.S r.N/\IT.len r.ok ps.size/\
  r.good []/\qp3 (r.inv r.slots) s [] (rho (rename s r.slots (r.blocks [])))/\
  (∀pre v,r.good pre->ilt (IT.ln pre) (Int.ofNat r.N)=true->r.ok v->jc1 P O L J body (yt4 r k (IT.snoc pre v)) ⟨mvT (q48 IT.nth r.slots ps.toList 0 v) mv,jp7 (r.blocks pre),True,[],s.gen + 1⟩)/\
  (∀pre,r.S pre->r.good pre->k .normal ⟨r.slots,jp7 (r.blocks pre),True,[],s.gen + 2⟩)
 | _,_=>False
section
variable {P:Program} {O:ja8} {base:Nat} {X F0:Nat->Prop} {B:Nat->(Nat×Value)×Bool} {E:Env} {s:PSt} {a:Act} {w:World}
def jr7 (W W':World):Prop:=∀(k:Nat) (arr:Array Value) (t:TypeId) (fr:Nat×Nat),W.heap[k]?=some (.cells arr t fr)->W'.heap[k]?=some (.cells arr t fr)
def IsC (W:World) (k:Nat):Prop:=∃(arr:Array Value) (t:TypeId) (fr:Nat×Nat),W.heap[k]?=some (.cells arr t fr)
theorem Rep.shift {F F':Nat->Prop} {W W':World} (hC:jr7 W W') (i:∀k,IsC W k->F k->F' k) {c:CV} {y:Value} (h:Rep F W c y):Rep F' W' c y:=by
 induction h with
 | v h=>exact .v h
 | nil h h'=>exact .nil h h'
 | slc u h1 hc h2 h3 h4 _ ih=>exact .slc u h1 hc (i _ ⟨_,_,_,h3⟩ h2) (hC _ _ _ _ h3) h4 ih
 | clo bs h=>exact .clo bs (h.mono λ c b ⟨h1,t,h2⟩=>⟨i _ ⟨_,_,_,h2⟩ h1,t,hC _ _ _ _ h2⟩)
theorem jb9.shift {L:Nat->Prop} {W W':World} {F':Nat->Prop} (hC:jr7 W W') (i:∀k,IsC W k->E.F k->F' k) {c:CV} {y:Value} (h:jb9 L E W c y):jb9 L ⟨F',E.β,E.ν⟩ W' c y:=by
 cases c with
 | v _=>exact Rep.shift hC i h
 | slc _ _ _=>exact Rep.shift hC i h
 | clo _ _=>exact Rep.shift hC i h
 | own m n=>exact h
 | ptr m off=>exact h
 | fn f caps=>exact h
 | fresh _ _ _=>exact h.elim
theorem ConcX.shift {L:Nat->Prop} {W W':World} {F':Nat->Prop} (hC:jr7 W W') (i:∀k,IsC W k->E.F k->F' k) {c:XV} {y:Value} (h:ConcX L E W c y):ConcX L ⟨F',E.β,E.ν⟩ W' c y:=by
 cases c with
 | c c=>exact jb9.shift hC i h
 | agg l=>obtain ⟨ys,e,h⟩:=h;exact ⟨ys,e,h.mono λ _ _=>jb9.shift hC i⟩
theorem jd6.shift {L:Nat->Prop} {W W':World} {F':Nat->Prop} (hC:jr7 W W') (i:∀k,IsC W k->E.F k->F' k) {c:SV} {y:Value} (h:jd6 L E W c y):jd6 L ⟨F',E.β,E.ν⟩ W' c y:=by
 cases c with
 | x v=>exact ConcX.shift hC i h
 | tup l=>obtain ⟨ys,e,h⟩:=h;exact ⟨ys,e,h.mono λ _ _=>ConcX.shift hC i⟩
 | eptr m z i off=>exact h
 | view m z l n=>exact h
 | fptr z r j off =>
  obtain ⟨h0,b,o',arr,t,fr,h1,h2,h3,h4⟩:=h
  refine ⟨h0,b,o',arr,t,fr,i _ ⟨_,_,_,h2⟩ h1,hC _ _ _ _ h2,h3,λ j hj=>?_⟩
  obtain ⟨u,e,k⟩:=h4 j hj
  exact ⟨u,e,k.shift hC i⟩
theorem RelE.shift (R:RelE base X F0 B E s a w) {W':World} (hC:jr7 w W') (hsz:w.heap.size<=W'.heap.size) {F' F1:Nat->Prop} (i:∀k,IsC w k->E.F k->F' k) (ii:∀k,F' k->k < W'.heap.size/\(F1 k\/base<=k\/X k)) (iii:∀k,F1 k->F' k) (iv:∀k,IsC w k->F' k->E.F k)
  {a':Act} (ht:a'.tmps=a.tmps) (hd:dfOK base F1 F' W' a'.defers):RelE base X F1 B ⟨F',E.β,E.ν⟩ s a' W':=by
 refine ⟨hd,by rw [ht];exact R.size,λ t g e hk=>?_,λ m b hb=>?_,R.sep,ii,iii,λ m l e hm=>?_,λ k hk=>Nat.lt_of_lt_of_le (R.old k hk) hsz,R.pin,R.pinL⟩
 ·obtain ⟨y,e1,e2⟩:=R.slots t g e hk
  exact ⟨y,by rw [ht];exact e1,jd6.shift hC i e2⟩
 ·obtain ⟨k1,k2⟩:=R.mem m b hb
  refine ⟨k1,?_⟩
  cases b with
  | cells l =>
   obtain ⟨g1,g2,arr,t,g3,g4⟩:=k2
   exact ⟨g1,λ h=>g2 (iv _ ⟨_,_,_,g3⟩ h),arr,t,hC _ _ _ _ g3,g4.mono λ _ _=>jb9.shift hC i⟩
  | row z n r =>
   obtain ⟨g0,gz,gF,e,xs,go,gr⟩:=k2
   have own:∀k,(E.ν m).ownBlock=some k->IsC w k:=by
    intro k hk
    rcases go.1.2 with ⟨e1,_⟩ | ⟨g,cap,cur,e1,⟨fz,_,hg⟩,_⟩
    ·rw [e1] at hk;simp [Value.ownBlock] at hk
    ·rw [e1] at hk
     simp only [Value.ownBlock,Option.some.injEq] at hk
     subst hk
     exact ⟨_,_,_,hg⟩
   refine ⟨g0,gz,λ k hk h=>gF k hk (iv k (own k hk) h),e,xs,⟨go.1.heap λ k hk=>?_,go.2⟩,λ i' j hi hj=>?_⟩
   ·obtain ⟨arr,t,fr,h⟩:=own k hk
    rw [h,hC _ _ _ _ h]
   ·obtain ⟨u,e1,e2⟩:=gr i' j hi hj
    exact ⟨u,e1,e2.shift hC i⟩
  | fro z n r=>exact Rep.shift hC i k2
  | dead=>trivial
 ·obtain ⟨g1,arr,t,g2,g3⟩:=R.glob m l e hm
  exact ⟨i _ ⟨_,_,_,g2⟩ g1,arr,t,hC _ _ _ _ g2,g3.mono λ _ _=>Rep.shift hC i⟩
def zb2 (B:Nat->(Nat×Value)×Bool):SV->Value->Prop
 | .x (.c (.v x)),y=>y=x/\jh6 x=true
 | .x (.c (.ptr m off)),y=>y=.pointer (some ⟨if GB<=m then m - GB else (B m).1.1,off,none⟩)/\PN<=m
 | _,_=>False
def yb9 (B:Nat->(Nat×Value)×Bool) (slots:List GV) (tm:Array Value):Prop:=tm.size=slots.length/\∀(t:Nat) (g:GV),slots[t]?=some g->g.k=true->∃y,tm[t]?=some y/\zb2 B g.v y
theorem RelE.zb3 (R:RelE base X F0 B E s a w) (hp:s.tmps.all pinG=true):yb9 B s.tmps a.tmps:=by
 refine ⟨R.size,λ t g e hk=>?_⟩
 obtain ⟨y,e1,e2⟩:=R.slots t g e hk
 refine ⟨y,e1,?_⟩
 have hg:=List.all_eq_true.1 hp g (List.mem_of_getElem? e)
 unfold pinG at hg
 rw [hk,cond_true] at hg
 split at hg
 ·rename_i x hx
  rw [hx] at e2 ⊢
  have e2:Rep E.F w (.v x) y:=e2
  cases e2
  exact ⟨rfl,hg⟩
 ·rename_i m off hx
  rw [hx] at e2 ⊢
  have hP:=jy2 hg
  refine ⟨?_,hP⟩
  have e3:y=.pointer (some ⟨adr E m,off,none⟩):=e2.2
  rw [e3]
  unfold adr
  split
  ·rfl
  ·rename_i hm
   have hl:live s m:=e2.1
   rcases hl with hl | hl
   ·rw [(R.pin m (Or.inl hP) hl).1]
   ·omega
 ·simp at hg
theorem RelE.y09 (R:RelE base X F0 B E s a w) {slots:List GV} {tm:Array Value} (hf:yb9 B slots tm) (hl:slots.all (vi8 s.mem)=true) {ds:List Deferred} (hd:dfOK base F0 E.F w ds) {p:Prop} {li:List Tmp} {gen:Nat} :
  RelE base X F0 B E ⟨slots,s.mem,p,li,gen⟩ ⟨tm,ds⟩ w:=by
 have hL:live ⟨slots,s.mem,p,li,gen⟩=live s:=rfl
 refine ⟨hd,hf.1,λ t g e hk=>?_,λ m b hb=>by rw [hL];exact R.mem m b hb,R.sep,R.frz,R.sub,R.glob,R.old,R.pin,R.pinL⟩
 obtain ⟨y,e1,e2⟩:=hf.2 t g e hk
 refine ⟨y,e1,?_⟩
 have hg:=List.all_eq_true.1 hl g (List.mem_of_getElem? e)
 unfold vi8 at hg
 rw [hk,cond_true] at hg
 unfold zb2 at e2
 split at e2
 ·rename_i x hx
  obtain ⟨rfl,hp⟩:=e2
  rw [hx]
  exact Rep.v hp
 ·rename_i m off hx
  rw [hx] at hg ⊢
  simp only at hg
  obtain ⟨rfl,hP⟩:=e2
  rw [hL]
  by_cases hG:GB<=m
  ·rw [show Nat.ble GB m=true from vh4 hG,cond_true] at hg
   refine ⟨Or.inr ⟨hG,hg⟩,?_⟩
   unfold adr
   rw [if_pos hG,if_pos hG]
  ·have hb:Nat.ble GB m=false:=by
    cases h:Nat.ble GB m
    ·rfl
    ·exact absurd (jy2 h) hG
   rw [hb,cond_false] at hg
   refine ⟨Or.inl hg,?_⟩
   unfold adr
   rw [if_neg hG,if_neg hG,(R.pin m (Or.inl hP) hg).1]
 ·exact e2.elim
theorem vi9 {slots:List GV} {blocks:List (Nat×Blk)} (h:slots.all (y08 blocks)=true):slots.all (vi8 (jp7 blocks))=true:=by
 refine List.all_eq_true.2 λ g hg=>?_
 have:=List.all_eq_true.1 h g hg
 unfold y08 at this
 unfold vi8
 cases hk:g.k
 ·rfl
 ·rw [hk,cond_true] at this
  rw [cond_true]
  split
  ·rename_i m off hx
   rw [hx] at this
   exact this
  ·rfl
theorem RelE.slot (R:RelE base X F0 B E s a w) (d:Tmp) (g:GV) (y:Value) (hy:g.k=true->jd6 (live s) E w g.v y):RelE base X F0 B E ⟨s.tmps.set d g,s.mem,s.ok,s.lits,s.gen⟩ (a.put (some d) y) w :=
 R.go (some d) g y s.ok s.lits s.gen (Later.refl _ _ _) (λ _ _=>rfl) (λ _ h=>h) hy R.mem R.sep R.frz (Nat.le_refl _) (λ _ _ h=>h)
theorem Rel.q48 {mem:Nat->Option Blk} {gen:Nat} {ds:List Deferred}:∀(ps:List Tmp) (vs v:List Int) (j:Nat) (T:List GV) (tm:Array Value),ps.length=vs.length->vs=v.drop j->RelE base X F0 B E ⟨T,mem,True,[],gen⟩ ⟨tm,ds⟩ w->
  RelE base X F0 B E ⟨q48 nthI T ps j v,mem,True,[],gen⟩ ⟨(ps.zip (vs.map λ x=>Value.int .i64 x)).foldl (λ t p=>t.setIfInBounds p.1 p.2) tm,ds⟩ w
 | p :: ps,x :: vs,v,j,T,tm,hl,hv,R=>by
  have e1:nthI v j=x:=by
   unfold nthI
   have:v[j]?=some x:=by
    have:=congrArg (λ l=>l[0]?) hv
    simp only [List.getElem?_cons_zero,List.getElem?_drop,Nat.add_zero] at this
    exact this.symm
   rw [this];rfl
  have e2:vs=v.drop (j + 1):=by
   have:=congrArg List.tail hv
   simpa [List.tail_drop] using this
  exact Rel.q48 ps vs v (j + 1) _ _ (by simpa using hl) e2 (R.slot p (gnow (.x (.c (.v (.int .i64 (nthI v j)))))) (.int .i64 x) λ _=>by rw [e1];exact Rep.v rfl)
 | [],[],v,j,T,tm,_,_,R=>by unfold QR.q48;simpa using R
 | [],_ :: _,v,j,T,tm,h,_,R=>by simp at h
 | _ :: _,[],v,j,T,tm,h,_,R=>by simp at h
theorem Rel.mvs {mem:Nat->Option Blk} {gen:Nat}:∀(mv:List (Tmp×Tmp)) (T:List GV) (a:Act),RelE base X F0 B E ⟨T,mem,True,[],gen⟩ a w->RelE base X F0 B E ⟨mvT T mv,mem,True,[],gen⟩ (mvA a mv) w
 | [],T,a,R=>R
 | (d,t) :: mv,T,a,R=>Rel.mvs mv _ _ (R.slot d (T.getD t (gnow (.tup []))) (a.eval (.tmp t)) λ hk=>R.eval (.tmp t) hk)
theorem q49 {F:Fence} {n:Nat} {Q:Exit->Act->World->Prop} {K:Act->World->Prop}:∀(c:Code) (mv:List (Tmp×Tmp)) (a:Act) (w:World),jh3 c=some mv->K (mvA a mv) w->c.wpIn F n P (Exit.then K Q) a w
 | .skip,mv,a,w,h,hK=>by
  simp only [jh3,Option.some.injEq] at h
  subst h
  exact wpIn_skip hK
 | .region id ops d,mv,a,w,h,hK=>by
  cases d with
  | true=>simp [jh3] at h
  | false =>
   simp only [jh3] at h
   refine wpIn_region_list ?_
   have go:∀(l:List Oper) (mv:List (Tmp×Tmp)) (a:Act),ve0 l=some mv->K (mvA a mv) w->wpListIn F n P ops (Exit.then K Q) l a w:=by
    intro l
    induction l with
    | nil =>
     intro mv a h hK
     simp only [ve0,Option.some.injEq] at h
     subst h
     exact wpListIn_nil hK
    | cons o l ih =>
     intro mv a h hK
     unfold ve0 at h
     split at h <;> try (simp at h;done)
     rename_i p m h1 h2
     simp only [Option.some.injEq] at h
     subst h
     unfold zb0 at h1
     split at h1 <;> try (simp at h1;done)
     rename_i d t hd ho hg
     simp only [Option.some.injEq] at h1
     subst h1
     refine wpListIn_plain hg λ K' hK'=>Go.BigFrame.wpIn_assign (.tmp t) ho (hK' _ _ ?_)
     rw [hd]
     exact ih m _ h2 hK
   exact go _ mv a h hK
 | .seq x y,mv,a,w,h,hK=>by
  unfold jh3 at h
  split at h <;> try (simp at h;done)
  rename_i l m h1 h2
  simp only [Option.some.injEq] at h
  subst h
  rw [yb8] at hK
  refine wpIn_seq ?_
  exact wpIn_mono (q49 (K:=λ a w=>y.wpIn F n P (Exit.then K Q) a w) (Q:=Exit.then K Q) x l a w h1 (q49 y m _ w h2 hK)) λ e a' w' q=>by cases e <;> exact q
 | .label _,_,_,_,h,_=>by simp [jh3] at h
 | .cond ..,_,_,_,h,_=>by simp [jh3] at h
 | .loop _,_,_,_,h,_=>by simp [jh3] at h
 | .block ..,_,_,_,h,_=>by simp [jh3] at h
 | .exit _,_,_,_,h,_=>by simp [jh3] at h
 | .ret,_,_,_,h,_=>by simp [jh3] at h
 | .rangeFunc ..,_,_,_,h,_=>by simp [jh3] at h
 | .scope _,_,_,_,h,_=>by simp [jh3] at h
 | .goto _,_,_,_,h,_=>by simp [jh3] at h
 | .refuse _,_,_,_,h,_=>by simp [jh3] at h
end
section
variable {P:Program} {O:ja8} {base:Nat} {X F0:Nat->Prop} {B:Nat->(Nat×Value)×Bool} {s:PSt} {a:Act} {w:World}
theorem y10 (ps:Array Tmp) (vs:List Value) (T:Array Value):(ps.zip vs.toArray).foldl (λ t (p,v)=>t.setIfInBounds p v) T=(ps.toList.zip vs).foldl (λ t p=>t.setIfInBounds p.1 p.2) T:=by
 rw [<- Array.foldl_toList]
 simp [Array.toList_zip]
theorem vj0 {W W':World} {row:Option Nat} (hg:W.grownBy W' row) (hr:∀r,row=some r->∃o:Obj,W.heap[r]?=some o/\o.isCells=false):jr7 W W':=by
 intro k arr t fr h
 rw [hg.block k (Array.getElem?_eq_some_iff.1 h).1 λ e=>?_]
 ·exact h
 ·obtain ⟨o,h1,h2⟩:=hr k e.symm
  rw [h] at h1
  simp only [Option.some.injEq] at h1
  subst h1
  simp [Obj.isCells] at h2
theorem ve1 (hO:je9 P O) (hm:P.follows .mixedOrders=true) {IT:jx8} (hIT:IT.OK P) {L:Nat->Option Ann} {J:Nat->Option Inl} (hJ:∀n c,J n=some c->qg3 P c/\GB<=c.T) (hNF:nf B) {r:RAnn} {g:Operand} {ps:Array Tmp} {assign body:Code} {k:Ex->PSt->Prop} {Q:Exit->Act->World->Prop} {w0:World} (hb0:base<=w0.heap.size) (hk:∀e s,k e s->s.ok)
  (hq:∀B':Nat->(Nat×Value)×Bool,agree 1000 B' B->nf B'->∀e s a w,Rel base X F0 B' s a w->jc4 base X F0 w0 w->base<=w.heap.size->k e s->Q (exOf e) a w)
  (R:Rel base X F0 B s a w) (hbel:jc4 base X F0 w0 w) (hb:base<=w.heap.size) (h:vo5 P O L J IT g ps assign body r k s):(Code.rangeFunc g ps assign body).wp P Q a w:=by
 unfold vo5 at h
 split at h <;> try (exact h.elim)
 rename_i f l mv hg hmv
 obtain ⟨hok,hbool,hITv,hlen,hgood,hmeet,hround,hend⟩:=h
 obtain ⟨W_it,W_nth,W_ln,W_snoc,W_len⟩:=IT
 obtain ⟨hIT,e1,e2,e3,e4⟩:=hIT
 simp only at e1 e2 e3 e4
 subst e1 e2 e3 e4
 obtain ⟨hen,hit⟩:=hIT _ _ _ _ _ hITv
 simp only [Bool.and_eq_true] at hbool
 obtain ⟨⟨hnd,hpin⟩,hself⟩:=hbool
 obtain ⟨E,R⟩:=R
 have hv:Rep E.F w (.clo f l) (a.eval g):=by
  have:=R.eval g (by rw [hg])
  rw [hg] at this
  exact this
 have hbs:∃bs:List Nat,Fa2 (λ (c:List Value) (b:Nat)=>E.F b/\∃t,w.heap[b]?=some (.cells c.toArray t (0,0))) l bs/\a.eval g=.func (.func f) #[] (bs.map λ b=>Value.pointer (some ⟨b,0,none⟩)).toArray:=by
  generalize a.eval g=y at hv
  cases hv with
  | clo bs h=>exact ⟨bs,h,rfl⟩
 obtain ⟨bs,hbs,hgv⟩:=hbs
 have hbsF:∀b∈bs,E.F b:=by
  intro b hb
  obtain ⟨i,hi,e⟩:=List.getElem_of_mem hb
  have hl:=hbs.len
  obtain ⟨b',e1,e2⟩:=hbs.get (i:=i) (a:=l[i]'(by omega)) (by simp)
  rw [List.getElem?_eq_getElem hi,e] at e1
  simp only [Option.some.injEq] at e1
  subst e1
  exact e2.1
 let ρ:=rho (rename s r.slots (r.blocks []))
 let B':Nat->(Nat×Value)×Bool:=λ m=>if PN + 1000<=m then ((E.β (ρ m),E.ν (ρ m)),false) else B m
 have hBB:agree 1000 B' B:=λ m hm=>if_neg (by omega)
 have hN':nf B':=λ m=>by
  show (if PN + 1000<=m then ((E.β (ρ m),E.ν (ρ m)),false) else B m).2=false
  split
  ·rfl
  ·exact hNF m
 obtain ⟨E',eF,_,R'⟩:=Inv.relE (I:=r.inv r.slots) (i:=[]) (yw7 _) hmeet (s.gen + 1) R (B':=B') hN' λ m b hm hP=>by
  by_cases h1:PN + 1000<=m
  ·have e:B' m=((E.β (ρ m),E.ν (ρ m)),false):=if_pos h1
   rw [e];exact ⟨rfl,rfl⟩
  ·have hmem:=jn6 hm
   have hs:=List.all_eq_true.1 hself _ hmem
   rw [show Nat.ble PN m=true from vh4 hP,cond_true] at hs
   have h2:Nat.ble (PN + 1000) m=false:=by
    cases h:Nat.ble (PN + 1000) m
    ·rfl
    ·exact absurd (jy2 h) h1
   rw [h2,cond_false] at hs
   have e:=Nat.eq_of_beq_eq_true hs
   have hB:=qp2 hmeet.2.2 _ hmem
   have e':ρ m=m:=e
   show E.β (ρ m)=(B' m).1.1/\E.ν (ρ m)=(B' m).1.2
   rw [e',hBB m (by omega)]
   refine R.pin m (Or.inl hP) ?_
   have hB:leB _ (s.mem (ρ m)) b:=hB
   rw [e'] at hB
   cases hs:s.mem m with
   | none=>rw [hs] at hB;cases b <;> exact hB.elim
   | some b0=>rfl
 have hslots:yb9 B' r.slots a.tmps:=R'.zb3 hpin
 have EFsub:∀k,E.F k->k < w.heap.size:=λ k hk=>(R.frz k hk).1
 let st:List (List Int)->PSt:=λ pre=>⟨r.slots,jp7 (r.blocks pre),True,[],s.gen + 1⟩
 let I:List { v:List Int // r.ok v }->World->Prop:=λ pre W=>r.good (pre.map (·.1))/\Rel base X E.F B' (st (pre.map (·.1))) ⟨a.tmps,[]⟩ W/\jc4 base X E.F w W
 let Ix:Code->List { v:List Int // r.ok v }->World->Prop:=λ c _ W=>∃(e:Ex) (s':PSt),((e=.ret/\c=.ret)\/∃m,e=.exit m/\c=.exit m)/\k e s'/\Rel base X E.F B' s' ⟨a.tmps,[]⟩ W/\jc4 base X E.F w W
 have grown:∀{s':PSt} {W W':World} {row:Option Nat},Rel base X E.F B' s' ⟨a.tmps,[]⟩ W->jc4 base X E.F w W->W.grownBy W' row->(∀r,row=some r->w.heap.size<=r/\∃o:Obj,W.heap[r]?=some o/\o.isCells=false)->Rel base X E.F B' s' ⟨a.tmps,[]⟩ W'/\jc4 base X E.F w W':=by
  intro s' W W' row ⟨E1,R1⟩ hK hg' hr
  have hC:=vj0 hg' λ r e=>(hr r e).2
  refine ⟨⟨_,R1.shift hC hg'.size (F':=λ k=>E1.F k/\row≠some k) (λ k hc hF=>⟨hF,λ e=>?_⟩) (λ k hk=>?_) (λ k hk=>⟨R1.sub k hk,λ e=>?_⟩) (λ k _ hk=>hk.1) rfl trivial⟩,?_⟩
  ·obtain ⟨o,h1,h2⟩:=(hr k e).2
   obtain ⟨arr,t,fr,h3⟩:=hc
   rw [h3] at h1
   simp only [Option.some.injEq] at h1
   subst h1
   simp [Obj.isCells] at h2
  ·have:=R1.frz k hk.1
   exact ⟨Nat.lt_of_lt_of_le this.1 hg'.size,this.2⟩
  ·have:=EFsub k hk
   have:=(hr k e).1
   omega
  ·refine ⟨⟨hg'.os.trans hK.os,hg'.tape.trans hK.tape,hg'.output.trans hK.output,Nat.le_trans hK.size hg'.size,λ i hi hx=>?_⟩,λ i hi=>?_⟩
   ·have hsz:=hK.size
    rw [hg'.block i (by omega) λ e=>by have:=(hr i e.symm).1;omega]
    exact hK.block i hi hx
   ·have:=EFsub i hi
    have hsz:=hK.size
    rw [hg'.block i (by omega) λ e=>by have:=(hr i e.symm).1;omega]
    exact hK.fro i hi
 have leave:∀(D:Nat) (s':PSt) (W:World),w.heap.size<=D->Rel base X E.F B' s' ⟨a.tmps,[]⟩ W->jc4 base X E.F w W->W.heap[D]?=some (.deferred (some []))->
   Rel base X F0 B' s' { a with defers:={ target:=.collected D,args:=#[] } :: a.defers } W/\jc4 base X F0 w0 W/\base<=W.heap.size:=by
  intro D s' W hD ⟨E1,R1⟩ hK hDW
  have hDlt:D < W.heap.size:=(Array.getElem?_eq_some_iff.1 hDW).1
  refine ⟨⟨_,R1.shift (λ _ _ _ _ h=>h) (Nat.le_refl _) (F':=λ k=>E1.F k\/k=D) (λ k _ hF=>Or.inl hF) (λ k hk=>?_) (λ k hk=>Or.inl (R1.sub k (R.sub k hk))) (λ k hc hk=>?_) rfl ?_⟩,?_,?_⟩
  ·rcases hk with hk | rfl
   ·have h1:=R1.frz k hk
    refine ⟨h1.1,?_⟩
    rcases h1.2 with h2 | h2
    ·exact (R.frz k h2).2
    ·exact Or.inr h2
   ·exact ⟨hDlt,Or.inr (Or.inl (by omega))⟩
  ·rcases hk with hk | rfl
   ·exact hk
   ·obtain ⟨arr,t,fr,h3⟩:=hc
    rw [hDW] at h3
    simp at h3
  ·refine ⟨⟨D,rfl,Or.inr rfl,⟨by omega,λ h=>by have:=EFsub D (R.sub D h);omega⟩,hDW,λ d' hd' e=>?_⟩,?_⟩
   ·have:∀(l:List Deferred),dfOK base F0 E.F w l->∀d'∈l,∃D',d'={ target:=.collected D',args:=#[] }/\E.F D':=by
     intro l
     induction l with
     | nil=>intro _ d' h;simp at h
     | cons x l ih =>
      rintro ⟨⟨D',e1,e2,_⟩,h⟩ d' hd
      rcases List.mem_cons.1 hd with rfl | hd
      ·exact ⟨D',e1,e2⟩
      ·exact ih h d' hd
    obtain ⟨D',e1,e2⟩:=this _ R.defers d' hd'
    rw [e] at e1
    simp only [Deferred.mk.injEq,Target.collected.injEq,and_true] at e1
    subst e1
    have:=EFsub D e2
    omega
   ·exact R.defers.later (λ k hk=>Or.inl (R1.sub k hk)) hK.fro
  ·exact hbel.trans (hK.less R.sub)
  ·have:=hK.size;omega
 refine (wpIn_wide (n:=2)).1 (wpIn_rangeFunc_ownG (α:={ v:List Int // r.ok v }) (F:=Fence.wide) (n:=2) rfl (by decide) (gf:=f) hgv trivial hen (hit w bs (hbs.mono λ _ _ h=>h.2) 1)
  (λ h1 h2 b hb=>(h2 b hb).trans (h1 b hb)) (λ W i o o' hi _ _ _ b hb=>World.putObj_heap_other (by have:=EFsub b (hbsF b hb);omega)) (Below.refl _ _) (λ x=>by simp [hlen x.1 x.2]) I Ix ?_ ?_ ?_
  (λ x=>mvA ⟨(ps.zip ((x.1.map λ x=>Value.int .i64 x).toArray)).foldl (λ t (p,v)=>t.setIfInBounds p v) a.tmps,[]⟩ mv) ?_ ?_ ?_ ?_)
 ·intro pre W W' row hs hg' hr
  obtain ⟨h1,h2,h3⟩:=hs
  exact ⟨h1,grown h2 h3 hg' hr⟩
 ·intro c pre W W' row hs hg' hr
  obtain ⟨e,s',h1,h2,h3,h4⟩:=hs
  exact ⟨e,s',h1,h2,grown h3 h4 hg' hr⟩
 ·refine ⟨hgood,⟨_,R'.shift (λ _ _ _ _ h=>h) (Nat.le_refl _) (F':=E.F) (λ k _ hF=>by rw [<- eF];exact hF) (λ k hk=>⟨EFsub k hk,Or.inl hk⟩) (λ k hk=>hk) (λ k _ hk=>by rw [eF];exact hk) rfl trivial⟩,jc4.refl _ _ _ _⟩
 ·intro _ x W K hK
  exact q49 assign mv _ W hmv hK
 ·intro l' pre x W ⟨hgd,⟨E1,R1⟩,hK⟩ hN
  have hsz:=hK.size
  have R2:RelE base X E.F B' E1 ⟨mvT (q48 nthI r.slots ps.toList 0 x.1) mv,jp7 (r.blocks (pre.map (·.1))),True,[],s.gen + 1⟩ (mvA ⟨(ps.zip ((x.1.map λ x=>Value.int .i64 x).toArray)).foldl (λ t (p,v)=>t.setIfInBounds p v) a.tmps,[]⟩ mv) W:=by
   rw [y10]
   exact Rel.mvs mv _ _ (Rel.q48 ps.toList x.1 x.1 0 _ _ (by simp [hlen x.1 x.2]) (by simp) R1)
  let nonC:Nat->Prop:=λ k=>∃o:Obj,W.heap[k]?=some o/\o.isCells=false
  let F1:Nat->Prop:=λ k=>E1.F k\/nonC k
  have notC:∀{k:Nat} {V:World},IsC V k->(∃o:Obj,V.heap[k]?=some o/\o.isCells=false)->False:=by
   intro k V ⟨arr,t,fr,h1⟩ ⟨o,h2,h3⟩
   rw [h1] at h2
   simp only [Option.some.injEq] at h2
   subst h2
   simp [Obj.isCells] at h3
  have R3:Rel base X F1 B' ⟨mvT (q48 nthI r.slots ps.toList 0 x.1) mv,jp7 (r.blocks (pre.map (·.1))),True,[],s.gen + 1⟩ (mvA ⟨(ps.zip ((x.1.map λ x=>Value.int .i64 x).toArray)).foldl (λ t (p,v)=>t.setIfInBounds p v) a.tmps,[]⟩ mv) W :=
   ⟨_,R2.shift (λ _ _ _ _ h=>h) (Nat.le_refl _) (F':=F1) (λ k _ hF=>Or.inl hF) (λ k hk=>⟨hk.elim (λ h=>(R1.frz k h).1) λ ⟨o,h,_⟩=>(Array.getElem?_eq_some_iff.1 h).1,Or.inl hk⟩) (λ k hk=>hk) (λ k hc hk=>hk.elim (λ h=>h) λ h=>(notC hc h).elim) rfl (by rw [qy7];trivial)⟩
  have back:∀(s':PSt) (a':Act) (W':World),Rel base X F1 B' s' a' W'->jc4 base X F1 W W'->r.slots.all (vi8 s'.mem)=true->∀(p:Prop) (li:List Tmp) (gen:Nat),Rel base X E.F B' ⟨r.slots,s'.mem,p,li,gen⟩ ⟨a.tmps,[]⟩ W':=by
   intro s' a' W' ⟨E2,R4⟩ hK2 hl p li gen
   have R5:=R4.y09 (slots:=r.slots) (tm:=a.tmps) hslots hl (ds:=[]) trivial (p:=p) (li:=li) (gen:=gen)
   refine ⟨_,R5.shift (λ _ _ _ _ h=>h) (Nat.le_refl _) (F':=λ k=>E2.F k/\(IsC W' k\/E.F k)) (λ k hc hF=>⟨hF,Or.inl hc⟩) (λ k hk=>?_) (λ k hk=>⟨R4.sub k (Or.inl (R1.sub k hk)),Or.inr hk⟩) (λ k _ hk=>hk.1) rfl trivial⟩
   obtain ⟨h1,h2⟩:=hk
   have h3:=R4.frz k h1
   refine ⟨h3.1,?_⟩
   rcases h2 with h2 | h2
   ·rcases h3.2 with (h4 | h4) | h4
    ·exact (R1.frz k h4).2
    ·obtain ⟨o,h5,h6⟩:=h4
     exact (notC h2 ⟨o,by rw [hK2.fro k (Or.inr ⟨o,h5,h6⟩)];exact h5,h6⟩).elim
    ·exact Or.inr h4
   ·exact Or.inl h2
  have kf:∀{W':World},jc4 base X F1 W W'->KeepsFrom w.heap.size W W'/\jc4 base X E.F w W'/\∀b∈bs,W'.heap[b]?=W.heap[b]?:=λ {W'} hK2 =>
   ⟨⟨hK2.size,λ k o _ h1 h2=>(hK2.fro k (Or.inr ⟨o,h1,h2⟩)).trans h1⟩,hK.trans (hK2.less λ k hk=>Or.inl (R1.sub k hk)),λ b hb=>hK2.fro b (Or.inl (R1.sub b (hbsF b hb)))⟩
  have hpre:(pre ++ [x]).map (·.1)=jx7 (pre.map (·.1)) x.1:=by simp [jx7]
  refine jc6 (rl:=l') (dp:=0) (base:=base) (X:=X) (F0:=F1) (B:=B') hO hm hJ hN' W (by omega) body (yt4 r k (jx7 (pre.map (·.1)) x.1)) _ _ _ W (λ e s' he=>?_) (λ e s' a' W' R4 hK2 hsz2 he=>?_) R3 (jc4.refl _ _ _ _) (by omega) (hround _ x.1 hgd (decide_eq_true (by unfold lnI;simpa using hN)) x.2) hnd (λ _ _ h=>h)
  ·cases e <;> exact he.1
  ·obtain ⟨k1,k2,k3⟩:=kf hK2
   cases e with
   | normal =>
    obtain ⟨_,hg2,hl,hmt⟩:=he
    refine ⟨k1,k3,?_,?_,k2⟩
    ·rw [hpre];exact hg2
    ·rw [hpre]
     have R5:=Inv.rel hN' hmt (s.gen + 1) R4
     exact back _ _ _ R5 hK2 (vi9 hl) _ _ _
   | exit m =>
    obtain ⟨_,hl,hk'⟩:=he
    exact ⟨k1,.exit m,_,Or.inr ⟨m,rfl,rfl⟩,hk',back _ _ _ R4 hK2 hl _ _ _,k2⟩
   | ret =>
    obtain ⟨_,hl,hk'⟩:=he
    exact ⟨k1,.ret,_,Or.inl ⟨rfl,rfl⟩,hk',back _ _ _ R4 hK2 hl _ _ _,k2⟩
 ·intro D xs W hD hS ⟨hgd,R1,hK⟩ hDW
  obtain ⟨q1,q2,q3⟩:=leave D (st (xs.map (·.1))) W hD R1 hK hDW
  exact hq B' hBB hN' .normal _ _ W (q1.lit True [] (s.gen + 2)) q2 q3 (hend _ hS hgd)
 ·intro D c pre W hD _ hIx hDW
  obtain ⟨e,s',h1,h2,h3,h4⟩:=hIx
  obtain ⟨q1,q2,q3⟩:=leave D s' W hD h3 h4 hDW
  rcases h1 with ⟨rfl,rfl⟩ | ⟨m,rfl,rfl⟩
  ·exact wpIn_ret (hq B' hBB hN' .ret _ _ W q1 q2 q3 h2)
  ·exact wpIn_exit (hq B' hBB hN' (.exit m) _ _ W q1 q2 q3 h2)
end
structure Cfg where
 L:Nat->Option Ann
 LR:Nat->Option RAnn
 J:Nat->Option Inl
 JT:Nat->Option Inl
 JP:Nat->Option Inv
 U:Nat
def ji2 (C:Cfg):Code->Bool
 | .rangeFunc _ _ _ _=>true
 | .region id _ _=>(C.JT id).isSome
 | .seq a b=>(C.JP (PR.keyOf b)).isSome || (ji2 C a || ji2 C b)
 | .cond _ a b=>ji2 C a || ji2 C b
 | .block _ a=>ji2 C a
 | .loop a=>ji2 C a
 | .scope a=>ji2 C a
 | _=>false
def je4 (P:Program) (O:ja8) (C:Cfg) (IT:jx8):Code->(Ex->PSt->Prop)->PSt->Prop
 | .region id ops draw,k,s=>match C.JT id with
  | some c=>if draw then False else inlC P O c id ops.toList (flush (k .normal)) s
  | none=>jc1 P O C.L C.J (.region id ops draw) k s
 | .seq x y,k,s=>match C.JP (PR.keyOf y) with
  | some I=>je4 P O C IT x (pinK C.U I k) s/\∀i,I.good i->je4 P O C IT y k (ist I i (s.gen + 1))
  | none=>bif ji2 C x || ji2 C y then je4 P O C IT x (λ e s'=>match e with
   | .normal=>je4 P O C IT y k s'
   | .exit id=>k (.exit id) s'
   | .ret=>k .ret s') s else jc1 P O C.L C.J (.seq x y) k s
 | .cond c x y,k,s=>bif ji2 C x || ji2 C y then condC s c (je4 P O C IT x k s) (je4 P O C IT y k s) else jc1 P O C.L C.J (.cond c x y) k s
 | .block id c,k,s=>bif ji2 C c then je4 P O C IT c (ju7 id k) s else jc1 P O C.L C.J (.block id c) k s
 | .rangeFunc g ps assign body,k,s=>match C.LR (PR.keyOf body) with
  | some r=>vo5 P O C.L C.J IT g ps assign body r k s
  | none=>False
 | c,k,s=>jc1 P O C.L C.J c k s
section
variable {P:Program} {O:ja8} {base:Nat} {X F0:Nat->Prop} {B:Nat->(Nat×Value)×Bool}
theorem jh0 {C:Cfg} {IT:jx8}:∀(c:Code) (k:Ex->PSt->Prop) (s:PSt),(∀e s,k e s->s.ok)->je4 P O C IT c k s->s.ok
 | .region id ops draw,k,s,hk,h=>by
  unfold je4 at h
  split at h
  ·split at h
   ·exact h.elim
   ·exact v01 (λ s hs=>hs.1) h
  ·exact jd1 _ k s hk h
 | .seq x y,k,s,hk,h=>by
  unfold je4 at h
  split at h
  ·exact jh0 x _ s (yc3 hk) h.1
  cases hr:ji2 C x || ji2 C y
  ·rw [hr,cond_false] at h;exact jd1 _ k s hk h
  ·rw [hr,cond_true] at h
   refine jh0 x _ s (λ e s' he=>?_) h
   cases e with
   | normal=>exact jh0 y k s' hk he
   | exit id=>exact hk _ _ he
   | ret=>exact hk _ _ he
 | .cond c x y,k,s,hk,h=>by
  unfold je4 at h
  cases hr:ji2 C x || ji2 C y
  ·rw [hr,cond_false] at h;exact jd1 _ k s hk h
  ·rw [hr,cond_true] at h
   unfold condC at h
   split at h <;> try (exact h.elim)
   rename_i b hb
   split at h
   ·cases b
    ·exact jh0 y k _ hk h
    ·exact jh0 x k _ hk h
   ·cases b
    ·exact jh0 y k _ hk h
    ·exact jh0 x k _ hk h
 | .block id c,k,s,hk,h=>by
  unfold je4 at h
  cases hr:ji2 C c
  ·rw [hr,cond_false] at h;exact jd1 _ k s hk h
  ·rw [hr,cond_true] at h;exact jh0 c _ s (jn7 hk) h
 | .rangeFunc g ps asg body,k,s,hk,h=>by
  unfold je4 at h
  split at h <;> try (exact h.elim)
  unfold vo5 at h
  split at h <;> try (exact h.elim)
  exact h.1
 | .skip,k,s,hk,h=>jd1 _ k s hk h
 | .label _,k,s,hk,h=>jd1 _ k s hk h
 | .loop _,k,s,hk,h=>jd1 _ k s hk h
 | .exit _,k,s,hk,h=>jd1 _ k s hk h
 | .ret,k,s,hk,h=>jd1 _ k s hk h
 | .scope _,k,s,hk,h=>jd1 _ k s hk h
 | .goto _,k,s,hk,h=>jd1 _ k s hk h
 | .refuse _,k,s,hk,h=>jd1 _ k s hk h
structure CfgOK (P:Program) (C:Cfg) (T:Nat):Prop where
 J:∀n c,C.J n=some c->qg3 P c/\GB<=c.T
 JT:∀n c,C.JT n=some c->qg3 P c/\T<=c.T
 JP:(∀n,C.JP n=none)\/T<=C.U
theorem jg3 (hO:je9 P O) (hm:P.follows .mixedOrders=true) {IT:jx8} (hIT:IT.OK P) {C:Cfg} {T:Nat} (hC:CfgOK P C T) (hT:T<=1000):∀c:Code,EvT T P c (je4 P O C IT c)
 | .region id ops draw=>λ base X F0 B w0 k Q s a w hb0 hNF hk hq R hbel hb h=>by
  unfold je4 at h
  split at h
  ·rename_i c hc
   split at h
   ·exact h.elim
   ·rename_i hd
    simp only [Bool.not_eq_true] at hd
    subst hd
    refine wp_region (q34 hO (hC.JT _ _ hc).1 (Or.inl hNF) (λ s hs=>hs.1) h R hb hbel λ B' hB hN s' a' w' R' hb' h=>?_)
    exact hq B' (hB.less (hC.JT _ _ hc).2) (hN hNF) .normal _ a' w' (R'.lit True s'.lits s'.gen) hb' (Nat.le_trans hb0 hb'.size) h.2
  ·exact jg2 hO hm C.L hC.J T _ base X F0 B w0 k Q s a w hb0 hNF hk hq R hbel hb h
 | .seq x y=>λ base X F0 B w0 k Q s a w hb0 hNF hk hq R hbel hb h=>by
  unfold je4 at h
  split at h
  ·rename_i I hI
   have hT5:T<=C.U:=hC.JP.resolve_left λ e=>by rw [e] at hI;simp at hI
   obtain ⟨h,hy⟩:=h
   refine wp_seq (jg3 hO hm hIT hC hT x base X F0 B w0 _ _ s a w hb0 hNF (yc3 hk) (λ B' hB hN' e s' a' w' R' hb' hb2 he=>?_) R hbel hb h)
   cases e with
   | normal =>
    obtain ⟨_,i,hg,hs,hmt⟩:=he
    obtain ⟨B2,hB2,hN2,R2⟩:=yc4 hN' hs hmt (s.gen + 1) R'
    exact jg3 hO hm hIT hC hT y base X F0 B2 w0 k Q _ a' w' hb0 hN2 hk (λ B3 hB3 hN3=>hq B3 (hB3.trans ((hB2.less hT5).trans hB)) hN3) R2 hb' hb2 (hy i hg)
   | exit id=>exact hq B' hB hN' _ s' a' w' R' hb' hb2 he
   | ret=>exact hq B' hB hN' _ s' a' w' R' hb' hb2 he
  cases hr:ji2 C x || ji2 C y
  ·rw [hr,cond_false] at h;exact jg2 hO hm C.L hC.J T _ base X F0 B w0 k Q s a w hb0 hNF hk hq R hbel hb h
  ·rw [hr,cond_true] at h
   refine wp_seq (jg3 hO hm hIT hC hT x base X F0 B w0 _ _ s a w hb0 hNF (λ e s' he=>?_) (λ B' hB hN' e s' a' w' R' hb' hb2 he=>?_) R hbel hb h)
   ·cases e with
    | normal=>exact jh0 y k s' hk he
    | exit id=>exact hk _ _ he
    | ret=>exact hk _ _ he
   ·cases e with
    | normal=>exact jg3 hO hm hIT hC hT y base X F0 B' w0 k Q s' a' w' hb0 hN' hk (λ B2 hB2 hN2=>hq B2 (hB2.trans hB) hN2) R' hb' hb2 he
    | exit id=>exact hq B' hB hN' _ s' a' w' R' hb' hb2 he
    | ret=>exact hq B' hB hN' _ s' a' w' R' hb' hb2 he
 | .cond c x y=>λ base X F0 B w0 k Q s a w hb0 hNF hk hq R hbel hb h=>by
  unfold je4 at h
  cases hr:ji2 C x || ji2 C y
  ·rw [hr,cond_false] at h;exact jg2 hO hm C.L hC.J T _ base X F0 B w0 k Q s a w hb0 hNF hk hq R hbel hb h
  ·rw [hr,cond_true] at h
   unfold condC at h
   split at h <;> try (exact h.elim)
   rename_i b hb'
   have ev:a.eval c=.bool b:=by
    obtain ⟨E,R⟩:=R
    have:=R.eval c (by rw [hb'])
    rw [hb'] at this
    exact cv_v this
   have h:ja0 b (je4 P O C IT x k s) (je4 P O C IT y k s):=by
    split at h
    ·cases b <;> exact h
    ·exact h
   rw [ja1] at h
   refine wp_cond_split (t:=b) ev (λ e=>?_) (λ e=>?_)
   ·exact jg3 hO hm hIT hC hT x base X F0 B w0 k Q _ a w hb0 hNF hk hq R hbel hb (h.1 e)
   ·exact jg3 hO hm hIT hC hT y base X F0 B w0 k Q _ a w hb0 hNF hk hq R hbel hb (h.2 e)
 | .block id c=>λ base X F0 B w0 k Q s a w hb0 hNF hk hq R hbel hb h=>by
  unfold je4 at h
  cases hr:ji2 C c
  ·rw [hr,cond_false] at h;exact jg2 hO hm C.L hC.J T _ base X F0 B w0 k Q s a w hb0 hNF hk hq R hbel hb h
  ·rw [hr,cond_true] at h
   refine wp_block (jg3 hO hm hIT hC hT c base X F0 B w0 _ _ s a w hb0 hNF (jn7 hk) (λ B' hB hN' e s' a' w' R' hb' hb2 he=>?_) R hbel hb h)
   cases e with
   | normal=>exact hq B' hB hN' .normal s' a' w' R' hb' hb2 he
   | exit m =>
    simp only [ju7] at he
    simp only [exOf,Exit.inBlock]
    split
    ·rename_i e;rw [if_pos e] at he;exact hq B' hB hN' .normal s' a' w' R' hb' hb2 he
    ·rename_i e;rw [if_neg e] at he;exact hq B' hB hN' (.exit m) s' a' w' R' hb' hb2 he
   | ret=>exact hq B' hB hN' .ret s' a' w' R' hb' hb2 he
 | .rangeFunc g ps asg body=>λ base X F0 B w0 k Q s a w hb0 hNF hk hq R hbel hb h=>by
  unfold je4 at h
  split at h <;> try (exact h.elim)
  exact ve1 hO hm hIT hC.J hNF hb0 hk (λ B' hB hN'=>hq B' (hB.less hT) hN') R hbel hb h
 | .skip=>jg2 hO hm C.L hC.J T _
 | .label _=>jg2 hO hm C.L hC.J T _
 | .loop _=>jg2 hO hm C.L hC.J T _
 | .exit _=>jg2 hO hm C.L hC.J T _
 | .ret=>jg2 hO hm C.L hC.J T _
 | .scope _=>jg2 hO hm C.L hC.J T _
 | .goto _=>jg2 hO hm C.L hC.J T _
 | .refuse _=>jg2 hO hm C.L hC.J T _
end
def qs2 (P:Program) (O:ja8) (C:Cfg) (IT:jx8) (c:Code) (rs:List ResultVar) (n:Nat) (args:List AV) (V:List XV->List (List CV)->Prop):Prop :=
 je4 P O C IT c (λ e s=>match e with | .normal=>jz8 P rs (jd4 0 args) V s | .ret=>jz8 P rs (jd4 0 args) V s | .exit _=>False) (entry n args)
def y11 (P:Program) (O:ja8) (L:Nat->Option Ann) (LR:Nat->Option RAnn) (IT:jx8):Code->(Ex->PSt->Prop)->PSt->Prop:=je4 P O ⟨L,LR,λ _=>none,λ _=>none,λ _=>none,1000⟩ IT
def ve2 (P:Program) (O:ja8) (L:Nat->Option Ann) (LR:Nat->Option RAnn) (IT:jx8) (c:Code) (rs:List ResultVar) (n:Nat) (args:List AV) (V:List XV->List (List CV)->Prop):Prop :=
 y11 P O L LR IT c (λ e s=>match e with | .normal=>jz8 P rs (jd4 0 args) V s | .ret=>jz8 P rs (jd4 0 args) V s | .exit _=>False) (entry n args)
section
variable {P:Program} {O:ja8}
theorem qe0 (hO:je9 P O) (hm:P.follows .mixedOrders=true) {C:Cfg} (hC:CfgOK P C 500) {IT:jx8} (hIT:IT.OK P) {f:FuncId} {fn:Func} (hf:P.funcs[f]?=some fn) (hn:(fn.name == "runtime.NumGoroutine")=false) (hb:fn.body=some (fn.body.getD .skip)) {args:List AV} (hlen:args.length<=500) {ans:Ans}
  (h:qs2 P O C IT (fn.body.getD .skip) fn.results.toList fn.ntmps args (jb4 ans)) (hfr:Nat.ble (jc3 ans.res).length 1=true:=by rfl):ji5 P f args ans :=
 jq1 hf hn hb hlen (jg3 hO hm hIT hC (by omega) _) h hfr
theorem q50 (hO:je9 P O) (hm:P.follows .mixedOrders=true) (L:Nat->Option Ann) (LR:Nat->Option RAnn) {IT:jx8} (hIT:IT.OK P) {f:FuncId} {fn:Func} (hf:P.funcs[f]?=some fn) (hn:(fn.name == "runtime.NumGoroutine")=false) (hb:fn.body=some (fn.body.getD .skip)) {args:List AV} (hlen:args.length<=500) {ans:Ans}
  (h:ve2 P O L LR IT (fn.body.getD .skip) fn.results.toList fn.ntmps args (jb4 ans)) (hfr:Nat.ble (jc3 ans.res).length 1=true:=by rfl):ji5 P f args ans :=
 jq1 hf hn hb hlen (jg3 hO hm hIT ⟨no_J,λ _ _ h=>by simp at h,Or.inl λ _=>rfl⟩ (by omega) _) h hfr
end
end Go.Proofs.YthkidembkknoeaaDoor.QR
