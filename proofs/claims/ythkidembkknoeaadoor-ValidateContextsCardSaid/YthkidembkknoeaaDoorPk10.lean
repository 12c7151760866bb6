import Derived.Test.YthkidembkknoeaaDoorPk07
import Derived.Test.YthkidembkknoeaaDoorPk09
import Derived.RangeFuncWrites
import Derived.OrdersIn
import Derived.TacticsIn
import Derived.BigFrameIn
namespace Go.Proofs.YthkidembkknoeaaDoor.QR
open Go.RowKit PR
set_option linter.unusedVariables false
set_option linter.unusedSimpArgs false
def jm1 (o:Oper):Bool:=match o.op with
  | .defer _=>false
  | _=>true
def jh4:Code→Bool
  | .region _ ops _=>ops.toList.all jm1
  | .seq a b=>jh4 a && jh4 b
  | .cond _ a b=>jh4 a && jh4 b
  | .loop a=>jh4 a
  | .block _ a=>jh4 a
  | .skip=>true
  | .label _=>true
  | .exit _=>true
  | .ret=>true
  | _=>false
theorem js8 {x y:Code} (h:jh4 (.seq x y)=true):jh4 x=true∧jh4 y=true:=by simpa [jh4] using h
theorem v88 {c:Operand} {x y:Code} (h:jh4 (.cond c x y)=true):jh4 x=true∧jh4 y=true:=by simpa [jh4] using h
theorem vd2 {id:Nat} {ops:Array Oper} {d:Bool} (h:jh4 (.region id ops d)=true):∀o∈ops.toList,jm1 o=true:=by
  have h:ops.toList.all jm1=true:=h
  exact List.all_eq_true.1 h
theorem yx6 {o:Oper} (h:jm1 o=true):∀c,o.op≠ .defer c:=by
  intro c e
  unfold jm1 at h
  rw [e] at h
  simp at h
theorem ze2 {id:Nat} {Q:Exit→Act→World→Prop} (h:∀a w,¬ Q .outgrown a w):∀a w,¬ Exit.inBlock id Q .outgrown a w:=fun a w=>h a w
section
variable {P:Program} {rl dp:Nat} {Q:Exit→Act→World→Prop}
theorem yx7 {o:Oper} {a:Act} {w:World} {K:Act→World→Prop} (hd:jm1 o=true) (h:o.wp P a w K Q):o.wpIn (Fence.wide.inRound rl) dp P a w K Q:=by
  refine ⟨fun _ _=>trivial,?_⟩
  rw [show (Fence.wide.inRound rl).round=some rl from rfl,Oper.semAt_some rl _ _ (yx6 hd)]
  unfold Oper.wp at h
  generalize (execOp a.eval o).run P w=res at h ⊢
  cases res with
  | ok x w' =>
    cases x with
    | value v=>exact h
    | skip=>exact h
    | defer d=>exact h
    | enter f args =>
      rw [Oper.upon_enter] at h
      rw [Oper.uponIn_enter]
      exact ⟨fun h=>by simp [Fence.wide] at h,CallsIn.inRound rl (callsIn_wide.2 (h.mono fun e w'' q=>by cases e <;> exact q))⟩
    | row r args =>
      rw [Oper.upon_row] at h
      rw [Oper.uponIn_row]
      refine ⟨fun h=>by simp [Fence.wide] at h,fun c cs _=>?_⟩
      obtain ⟨v,w'',q,s⟩:=h c cs
      exact ⟨v,w'',q,stepsIn_wide.2 s⟩
    | _=>exact (show False from h).elim
  | halt e w' =>
    cases e with
    | panic v=>exact h
    | _=>exact (show False from h).elim
theorem qx0 {ops:Array Oper} (hd:∀o∈ops.toList,jm1 o=true) (hQ:∀a w,¬ Q .outgrown a w):∀(l:List Nat) (a:Act) (w:World),wpOps P ops Q l a w→wpOpsIn (Fence.wide.inRound rl) dp P ops Q l a w
  | [],a,w,h=>h
  | i :: l,a,w,h=>by
    unfold wpOps at h
    unfold wpOpsIn
    cases ho:ops[i]? with
    | none=>rw [ho] at h;exact qx0 hd hQ l a w h
    | some o =>
      rw [ho] at h
      simp only at h ⊢
      have hm:jm1 o=true:=hd o (by
        have:=Array.mem_of_getElem? ho
        exact Array.mem_toList_iff.2 this)
      split at h
      · rename_i hw
        rw [if_pos hw]
        rcases h with h | ⟨_,_,_,h⟩
        · exact yx7 hm (Oper.wp_mono (fun a w=>qx0 hd hQ l a w) h)
        · exact absurd h (hQ _ _)
      · rename_i hw
        rw [if_neg hw]
        exact ⟨fun _ _=>trivial,qx0 hd hQ l _ w h⟩
theorem least {p:Nat→Prop} (h:∃n,p n):∃n,p n∧∀m,p m→n≤m:=by
  obtain ⟨n,hn⟩:=h
  induction n using Nat.strongRecOn with
  | _ n ih =>
    by_cases e:∃m,m < n∧p m
    · obtain ⟨m,hm,hp⟩:=e;exact ih m hm hp
    · refine ⟨n,hn,fun m hp=>?_⟩
      by_cases hm:m < n
      · exact absurd ⟨m,hm,hp⟩ e
      · omega
theorem wpIn_loop' {F:Fence} {n:Nat} {c:Code} {ι:Type} (I:ι→Act→World→Prop) (μ:ι→Nat) {a:Act} {w:World} (i0:ι) (h₀:I i0 a w)
    (round:∀i a w,I i a w→c.wpIn F n P (Exit.then (fun a' w'=>∃j,I j a' w'∧μ j < μ i) Q) a w):(Code.loop c).wpIn F n P Q a w:=by
  classical
  let p:Act→World→Nat→Prop:=fun a w n=>∃i,I i a w∧μ i=n
  have ex:∀a w,(∃i,I i a w)→∃n,p a w n∧∀m,p a w m→n≤m:=fun a w ⟨i,h⟩=>least ⟨_,i,h,rfl⟩
  let m:Act→World→Nat:=fun a w=>if h:∃i,I i a w then Classical.choose (ex a w h) else 0
  have ms:∀a w (h:∃i,I i a w),p a w (m a w)∧∀k,p a w k→m a w≤k:=fun a w h=>by
    show p a w (if h:∃i,I i a w then Classical.choose (ex a w h) else 0)∧∀k,p a w k→(if h:∃i,I i a w then Classical.choose (ex a w h) else 0)≤k
    rw [dif_pos h]
    exact Classical.choose_spec (ex a w h)
  refine wpIn_loop (fun a w=>∃i,I i a w) m ⟨i0,h₀⟩ fun a w h=>?_
  obtain ⟨⟨i,hi,e⟩,_⟩:=ms a w h
  refine wpIn_mono (round i a w hi) fun e' a' w' q=>?_
  cases e' with
  | normal =>
    obtain ⟨j,hj,hlt⟩:=q
    refine ⟨⟨j,hj⟩,?_⟩
    have:=(ms a' w' ⟨j,hj⟩).2 _ ⟨j,hj,rfl⟩
    omega
  | _=>exact q
end
section
variable {P:Program} {O:ja7} {base:Nat} {X F0:Nat→Prop} {B:Nat→(Nat×Value)×Bool}
theorem q31 {rl dp:Nat} {id:Nat} {ops:Array Oper} {draw:Bool} {Q:Exit→Act→World→Prop} (hd:∀o∈ops.toList,jm1 o=true) (hQ':∀a w,¬ Q .outgrown a w) (hO:je9 P O) (hm:P.follows .mixedOrders=true) {s:PSt} {a:Act} {w w0:World} {k:PSt→Prop} (hk:∀s,k s→s.ok)
    (h:jq4 P O id ops.toList draw s k) (R:Rel base X F0 B s a w) (hb:base≤w.heap.size) (hbel:jc3 base X F0 w0 w) (hQ:∀s' a' w',Rel base X F0 B s' a' w'→jc3 base X F0 w0 w'→k s'→Q .normal a' w') :
    (Code.region id ops draw).wpIn (Fence.wide.inRound rl) dp P Q a w:=by
  rcases qo1 hO hm hk h R hb hbel hQ with ⟨e,h'⟩ | ⟨e,h'⟩
  · subst e
    refine wpIn_region_draw fun t=>?_
    simp only [Region.schedule,hm,Bool.true_or,if_true]
    exact qx0 hd hQ' _ _ _ (wpAny_sound ops.size t _ a _ h')
  · subst e
    exact wpIn_region (qx0 hd hQ' _ _ _ h')
theorem jc7 {rl dp:Nat} (hO:je9 P O) (hm:P.follows .mixedOrders=true) {L:Nat→Option Ann} {J:Nat→Option Inl} (hJ:∀n c,J n=some c→qf9 P c∧GB≤c.T) (hNF:nf B) (w0:World) (hb0:base≤w0.heap.size):∀(c:Code) (k:Ex→PSt→Prop) (Q:Exit→Act→World→Prop) (s:PSt) (a:Act) (w:World),
    (∀e s,k e s→s.ok)→(∀e s a w,Rel base X F0 B s a w→jc3 base X F0 w0 w→base≤w.heap.size→k e s→Q (exOf e) a w)→
    Rel base X F0 B s a w→jc3 base X F0 w0 w→base≤w.heap.size→jc0 P O L J c k s→jh4 c=true→(∀a w,¬ Q .outgrown a w)→c.wpIn (Fence.wide.inRound rl) dp P Q a w
  | .skip,k,Q,s,a,w,hk,hq,R,hbel,hb,h,hn,hQ=>wpIn_skip (hq .normal s a w R hbel hb h)
  | .label _,k,Q,s,a,w,hk,hq,R,hbel,hb,h,hn,hQ=>wpIn_label (hq .normal s a w R hbel hb h)
  | .exit id,k,Q,s,a,w,hk,hq,R,hbel,hb,h,hn,hQ=>wpIn_exit (hq (.exit id) s a w R hbel hb h)
  | .ret,k,Q,s,a,w,hk,hq,R,hbel,hb,h,hn,hQ=>wpIn_ret (hq .ret s a w R hbel hb h)
  | .region id ops draw,k,Q,s,a,w,hk,hq,R,hbel,hb,h,hn,hQ=>by
    unfold jc0 at h
    split at h
    · rename_i c hc
      split at h
      · exact h.elim
      · rename_i hd
        simp only [Bool.not_eq_true] at hd
        subst hd
        obtain ⟨d,hd,h⟩:=q15 hJ hc h
        refine wpIn_region (qx0 (vd2 hn) hQ _ _ _ (q14 hO hd.1 (Or.inl hNF) (fun s hs=>hs.1) h R hb hbel fun B' hB _ s' a' w' R' hb' h=>?_))
        exact hq .normal _ a' w' (Rel.reB hNF (R'.lit True s'.lits s'.gen) fun m hm=>hB m (by have:=hd.2;omega)) hb' (Nat.le_trans hb0 hb'.size) h.2
    · refine q31 (rl:=rl) (dp:=dp) (vd2 hn) hQ hO hm (fun s hs=>hs.1) h R hb hbel fun s' a' w' R' hb' h=>?_
      exact hq .normal _ a' w' (R'.lit True s'.lits s'.gen) hb' (Nat.le_trans hb0 hb'.size) h.2
  | .seq x y,k,Q,s,a,w,hk,hq,R,hbel,hb,h,hn,hQ=>by
    unfold jc0 at h
    split at h
    · rename_i I _
      obtain ⟨h,hc⟩:=h
      refine wpIn_seq (jc7 hO hm hJ hNF w0 hb0 x _ _ s a w (jg0 hk) (fun e s' a' w' R' hb' hb2 he=>?_) R hbel hb h (js8 hn).1 (fun a w=>hQ a w))
      cases e with
      | normal=>obtain ⟨j,hg,hj⟩:=he;exact jc7 hO hm hJ hNF w0 hb0 y k Q _ a' w' hk hq (Inv.rel hNF hj _ R') hb' hb2 (hc j hg) (js8 hn).2 hQ
      | exit id=>exact hq _ s' a' w' R' hb' hb2 he
      | ret=>exact hq _ s' a' w' R' hb' hb2 he
    · rename_i l _
      rw [ji5] at h
      obtain ⟨h,hc⟩:=h
      replace hc:=(jl5 l _ fun _ s=>jc0 P O L J y k s).1 hc
      refine wpIn_seq (jc7 hO hm hJ hNF w0 hb0 x _ _ s a w (jg0 hk) (fun e s' a' w' R' hb' hb2 he=>?_) R hbel hb h (js8 hn).1 (fun a w=>hQ a w))
      cases e with
      | normal=>obtain ⟨j,hg,hj⟩:=he;exact jc7 hO hm hJ hNF w0 hb0 y k Q _ a' w' hk hq (Inv.rel hNF hj _ R') hb' hb2 (hc j hg) (js8 hn).2 hQ
      | exit id=>exact hq _ s' a' w' R' hb' hb2 he
      | ret=>exact hq _ s' a' w' R' hb' hb2 he
    · rename_i f _
      rw [ji5] at h
      obtain ⟨h,hc⟩:=h
      replace hc:=(jl5 (f (qu0 s)) _ fun _ s=>jc0 P O L J y k s).1 hc
      refine wpIn_seq (jc7 hO hm hJ hNF w0 hb0 x _ _ s a w (jg0 hk) (fun e s' a' w' R' hb' hb2 he=>?_) R hbel hb h (js8 hn).1 (fun a w=>hQ a w))
      cases e with
      | normal=>obtain ⟨j,hg,hj⟩:=he;exact jc7 hO hm hJ hNF w0 hb0 y k Q _ a' w' hk hq (Inv.rel hNF hj _ R') hb' hb2 (hc j hg) (js8 hn).2 hQ
      | exit id=>exact hq _ s' a' w' R' hb' hb2 he
      | ret=>exact hq _ s' a' w' R' hb' hb2 he
    · rename_i l _
      obtain ⟨h,hc⟩:=h
      refine wpIn_seq (jc7 hO hm hJ hNF w0 hb0 x _ _ s a w (jw6 hk) (fun e s' a' w' R' hb' hb2 he=>?_) R hbel hb h (js8 hn).1 (fun a w=>hQ a w))
      cases e with
      | normal =>
        obtain ⟨s2,R2,h2⟩:=jq5 hNF hb2 l s' R' he hc
        exact jc7 hO hm hJ hNF w0 hb0 y k Q _ a' w' hk hq R2 hb' hb2 h2 (js8 hn).2 hQ
      | exit id=>exact hq _ s' a' w' R' hb' hb2 he
      | ret=>exact hq _ s' a' w' R' hb' hb2 he
    · rename_i l _
      obtain ⟨h,hc⟩:=h
      refine wpIn_seq (jc7 hO hm hJ hNF w0 hb0 x _ _ s a w (jw6 hk) (fun e s' a' w' R' hb' hb2 he=>?_) R hbel hb h (js8 hn).1 (fun a w=>hQ a w))
      cases e with
      | normal =>
        obtain ⟨s2,R2,h2⟩:=jq5 hNF hb2 (l (qu0 s)) s' R' he hc
        exact jc7 hO hm hJ hNF w0 hb0 y k Q _ a' w' hk hq R2 hb' hb2 h2 (js8 hn).2 hQ
      | exit id=>exact hq _ s' a' w' R' hb' hb2 he
      | ret=>exact hq _ s' a' w' R' hb' hb2 he
    · refine wpIn_seq (jc7 hO hm hJ hNF w0 hb0 x _ _ s a w (fun e s' he=>?_) (fun e s' a' w' R' hb' hb2 he=>?_) R hbel hb h (js8 hn).1 (fun a w=>hQ a w))
      · cases e with
        | normal=>exact jd0 y k s' hk he
        | exit id=>exact hk _ _ he
        | ret=>exact hk _ _ he
      · cases e with
        | normal=>exact jc7 hO hm hJ hNF w0 hb0 y k Q s' a' w' hk hq R' hb' hb2 he (js8 hn).2 hQ
        | exit id=>exact hq _ s' a' w' R' hb' hb2 he
        | ret=>exact hq _ s' a' w' R' hb' hb2 he
  | .cond c x y,k,Q,s,a,w,hk,hq,R,hbel,hb,h,hn,hQ=>by
    have core:∀k',(∀e s,k' e s→s.ok)→(∀e s a w,Rel base X F0 B s a w→jc3 base X F0 w0 w→base≤w.heap.size→k' e s→Q (exOf e) a w)→
        condC s c (jc0 P O L J x k' s) (jc0 P O L J y k' s)→(Code.cond c x y).wpIn (Fence.wide.inRound rl) dp P Q a w:=by
      intro k' hk' hq' h
      unfold condC at h
      split at h <;> try (exact h.elim)
      rename_i b hb'
      have ev:a.eval c=.bool b:=by
        obtain ⟨E,R⟩:=R
        have:=R.eval c (by rw [hb'])
        rw [hb'] at this
        exact cv_v this
      have h:ja0 b (jc0 P O L J x k' s) (jc0 P O L J y k' s):=by
        split at h
        · cases b <;> exact h
        · exact h
      rw [ja1] at h
      refine wpIn_cond_split (t:=b) ev (fun e=>?_) (fun e=>?_)
      · exact jc7 hO hm hJ hNF w0 hb0 x k' Q _ a w hk' hq' R hbel hb (h.1 e) (v88 hn).1 hQ
      · exact jc7 hO hm hJ hNF w0 hb0 y k' Q _ a w hk' hq' R hbel hb (h.2 e) (v88 hn).2 hQ
    unfold jc0 at h
    split at h
    · rename_i I _
      obtain ⟨h,hc⟩:=h
      exact core (cutK I k) (jg0 hk) (jj3 hNF hq hc) h
    · rename_i l _
      rw [ji5] at h
      obtain ⟨h,hc⟩:=h
      exact core (cutK (sumI l) k) (jg0 hk) (jj3 hNF hq ((jl5 l _ fun _ s=>k .normal s).1 hc)) h
    · exact core k hk hq h
  | .loop body,k,Q,s,a,w,hk,hq,R,hbel,hb,h,hn,hQ=>by
    have core:∀(s:PSt) (R:Rel base X F0 B s a w) (I:Inv),(∃i,I.good i∧jh2 I s i)→(∀i,I.good i→jc0 P O L J body (fun e s'=>match e with
        | .normal=>∃j,I.good j∧jh2 I s' j∧I.μ j < I.μ i
        | .exit m=>k (.exit m) s'
        | .ret=>k .ret s') (ist I i (s.gen + 1)))→(Code.loop body).wpIn (Fence.wide.inRound rl) dp P Q a w:=by
      intro s R I ⟨i0,hg0,hi0⟩ hround
      refine wpIn_loop' (fun i a w=>I.good i∧Rel base X F0 B (ist I i (s.gen + 1)) a w∧jc3 base X F0 w0 w∧base≤w.heap.size) I.μ i0 ⟨hg0,Inv.rel hNF hi0 _ R,hbel,hb⟩ (fun i a w hi=>?_)
      obtain ⟨hg,R,hbel,hb⟩:=hi
      refine jc7 hO hm hJ hNF w0 hb0 body _ _ (ist I i (s.gen + 1)) a w (fun e s' he=>?_) (fun e s' a' w' R' hb' hb2 he=>?_) R hbel hb (hround i hg) hn (fun a w=>hQ a w)
      · cases e with
        | normal=>obtain ⟨j,_,hj,_⟩:=he;exact hj.1
        | exit m=>exact hk _ _ he
        | ret=>exact hk _ _ he
      · cases e with
        | normal =>
          obtain ⟨j,hgj,hj,hlt⟩:=he
          exact ⟨j,⟨hgj,Inv.rel hNF hj _ R',hb',hb2⟩,hlt⟩
        | exit m=>exact hq (.exit m) s' a' w' R' hb' hb2 he
        | ret=>exact hq .ret s' a' w' R' hb' hb2 he
    have coreL:∀(s:PSt) (R:Rel base X F0 B s a w) (l:List Inv),vw7 l (fun k s=>jc0 P O L J body k s) k s→(Code.loop body).wpIn (Fence.wide.inRound rl) dp P Q a w:=by
      intro s R l h
      refine core s R (sumI l) ((jw5 l s).1 h.1) ?_
      have h2:=(jl5 l _ fun m s0=>jc0 P O L J body (fun e s'=>match e with
        | .normal=>anyP l fun J j=>J.good j∧jh2 J s' j∧J.μ j < m
        | .exit m=>k (.exit m) s'
        | .ret=>k .ret s') s0).1 h.2
      intro i hi
      have:=h2 i hi
      have e:(fun (e:Ex) (s':PSt)=>match e with
        | .normal=>anyP l fun J j=>J.good j∧jh2 J s' j∧J.μ j < (sumI l).μ i
        | .exit m=>k (.exit m) s'
        | .ret=>k .ret s')=(fun (e:Ex) (s':PSt)=>match e with
        | .normal=>∃j,(sumI l).good j∧jh2 (sumI l) s' j∧(sumI l).μ j < (sumI l).μ i
        | .exit m=>k (.exit m) s'
        | .ret=>k .ret s'):=by
        funext e s'
        cases e with
        | normal=>exact propext (qn9 l s' fun n=>n < (sumI l).μ i)
        | exit m=>rfl
        | ret=>rfl
      rw [e] at this
      exact this
    unfold jc0 at h
    split at h <;> try (exact h.elim)
    · rename_i n _
      refine wpIn_loop' (fun i a w=>∃s',Rel base X F0 B s' a w∧jc3 base X F0 w0 w∧base≤w.heap.size∧va5 (fun k s=>jc0 P O L J body k s) k i s') (fun i=>i) n ⟨s,R,hbel,hb,h⟩ (fun i a w hi=>?_)
      obtain ⟨s1,R,hbel,hb,h⟩:=hi
      cases i with
      | zero=>exact h.elim
      | succ i =>
        refine jc7 hO hm hJ hNF w0 hb0 body _ _ s1 a w (fun e s' he=>?_) (fun e s' a' w' R' hb' hb2 he=>?_) R hbel hb h hn (fun a w=>hQ a w)
        · cases e with
          | normal=>exact qd0 (fun k s hk h=>jd0 body k s hk h) i (bump s') hk he
          | exit m=>exact hk _ _ he
          | ret=>exact hk _ _ he
        · cases e with
          | normal=>exact ⟨i,⟨bump s',R'.lit _ _ _,hb',hb2,he⟩,Nat.lt_succ_self i⟩
          | exit m=>exact hq (.exit m) s' a' w' R' hb' hb2 he
          | ret=>exact hq .ret s' a' w' R' hb' hb2 he
    · rename_i I hI
      exact core s R I h.1 h.2
    · rename_i l hI
      exact coreL s R l h
    · rename_i f hI
      exact coreL s R _ h
    · rw [force_eq] at h
      exact coreL _ (Rel.qc9 _ _ s R) _ h
  | .block id c,k,Q,s,a,w,hk,hq,R,hbel,hb,h,hn,hQ=>by
    have core:∀k',(∀e s,k' e s→s.ok)→(∀e s a w,Rel base X F0 B s a w→jc3 base X F0 w0 w→base≤w.heap.size→k' e s→Q (exOf e) a w)→
        jc0 P O L J c (ju4 id k') s→(Code.block id c).wpIn (Fence.wide.inRound rl) dp P Q a w:=by
      intro k' hk' hq' h
      refine wpIn_block (jc7 hO hm hJ hNF w0 hb0 c _ _ s a w (jn3 hk') (fun e s' a' w' R' hb' hb2 he=>?_) R hbel hb h hn (fun a w=>ze2 hQ a w))
      cases e with
      | normal=>exact hq' .normal s' a' w' R' hb' hb2 he
      | exit m =>
        simp only [ju4] at he
        simp only [exOf,Exit.inBlock]
        split
        · rename_i e;rw [if_pos e] at he;exact hq' .normal s' a' w' R' hb' hb2 he
        · rename_i e;rw [if_neg e] at he;exact hq' (.exit m) s' a' w' R' hb' hb2 he
      | ret=>exact hq' .ret s' a' w' R' hb' hb2 he
    unfold jc0 at h
    split at h
    · rename_i I _
      obtain ⟨h,hc⟩:=h
      exact core (cutK I k) (jg0 hk) (jj3 hNF hq hc) h
    · rename_i l _
      rw [ji5] at h
      obtain ⟨h,hc⟩:=h
      exact core (cutK (sumI l) k) (jg0 hk) (jj3 hNF hq ((jl5 l _ fun _ s=>k .normal s).1 hc)) h
    · exact core k hk hq h
  | .rangeFunc ..,k,Q,s,a,w,hk,hq,R,hbel,hb,h,hn,hQ=>by unfold jc0 at h;exact h.elim
  | .scope _,k,Q,s,a,w,hk,hq,R,hbel,hb,h,hn,hQ=>by unfold jc0 at h;exact h.elim
  | .goto _,k,Q,s,a,w,hk,hq,R,hbel,hb,h,hn,hQ=>by unfold jc0 at h;exact h.elim
  | .refuse _,k,Q,s,a,w,hk,hq,R,hbel,hb,h,hn,hQ=>by unfold jc0 at h;exact h.elim
end
def y74 (o:Oper):Option (Tmp×Tmp):=match o.dst,o.op,o.guard with
  | some d,.assign (.tmp t),none=>some (d,t)
  | _,_,_=>none
def vd3:List Oper→Option (List (Tmp×Tmp))
  | []=>some []
  | o :: l=>match y74 o,vd3 l with
    | some p,some m=>some (p :: m)
    | _,_=>none
def jg7:Code→Option (List (Tmp×Tmp))
  | .skip=>some []
  | .region _ ops false=>vd3 ops.toList
  | .seq a b=>match jg7 a,jg7 b with
    | some l,some m=>some (l ++ m)
    | _,_=>none
  | _=>none
def mvA (a:Act):List (Tmp×Tmp)→Act
  | []=>a
  | (d,t) :: l=>mvA (a.put (some d) (a.eval (.tmp t))) l
def mvT (T:List GV):List (Tmp×Tmp)→List GV
  | []=>T
  | (d,t) :: l=>mvT (T.set d (T.getD t (gnow (.tup [])))) l
theorem v90 (a:Act):∀(l m:List (Tmp×Tmp)),mvA a (l ++ m)=mvA (mvA a l) m
  | [],_=>rfl
  | _ :: l,m=>v90 _ l m
theorem qx1 (a:Act):∀(l:List (Tmp×Tmp)),(mvA a l).defers=a.defers
  | []=>rfl
  | _ :: l=>(qx1 _ l).trans rfl
def nthI (v:List Int) (j:Nat):Int:=(v[j]?).getD 0
def lnI (pre:List (List Int)):Int:=pre.length
def jx8 (pre:List (List Int)) (v:List Int):List (List Int):=pre ++ [v]
def js9 (ok:List Int→Prop) (n:Nat):Prop:=∀v,ok v→v.length=n
def q33 (nth:List Int→Nat→Int):List GV→List Tmp→Nat→List Int→List GV
  | T,p :: ps,j,v=>q33 nth (T.set p (gnow (.x (.c (.v (.int .i64 (nth v j))))))) ps (j + 1) v
  | T,[],_,_=>T
def yq4 (P:Program) (f:FuncId) (l:List (List Value)) (ok:List Int→Prop) (S:List (List Int)→Prop) (N:Nat):Prop :=
  (∀args w,(callFunc f args).run P w=.ok (.enter f args) w)∧
  ∀(w:World) (bs:List Nat),Fa2 (fun (c:List Value) (b:Nat)=>∃t,w.heap[b]?=some (.cells c.toArray t (0,0))) l bs→∀n:Nat,
    SeqStopsK (α:={ v:List Int // ok v }) Fence.wide n P f (bs.map fun b=>Value.pointer (some ⟨b,0,none⟩)).toArray (fun v=>(v.1.map fun x=>Value.int .i64 x).toArray) (fun W W'=>∀b∈bs,W'.heap[b]?=W.heap[b]?) (fun xs=>S (xs.map (·.1))) (fun _=>True) N w
structure jx9 where
  it:FuncId→List (List Value)→(List Int→Prop)→(List (List Int)→Prop)→Nat→Prop
  nth:List Int→Nat→Int
  ln:List (List Int)→Int
  snoc:List (List Int)→List Int→List (List Int)
  len:(List Int→Prop)→Nat→Prop
def jx9.OK (P:Program) (W:jx9):Prop:=(∀f l ok S N,W.it f l ok S N→yq4 P f l ok S N)∧W.nth=nthI∧W.ln=lnI∧W.snoc=jx8∧W.len=js9
structure RAnn where
  ok:List Int→Prop
  S:List (List Int)→Prop
  N:Nat
  good:List (List Int)→Prop
  slots:List GV
  blocks:List (List Int)→List (Nat×Blk)
def RAnn.inv (r:RAnn) (slots:List GV):Inv:=⟨List (List Int),r.good,fun _=>slots,r.blocks,fun _=>0⟩
def pinG (g:GV):Bool:=bif g.k then (match g.v with
  | .x (.c (.v x))=>jh0 x
  | .x (.c (.ptr m _))=>Nat.ble PN m
  | _=>false) else true
def yx8 (blocks:List (Nat×Blk)) (g:GV):Bool:=bif g.k then (match g.v with
  | .x (.c (.ptr m _))=>qi3 blocks m
  | _=>true) else true
def vi2 (mem:Nat→Option Blk) (g:GV):Bool:=bif g.k then (match g.v with
  | .x (.c (.ptr m _))=>bif Nat.ble GB m then (gtab m).isSome else (mem m).isSome
  | _=>true) else true
def y75 (blocks:List (Nat×Blk)) (ρ:Nat→Nat):Bool:=blocks.all fun p=>bif Nat.ble PN p.1 then (bif Nat.ble (PN + 1000) p.1 then true else Nat.beq (ρ p.1) p.1) else true
def yq5 (r:RAnn) (k:Ex→PSt→Prop) (pre:List (List Int)):Ex→PSt→Prop:=fun e s=>match e with
  | .normal=>s.ok∧r.good pre∧r.slots.all (yx8 (r.blocks pre))=true∧jh2 (r.inv (r.slots.map fun _=>gunk)) s pre
  | .exit m=>s.ok∧r.slots.all (vi2 s.mem)=true∧k (.exit m) ⟨r.slots,s.mem,s.ok,[],s.gen⟩
  | .ret=>s.ok∧r.slots.all (vi2 s.mem)=true∧k .ret ⟨r.slots,s.mem,s.ok,[],s.gen⟩
def vn2 (P:Program) (O:ja7) (L:Nat→Option Ann) (J:Nat→Option Inl) (IT:jx9) (g:Operand) (ps:Array Tmp) (assign body:Code) (r:RAnn) (k:Ex→PSt→Prop) (s:PSt):Prop :=
  match operand s g,jg7 assign with
  | ⟨true,.x (.c (.clo f l))⟩,some mv =>
    s.ok∧((jh4 body && r.slots.all pinG) && y75 (r.blocks []) (rho (rename s r.slots (r.blocks []))))=true∧IT.it f l r.ok r.S r.N∧IT.len r.ok ps.size∧
    r.good []∧qo3 (r.inv r.slots) s [] (rho (rename s r.slots (r.blocks [])))∧
    (∀pre v,r.good pre→ilt (IT.ln pre) (Int.ofNat r.N)=true→r.ok v→jc0 P O L J body (yq5 r k (IT.snoc pre v)) ⟨mvT (q33 IT.nth r.slots ps.toList 0 v) mv,jp3 (r.blocks pre),True,[],s.gen + 1⟩)∧
    (∀pre,r.S pre→r.good pre→k .normal ⟨r.slots,jp3 (r.blocks pre),True,[],s.gen + 2⟩)
  | _,_=>False
section
variable {P:Program} {O:ja7} {base:Nat} {X F0:Nat→Prop} {B:Nat→(Nat×Value)×Bool} {E:Env} {s:PSt} {a:Act} {w:World}
def jr0 (W W':World):Prop:=∀(k:Nat) (arr:Array Value) (t:TypeId) (fr:Nat×Nat),W.heap[k]?=some (.cells arr t fr)→W'.heap[k]?=some (.cells arr t fr)
def IsC (W:World) (k:Nat):Prop:=∃(arr:Array Value) (t:TypeId) (fr:Nat×Nat),W.heap[k]?=some (.cells arr t fr)
theorem Rep.shift {F F':Nat→Prop} {W W':World} (hC:jr0 W W') (i:∀k,IsC W k→F k→F' k) {c:CV} {y:Value} (h:Rep F W c y):Rep F' W' c y:=by
  induction h with
  | v h=>exact .v h
  | nil h h'=>exact .nil h h'
  | slc u h1 hc h2 h3 h4 _ ih=>exact .slc u h1 hc (i _ ⟨_,_,_,h3⟩ h2) (hC _ _ _ _ h3) h4 ih
  | clo bs h=>exact .clo bs (h.mono fun c b ⟨h1,t,h2⟩=>⟨i _ ⟨_,_,_,h2⟩ h1,t,hC _ _ _ _ h2⟩)
theorem jb9.shift {L:Nat→Prop} {W W':World} {F':Nat→Prop} (hC:jr0 W W') (i:∀k,IsC W k→E.F k→F' k) {c:CV} {y:Value} (h:jb9 L E W c y):jb9 L ⟨F',E.β,E.ν⟩ W' c y:=by
  cases c with
  | v _=>exact Rep.shift hC i h
  | slc _ _ _=>exact Rep.shift hC i h
  | clo _ _=>exact Rep.shift hC i h
  | own m n=>exact h
  | ptr m off=>exact h
  | fn f caps=>exact h
  | fresh _ _ _=>exact h.elim
theorem ConcX.shift {L:Nat→Prop} {W W':World} {F':Nat→Prop} (hC:jr0 W W') (i:∀k,IsC W k→E.F k→F' k) {c:XV} {y:Value} (h:ConcX L E W c y):ConcX L ⟨F',E.β,E.ν⟩ W' c y:=by
  cases c with
  | c c=>exact jb9.shift hC i h
  | agg l=>obtain ⟨ys,e,h⟩:=h;exact ⟨ys,e,h.mono fun _ _=>jb9.shift hC i⟩
theorem jd5.shift {L:Nat→Prop} {W W':World} {F':Nat→Prop} (hC:jr0 W W') (i:∀k,IsC W k→E.F k→F' k) {c:SV} {y:Value} (h:jd5 L E W c y):jd5 L ⟨F',E.β,E.ν⟩ W' c y:=by
  cases c with
  | x v=>exact ConcX.shift hC i h
  | tup l=>obtain ⟨ys,e,h⟩:=h;exact ⟨ys,e,h.mono fun _ _=>ConcX.shift hC i⟩
  | eptr m z i off=>exact h
  | view m z l n=>exact h
  | fptr z r j off =>
    obtain ⟨h0,b,o',arr,t,fr,h1,h2,h3,h4⟩:=h
    refine ⟨h0,b,o',arr,t,fr,i _ ⟨_,_,_,h2⟩ h1,hC _ _ _ _ h2,h3,fun j hj=>?_⟩
    obtain ⟨u,e,k⟩:=h4 j hj
    exact ⟨u,e,k.shift hC i⟩
theorem RelE.shift (R:RelE base X F0 B E s a w) {W':World} (hC:jr0 w W') (hsz:w.heap.size≤W'.heap.size) {F' F1:Nat→Prop} (i:∀k,IsC w k→E.F k→F' k) (ii:∀k,F' k→k < W'.heap.size∧(F1 k∨base≤k∨X k)) (iii:∀k,F1 k→F' k) (iv:∀k,IsC w k→F' k→E.F k)
    {a':Act} (ht:a'.tmps=a.tmps) (hd:dfOK base F1 F' W' a'.defers):RelE base X F1 B ⟨F',E.β,E.ν⟩ s a' W':=by
  refine ⟨hd,by rw [ht];exact R.size,fun t g e hk=>?_,fun m b hb=>?_,R.sep,ii,iii,fun m l e hm=>?_,fun k hk=>Nat.lt_of_lt_of_le (R.old k hk) hsz,R.pin,R.pinL⟩
  · obtain ⟨y,e1,e2⟩:=R.slots t g e hk
    exact ⟨y,by rw [ht];exact e1,jd5.shift hC i e2⟩
  · obtain ⟨k1,k2⟩:=R.mem m b hb
    refine ⟨k1,?_⟩
    cases b with
    | cells l =>
      obtain ⟨g1,g2,arr,t,g3,g4⟩:=k2
      exact ⟨g1,fun h=>g2 (iv _ ⟨_,_,_,g3⟩ h),arr,t,hC _ _ _ _ g3,g4.mono fun _ _=>jb9.shift hC i⟩
    | row z n r =>
      obtain ⟨g0,gz,gF,e,xs,go,gr⟩:=k2
      have own:∀k,(E.ν m).ownBlock=some k→IsC w k:=by
        intro k hk
        rcases go.1.2 with ⟨e1,_⟩ | ⟨g,cap,cur,e1,⟨fz,_,hg⟩,_⟩
        · rw [e1] at hk;simp [Value.ownBlock] at hk
        · rw [e1] at hk
          simp only [Value.ownBlock,Option.some.injEq] at hk
          subst hk
          exact ⟨_,_,_,hg⟩
      refine ⟨g0,gz,fun k hk h=>gF k hk (iv k (own k hk) h),e,xs,⟨go.1.heap fun k hk=>?_,go.2⟩,fun i' j hi hj=>?_⟩
      · obtain ⟨arr,t,fr,h⟩:=own k hk
        rw [h,hC _ _ _ _ h]
      · obtain ⟨u,e1,e2⟩:=gr i' j hi hj
        exact ⟨u,e1,e2.shift hC i⟩
    | fro z n r=>exact Rep.shift hC i k2
    | dead=>trivial
  · obtain ⟨g1,arr,t,g2,g3⟩:=R.glob m l e hm
    exact ⟨i _ ⟨_,_,_,g2⟩ g1,arr,t,hC _ _ _ _ g2,g3.mono fun _ _=>Rep.shift hC i⟩
def y76 (B:Nat→(Nat×Value)×Bool):SV→Value→Prop
  | .x (.c (.v x)),y=>y=x∧jh0 x=true
  | .x (.c (.ptr m off)),y=>y=.pointer (some ⟨if GB≤m then m - GB else (B m).1.1,off,none⟩)∧PN≤m
  | _,_=>False
def v92 (B:Nat→(Nat×Value)×Bool) (slots:List GV) (tm:Array Value):Prop:=tm.size=slots.length∧∀(t:Nat) (g:GV),slots[t]?=some g→g.k=true→∃y,tm[t]?=some y∧y76 B g.v y
theorem RelE.y77 (R:RelE base X F0 B E s a w) (hp:s.tmps.all pinG=true):v92 B s.tmps a.tmps:=by
  refine ⟨R.size,fun t g e hk=>?_⟩
  obtain ⟨y,e1,e2⟩:=R.slots t g e hk
  refine ⟨y,e1,?_⟩
  have hg:=List.all_eq_true.1 hp g (List.mem_of_getElem? e)
  unfold pinG at hg
  rw [hk,cond_true] at hg
  split at hg
  · rename_i x hx
    rw [hx] at e2 ⊢
    have e2:Rep E.F w (.v x) y:=e2
    cases e2
    exact ⟨rfl,hg⟩
  · rename_i m off hx
    rw [hx] at e2 ⊢
    have hP:=jy3 hg
    refine ⟨?_,hP⟩
    have e3:y=.pointer (some ⟨adr E m,off,none⟩):=e2.2
    rw [e3]
    unfold adr
    split
    · rfl
    · rename_i hm
      have hl:live s m:=e2.1
      rcases hl with hl | hl
      · rw [(R.pin m (Or.inl hP) hl).1]
      · omega
  · simp at hg
theorem RelE.yx9 (R:RelE base X F0 B E s a w) {slots:List GV} {tm:Array Value} (hf:v92 B slots tm) (hl:slots.all (vi2 s.mem)=true) {ds:List Deferred} (hd:dfOK base F0 E.F w ds) {p:Prop} {li:List Tmp} {gen:Nat} :
    RelE base X F0 B E ⟨slots,s.mem,p,li,gen⟩ ⟨tm,ds⟩ w:=by
  have hL:live ⟨slots,s.mem,p,li,gen⟩=live s:=rfl
  refine ⟨hd,hf.1,fun t g e hk=>?_,fun m b hb=>by rw [hL];exact R.mem m b hb,R.sep,R.frz,R.sub,R.glob,R.old,R.pin,R.pinL⟩
  obtain ⟨y,e1,e2⟩:=hf.2 t g e hk
  refine ⟨y,e1,?_⟩
  have hg:=List.all_eq_true.1 hl g (List.mem_of_getElem? e)
  unfold vi2 at hg
  rw [hk,cond_true] at hg
  unfold y76 at e2
  split at e2
  · rename_i x hx
    obtain ⟨rfl,hp⟩:=e2
    rw [hx]
    exact Rep.v hp
  · rename_i m off hx
    rw [hx] at hg ⊢
    simp only at hg
    obtain ⟨rfl,hP⟩:=e2
    rw [hL]
    by_cases hG:GB≤m
    · rw [show Nat.ble GB m=true from vg8 hG,cond_true] at hg
      refine ⟨Or.inr ⟨hG,hg⟩,?_⟩
      unfold adr
      rw [if_pos hG,if_pos hG]
    · have hb:Nat.ble GB m=false:=by
        cases h:Nat.ble GB m
        · rfl
        · exact absurd (jy3 h) hG
      rw [hb,cond_false] at hg
      refine ⟨Or.inl hg,?_⟩
      unfold adr
      rw [if_neg hG,if_neg hG,(R.pin m (Or.inl hP) hg).1]
  · exact e2.elim
theorem vi3 {slots:List GV} {blocks:List (Nat×Blk)} (h:slots.all (yx8 blocks)=true):slots.all (vi2 (jp3 blocks))=true:=by
  refine List.all_eq_true.2 fun g hg=>?_
  have:=List.all_eq_true.1 h g hg
  unfold yx8 at this
  unfold vi2
  cases hk:g.k
  · rfl
  · rw [hk,cond_true] at this
    rw [cond_true]
    split
    · rename_i m off hx
      rw [hx] at this
      exact this
    · rfl
theorem RelE.slot (R:RelE base X F0 B E s a w) (d:Tmp) (g:GV) (y:Value) (hy:g.k=true→jd5 (live s) E w g.v y):RelE base X F0 B E ⟨s.tmps.set d g,s.mem,s.ok,s.lits,s.gen⟩ (a.put (some d) y) w :=
  R.go (some d) g y s.ok s.lits s.gen (Later.refl _ _ _) (fun _ _=>rfl) (fun _ h=>h) hy R.mem R.sep R.frz (Nat.le_refl _) (fun _ _ h=>h)
theorem Rel.q33 {mem:Nat→Option Blk} {gen:Nat} {ds:List Deferred}:∀(ps:List Tmp) (vs v:List Int) (j:Nat) (T:List GV) (tm:Array Value),ps.length=vs.length→vs=v.drop j→RelE base X F0 B E ⟨T,mem,True,[],gen⟩ ⟨tm,ds⟩ w→
    RelE base X F0 B E ⟨q33 nthI T ps j v,mem,True,[],gen⟩ ⟨(ps.zip (vs.map fun x=>Value.int .i64 x)).foldl (fun t p=>t.setIfInBounds p.1 p.2) tm,ds⟩ w
  | p :: ps,x :: vs,v,j,T,tm,hl,hv,R=>by
    have e1:nthI v j=x:=by
      unfold nthI
      have:v[j]?=some x:=by
        have:=congrArg (fun l=>l[0]?) hv
        simp only [List.getElem?_cons_zero,List.getElem?_drop,Nat.add_zero] at this
        exact this.symm
      rw [this];rfl
    have e2:vs=v.drop (j + 1):=by
      have:=congrArg List.tail hv
      simpa [List.tail_drop] using this
    exact Rel.q33 ps vs v (j + 1) _ _ (by simpa using hl) e2 (R.slot p (gnow (.x (.c (.v (.int .i64 (nthI v j)))))) (.int .i64 x) fun _=>by rw [e1];exact Rep.v rfl)
  | [],[],v,j,T,tm,_,_,R=>by unfold QR.q33;simpa using R
  | [],_ :: _,v,j,T,tm,h,_,R=>by simp at h
  | _ :: _,[],v,j,T,tm,h,_,R=>by simp at h
theorem Rel.mvs {mem:Nat→Option Blk} {gen:Nat}:∀(mv:List (Tmp×Tmp)) (T:List GV) (a:Act),RelE base X F0 B E ⟨T,mem,True,[],gen⟩ a w→RelE base X F0 B E ⟨mvT T mv,mem,True,[],gen⟩ (mvA a mv) w
  | [],T,a,R=>R
  | (d,t) :: mv,T,a,R=>Rel.mvs mv _ _ (R.slot d (T.getD t (gnow (.tup []))) (a.eval (.tmp t)) fun hk=>R.eval (.tmp t) hk)
theorem q34 {F:Fence} {n:Nat} {Q:Exit→Act→World→Prop} {K:Act→World→Prop}:∀(c:Code) (mv:List (Tmp×Tmp)) (a:Act) (w:World),jg7 c=some mv→K (mvA a mv) w→c.wpIn F n P (Exit.then K Q) a w
  | .skip,mv,a,w,h,hK=>by
    simp only [jg7,Option.some.injEq] at h
    subst h
    exact wpIn_skip hK
  | .region id ops d,mv,a,w,h,hK=>by
    cases d with
    | true=>simp [jg7] at h
    | false =>
      simp only [jg7] at h
      refine wpIn_region_list ?_
      have go:∀(l:List Oper) (mv:List (Tmp×Tmp)) (a:Act),vd3 l=some mv→K (mvA a mv) w→wpListIn F n P ops (Exit.then K Q) l a w:=by
        intro l
        induction l with
        | nil =>
          intro mv a h hK
          simp only [vd3,Option.some.injEq] at h
          subst h
          exact wpListIn_nil hK
        | cons o l ih =>
          intro mv a h hK
          unfold vd3 at h
          split at h <;> try (simp at h;done)
          rename_i p m h1 h2
          simp only [Option.some.injEq] at h
          subst h
          unfold y74 at h1
          split at h1 <;> try (simp at h1;done)
          rename_i d t hd ho hg
          simp only [Option.some.injEq] at h1
          subst h1
          refine wpListIn_plain hg fun K' hK'=>Go.BigFrame.wpIn_assign (.tmp t) ho (hK' _ _ ?_)
          rw [hd]
          exact ih m _ h2 hK
      exact go _ mv a h hK
  | .seq x y,mv,a,w,h,hK=>by
    unfold jg7 at h
    split at h <;> try (simp at h;done)
    rename_i l m h1 h2
    simp only [Option.some.injEq] at h
    subst h
    rw [v90] at hK
    refine wpIn_seq ?_
    exact wpIn_mono (q34 (K:=fun a w=>y.wpIn F n P (Exit.then K Q) a w) (Q:=Exit.then K Q) x l a w h1 (q34 y m _ w h2 hK)) fun e a' w' q=>by cases e <;> exact q
  | .label _,_,_,_,h,_=>by simp [jg7] at h
  | .cond ..,_,_,_,h,_=>by simp [jg7] at h
  | .loop _,_,_,_,h,_=>by simp [jg7] at h
  | .block ..,_,_,_,h,_=>by simp [jg7] at h
  | .exit _,_,_,_,h,_=>by simp [jg7] at h
  | .ret,_,_,_,h,_=>by simp [jg7] at h
  | .rangeFunc ..,_,_,_,h,_=>by simp [jg7] at h
  | .scope _,_,_,_,h,_=>by simp [jg7] at h
  | .goto _,_,_,_,h,_=>by simp [jg7] at h
  | .refuse _,_,_,_,h,_=>by simp [jg7] at h
end
section
variable {P:Program} {O:ja7} {base:Nat} {X F0:Nat→Prop} {B:Nat→(Nat×Value)×Bool} {s:PSt} {a:Act} {w:World}
theorem yy0 (ps:Array Tmp) (vs:List Value) (T:Array Value):(ps.zip vs.toArray).foldl (fun t (p,v)=>t.setIfInBounds p v) T=(ps.toList.zip vs).foldl (fun t p=>t.setIfInBounds p.1 p.2) T:=by
  rw [← Array.foldl_toList]
  simp [Array.toList_zip]
theorem vi4 {W W':World} {row:Option Nat} (hg:W.grownBy W' row) (hr:∀r,row=some r→∃o:Obj,W.heap[r]?=some o∧o.isCells=false):jr0 W W':=by
  intro k arr t fr h
  rw [hg.block k (Array.getElem?_eq_some_iff.1 h).1 fun e=>?_]
  · exact h
  · obtain ⟨o,h1,h2⟩:=hr k e.symm
    rw [h] at h1
    simp only [Option.some.injEq] at h1
    subst h1
    simp [Obj.isCells] at h2
theorem vd4 (hO:je9 P O) (hm:P.follows .mixedOrders=true) {IT:jx9} (hIT:IT.OK P) {L:Nat→Option Ann} {J:Nat→Option Inl} (hJ:∀n c,J n=some c→qf9 P c∧GB≤c.T) (hNF:nf B) {r:RAnn} {g:Operand} {ps:Array Tmp} {assign body:Code} {k:Ex→PSt→Prop} {Q:Exit→Act→World→Prop} {w0:World} (hb0:base≤w0.heap.size) (hk:∀e s,k e s→s.ok)
    (hq:∀B':Nat→(Nat×Value)×Bool,agree 1000 B' B→nf B'→∀e s a w,Rel base X F0 B' s a w→jc3 base X F0 w0 w→base≤w.heap.size→k e s→Q (exOf e) a w)
    (R:Rel base X F0 B s a w) (hbel:jc3 base X F0 w0 w) (hb:base≤w.heap.size) (h:vn2 P O L J IT g ps assign body r k s):(Code.rangeFunc g ps assign body).wp P Q a w:=by
  unfold vn2 at h
  split at h <;> try (exact h.elim)
  rename_i f l mv hg hmv
  obtain ⟨hok,hbool,hITv,hlen,hgood,hmeet,hround,hend⟩:=h
  obtain ⟨W_it,W_nth,W_ln,W_snoc,W_len⟩:=IT
  obtain ⟨hIT,e1,e2,e3,e4⟩:=hIT
  simp only at e1 e2 e3 e4
  subst e1 e2 e3 e4
  obtain ⟨hen,hit⟩:=hIT _ _ _ _ _ hITv
  simp only [Bool.and_eq_true] at hbool
  obtain ⟨⟨hnd,hpin⟩,hself⟩:=hbool
  obtain ⟨E,R⟩:=R
  have hv:Rep E.F w (.clo f l) (a.eval g):=by
    have:=R.eval g (by rw [hg])
    rw [hg] at this
    exact this
  have hbs:∃bs:List Nat,Fa2 (fun (c:List Value) (b:Nat)=>E.F b∧∃t,w.heap[b]?=some (.cells c.toArray t (0,0))) l bs∧a.eval g=.func (.func f) #[] (bs.map fun b=>Value.pointer (some ⟨b,0,none⟩)).toArray:=by
    generalize a.eval g=y at hv
    cases hv with
    | clo bs h=>exact ⟨bs,h,rfl⟩
  obtain ⟨bs,hbs,hgv⟩:=hbs
  have hbsF:∀b∈bs,E.F b:=by
    intro b hb
    obtain ⟨i,hi,e⟩:=List.getElem_of_mem hb
    have hl:=hbs.len
    obtain ⟨b',e1,e2⟩:=hbs.get (i:=i) (a:=l[i]'(by omega)) (by simp)
    rw [List.getElem?_eq_getElem hi,e] at e1
    simp only [Option.some.injEq] at e1
    subst e1
    exact e2.1
  let ρ:=rho (rename s r.slots (r.blocks []))
  let B':Nat→(Nat×Value)×Bool:=fun m=>if PN + 1000≤m then ((E.β (ρ m),E.ν (ρ m)),false) else B m
  have hBB:agree 1000 B' B:=fun m hm=>if_neg (by omega)
  have hN':nf B':=fun m=>by
    show (if PN + 1000≤m then ((E.β (ρ m),E.ν (ρ m)),false) else B m).2=false
    split
    · rfl
    · exact hNF m
  obtain ⟨E',eF,_,R'⟩:=Inv.relE (I:=r.inv r.slots) (i:=[]) (yu0 _) hmeet (s.gen + 1) R (B':=B') hN' fun m b hm hP=>by
    by_cases h1:PN + 1000≤m
    · have e:B' m=((E.β (ρ m),E.ν (ρ m)),false):=if_pos h1
      rw [e];exact ⟨rfl,rfl⟩
    · have hmem:=jn2 hm
      have hs:=List.all_eq_true.1 hself _ hmem
      rw [show Nat.ble PN m=true from vg8 hP,cond_true] at hs
      have h2:Nat.ble (PN + 1000) m=false:=by
        cases h:Nat.ble (PN + 1000) m
        · rfl
        · exact absurd (jy3 h) h1
      rw [h2,cond_false] at hs
      have e:=Nat.eq_of_beq_eq_true hs
      have hB:=qo2 hmeet.2.2 _ hmem
      have e':ρ m=m:=e
      show E.β (ρ m)=(B' m).1.1∧E.ν (ρ m)=(B' m).1.2
      rw [e',hBB m (by omega)]
      refine R.pin m (Or.inl hP) ?_
      have hB:leB _ (s.mem (ρ m)) b:=hB
      rw [e'] at hB
      cases hs:s.mem m with
      | none=>rw [hs] at hB;cases b <;> exact hB.elim
      | some b0=>rfl
  have hslots:v92 B' r.slots a.tmps:=R'.y77 hpin
  have EFsub:∀k,E.F k→k < w.heap.size:=fun k hk=>(R.frz k hk).1
  let st:List (List Int)→PSt:=fun pre=>⟨r.slots,jp3 (r.blocks pre),True,[],s.gen + 1⟩
  let I:List { v:List Int // r.ok v }→World→Prop:=fun pre W=>r.good (pre.map (·.1))∧Rel base X E.F B' (st (pre.map (·.1))) ⟨a.tmps,[]⟩ W∧jc3 base X E.F w W
  let Ix:Code→List { v:List Int // r.ok v }→World→Prop:=fun c _ W=>∃(e:Ex) (s':PSt),((e=.ret∧c=.ret)∨∃m,e=.exit m∧c=.exit m)∧k e s'∧Rel base X E.F B' s' ⟨a.tmps,[]⟩ W∧jc3 base X E.F w W
  have grown:∀{s':PSt} {W W':World} {row:Option Nat},Rel base X E.F B' s' ⟨a.tmps,[]⟩ W→jc3 base X E.F w W→W.grownBy W' row→(∀r,row=some r→w.heap.size≤r∧∃o:Obj,W.heap[r]?=some o∧o.isCells=false)→Rel base X E.F B' s' ⟨a.tmps,[]⟩ W'∧jc3 base X E.F w W':=by
    intro s' W W' row ⟨E1,R1⟩ hK hg' hr
    have hC:=vi4 hg' fun r e=>(hr r e).2
    refine ⟨⟨_,R1.shift hC hg'.size (F':=fun k=>E1.F k∧row≠some k) (fun k hc hF=>⟨hF,fun e=>?_⟩) (fun k hk=>?_) (fun k hk=>⟨R1.sub k hk,fun e=>?_⟩) (fun k _ hk=>hk.1) rfl trivial⟩,?_⟩
    · obtain ⟨o,h1,h2⟩:=(hr k e).2
      obtain ⟨arr,t,fr,h3⟩:=hc
      rw [h3] at h1
      simp only [Option.some.injEq] at h1
      subst h1
      simp [Obj.isCells] at h2
    · have:=R1.frz k hk.1
      exact ⟨Nat.lt_of_lt_of_le this.1 hg'.size,this.2⟩
    · have:=EFsub k hk
      have:=(hr k e).1
      omega
    · refine ⟨⟨hg'.os.trans hK.os,hg'.tape.trans hK.tape,hg'.output.trans hK.output,Nat.le_trans hK.size hg'.size,fun i hi hx=>?_⟩,fun i hi=>?_⟩
      · have hsz:=hK.size
        rw [hg'.block i (by omega) fun e=>by have:=(hr i e.symm).1;omega]
        exact hK.block i hi hx
      · have:=EFsub i hi
        have hsz:=hK.size
        rw [hg'.block i (by omega) fun e=>by have:=(hr i e.symm).1;omega]
        exact hK.fro i hi
  have leave:∀(D:Nat) (s':PSt) (W:World),w.heap.size≤D→Rel base X E.F B' s' ⟨a.tmps,[]⟩ W→jc3 base X E.F w W→W.heap[D]?=some (.deferred (some []))→
      Rel base X F0 B' s' { a with defers:={ target:=.collected D,args:=#[] } :: a.defers } W∧jc3 base X F0 w0 W∧base≤W.heap.size:=by
    intro D s' W hD ⟨E1,R1⟩ hK hDW
    have hDlt:D < W.heap.size:=(Array.getElem?_eq_some_iff.1 hDW).1
    refine ⟨⟨_,R1.shift (fun _ _ _ _ h=>h) (Nat.le_refl _) (F':=fun k=>E1.F k∨k=D) (fun k _ hF=>Or.inl hF) (fun k hk=>?_) (fun k hk=>Or.inl (R1.sub k (R.sub k hk))) (fun k hc hk=>?_) rfl ?_⟩,?_,?_⟩
    · rcases hk with hk | rfl
      · have h1:=R1.frz k hk
        refine ⟨h1.1,?_⟩
        rcases h1.2 with h2 | h2
        · exact (R.frz k h2).2
        · exact Or.inr h2
      · exact ⟨hDlt,Or.inr (Or.inl (by omega))⟩
    · rcases hk with hk | rfl
      · exact hk
      · obtain ⟨arr,t,fr,h3⟩:=hc
        rw [hDW] at h3
        simp at h3
    · refine ⟨⟨D,rfl,Or.inr rfl,⟨by omega,fun h=>by have:=EFsub D (R.sub D h);omega⟩,hDW,fun d' hd' e=>?_⟩,?_⟩
      · have:∀(l:List Deferred),dfOK base F0 E.F w l→∀d'∈l,∃D',d'={ target:=.collected D',args:=#[] }∧E.F D':=by
          intro l
          induction l with
          | nil=>intro _ d' h;simp at h
          | cons x l ih =>
            rintro ⟨⟨D',e1,e2,_⟩,h⟩ d' hd
            rcases List.mem_cons.1 hd with rfl | hd
            · exact ⟨D',e1,e2⟩
            · exact ih h d' hd
        obtain ⟨D',e1,e2⟩:=this _ R.defers d' hd'
        rw [e] at e1
        simp only [Deferred.mk.injEq,Target.collected.injEq,and_true] at e1
        subst e1
        have:=EFsub D e2
        omega
      · exact R.defers.later (fun k hk=>Or.inl (R1.sub k hk)) hK.fro
    · exact hbel.trans (hK.less R.sub)
    · have:=hK.size;omega
  refine (wpIn_wide (n:=2)).1 (wpIn_rangeFunc_ownG (α:={ v:List Int // r.ok v }) (F:=Fence.wide) (n:=2) rfl (by decide) (gf:=f) hgv trivial hen (hit w bs (hbs.mono fun _ _ h=>h.2) 1)
    (fun h1 h2 b hb=>(h2 b hb).trans (h1 b hb)) (fun W i o o' hi _ _ _ b hb=>World.putObj_heap_other (by have:=EFsub b (hbsF b hb);omega)) (Below.refl _ _) (fun x=>by simp [hlen x.1 x.2]) I Ix ?_ ?_ ?_
    (fun x=>mvA ⟨(ps.zip ((x.1.map fun x=>Value.int .i64 x).toArray)).foldl (fun t (p,v)=>t.setIfInBounds p v) a.tmps,[]⟩ mv) ?_ ?_ ?_ ?_)
  · intro pre W W' row hs hg' hr
    obtain ⟨h1,h2,h3⟩:=hs
    exact ⟨h1,grown h2 h3 hg' hr⟩
  · intro c pre W W' row hs hg' hr
    obtain ⟨e,s',h1,h2,h3,h4⟩:=hs
    exact ⟨e,s',h1,h2,grown h3 h4 hg' hr⟩
  · refine ⟨hgood,⟨_,R'.shift (fun _ _ _ _ h=>h) (Nat.le_refl _) (F':=E.F) (fun k _ hF=>by rw [← eF];exact hF) (fun k hk=>⟨EFsub k hk,Or.inl hk⟩) (fun k hk=>hk) (fun k _ hk=>by rw [eF];exact hk) rfl trivial⟩,jc3.refl _ _ _ _⟩
  · intro _ x W K hK
    exact q34 assign mv _ W hmv hK
  · intro l' pre x W ⟨hgd,⟨E1,R1⟩,hK⟩ hN
    have hsz:=hK.size
    have R2:RelE base X E.F B' E1 ⟨mvT (q33 nthI r.slots ps.toList 0 x.1) mv,jp3 (r.blocks (pre.map (·.1))),True,[],s.gen + 1⟩ (mvA ⟨(ps.zip ((x.1.map fun x=>Value.int .i64 x).toArray)).foldl (fun t (p,v)=>t.setIfInBounds p v) a.tmps,[]⟩ mv) W:=by
      rw [yy0]
      exact Rel.mvs mv _ _ (Rel.q33 ps.toList x.1 x.1 0 _ _ (by simp [hlen x.1 x.2]) (by simp) R1)
    let nonC:Nat→Prop:=fun k=>∃o:Obj,W.heap[k]?=some o∧o.isCells=false
    let F1:Nat→Prop:=fun k=>E1.F k∨nonC k
    have notC:∀{k:Nat} {V:World},IsC V k→(∃o:Obj,V.heap[k]?=some o∧o.isCells=false)→False:=by
      intro k V ⟨arr,t,fr,h1⟩ ⟨o,h2,h3⟩
      rw [h1] at h2
      simp only [Option.some.injEq] at h2
      subst h2
      simp [Obj.isCells] at h3
    have R3:Rel base X F1 B' ⟨mvT (q33 nthI r.slots ps.toList 0 x.1) mv,jp3 (r.blocks (pre.map (·.1))),True,[],s.gen + 1⟩ (mvA ⟨(ps.zip ((x.1.map fun x=>Value.int .i64 x).toArray)).foldl (fun t (p,v)=>t.setIfInBounds p v) a.tmps,[]⟩ mv) W :=
      ⟨_,R2.shift (fun _ _ _ _ h=>h) (Nat.le_refl _) (F':=F1) (fun k _ hF=>Or.inl hF) (fun k hk=>⟨hk.elim (fun h=>(R1.frz k h).1) fun ⟨o,h,_⟩=>(Array.getElem?_eq_some_iff.1 h).1,Or.inl hk⟩) (fun k hk=>hk) (fun k hc hk=>hk.elim (fun h=>h) fun h=>(notC hc h).elim) rfl (by rw [qx1];trivial)⟩
    have back:∀(s':PSt) (a':Act) (W':World),Rel base X F1 B' s' a' W'→jc3 base X F1 W W'→r.slots.all (vi2 s'.mem)=true→∀(p:Prop) (li:List Tmp) (gen:Nat),Rel base X E.F B' ⟨r.slots,s'.mem,p,li,gen⟩ ⟨a.tmps,[]⟩ W':=by
      intro s' a' W' ⟨E2,R4⟩ hK2 hl p li gen
      have R5:=R4.yx9 (slots:=r.slots) (tm:=a.tmps) hslots hl (ds:=[]) trivial (p:=p) (li:=li) (gen:=gen)
      refine ⟨_,R5.shift (fun _ _ _ _ h=>h) (Nat.le_refl _) (F':=fun k=>E2.F k∧(IsC W' k∨E.F k)) (fun k hc hF=>⟨hF,Or.inl hc⟩) (fun k hk=>?_) (fun k hk=>⟨R4.sub k (Or.inl (R1.sub k hk)),Or.inr hk⟩) (fun k _ hk=>hk.1) rfl trivial⟩
      obtain ⟨h1,h2⟩:=hk
      have h3:=R4.frz k h1
      refine ⟨h3.1,?_⟩
      rcases h2 with h2 | h2
      · rcases h3.2 with (h4 | h4) | h4
        · exact (R1.frz k h4).2
        · obtain ⟨o,h5,h6⟩:=h4
          exact (notC h2 ⟨o,by rw [hK2.fro k (Or.inr ⟨o,h5,h6⟩)];exact h5,h6⟩).elim
        · exact Or.inr h4
      · exact Or.inl h2
    have kf:∀{W':World},jc3 base X F1 W W'→KeepsFrom w.heap.size W W'∧jc3 base X E.F w W'∧∀b∈bs,W'.heap[b]?=W.heap[b]?:=fun {W'} hK2 =>
      ⟨⟨hK2.size,fun k o _ h1 h2=>(hK2.fro k (Or.inr ⟨o,h1,h2⟩)).trans h1⟩,hK.trans (hK2.less fun k hk=>Or.inl (R1.sub k hk)),fun b hb=>hK2.fro b (Or.inl (R1.sub b (hbsF b hb)))⟩
    have hpre:(pre ++ [x]).map (·.1)=jx8 (pre.map (·.1)) x.1:=by simp [jx8]
    refine jc7 (rl:=l') (dp:=0) (base:=base) (X:=X) (F0:=F1) (B:=B') hO hm hJ hN' W (by omega) body (yq5 r k (jx8 (pre.map (·.1)) x.1)) _ _ _ W (fun e s' he=>?_) (fun e s' a' W' R4 hK2 hsz2 he=>?_) R3 (jc3.refl _ _ _ _) (by omega) (hround _ x.1 hgd (decide_eq_true (by unfold lnI;simpa using hN)) x.2) hnd (fun _ _ h=>h)
    · cases e <;> exact he.1
    · obtain ⟨k1,k2,k3⟩:=kf hK2
      cases e with
      | normal =>
        obtain ⟨_,hg2,hl,hmt⟩:=he
        refine ⟨k1,k3,?_,?_,k2⟩
        · rw [hpre];exact hg2
        · rw [hpre]
          have R5:=Inv.rel hN' hmt (s.gen + 1) R4
          exact back _ _ _ R5 hK2 (vi3 hl) _ _ _
      | exit m =>
        obtain ⟨_,hl,hk'⟩:=he
        exact ⟨k1,.exit m,_,Or.inr ⟨m,rfl,rfl⟩,hk',back _ _ _ R4 hK2 hl _ _ _,k2⟩
      | ret =>
        obtain ⟨_,hl,hk'⟩:=he
        exact ⟨k1,.ret,_,Or.inl ⟨rfl,rfl⟩,hk',back _ _ _ R4 hK2 hl _ _ _,k2⟩
  · intro D xs W hD hS ⟨hgd,R1,hK⟩ hDW
    obtain ⟨q1,q2,q3⟩:=leave D (st (xs.map (·.1))) W hD R1 hK hDW
    exact hq B' hBB hN' .normal _ _ W (q1.lit True [] (s.gen + 2)) q2 q3 (hend _ hS hgd)
  · intro D c pre W hD _ hIx hDW
    obtain ⟨e,s',h1,h2,h3,h4⟩:=hIx
    obtain ⟨q1,q2,q3⟩:=leave D s' W hD h3 h4 hDW
    rcases h1 with ⟨rfl,rfl⟩ | ⟨m,rfl,rfl⟩
    · exact wpIn_ret (hq B' hBB hN' .ret _ _ W q1 q2 q3 h2)
    · exact wpIn_exit (hq B' hBB hN' (.exit m) _ _ W q1 q2 q3 h2)
end
structure Cfg where
  L:Nat→Option Ann
  LR:Nat→Option RAnn
  J:Nat→Option Inl
  JT:Nat→Option Inl
  JP:Nat→Option Inv
  U:Nat
def jh8 (C:Cfg):Code→Bool
  | .rangeFunc _ _ _ _=>true
  | .region id _ _=>(C.JT id).isSome
  | .seq a b=>(C.JP (PR.keyOf b)).isSome || (jh8 C a || jh8 C b)
  | .cond _ a b=>jh8 C a || jh8 C b
  | .block _ a=>jh8 C a
  | .loop a=>jh8 C a
  | .scope a=>jh8 C a
  | _=>false
def je3 (P:Program) (O:ja7) (C:Cfg) (IT:jx9):Code→(Ex→PSt→Prop)→PSt→Prop
  | .region id ops draw,k,s=>match C.JT id with
    | some c=>if draw then False else inlC P O c id ops.toList (flush (k .normal)) s
    | none=>jc0 P O C.L C.J (.region id ops draw) k s
  | .seq x y,k,s=>match C.JP (PR.keyOf y) with
    | some I=>je3 P O C IT x (pinK C.U I k) s∧∀i,I.good i→je3 P O C IT y k (ist I i (s.gen + 1))
    | none=>bif jh8 C x || jh8 C y then je3 P O C IT x (fun e s'=>match e with
      | .normal=>je3 P O C IT y k s'
      | .exit id=>k (.exit id) s'
      | .ret=>k .ret s') s else jc0 P O C.L C.J (.seq x y) k s
  | .cond c x y,k,s=>bif jh8 C x || jh8 C y then condC s c (je3 P O C IT x k s) (je3 P O C IT y k s) else jc0 P O C.L C.J (.cond c x y) k s
  | .block id c,k,s=>bif jh8 C c then je3 P O C IT c (ju4 id k) s else jc0 P O C.L C.J (.block id c) k s
  | .rangeFunc g ps assign body,k,s=>match C.LR (PR.keyOf body) with
    | some r=>vn2 P O C.L C.J IT g ps assign body r k s
    | none=>False
  | c,k,s=>jc0 P O C.L C.J c k s
section
variable {P:Program} {O:ja7} {base:Nat} {X F0:Nat→Prop} {B:Nat→(Nat×Value)×Bool}
theorem jg3 {C:Cfg} {IT:jx9}:∀(c:Code) (k:Ex→PSt→Prop) (s:PSt),(∀e s,k e s→s.ok)→je3 P O C IT c k s→s.ok
  | .region id ops draw,k,s,hk,h=>by
    unfold je3 at h
    split at h
    · split at h
      · exact h.elim
      · exact vx7 (fun s hs=>hs.1) h
    · exact jd0 _ k s hk h
  | .seq x y,k,s,hk,h=>by
    unfold je3 at h
    split at h
    · exact jg3 x _ s (v97 hk) h.1
    cases hr:jh8 C x || jh8 C y
    · rw [hr,cond_false] at h;exact jd0 _ k s hk h
    · rw [hr,cond_true] at h
      refine jg3 x _ s (fun e s' he=>?_) h
      cases e with
      | normal=>exact jg3 y k s' hk he
      | exit id=>exact hk _ _ he
      | ret=>exact hk _ _ he
  | .cond c x y,k,s,hk,h=>by
    unfold je3 at h
    cases hr:jh8 C x || jh8 C y
    · rw [hr,cond_false] at h;exact jd0 _ k s hk h
    · rw [hr,cond_true] at h
      unfold condC at h
      split at h <;> try (exact h.elim)
      rename_i b hb
      split at h
      · cases b
        · exact jg3 y k _ hk h
        · exact jg3 x k _ hk h
      · cases b
        · exact jg3 y k _ hk h
        · exact jg3 x k _ hk h
  | .block id c,k,s,hk,h=>by
    unfold je3 at h
    cases hr:jh8 C c
    · rw [hr,cond_false] at h;exact jd0 _ k s hk h
    · rw [hr,cond_true] at h;exact jg3 c _ s (jn3 hk) h
  | .rangeFunc g ps asg body,k,s,hk,h=>by
    unfold je3 at h
    split at h <;> try (exact h.elim)
    unfold vn2 at h
    split at h <;> try (exact h.elim)
    exact h.1
  | .skip,k,s,hk,h=>jd0 _ k s hk h
  | .label _,k,s,hk,h=>jd0 _ k s hk h
  | .loop _,k,s,hk,h=>jd0 _ k s hk h
  | .exit _,k,s,hk,h=>jd0 _ k s hk h
  | .ret,k,s,hk,h=>jd0 _ k s hk h
  | .scope _,k,s,hk,h=>jd0 _ k s hk h
  | .goto _,k,s,hk,h=>jd0 _ k s hk h
  | .refuse _,k,s,hk,h=>jd0 _ k s hk h
structure CfgOK (P:Program) (C:Cfg) (T:Nat):Prop where
  J:∀n c,C.J n=some c→qf9 P c∧GB≤c.T
  JT:∀n c,C.JT n=some c→qf9 P c∧T≤c.T
  JP:(∀n,C.JP n=none)∨T≤C.U
theorem jf9 (hO:je9 P O) (hm:P.follows .mixedOrders=true) {IT:jx9} (hIT:IT.OK P) {C:Cfg} {T:Nat} (hC:CfgOK P C T) (hT:T≤1000):∀c:Code,EvT T P c (je3 P O C IT c)
  | .region id ops draw=>fun base X F0 B w0 k Q s a w hb0 hNF hk hq R hbel hb h=>by
    unfold je3 at h
    split at h
    · rename_i c hc
      split at h
      · exact h.elim
      · rename_i hd
        simp only [Bool.not_eq_true] at hd
        subst hd
        refine wp_region (q14 hO (hC.JT _ _ hc).1 (Or.inl hNF) (fun s hs=>hs.1) h R hb hbel fun B' hB hN s' a' w' R' hb' h=>?_)
        exact hq B' (hB.less (hC.JT _ _ hc).2) (hN hNF) .normal _ a' w' (R'.lit True s'.lits s'.gen) hb' (Nat.le_trans hb0 hb'.size) h.2
    · exact jf8 hO hm C.L hC.J T _ base X F0 B w0 k Q s a w hb0 hNF hk hq R hbel hb h
  | .seq x y=>fun base X F0 B w0 k Q s a w hb0 hNF hk hq R hbel hb h=>by
    unfold je3 at h
    split at h
    · rename_i I hI
      have hT5:T≤C.U:=hC.JP.resolve_left fun e=>by rw [e] at hI;simp at hI
      obtain ⟨h,hy⟩:=h
      refine wp_seq (jf9 hO hm hIT hC hT x base X F0 B w0 _ _ s a w hb0 hNF (v97 hk) (fun B' hB hN' e s' a' w' R' hb' hb2 he=>?_) R hbel hb h)
      cases e with
      | normal =>
        obtain ⟨_,i,hg,hs,hmt⟩:=he
        obtain ⟨B2,hB2,hN2,R2⟩:=v98 hN' hs hmt (s.gen + 1) R'
        exact jf9 hO hm hIT hC hT y base X F0 B2 w0 k Q _ a' w' hb0 hN2 hk (fun B3 hB3 hN3=>hq B3 (hB3.trans ((hB2.less hT5).trans hB)) hN3) R2 hb' hb2 (hy i hg)
      | exit id=>exact hq B' hB hN' _ s' a' w' R' hb' hb2 he
      | ret=>exact hq B' hB hN' _ s' a' w' R' hb' hb2 he
    cases hr:jh8 C x || jh8 C y
    · rw [hr,cond_false] at h;exact jf8 hO hm C.L hC.J T _ base X F0 B w0 k Q s a w hb0 hNF hk hq R hbel hb h
    · rw [hr,cond_true] at h
      refine wp_seq (jf9 hO hm hIT hC hT x base X F0 B w0 _ _ s a w hb0 hNF (fun e s' he=>?_) (fun B' hB hN' e s' a' w' R' hb' hb2 he=>?_) R hbel hb h)
      · cases e with
        | normal=>exact jg3 y k s' hk he
        | exit id=>exact hk _ _ he
        | ret=>exact hk _ _ he
      · cases e with
        | normal=>exact jf9 hO hm hIT hC hT y base X F0 B' w0 k Q s' a' w' hb0 hN' hk (fun B2 hB2 hN2=>hq B2 (hB2.trans hB) hN2) R' hb' hb2 he
        | exit id=>exact hq B' hB hN' _ s' a' w' R' hb' hb2 he
        | ret=>exact hq B' hB hN' _ s' a' w' R' hb' hb2 he
  | .cond c x y=>fun base X F0 B w0 k Q s a w hb0 hNF hk hq R hbel hb h=>by
    unfold je3 at h
    cases hr:jh8 C x || jh8 C y
    · rw [hr,cond_false] at h;exact jf8 hO hm C.L hC.J T _ base X F0 B w0 k Q s a w hb0 hNF hk hq R hbel hb h
    · rw [hr,cond_true] at h
      unfold condC at h
      split at h <;> try (exact h.elim)
      rename_i b hb'
      have ev:a.eval c=.bool b:=by
        obtain ⟨E,R⟩:=R
        have:=R.eval c (by rw [hb'])
        rw [hb'] at this
        exact cv_v this
      have h:ja0 b (je3 P O C IT x k s) (je3 P O C IT y k s):=by
        split at h
        · cases b <;> exact h
        · exact h
      rw [ja1] at h
      refine wp_cond_split (t:=b) ev (fun e=>?_) (fun e=>?_)
      · exact jf9 hO hm hIT hC hT x base X F0 B w0 k Q _ a w hb0 hNF hk hq R hbel hb (h.1 e)
      · exact jf9 hO hm hIT hC hT y base X F0 B w0 k Q _ a w hb0 hNF hk hq R hbel hb (h.2 e)
  | .block id c=>fun base X F0 B w0 k Q s a w hb0 hNF hk hq R hbel hb h=>by
    unfold je3 at h
    cases hr:jh8 C c
    · rw [hr,cond_false] at h;exact jf8 hO hm C.L hC.J T _ base X F0 B w0 k Q s a w hb0 hNF hk hq R hbel hb h
    · rw [hr,cond_true] at h
      refine wp_block (jf9 hO hm hIT hC hT c base X F0 B w0 _ _ s a w hb0 hNF (jn3 hk) (fun B' hB hN' e s' a' w' R' hb' hb2 he=>?_) R hbel hb h)
      cases e with
      | normal=>exact hq B' hB hN' .normal s' a' w' R' hb' hb2 he
      | exit m =>
        simp only [ju4] at he
        simp only [exOf,Exit.inBlock]
        split
        · rename_i e;rw [if_pos e] at he;exact hq B' hB hN' .normal s' a' w' R' hb' hb2 he
        · rename_i e;rw [if_neg e] at he;exact hq B' hB hN' (.exit m) s' a' w' R' hb' hb2 he
      | ret=>exact hq B' hB hN' .ret s' a' w' R' hb' hb2 he
  | .rangeFunc g ps asg body=>fun base X F0 B w0 k Q s a w hb0 hNF hk hq R hbel hb h=>by
    unfold je3 at h
    split at h <;> try (exact h.elim)
    exact vd4 hO hm hIT hC.J hNF hb0 hk (fun B' hB hN'=>hq B' (hB.less hT) hN') R hbel hb h
  | .skip=>jf8 hO hm C.L hC.J T _
  | .label _=>jf8 hO hm C.L hC.J T _
  | .loop _=>jf8 hO hm C.L hC.J T _
  | .exit _=>jf8 hO hm C.L hC.J T _
  | .ret=>jf8 hO hm C.L hC.J T _
  | .scope _=>jf8 hO hm C.L hC.J T _
  | .goto _=>jf8 hO hm C.L hC.J T _
  | .refuse _=>jf8 hO hm C.L hC.J T _
end
def qr1 (P:Program) (O:ja7) (C:Cfg) (IT:jx9) (c:Code) (rs:List ResultVar) (n:Nat) (args:List AV) (V:List XV→List (List CV)→Prop):Prop :=
  je3 P O C IT c (fun e s=>match e with | .normal=>j00 P rs (jd3 0 args) V s | .ret=>j00 P rs (jd3 0 args) V s | .exit _=>False) (entry n args)
def yy1 (P:Program) (O:ja7) (L:Nat→Option Ann) (LR:Nat→Option RAnn) (IT:jx9):Code→(Ex→PSt→Prop)→PSt→Prop:=je3 P O ⟨L,LR,fun _=>none,fun _=>none,fun _=>none,1000⟩ IT
def vd5 (P:Program) (O:ja7) (L:Nat→Option Ann) (LR:Nat→Option RAnn) (IT:jx9) (c:Code) (rs:List ResultVar) (n:Nat) (args:List AV) (V:List XV→List (List CV)→Prop):Prop :=
  yy1 P O L LR IT c (fun e s=>match e with | .normal=>j00 P rs (jd3 0 args) V s | .ret=>j00 P rs (jd3 0 args) V s | .exit _=>False) (entry n args)
section
variable {P:Program} {O:ja7}
theorem qd8 (hO:je9 P O) (hm:P.follows .mixedOrders=true) {C:Cfg} (hC:CfgOK P C 500) {IT:jx9} (hIT:IT.OK P) {f:FuncId} {fn:Func} (hf:P.funcs[f]?=some fn) (hn:(fn.name == "runtime.NumGoroutine")=false) (hb:fn.body=some (fn.body.getD .skip)) {args:List AV} (hlen:args.length≤500) {ans:Ans}
    (h:qr1 P O C IT (fn.body.getD .skip) fn.results.toList fn.ntmps args (jb5 ans)) (hfr:Nat.ble (jc1 ans.res).length 1=true:=by rfl):jk0 P f args ans :=
  jp6 hf hn hb hlen (jf9 hO hm hIT hC (by omega) _) h hfr
theorem q36 (hO:je9 P O) (hm:P.follows .mixedOrders=true) (L:Nat→Option Ann) (LR:Nat→Option RAnn) {IT:jx9} (hIT:IT.OK P) {f:FuncId} {fn:Func} (hf:P.funcs[f]?=some fn) (hn:(fn.name == "runtime.NumGoroutine")=false) (hb:fn.body=some (fn.body.getD .skip)) {args:List AV} (hlen:args.length≤500) {ans:Ans}
    (h:vd5 P O L LR IT (fn.body.getD .skip) fn.results.toList fn.ntmps args (jb5 ans)) (hfr:Nat.ble (jc1 ans.res).length 1=true:=by rfl):jk0 P f args ans :=
  jp6 hf hn hb hlen (jf9 hO hm hIT ⟨no_J,fun _ _ h=>by simp at h,Or.inl fun _=>rfl⟩ (by omega) _) h hfr
end
end Go.Proofs.YthkidembkknoeaaDoor.QR
