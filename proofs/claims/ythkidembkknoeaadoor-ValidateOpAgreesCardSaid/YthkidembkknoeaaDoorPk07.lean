import Derived.Test.YthkidembkknoeaaDoorPk03
import Derived.Test.YthkidembkknoeaaDoorPk04
import Derived.Test.YthkidembkknoeaaDoorPk05
import Derived.Test.YthkidembkknoeaaDoorPk02
import Derived.RangeFuncLeaves
import Derived.RangeFuncFrom
import Derived.RangeFuncCalls
import Derived.Test.YthkidembkknoeaaDoorPk06
import Derived.Test.YthkidembkknoeaaDoorRows
import Derived.OpenShut
import Derived.LaidMore
namespace Go.Proofs.YthkidembkknoeaaDoor.QR
open Go.RowKit PR
set_option linter.unusedVariables false
set_option linter.unusedSimpArgs false
section
variable {P:Program} {O:ja7} {ops:List Oper}
theorem qn6 {s s':PSt} {o:Oper} {name:Nat} {d:Delta} (h:∀t∈looks ops o,s'.tmps[t]?=s.tmps[t]?) (hd:stepD P O ops name o s=some d)
    (hr:∀m,m∈d.rd→s'.mem m=s.mem m) (hu:∀p∈d.up,s'.mem p.1=s.mem p.1):stepD P O ops name o s'=some d:=by
  unfold stepD at hd ⊢
  rw [vg2 h,vg3 h]
  split at hd <;> try (simp at hd;done)
  · exact hd
  · split at hd <;> try (simp at hd;done)
    rename_i hk
    rw [if_pos hk]
    split at hd <;> try (simp at hd;done)
    rename_i e he
    split at hd
    · rename_i hn
      simp only [Option.some.injEq] at hd
      subst hd
      rw [qi0 h he hr hu]
      simp only [hn]
    · rename_i b hn
      split at hd <;> try (simp at hd;done)
      rename_i hg
      simp only [Option.some.injEq] at hd
      subst hd
      rw [qi0 h he hr (fun p hp=>hu p (by simp [hp]))]
      simp only [hn]
      have:=hu (name,b) (by simp)
      simp only at this
      rw [this,if_pos hg]
theorem qi1 {l:List GV} {dst:Option Tmp} {g:GV} {t:Tmp} (h:∀d,dst=some d→t≠d):(je5 l dst g)[t]?=l[t]?:=by
  cases dst with
  | none=>rfl
  | some d=>simp only [je5,List.getElem?_set];rw [if_neg (fun e=>h d rfl e.symm)]
theorem vg4 {l:List GV} {x y:Option Tmp} {g k:GV} (h:∀d e,x=some d→y=some e→d≠e):je5 (je5 l x g) y k=je5 (je5 l y k) x g:=by
  cases x with
  | none=>rfl
  | some d=>cases y with
    | none=>rfl
    | some e=>exact List.set_comm _ _ (h d e rfl rfl)
def q03:List (Nat×Blk)→Nat→Option Blk
  | [],_=>none
  | (n,b) :: l,k=>bif Nat.beq k n then some b else q03 l k
theorem jz5 (m:Nat→Option Blk):∀(u:List (Nat×Blk)) (k:Nat),jb2 m u k=match q03 u k with | some b=>some b | none=>m k
  | [],k=>rfl
  | (n,b) :: l,k=>by
    show (bif Nat.beq k n then some b else jb2 m l k)=match (bif Nat.beq k n then some b else q03 l k) with | some b=>some b | none=>m k
    cases Nat.beq k n
    · exact jz5 m l k
    · rfl
theorem qc7:∀{u:List (Nat×Blk)} {k:Nat} {b:Blk},q03 u k=some b→∃c,(k,c)∈u
  | [],k,b,h=>by simp [q03] at h
  | (n,c) :: l,k,b,h=>by
    unfold q03 at h
    cases hb:Nat.beq k n
    · rw [hb] at h
      obtain ⟨c',hc'⟩:=qc7 (u:=l) h
      exact ⟨c',by simp [hc']⟩
    · have:=Nat.eq_of_beq_eq_true hb
      subst this
      exact ⟨c,by simp⟩
theorem jo5 {m:Nat→Option Blk} {u:List (Nat×Blk)} {n:Nat} (h:∀p∈u,n≠p.1):jb2 m u n=m n:=by
  rw [jz5]
  cases hf:q03 u n with
  | none=>rfl
  | some b =>
    obtain ⟨c,hc⟩:=qc7 hf
    exact absurd rfl (h _ hc)
theorem vg5 {m:Nat→Option Blk} {u v:List (Nat×Blk)} (h:∀p∈u,∀q∈v,p.1≠q.1):jb2 (jb2 m u) v=jb2 (jb2 m v) u:=by
  funext k
  simp only [jz5]
  cases hu:q03 u k with
  | none=>rfl
  | some b =>
    cases hv:q03 v k with
    | none=>rfl
    | some c =>
      obtain ⟨b',hb⟩:=qc7 hu
      obtain ⟨c',hc⟩:=qc7 hv
      exact absurd rfl (h (k,b') hb (k,c') hc)
theorem vw5 {d e:Delta} (h:d.conf e=false):(∀p∈d.up,∀m∈e.rd,p.1≠m)∧(∀p∈d.up,∀q∈e.up,p.1≠q.1)∧(∀p∈e.up,∀m∈d.rd,p.1≠m):=by
  unfold Delta.conf at h
  simp only [Bool.or_eq_false_iff,List.any_eq_false,Bool.or_eq_true,List.any_eq_true,not_or,not_exists,not_and] at h
  obtain ⟨h1,h2⟩:=h
  refine ⟨fun p hp m hm e'=>?_,fun p hp q hq e'=>?_,fun p hp m hm e'=>?_⟩
  · exact (h1 p hp).1 m hm (by rw [e',Nat.beq_refl])
  · exact (h1 p hp).2 q hq (by rw [e',Nat.beq_refl])
  · exact h2 p hp m hm (by rw [e',Nat.beq_refl])
theorem vw6 {s:PSt} {x y:Oper} {nx ny:Nat} {dx dy:Delta} (hap:apart (looks ops x) (looks ops y) x.dst y.dst=true) (hcf:dx.conf dy=false)
    (h1:stepD P O ops nx x s=some dx) (h2:stepD P O ops ny y (jg8 x.dst dx s)=some dy) :
    stepD P O ops ny y s=some dy∧stepD P O ops nx x (jg8 y.dst dy s)=some dx∧jg8 x.dst dx (jg8 y.dst dy s)=jg8 y.dst dy (jg8 x.dst dx s):=by
  obtain ⟨a1,a2,a3⟩:=apart_spec hap
  obtain ⟨c1,c2,c3⟩:=vw5 hcf
  refine ⟨?_,?_,?_⟩
  · refine qn6 (s:=jg8 x.dst dx s) (fun t ht=>?_) h2 (fun m hm=>?_) (fun p hp=>?_)
    · exact (qi1 fun d hd=>a1 d hd t ht).symm
    · exact (jo5 fun q hq e=>c1 q hq m hm e.symm).symm
    · exact (jo5 fun q hq e=>c2 q hq p hp e.symm).symm
  · refine qn6 (s:=s) (fun t ht=>?_) h1 (fun m hm=>?_) (fun p hp=>?_)
    · exact qi1 fun d hd=>a3 d hd t ht
    · exact jo5 fun q hq e=>c3 q hq m hm e.symm
    · exact jo5 fun q hq e=>c2 p hp q hq e
  · unfold jg8
    rw [vg4 (x:=y.dst) (y:=x.dst) (fun d e hd he=>fun h=>a2 e d he hd h.symm),vg5 (u:=dy.up) (v:=dx.up) (fun p hp q hq=>fun h=>c2 q hq p hp h.symm)]
    have e:ql6 dx.ok (ql6 dy.ok s.ok)=ql6 dy.ok (ql6 dx.ok s.ok):=propext (by simp only [qc0];exact and_left_comm)
    rw [e]
inductive RunL (P:Program) (O:ja7) (ops:List Oper) (nm:Nat) (D:Nat→Delta):List Nat→PSt→PSt→Prop
  | nil (s:PSt):RunL P O ops nm D [] s s
  | cons {i:Nat} {l:List Nat} {s s':PSt} {o:Oper} (ho:ops[i]?=some o) (h:stepD P O ops (nm + i) o s=some (D i)) (t:RunL P O ops nm D l (jg8 o.dst (D i) s) s'):RunL P O ops nm D (i :: l) s s'
theorem RunL.ok {nm:Nat} {D:Nat→Delta} {l:List Nat} {s s':PSt} (h:RunL P O ops nm D l s s'):s'.ok→s.ok:=by
  induction h with
  | nil=>exact id
  | cons ho h t ih=>intro hk;have:=ih hk;simp only [jg8,qc0] at this;exact this.2
def Free (ops:List Oper) (D:Nat→Delta) (a i:Nat):Prop:=∀x y,ops[a]?=some x→ops[i]?=some y→apart (looks ops x) (looks ops y) x.dst y.dst=true∧(D a).conf (D i)=false
theorem RunL.pull {nm:Nat} {D:Nat→Delta} {i:Nat}:∀(l:List Nat) (s s':PSt),l.Pairwise (· < ·)→i∈l→(∀a∈l,a < i→Free ops D a i)→RunL P O ops nm D l s s'→RunL P O ops nm D (i :: l.filter (· != i)) s s'
  | [],s,s',_,hi,_,_=>by simp at hi
  | r :: l,s,s',hp,hi,hf,h=>by
    cases h with
    | cons ho h1 t =>
      rename_i x
      by_cases e:r=i
      · subst e
        have hl:l.filter (· != r)=l:=by
          rw [List.filter_eq_self]
          intro a ha
          have:=(List.pairwise_cons.1 hp).1 a ha
          simp;omega
        simp only [List.filter_cons,bne_self_eq_false,Bool.false_eq_true,if_false,hl]
        exact .cons ho h1 t
      · have hil:i∈l:=by simpa [Ne.symm e] using hi
        have hri:r < i:=(List.pairwise_cons.1 hp).1 i hil
        have ih:=RunL.pull l _ _ (List.pairwise_cons.1 hp).2 hil (fun a ha hlt=>hf a (by simp [ha]) hlt) t
        have hne:(r != i)=true:=by simpa using e
        simp only [List.filter_cons,hne,if_true]
        cases ih with
        | cons ho2 h2 t2 =>
          rename_i y
          obtain ⟨ap,cf⟩:=hf r (by simp) hri x y ho ho2
          obtain ⟨k1,k2,k3⟩:=vw6 ap cf h1 h2
          refine .cons ho2 k1 (.cons ho k2 ?_)
          rw [k3]
          exact t2
theorem vq7:∀(l:List CV) (k:List CV→Prop),yg6 l k→k l:=by
  intro l
  induction l with
  | nil=>intro k h;exact h
  | cons c l ih =>
    intro k h
    cases c with
    | v x=>cases x with
      | int kd n=>exact ih (fun l'=>k (.v (.int kd n) :: l')) (h n rfl)
      | _=>exact ih (fun l'=>k (_ :: l')) h
    | _=>exact ih (fun l'=>k (_ :: l')) h
theorem qv6 {v:XV} {k:XV→Prop} (h:yg7 v k):k v:=by
  unfold yg7 at h
  split at h
  · exact h _ rfl
  · exact h
  · rename_i l
    cases hl:Nat.ble 20 l.length
    · rw [hl,cond_false] at h;exact vq7 _ _ h
    · rw [hl,cond_true] at h;exact h
theorem qn7:∀(l:List XV) (k:List XV→Prop),vk9 l k→k l
  | [],k,h=>h
  | v :: l,k,h=>qn7 l (fun l'=>k (v :: l')) (qv6 (k:=fun v'=>vk9 l fun l'=>k (v' :: l')) h)
theorem vq8 {v:SV} {k:SV→Prop} (h:yt6 v k):k v:=by
  unfold yt6 at h
  split at h
  · exact qv6 h
  · exact qn7 _ _ h
  · exact h
theorem yg8 {v:SV} {k:IntKind} {n:Int} (h:jy1 v=some (k,n)):v=vS (.int k n):=by
  unfold jy1 at h
  split at h <;> try (simp at h;done)
  simp only [Option.some.injEq,Prod.mk.injEq] at h
  obtain ⟨rfl,rfl⟩:=h
  rfl
theorem yg9 {s:PSt} {o:Oper} {nm:Nat} {kd:IntKind} {m:Int} {len:Nat} (h:ixOf P ops s o=some (kd,m,len)) {j:Nat} (hj:m=j):stepD P O ops nm (qh1 o kd j) s=stepD P O ops nm o s:=by
  subst hj
  unfold ixOf at h
  cases hc:y47 (guardOf s ops o)
  · rw [hc] at h;simp at h
  rw [hc] at h
  simp only [cond_true] at h
  have cv:(operand s (.const (.int kd (j:Int))))=gnow (vS (.int kd j)):=rfl
  split at h <;> try (simp at h;done)
  all_goals
    rename_i t x i ho
    split at h <;> try (simp at h;done)
    rename_i k m' l e hv hu
    cases hk:(operand s i).k
    · simp [hk] at h
    rw [hk] at h
    simp only [cond_true,Option.some.injEq,Prod.mk.injEq] at h
    obtain ⟨rfl,rfl,rfl⟩:=h
    have hv:=yg8 hv
    have hv':valOf s (.const (.int k (j:Int)))=valOf s i:=by rw [hv];rfl
    have g:guardOf s ops (qh1 o k j)=guardOf s ops o:=by unfold guardOf qh1;rw [ho]
    have kn:jj7 s (qh1 o k j)=jj7 s o:=by
      unfold jj7 qh1
      simp only [ho]
      simp only [Op.operands,List.map_cons,List.map_nil,allOf,cv,hk,gnow]
    have ef:effect P O nm s (qh1 o k j)=effect P O nm s o:=by
      unfold effect qh1
      simp only [ho,hv']
    unfold stepD
    rw [g,kn,ef]
theorem yt7 {s:PSt} {o:Oper} {name:Nat} {d:Delta} (hd:stepD P O ops name o s=some d):d.g.k=true:=by
  unfold stepD at hd
  split at hd <;> try (simp at hd;done)
  · simp only [Option.some.injEq] at hd;subst hd;rfl
  · split at hd <;> try (simp at hd;done)
    split at hd <;> try (simp at hd;done)
    split at hd
    · simp only [Option.some.injEq] at hd;subst hd;rfl
    · split at hd <;> try (simp at hd;done)
      simp only [Option.some.injEq] at hd;subst hd;rfl
theorem jk5 {src:List Nat} {nm:Nat} {k:PSt→List Delta→Prop}:∀(rest:List Oper) (i:Nat) (s:PSt) (ds:List Delta) (lits:List Tmp),(∀j o,rest[j]?=some o→ops[i + j]?=some o)→ds.length=i→
    jo4 P O ops src nm i rest s ds lits k→∃(s':PSt) (es:List Delta) (l:List Tmp),k ⟨s'.tmps,s'.mem,s'.ok,l,s'.gen⟩ (ds.reverse ++ es)∧es.length=rest.length∧∀D:Nat→Delta,(∀j d,es[j]?=some d→D (i + j)=d)→RunL P O ops nm D (List.range' i rest.length) s s'
  | [],i,s,ds,lits,_,_,h=>⟨s,[],lits,by simpa [jo4] using h,rfl,fun D _=>.nil _⟩
  | o :: rest,i,s,ds,lits,ho,hl,h=>by
    have go0:∀d,stepD P O ops (nm + i) o s=some d→∀(e:Delta) (lits':List Tmp),e=d→jo4 P O ops src nm (i + 1) rest (jg8 o.dst e s) (e :: ds) lits' k→∃(s':PSt) (es:List Delta) (l:List Tmp),k ⟨s'.tmps,s'.mem,s'.ok,l,s'.gen⟩ (ds.reverse ++ es)∧es.length=(o :: rest).length∧∀D:Nat→Delta,(∀j d,es[j]?=some d→D (i + j)=d)→RunL P O ops nm D (List.range' i (o :: rest).length) s s':=by
      intro d hd e lits' he hrun
      subst he
      obtain ⟨s',es,l,h1,h2,h3⟩:=jk5 rest (i + 1) _ _ _ (fun j x hx=>by rw [Nat.add_assoc,Nat.add_comm 1 j];exact ho (j + 1) x (by simpa using hx)) (by simp [hl]) hrun
      refine ⟨s',e :: es,l,by simpa using h1,by simp [h2],fun D hD=>?_⟩
      have e0:D i=e:=hD 0 e rfl
      rw [List.length_cons,List.range'_succ]
      exact .cons (ho 0 o rfl) (by rw [e0];exact hd) (by rw [e0];exact h3 D (fun j d hj=>by rw [Nat.add_assoc,Nat.add_comm 1 j];exact hD (j + 1) d (by simpa using hj)))
    unfold jo4 at h
    split at h
    · rename_i kd m len hix
      obtain ⟨j,hj,h⟩:=ql4 _ _ _ _ h
      split at h <;> try (exact h.elim)
      rename_i d hd
      rw [yg9 hix hj] at hd
      exact go0 d hd d _ rfl h
    split at h <;> try (exact h.elim)
    rename_i d hd
    have go:=go0 d hd
    split at h
    · split at h <;> try (exact h.elim)
      · rename_i x hx
        rw [ja1] at h
        have hk:d.g.k=true:=yt7 hd
        have same:∀b,x=b→(⟨gnow (vS (.bool b)),d.up,d.ok,d.rd⟩:Delta)=d:=by
          intro b hb
          subst hb
          obtain ⟨⟨k0,v0⟩,up,ok,rd⟩:=d
          simp only at hx hk
          subst hx hk
          rfl
        cases hb:x
        · exact go _ _ (same _ hb) (h.2 hb)
        · exact go _ _ (same _ hb) (h.1 hb)
      · exact go d _ rfl h
    · cases hm:yo8 o
      · rw [hm] at h
        exact go d _ rfl h
      · rw [hm] at h
        exact go d _ rfl (vq8 h)
end
theorem js0 {base:Nat} {X F0:Nat→Prop} {B:Nat→(Nat×Value)×Bool} {E:Env} {s:PSt} {a:Act} {w:World} {o:Oper} (R:RelE base X F0 B E s a w) {ops:Array Oper} {γ:Bool} (h:guardOf s ops.toList o=some γ):Region.wanted o (yielded ops a.tmps)=γ:=by
  unfold guardOf at h
  unfold Region.wanted
  split at h
  · rename_i hg
    simp only [Option.some.injEq] at h
    rw [hg];exact h
  · rename_i j want hg
    rw [hg]
    simp only
    split at h <;> try (simp at h;done)
    rename_i d hd
    have hd:(ops[j]?).bind (·.dst)=some d:=by simpa using hd
    unfold yielded
    rw [hd]
    split at h <;> try (simp at h;done)
    · rename_i b hs
      simp only [Option.some.injEq] at h
      obtain ⟨y,h1,h2⟩:=R.slots d _ hs rfl
      obtain rfl:=cv_v h2
      simp only [Option.bind_some,h1]
      subst h
      cases b <;> cases want <;> rfl
    · rename_i vs hs
      simp only [Option.some.injEq] at h
      obtain ⟨y,h1,ys,rfl,_⟩:=R.slots d _ hs rfl
      simp only [Option.bind_some,h1]
      subst h
      rfl
section
variable {P:Program} {O:ja7} {base:Nat} {X F0:Nat→Prop} {B:Nat→(Nat×Value)×Bool}
def Rel (base:Nat) (X F0:Nat→Prop) (B:Nat→(Nat×Value)×Bool) (s:PSt) (a:Act) (w:World):Prop:=∃E,RelE base X F0 B E s a w
theorem qf6 {s:PSt} {a:Act} {w:World} {o:Oper} (hO:je9 P O) (R:Rel base X F0 B s a w) (hb:base≤w.heap.size) {ops:Array Oper} {i name:Nat} (ho:ops[i]?=some o) {d:Delta} (h:stepD P O ops.toList name o s=some d) (hok:(jg8 o.dst d s).ok)
    {K:Act→World→Prop} {Q:Exit→Act→World→Prop} (hK:∀a' w',Rel base X F0 B (jg8 o.dst d s) a' w'→jc3 base X F0 w w'→K a' w'):wpOp P ops Q i K a w:=by
  obtain ⟨E,R⟩:=R
  unfold wpOp
  rw [ho]
  simp only
  unfold stepD at h
  split at h <;> try (simp at h;done)
  · rename_i hγ
    rw [js0 R hγ]
    simp only [Option.some.injEq] at h
    subst h
    simp only [Bool.false_eq_true,if_false]
    exact hK _ _ ⟨E,R.go o.dst (gnow (.tup [])) undef _ s.lits s.gen (Later.refl _ _ _) (fun _ _=>rfl) (fun _ h=>h) (fun _=>⟨[],rfl,trivial⟩) R.mem R.sep R.frz (Nat.le_refl _) (fun _ _ h=>h)⟩ (jc3.refl _ _ _ _)
  · rename_i hγ
    rw [js0 R hγ]
    simp only [if_true]
    refine Or.inl ?_
    split at h <;> try (simp at h;done)
    rename_i hk
    split at h <;> try (simp at h;done)
    rename_i e he
    split at h
    · rename_i hn
      simp only [Option.some.injEq] at h
      subst h
      simp only [jg8,qc0] at hok
      refine qh8 hO R hb he hk hok.1 (fun h=>by rw [hn] at h;simp at h) (p:=ql6 e.ok s.ok) (li:=s.lits) (gen:=s.gen) fun E' a' w' R' k=>hK a' w' ⟨E',?_⟩ k
      have:q83 name e=e.up:=by unfold q83;rw [hn]
      rw [this] at R'
      exact R'
    · rename_i b hn
      split at h <;> try (simp at h;done)
      rename_i hg
      simp only [Bool.and_eq_true,Option.isNone_iff_eq_none,Nat.blt_eq] at hg
      simp only [Option.some.injEq] at h
      subst h
      simp only [jg8,qc0] at hok
      refine qh8 hO R hb he hk hok.1 (fun _=>hg) (p:=ql6 e.ok s.ok) (li:=s.lits) (gen:=s.gen) fun E' a' w' R' k=>hK a' w' ⟨E',?_⟩ k
      have:q83 name e=(name,b) :: e.up:=by unfold q83;rw [hn]
      rw [this] at R'
      exact R'
end
section
variable {ops:List Oper}
theorem qi2 {m:Nat} {y:RowO}:∀(l:List RowO) (i:Nat),qz8 m y i l=true→∀k x,l[k]?=some x→Nat.testBit m (i + k)=true∨(apart x.looks y.looks x.dst y.dst=true∧x.d.conf y.d=false)
  | [],i,_,k,x,hx=>by simp at hx
  | z :: l,i,h,k,x,hx=>by
    unfold qz8 at h
    simp only [Bool.and_eq_true,Bool.or_eq_true,Bool.not_eq_true'] at h
    cases k with
    | zero=>simp at hx;subst hx;exact h.1
    | succ k =>
      have:=qi2 l (i + 1) h.2 k x (by simpa using hx)
      rw [Nat.add_assoc,Nat.add_comm 1 k] at this
      exact this
theorem qc8:∀(ys:List RowO) (ms:List Nat) (done:List RowO),jr7 done ms ys=true→∀j y m,ys[j]?=some y→ms[j]?=some m→
      ∀i x,(done ++ ys)[i]?=some x→i < done.length + j→Nat.testBit m i=true∨(apart x.looks y.looks x.dst y.dst=true∧x.d.conf y.d=false)
  | [],ms,done,_,j,y,m,hy,_,_,_,_,_=>by simp at hy
  | z :: ys,[],done,_,j,y,m,_,hm,_,_,_,_=>by simp at hm
  | z :: ys,n :: ms,done,h,j,y,m,hy,hm,i,x,hx,hlt=>by
    unfold jr7 at h
    simp only [Bool.and_eq_true] at h
    cases j with
    | zero =>
      simp at hy hm;subst hy hm
      rw [List.getElem?_append_left (by omega)] at hx
      have:=qi2 done 0 h.1 i x hx
      simpa using this
    | succ j =>
      refine qc8 ys ms (done ++ [z]) h.2 j y m (by simpa using hy) (by simpa using hm) i x ?_ (by simp;omega)
      simpa using hx
theorem qf7 {all:List Oper}:∀(os:List Oper) (ds:List Delta) (j:Nat) (o:Oper) (d:Delta),os[j]?=some o→ds[j]?=some d→(rowsOf all os ds)[j]?=some ⟨o.dst,looks all o,d⟩
  | [],ds,j,o,d,h,_=>by simp at h
  | x :: os,[],j,o,d,_,h=>by simp at h
  | x :: os,e :: ds,j,o,d,h,k=>by
    cases j with
    | zero=>simp at h k;subst h k;rfl
    | succ j =>
      simp at h k
      simp only [rowsOf,List.getElem?_cons_succ]
      exact qf7 os ds j o d h k
end
section
variable {P:Program} {O:ja7} {base:Nat} {X F0:Nat→Prop} {B:Nat→(Nat×Value)×Bool} {ops:Array Oper} {Q:Exit→Act→World→Prop}
theorem vq9 (hO:je9 P O) (nm:Nat) (D:Nat→Delta) (s':PSt) (hok:s'.ok)
    (hfree:∀L:Nat→Prop,(∀(j:Nat) (o:Oper),ops.toList[j]?=some o→L j→∀d∈deps o,L d)→∀(i:Nat) (o:Oper),ops.toList[i]?=some o→(∀d∈deps o,L d)→∀a,a < i→¬ L a→Free ops.toList D a i)
    (hback:∀(i:Nat) (o:Oper),ops.toList[i]?=some o→∀d∈deps o,d < i) (w0:World) (hQ:∀a' w',Rel base X F0 B s' a' w'→jc3 base X F0 w0 w'→Q .normal a' w') :
    ∀(fuel:Nat) (listed:Array Bool) (s:PSt) (a:Act) (w:World),listed.size=ops.size→
      (∀(j:Nat) (o:Oper),ops.toList[j]?=some o→listed.getD j false=true→∀d∈deps o,listed.getD d false=true)→
      ((List.range ops.size).filter fun i=>!listed.getD i true).length≤fuel→
      RunL P O ops.toList nm D ((List.range ops.size).filter fun i=>!listed.getD i true) s s'→Rel base X F0 B s a w→base≤w.heap.size→jc3 base X F0 w0 w→wpAny P .any ops Q fuel listed a w:=by
  intro fuel
  induction fuel with
  | zero =>
    intro listed s a w hsz hcl hlen hrun R hb hbel
    have hnil:((List.range ops.size).filter fun i=>!listed.getD i true)=[]:=List.eq_nil_of_length_eq_zero (by omega)
    rw [hnil] at hrun
    cases hrun
    refine ⟨?_,hQ _ _ R hbel⟩
    rw [List.eq_nil_iff_forall_not_mem]
    intro i hi
    unfold Region.ready at hi
    simp only [List.mem_filter,Bool.and_eq_true] at hi
    have:i∈((List.range ops.size).filter fun i=>!listed.getD i true):=List.mem_filter.2 ⟨hi.1,hi.2.1⟩
    rw [hnil] at this
    simp at this
  | succ fuel ih =>
    intro listed s a w hsz hcl hlen hrun R hb hbel
    refine ⟨fun hr=>?_,fun i hi=>?_⟩
    ·
      cases hl:((List.range ops.size).filter fun i=>!listed.getD i true) with
      | nil=>rw [hl] at hrun;cases hrun;exact hQ _ _ R hbel
      | cons r rest =>
        exfalso
        have hpw:((List.range ops.size).filter fun i=>!listed.getD i true).Pairwise (· < ·):=List.Pairwise.filter _ List.pairwise_lt_range
        rw [hl] at hpw
        have hr0:r∈((List.range ops.size).filter fun i=>!listed.getD i true):=by rw [hl];simp
        have hrm:=List.mem_filter.1 hr0
        have hrn:r < ops.size:=List.mem_range.1 hrm.1
        have hor:ops[r]?=some ops[r]:=Array.getElem?_eq_getElem hrn
        have:r∈Region.ready .any ops listed:=by
          unfold Region.ready
          refine List.mem_filter.2 ⟨hrm.1,?_⟩
          rw [hor]
          simp only [hrm.2,Bool.true_and,Option.map_some,Option.getD_some]
          rw [Array.all_eq_true_iff_forall_mem]
          intro e he
          by_cases hbd:Region.binds .any e=true
          · have hd:e.on∈deps ops[r]:=by
              unfold deps
              exact List.mem_filterMap.2 ⟨e,by simpa using he,by simp [hbd]⟩
            have hlt:=hback r ops[r] (by simp) e.on hd
            have:e.on ∉ ((List.range ops.size).filter fun i=>!listed.getD i true):=by
              rw [hl]
              intro hm
              rcases List.mem_cons.1 hm with h | h
              · omega
              · have:=(List.pairwise_cons.1 hpw).1 _ h;omega
            have h2:¬ (!listed.getD e.on true)=true:=fun h=>this (List.mem_filter.2 ⟨List.mem_range.2 (by omega),h⟩)
            have hz:e.on < listed.size:=by omega
            rw [gd _ _ _ hz] at h2 ⊢
            have h2:listed[e.on]=true:=by cases hq:listed[e.on] <;> simp [hq] at h2 ⊢
            simp [h2]
          · simp [hbd]
        rw [hr] at this
        simp at this
    · unfold Region.ready at hi
      have hi:=List.mem_filter.1 hi
      have hin:i < ops.size:=List.mem_range.1 hi.1
      have hoi:ops[i]?=some ops[i]:=Array.getElem?_eq_getElem hin
      obtain ⟨hi1,hi2⟩:=hi
      rw [hoi] at hi2
      simp only [Option.map_some,Option.getD_some,Bool.and_eq_true] at hi2
      have hmem:i∈((List.range ops.size).filter fun i=>!listed.getD i true):=List.mem_filter.2 ⟨hi1,hi2.1⟩
      have hdl:∀d∈deps ops[i],listed.getD d false=true:=by
        intro d hd
        unfold deps at hd
        obtain ⟨e,he,hed⟩:=List.mem_filterMap.1 hd
        split at hed <;> try (simp at hed;done)
        rename_i hbd
        simp only [Option.some.injEq] at hed
        subst hed
        have:=(Array.all_eq_true_iff_forall_mem.1 hi2.2) e (by simpa using he)
        simpa [hbd] using this
      have hpw:((List.range ops.size).filter fun i=>!listed.getD i true).Pairwise (· < ·):=List.Pairwise.filter _ List.pairwise_lt_range
      have hp:=RunL.pull (i:=i) _ _ _ hpw hmem (fun b hbm hlt=>by
        refine hfree (fun j=>listed.getD j false=true) hcl i ops[i] (by simp) hdl b hlt ?_
        have hbm:=List.mem_filter.1 hbm
        have hz:b < listed.size:=by have:=List.mem_range.1 hbm.1;omega
        have h2:=hbm.2
        rw [gd _ _ _ hz] at h2 ⊢
        cases hq:listed[b] <;> simp [hq] at h2 ⊢) hrun
      cases hp with
      | cons ho h t =>
        rename_i o
        have ho':ops[i]?=some o:=by simpa using ho
        have hzi:i < listed.size:=by omega
        have hfe:((List.range ops.size).filter fun j=>!(listed.setIfInBounds i true).getD j true)=((List.range ops.size).filter fun i=>!listed.getD i true).filter (· != i):=by
          rw [List.filter_filter]
          apply List.filter_congr
          intro j hj
          have hjz:j < listed.size:=by have:=List.mem_range.1 hj;omega
          rw [gs _ _ _ _ hjz,gd _ _ _ hjz]
          by_cases e:i=j
          · subst e;simp
          · have:(j != i)=true:=by simpa using fun h=>e h.symm
            simp [e,this]
        refine qf6 hO R hb ho' h (RunL.ok t hok) (fun a' w' R' hb'=>ih (listed.setIfInBounds i true) _ a' w' (by simpa using hsz) ?_ ?_ ?_ R' (Nat.le_trans hb hb'.size) (hbel.trans hb'))
        · intro j oj hoj hj d hd
          have keep:∀d,listed.getD d false=true→(listed.setIfInBounds i true).getD d false=true:=by
            intro d hd
            by_cases hz:d < listed.size
            · rw [gd _ _ _ hz] at hd
              rw [gs _ _ _ _ hz]
              split
              · rfl
              · exact hd
            · simp [Array.getD,hz] at hd
          by_cases e:i=j
          · subst e
            have:oj=ops[i]:=by
              have h1:ops.toList[i]?=some ops[i]:=by simp
              rw [h1] at hoj;simpa using hoj.symm
            subst this
            exact keep d (hdl d hd)
          · refine keep d (hcl j oj hoj ?_ d hd)
            by_cases hz:j < listed.size
            · rw [gs _ _ _ _ hz,if_neg e] at hj
              rw [gd _ _ _ hz];exact hj
            · simp [Array.getD,hz] at hj
        · rw [hfe]
          have hlt:(((List.range ops.size).filter fun i=>!listed.getD i true).filter (· != i)).length < ((List.range ops.size).filter fun i=>!listed.getD i true).length:=by
            refine List.length_filter_lt_length_iff_exists.2 ⟨i,hmem,by simp⟩
          omega
        · rw [hfe];exact t
end
end Go.Proofs.YthkidembkknoeaaDoor.QR
namespace Go.Proofs.YthkidembkknoeaaDoor.QR
open Go.RowKit PR
set_option linter.unusedVariables false
set_option linter.unusedSimpArgs false
inductive EqC:CV→CV→Prop
  | v (a:Value):EqC (.v a) (.v a)
  | slc {z:Nat} {n:Int} {r r':Row}:(∀i j:Nat,(i:Int) < n→j < z→EqC (den r i j) (den r' i j))→EqC (.slc z n r) (.slc z n r')
  | nil {a:Option Addr} {l c z:Nat} {n:Int} {r:Row}:0 < z→n=0→EqC (.v (.slice a l c)) (.slc z n r)
theorem vg6 {a:Option Addr} {l c:Nat} (h:jh0 (.slice a l c)=true):a=none∧l=0∧c=0:=by
  cases a with
  | some _=>simp [jh0] at h
  | none =>
    cases l with
    | succ _=>simp [jh0] at h
    | zero =>
      cases c with
      | succ _=>simp [jh0] at h
      | zero=>exact ⟨rfl,rfl,rfl⟩
theorem Rep.eq {F:Nat→Prop} {w:World} {c c':CV} (h:EqC c c'):∀{y:Value},Rep F w c y→Rep F w c' y:=by
  induction h with
  | v a=>intro y h;exact h
  | slc _ ih =>
    intro y h
    cases h with
    | nil h1 h2=>exact .nil h1 h2
    | slc u h1 hc h2 h3 h4 h5=>exact .slc u h1 hc h2 h3 h4 fun i j hi hj=>ih i j (by omega) hj (h5 i j hi hj)
  | nil hz hn =>
    intro y h
    cases h with
    | v hp =>
      subst hn
      obtain ⟨rfl,rfl,rfl⟩:=vg6 hp
      exact .nil hz (fun _=>rfl)
def veq:Value→Value→Prop
  | .int k a,.int l b=>k=l∧a=b
  | .bool a,.bool b=>a=b
  | .string a,.string b=>a=b
  | a,b=>a=b
theorem yp8 {a b:Value} (h:veq a b):a=b:=by
  unfold veq at h
  split at h
  · rw [h.1,h.2]
  · rw [h]
  · rw [h]
  · exact h
def nilC:Value→Nat→Int→Prop
  | .slice none 0 0,z,n=>Nat.blt 0 z=true∧n=0
  | _,_,_=>False
theorem q04 {a:Value} {z:Nat} {n:Int} (h:nilC a z n):a=.slice none 0 0∧0 < z∧n=0:=by
  unfold nilC at h
  split at h
  · exact ⟨rfl,by simpa using h.1,h.2⟩
  · exact h.elim
def eqc:CV→CV→Prop
  | .v a,.v b=>veq a b
  | .v a,.slc z n _=>nilC a z n
  | .slc z n r,.slc z' n' r'=>EqC (.slc z n r) (.slc z' n' r')
  | _,_=>False
theorem vl0 {a b:CV} (h:eqc a b):EqC a b:=by
  unfold eqc at h
  split at h
  · rw [yp8 h];exact .v _
  · obtain ⟨rfl,h1,h2⟩:=q04 h;exact .nil h1 h2
  · exact h
  · exact h.elim
def allJ:Nat→(Nat→Prop)→Prop
  | 0,_=>True
  | n + 1,p=>allJ n p∧p n
theorem ji4:∀{n:Nat} {p:Nat→Prop},allJ n p→∀j,j < n→p j
  | 0,_,_,j,h=>by omega
  | n + 1,p,h,j,hj=>by
    by_cases e:j=n
    · subst e;exact h.2
    · exact ji4 h.1 j (by omega)
def yh0 (z:Nat) (n:Int) (r r':Row):Prop:=allJ z fun j=>∀i:Nat,ilt (i:Int) n=true→eqc (den r i j) (den r' i j)
theorem qn8 {z:Nat} {n:Int} {r r':Row} (h:yh0 z n r r') (i j:Nat) (hi:(i:Int) < n) (hj:j < z):EqC (den r i j) (den r' i j):=vl0 (ji4 h j hj i (decide_eq_true hi))
def leC (ρ:Nat→Nat):CV→CV→Prop
  | .v a,.v b=>veq a b
  | .v a,.slc z n _=>nilC a z n
  | .slc z n r,.slc z' n' r'=>z=z'∧n=n'∧yh0 z n r r'
  | .own m n,.own m' n'=>m=ρ m'∧n=n'
  | .ptr m off,.ptr m' off'=>m=ρ m'∧off=off'
  | .fn f l,.fn g k=>f=g∧l=k.map fun p=>(ρ p.1,p.2)
  | _,_=>False
def leL (ρ:Nat→Nat):List CV→List CV→Prop
  | [],[]=>True
  | a :: l,b :: m=>leC ρ a b∧leL ρ l m
  | _,_=>False
def leX (ρ:Nat→Nat):XV→XV→Prop
  | .c a,.c b=>leC ρ a b
  | .agg l,.agg m=>leL ρ l m
  | _,_=>False
def leXs (ρ:Nat→Nat):List XV→List XV→Prop
  | [],[]=>True
  | a :: l,b :: m=>leX ρ a b∧leXs ρ l m
  | _,_=>False
def leS (ρ:Nat→Nat):SV→SV→Prop
  | .x a,.x b=>leX ρ a b
  | .tup l,.tup m=>leXs ρ l m
  | .view m z l n,.view m' z' l' n'=>m=ρ m'∧z=z'∧l=l'∧n=n'
  | _,_=>False
def leT (ρ:Nat→Nat):List GV→List GV→Prop
  | [],[]=>True
  | g :: l,h :: m=>match h.k with
    | true=>(g.k=true∧leS ρ g.v h.v)∧leT ρ l m
    | false=>leT ρ l m
  | _,_=>False
def leB (ρ:Nat→Nat):Option Blk→Blk→Prop
  | some (.cells l),.cells m=>leL ρ l m
  | some (.row z n r),.row z' n' r'=>z=z'∧n=n'∧yh0 z n r r'
  | some (.fro z n r),.fro z' n' r'=>z=z'∧n=n'∧yh0 z n r r'
  | _,_=>False
def leM (ρ:Nat→Nat) (mem:Nat→Option Blk):List (Nat×Blk)→Prop
  | []=>True
  | (n,b) :: l=>leB ρ (mem (ρ n)) b∧leM ρ mem l
def jp3:List (Nat×Blk)→Nat→Option Blk
  | [],_=>none
  | (m,x) :: rest,n=>bif Nat.beq n m then some x else jp3 rest n
def renP:List (Nat×Nat)→List (Nat×Nat)→List (Nat×Nat)
  | a :: l,b :: m=>(b.1,a.1) :: renP l m
  | _,_=>[]
def renC:CV→CV→List (Nat×Nat)
  | .own m _,.own m' _=>[(m',m)]
  | .ptr m _,.ptr m' _=>[(m',m)]
  | .fn _ l,.fn _ l'=>renP l l'
  | _,_=>[]
def renL:List CV→List CV→List (Nat×Nat)
  | a :: l,b :: m=>renC a b ++ renL l m
  | _,_=>[]
def renS:SV→SV→List (Nat×Nat)
  | .x (.c a),.x (.c b)=>renC a b
  | .x (.agg l),.x (.agg m)=>renL l m
  | .view m _ _ _,.view m' _ _ _=>[(m',m)]
  | _,_=>[]
def renT:List GV→List GV→List (Nat×Nat)
  | g :: l,h :: m=>bif h.k then renS g.v h.v ++ renT l m else renT l m
  | _,_=>[]
def renB (mem:Nat→Option Blk):List (Nat×Nat)→List (Nat×Blk)→List (Nat×Nat)
  | ren,[]=>[]
  | ren,(m',.cells l') :: rest=>(match mem (look ren m') with | some (.cells l)=>renL l l' | _=>[]) ++ renB mem (ren ++ (match mem (look ren m') with | some (.cells l)=>renL l l' | _=>[])) rest
  | ren,_ :: rest=>renB mem ren rest
 where look:List (Nat×Nat)→Nat→Nat
  | [],k=>k
  | (a,b) :: l,k=>bif Nat.beq k a then b else look l k
def rename (s:PSt) (slots:List GV) (blocks:List (Nat×Blk)):List (Nat×Nat):=renT s.tmps slots ++ renB s.mem (renT s.tmps slots) blocks
def rho (l:List (Nat×Nat)) (k:Nat):Nat:=bif Nat.ble GB k then k else renB.look l k
structure Inv where
  ι:Type
  good:ι→Prop
  slots:ι→List GV
  blocks:ι→List (Nat×Blk)
  μ:ι→Nat
def ist (I:Inv) (i:I.ι) (gen:Nat):PSt:=⟨I.slots i,jp3 (I.blocks i),True,[],gen⟩
def qi3 (blocks:List (Nat×Blk)) (m:Nat):Bool:=bif Nat.ble GB m then (gtab m).isSome else (jp3 blocks m).isSome
def wfC' (blocks:List (Nat×Blk)):CV→Bool
  | .own m _=>qi3 blocks m
  | .ptr m _=>qi3 blocks m
  | .fn _ l=>l.all fun p=>qi3 blocks p.1
  | _=>true
def wfX (blocks:List (Nat×Blk)):XV→Bool
  | .c c=>wfC' blocks c
  | .agg l=>l.all (wfC' blocks)
def wfS (blocks:List (Nat×Blk)):SV→Bool
  | .x v=>wfX blocks v
  | .tup l=>l.all (wfX blocks)
  | .view m _ _ _=>qi3 blocks m
  | _=>false
def wfB (blocks:List (Nat×Blk)):Blk→Bool
  | .cells l=>l.all (wfC' blocks)
  | _=>true
def wfI (blocks:List (Nat×Blk)) (slots:List GV) (ρ:Nat→Nat):Bool :=
  slots.all (fun g=>bif g.k then wfS blocks g.v else true) && blocks.all (fun p=>wfB blocks p.2 && Nat.blt p.1 GB && Nat.blt (ρ p.1) GB && (bif Nat.ble PN p.1 then Nat.beq (ρ p.1) p.1 else true)) && distinct (blocks.map fun p=>ρ p.1) && distinct (blocks.map (·.1))
def jh2 (I:Inv) (s:PSt) (i:I.ι):Prop :=
  s.ok∧wfI (I.blocks i) (I.slots i) (rho (rename s (I.slots i) (I.blocks i)))=true∧leT (rho (rename s (I.slots i) (I.blocks i))) s.tmps (I.slots i)∧leM (rho (rename s (I.slots i) (I.blocks i))) s.mem (I.blocks i)
def bump (s:PSt):PSt:=⟨s.tmps,s.mem,s.ok,[],s.gen + 1⟩
def va5 (f:(Ex→PSt→Prop)→PSt→Prop) (k:Ex→PSt→Prop):Nat→PSt→Prop
  | 0,_=>False
  | n + 1,s=>f (fun e s'=>match e with
    | .normal=>va5 f k n (bump s')
    | .exit m=>k (.exit m) s'
    | .ret=>k .ret s') s
def vl1:CV→Bool
  | .v (.slice none 0 0)=>true
  | _=>false
def jz6 (t z nm:Nat) (s:PSt):PSt:=match s.tmps[t]? with
  | some ⟨true,.x (.c c)⟩=>if vl1 c && (Nat.blt 0 z && ((s.mem nm).isNone && Nat.blt nm PN)) then ⟨s.tmps.set t (gnow (.x (.c (.own nm 0)))),jb2 s.mem [(nm,.row z 0 (.zer []))],s.ok,s.lits,s.gen⟩ else s
  | _=>s
def jz7 (t j z nm:Nat) (s:PSt):PSt:=match s.tmps[t]? with
  | some ⟨true,.x (.c (.ptr m off))⟩=>match s.mem m with
    | some (.cells l)=>match l[j]? with
      | some c=>if vl1 c && (Nat.blt 0 z && ((s.mem nm).isNone && Nat.blt nm PN)) then ⟨s.tmps,jb2 (jb2 s.mem [(nm,.row z 0 (.zer []))]) [(m,.cells (l.set j (.own nm 0)))],s.ok,s.lits,s.gen⟩ else s
      | none=>s
    | _=>s
  | _=>s
def y57 (t:Nat) (j:Option Nat) (z nm:Nat) (s:PSt):PSt:=match j with
  | none=>jz6 t z nm s
  | some j=>jz7 t j z nm s
def qc9:Nat→List (Nat×Option Nat×Nat)→PSt→PSt
  | _,[],s=>s
  | nm,(t,j,z) :: l,s=>qc9 (nm + 1) l (y57 t j z nm s)
def vr0 (s:PSt):List (Nat×Nat)→List Nat
  | []=>[]
  | (t,j) :: l=>match (s.tmps.getD t (gnow (.tup []))).v with
    | .x (.c (.ptr m _))=>match s.mem m with
      | some (.cells cs)=>match cs[j]? with
        | some (.own r _)=>r :: vr0 s l
        | _=>vr0 s l
      | _=>vr0 s l
    | .x (.c (.own r _))=>r :: vr0 s l
    | _=>vr0 s l
def jz8 (t j:Nat) (s:PSt):PSt:=match s.tmps[t]? with
  | some ⟨true,.x (.c (.ptr m off))⟩=>match s.mem m with
    | some (.cells l)=>match l[j]? with
      | some (.own r n)=>match s.mem r with
        | some (.fro z k row)=>⟨s.tmps,jb2 s.mem [(m,.cells (l.set j (.slc z k row)))],s.ok,s.lits,s.gen⟩
        | _=>s
      | _=>s
    | _=>s
  | some ⟨true,.x (.c (.own r n))⟩=>match s.mem r with
    | some (.fro z k row)=>⟨s.tmps.set t ⟨true,.x (.c (.slc z k row))⟩,s.mem,s.ok,s.lits,s.gen⟩
    | _=>s
  | _=>s
def qi4:List (Nat×Nat)→PSt→PSt
  | [],s=>s
  | (t,j) :: l,s=>qi4 l (jz8 t j s)
inductive Ann where
  | cut (I:Inv)
  | inv (I:Inv)
  | rounds (n:Nat)
  | invs (l:List Inv)
  | invF (f:(Nat→Int)→List Inv)
  | cuts (l:List Inv)
  | ownF (ts:List (Nat×Option Nat×Nat)) (f:(Nat→Int)→List Inv)
  | cutF (f:(Nat→Int)→List Inv)
  | cutZ (l:List (List (Nat×Nat)×Inv))
  | cutZF (f:(Nat→Int)→List (List (Nat×Nat)×Inv))
def anyZ:List (List (Nat×Nat)×Inv)→PSt→Prop
  | [],_=>False
  | (ts,I) :: l,s=>(∃i,I.good i∧jh2 I (qi4 ts (frzS s (vr0 s ts))) i)∨anyZ l s
def allZ:List (List (Nat×Nat)×Inv)→(PSt→Prop)→Nat→Prop
  | [],_,_=>True
  | (_,I) :: l,f,g=>(∀i,I.good i→f (ist I i g))∧allZ l f g
def anyP:List Inv→((I:Inv)→I.ι→Prop)→Prop
  | [],_=>False
  | I :: l,f=>(∃i,f I i)∨anyP l f
def allP:List Inv→((I:Inv)→I.ι→Prop)→Prop
  | [],_=>True
  | I :: l,f=>(∀i,I.good i→f I i)∧allP l f
def flush (k:PSt→Prop) (s:PSt):Prop:=s.ok∧k ⟨s.tmps,s.mem,True,s.lits,s.gen⟩
def ja4:Nat→Option Ann:=fun _=>none
def cutK (I:Inv) (k:Ex→PSt→Prop):Ex→PSt→Prop:=fun e s=>match e with
  | .normal=>∃j,I.good j∧jh2 I s j
  | .exit m=>k (.exit m) s
  | .ret=>k .ret s
def vr1 (l:List Inv) (k:Ex→PSt→Prop):Ex→PSt→Prop:=fun e s=>match e with
  | .normal=>anyP l fun J j=>J.good j∧jh2 J s j
  | .exit m=>k (.exit m) s
  | .ret=>k .ret s
def yt8 (l:List (List (Nat×Nat)×Inv)) (k:Ex→PSt→Prop):Ex→PSt→Prop:=fun e s=>match e with
  | .normal=>anyZ l s
  | .exit m=>k (.exit m) s
  | .ret=>k .ret s
def ju4 (id:Nat) (k:Ex→PSt→Prop):Ex→PSt→Prop:=fun e s=>match e with
  | .normal=>k .normal s
  | .exit m=>if m=id then k .normal s else k (.exit m) s
  | .ret=>k .ret s
def condC (s:PSt) (c:Operand) (p q:Prop):Prop:=match operand s c with
  | ⟨true,.x (.c (.v (.bool b)))⟩=>if yg5 s.lits c then (match b with | true=>p | false=>q) else ja0 b p q
  | _=>False
def qu0 (s:PSt) (t:Nat):Int:=bif Nat.beq t 999999 then Int.ofNat s.gen else match s.tmps.getD t gunk with
  | ⟨true,.x (.c (.v (.int _ n)))⟩=>n
  | _=>0
def vw7 (l:List Inv) (ev:(Ex→PSt→Prop)→PSt→Prop) (k:Ex→PSt→Prop) (s:PSt):Prop :=
  (anyP l fun I i=>I.good i∧jh2 I s i)∧allP l fun I i=>ev (fun e s'=>match e with
    | .normal=>anyP l fun J j=>J.good j∧jh2 J s' j∧J.μ j < I.μ i
    | .exit m=>k (.exit m) s'
    | .ret=>k .ret s') (ist I i (s.gen + 1))
def zc4:Inv:=⟨Empty,fun _=>False,fun _=>[],fun _=>[],fun _=>0⟩
def zc5 (I J:Inv):Inv:=⟨I.ι ⊕ J.ι,fun i=>match i with | .inl i=>I.good i | .inr i=>J.good i,fun i=>match i with | .inl i=>I.slots i | .inr i=>J.slots i,fun i=>match i with | .inl i=>I.blocks i | .inr i=>J.blocks i,fun i=>match i with | .inl i=>I.μ i | .inr i=>J.μ i⟩
def sumI:List Inv→Inv
  | []=>zc4
  | I :: l=>zc5 I (sumI l)
theorem qn9:∀(l:List Inv) (s:PSt) (m:Nat→Prop),(anyP l fun I i=>I.good i∧jh2 I s i∧m (I.μ i))↔∃i,(sumI l).good i∧jh2 (sumI l) s i∧m ((sumI l).μ i)
  | [],s,m=>⟨fun h=>h.elim,fun ⟨i,_⟩=>Empty.elim i⟩
  | I :: l,s,m=>by
    constructor
    · rintro (⟨i,h⟩ | h)
      · exact ⟨Sum.inl i,h⟩
      · obtain ⟨i,h⟩:=(qn9 l s m).1 h
        exact ⟨Sum.inr i,h⟩
    · rintro ⟨i | i,h⟩
      · exact Or.inl ⟨i,h⟩
      · exact Or.inr ((qn9 l s m).2 ⟨i,h⟩)
theorem jw5 (l:List Inv) (s:PSt):(anyP l fun I i=>I.good i∧jh2 I s i)↔∃i,(sumI l).good i∧jh2 (sumI l) s i:=by
  have:=qn9 l s (fun _=>True)
  simpa only [and_true] using this
theorem jl5:∀(l:List Inv) (g:Nat) (f:Nat→PSt→Prop),(allP l fun I i=>f (I.μ i) (ist I i g))↔∀i,(sumI l).good i→f ((sumI l).μ i) (ist (sumI l) i g)
  | [],g,f=>⟨fun _ i=>Empty.elim i,fun _=>trivial⟩
  | I :: l,g,f=>by
    constructor
    · rintro ⟨h1,h2⟩ i hi
      cases i with
      | inl i=>exact h1 i hi
      | inr i=>exact (jl5 l g f).1 h2 i hi
    · intro h
      exact ⟨fun i hi=>h (Sum.inl i) hi,(jl5 l g f).2 fun i hi=>h (Sum.inr i) hi⟩
theorem ji5 (l:List Inv) (k:Ex→PSt→Prop):vr1 l k=cutK (sumI l) k:=by
  funext e s
  cases e with
  | normal=>exact propext (jw5 l s)
  | exit m=>rfl
  | ret=>rfl
section
variable {P:Program} {O:ja7} {base:Nat} {X F0:Nat→Prop} {B:Nat→(Nat×Value)×Bool}
theorem Rel.lit {s:PSt} {a:Act} {w:World} (R:Rel base X F0 B s a w) (p:Prop) (l:List Tmp) (gen:Nat):Rel base X F0 B ⟨s.tmps,s.mem,p,l,gen⟩ a w:=by
  obtain ⟨E,R⟩:=R
  exact ⟨E,R.defers,R.size,R.slots,R.mem,R.sep,R.frz,R.sub,R.glob,R.old,R.pin,R.pinL⟩
theorem RunL.wp (hO:je9 P O) {ops:Array Oper} {nm:Nat} {D:Nat→Delta} {Q:Exit→Act→World→Prop} {w0:World} {s':PSt} (hok:s'.ok) (hQ:∀a' w',Rel base X F0 B s' a' w'→jc3 base X F0 w0 w'→Q .normal a' w') :
    ∀(l:List Nat) (s:PSt) (a:Act) (w:World),RunL P O ops.toList nm D l s s'→Rel base X F0 B s a w→base≤w.heap.size→jc3 base X F0 w0 w→wpOps P ops Q l a w
  | [],s,a,w,h,R,hb,hbel=>by cases h;exact hQ _ _ R hbel
  | i :: l,s,a,w,h,R,hb,hbel=>by
    cases h with
    | cons ho h t =>
      rw [wpOps_cons]
      exact qf6 hO R hb (by simpa using ho) h (RunL.ok t hok) fun a' w' R' hb'=>RunL.wp hO hok hQ l _ a' w' t R' (Nat.le_trans hb hb'.size) (hbel.trans hb')
theorem Rel.drew {s:PSt} {a:Act} {w w':World} (R:Rel base X F0 B s a w) (h:w'.heap=w.heap:=by rfl):Rel base X F0 B s a w':=by
  obtain ⟨E,R⟩:=R
  have T:Later (live s) E E w w':=⟨fun _ h=>h,fun _ _=>by rw [h],fun _ _ _=>rfl,fun _ _ _=>rfl⟩
  refine ⟨E,R.defers.later T.F T.heap,R.size,fun t g e hk=>?_,fun m b hm=>?_,R.sep,fun k hk=>by rw [h];exact R.frz k hk,R.sub,Laid.later T R.glob,fun k hk=>by rw [h];exact R.old k hk,R.pin,R.pinL⟩
  · obtain ⟨y,h1,h2⟩:=R.slots t g e hk
    exact ⟨y,h1,jd5.later T (fun _ _=>rfl) (fun _ h=>h) h2⟩
  · obtain ⟨h1,h2⟩:=R.mem m b hm
    exact ⟨h1,jg5.later T (fun _ _=>rfl) (fun _ h=>h) (Or.inl (by rw [hm];rfl)) h1 h2 fun k hk=>⟨by rw [h],je4 h2 hk⟩⟩
theorem Rel.frz {s:PSt} {a:Act} {w:World} (R:Rel base X F0 B s a w) (hb:base≤w.heap.size) (rows:List Nat):Rel base X F0 B ⟨s.tmps,jb2 s.mem (froze s rows),s.ok,s.lits,s.gen⟩ a w:=by
  obtain ⟨E,R⟩:=R
  have:=(R.qy8 hb (rows:=rows) (refs:=[]) (by simp) (res:=[]) (cs:=[]) (v:=.tuple #[]) (w':=w) (F':=jf1 E s rows) (Keep.refl _ _ _) (fun k h=>h) (fun k h=>⟨ji3 R h,Or.inl h⟩) ⟨[],rfl,trivial⟩ trivial (u:=[]) rfl none s.ok s.lits s.gen).1.1
  rw [List.append_nil] at this
  exact ⟨_,this⟩
theorem Rel.start {s:PSt} {a:Act} {w:World} (R:Rel base X F0 B s a w) (hb:base≤w.heap.size) (ops:List Oper) (draw:Bool):Rel base X F0 B (qn4 ops draw s) a w:=by
  unfold qn4 frzS
  split
  · split
    · exact R
    · exact R.frz hb _
  · exact R
section
variable {E:Env} {s:PSt} {a:Act} {w:World}
theorem va6 {c:CV} (h:vl1 c=true):c=.v nilS:=by
  unfold vl1 at h
  split at h
  · rfl
  · simp at h
theorem RelE.vw8 (R:RelE base X F0 B E s a w) {name z:Nat} (hn:s.mem name=none) (hltP:name < PN) (hz:0 < z) :
    ∃E',RelE base X F0 B E' ⟨s.tmps,jb2 s.mem [(name,.row z 0 (.zer []))],s.ok,s.lits,s.gen⟩ a w∧E'.ν name=nilS:=by
  have hlt:name < GB:=Nat.lt_trans hltP vp6
  have hnl:¬ live s name:=fun h=>h.elim (fun h=>by rw [hn] at h;simp at h) (fun h=>by omega)
  let E':Env:=⟨E.F,E.β,fun m=>if m=name then nilS else E.ν m⟩
  have T:Later (live s) E E' w w:=by
    refine ⟨fun _ h=>h,fun k hk=>rfl,fun _ _ _=>rfl,fun m hm _=>?_⟩
    show (if m=name then nilS else E.ν m)=E.ν m
    rw [if_neg (fun (e:m=name)=>hnl (e▸hm))]
  have GG:∀m,GB≤m→E'.ν m=E.ν m:=fun m hm=>by show (if m=name then nilS else E.ν m)=E.ν m;rw [if_neg (by omega)]
  have hLL:∀m,live s m→live ⟨s.tmps,jb2 s.mem [(name,.row z 0 (.zer []))],s.ok,s.lits,s.gen⟩ m:=fun m hm=>hm.elim (fun h=>Or.inl (jc8 h)) Or.inr
  have eν:E'.ν name=nilS:=by show (if name=name then nilS else E.ν name)=_;rw [if_pos rfl]
  have bo:∀m b,m≠name→ja9 E' m b=ja9 E m b:=by
    intro m b hm
    cases b with
    | row z n r =>
      show (if m=name then nilS else E.ν m).ownBlock=_
      rw [if_neg hm];rfl
    | _=>rfl
  refine ⟨E',R.go none gunk undef s.ok s.lits s.gen T GG (fun m h=>jc8 h) (fun h=>by simp [gunk] at h) ?_ ?_ (fun k hk=>R.frz k hk) (Nat.le_refl _) (fun m hm h=>jj1 (by simp [hltP]) hm h),eν⟩
  · intro m b hm
    by_cases e:m=name
    · subst e
      rw [jb0] at hm
      simp only [Option.some.injEq] at hm
      subst hm
      refine ⟨hlt,?_⟩
      unfold jg5
      rw [eν]
      exact ⟨Int.le_refl 0,hz,(fun k hk=>by simp [nilS,Value.ownBlock] at hk),0,[],⟨⟨by simp,Or.inl ⟨rfl,rfl⟩⟩,fun k hk=>by simp [nilS,Value.ownBlock] at hk⟩,fun i j hi hj=>by omega⟩
    · rw [jb6 e] at hm
      have hm:s.mem m=some b:=hm
      obtain ⟨k1,k2⟩:=R.mem m b hm
      exact ⟨k1,jg5.later T GG hLL (Or.inl (by rw [hm];rfl)) k1 k2 fun k hk=>⟨rfl,je4 k2 hk⟩⟩
  · intro m m' b b' hm hm' hne k hk hk'
    by_cases e:m=name
    · subst e
      rw [jb0] at hm
      simp only [Option.some.injEq] at hm
      subst hm
      simp [ja9,eν,nilS,Value.ownBlock] at hk
    · by_cases e':m'=name
      · subst e'
        rw [jb0] at hm'
        simp only [Option.some.injEq] at hm'
        subst hm'
        simp [ja9,eν,nilS,Value.ownBlock] at hk'
      · rw [jb6 e] at hm
        rw [jb6 e'] at hm'
        rw [bo _ _ e] at hk
        rw [bo _ _ e'] at hk'
        exact R.sep m m' b b' hm hm' hne k hk hk'
theorem RelE.y58 (R:RelE base X F0 B E s a w) {t:Nat} {v:SV} (h:∀y,a.tmps[t]?=some y→jd5 (live s) E w v y) (ht:t < s.tmps.length):RelE base X F0 B E ⟨s.tmps.set t (gnow v),s.mem,s.ok,s.lits,s.gen⟩ a w:=by
  refine ⟨R.defers,by simp [R.size],fun u g e hk=>?_,R.mem,R.sep,R.frz,R.sub,R.glob,R.old,R.pin,R.pinL⟩
  by_cases q:t=u
  · subst q
    have e:(s.tmps.set t (gnow v))[t]?=some g:=e
    rw [List.getElem?_set_self ht] at e
    simp only [Option.some.injEq] at e
    subst e
    obtain ⟨y,hy⟩:∃y,a.tmps[t]?=some y:=by
      have:t < a.tmps.size:=by rw [R.size];exact ht
      exact ⟨_,Array.getElem?_eq_getElem this⟩
    exact ⟨y,hy,h y hy⟩
  · have e:(s.tmps.set t (gnow v))[u]?=some g:=e
    rw [List.getElem?_set_ne q] at e
    exact R.slots u g e hk
theorem RelE.yp9 (R:RelE base X F0 B E s a w) {m:Nat} {l l':List CV} (hm:s.mem m=some (.cells l)) (h:∀ys,Fa2 (jb9 (live s) E w) l ys→Fa2 (jb9 (live s) E w) l' ys):RelE base X F0 B E ⟨s.tmps,jb2 s.mem [(m,.cells l')],s.ok,s.lits,s.gen⟩ a w:=by
  have hL:live ⟨s.tmps,jb2 s.mem [(m,.cells l')],s.ok,s.lits,s.gen⟩=live s:=by
    funext k
    unfold live
    by_cases e:k=m
    · subst e;simp only [jb0,hm];rfl
    · simp only [jb6 e];rfl
  have get:∀k b,jb2 s.mem [(m,.cells l')] k=some b→∃b0,s.mem k=some b0∧(∀E,ja9 E k b=ja9 E k b0)∧(jg5 base X (live s) E w k b0→jg5 base X (live s) E w k b):=by
    intro k b hk
    by_cases e:k=m
    · subst e
      rw [jb0] at hk
      simp only [Option.some.injEq] at hk
      subst hk
      refine ⟨_,hm,fun _=>rfl,fun ⟨h1,h2,arr,t,h3,h4⟩=>⟨h1,h2,arr,t,h3,h _ h4⟩⟩
    · rw [jb6 e] at hk
      exact ⟨b,hk,fun _=>rfl,fun h=>h⟩
  refine ⟨R.defers,R.size,fun u g e hk=>by rw [hL];exact R.slots u g e hk,fun k b hk=>?_,fun k k' b b' hk hk' hne j hj=>?_,R.frz,R.sub,R.glob,R.old,fun k hk h=>?_,fun k hk=>jc8 (R.pinL k hk)⟩
  · obtain ⟨b0,g0,_,g2⟩:=get k b hk
    rw [hL]
    exact ⟨(R.mem k b0 g0).1,g2 (R.mem k b0 g0).2⟩
  · obtain ⟨b0,g0,g1,_⟩:=get k b hk
    obtain ⟨b1,g3,g4,_⟩:=get k' b' hk'
    rw [g1] at hj
    rw [g4]
    exact R.sep k k' b0 b1 g0 g3 hne j hj
  · obtain ⟨b,hb⟩:=Option.isSome_iff_exists.1 h
    obtain ⟨b0,g0,_⟩:=get k b hb
    exact R.pin k hk (by rw [g0];rfl)
theorem Fa2.set {L:Nat→Prop}:∀{l:List CV} {ys:List Value} {j:Nat} {c d:CV},l[j]?=some c→(∀y,jb9 L E w c y→jb9 L E w d y)→Fa2 (jb9 L E w) l ys→Fa2 (jb9 L E w) (l.set j d) ys
  | [],ys,j,c,d,h,_,_=>by simp at h
  | x :: l,[],j,c,d,_,_,h=>h.elim
  | x :: l,y :: ys,0,c,d,h,k,H=>by simp at h;subst h;exact ⟨k y H.1,H.2⟩
  | x :: l,y :: ys,j + 1,c,d,h,k,H=>⟨H.1,Fa2.set (by simpa using h) k H.2⟩
theorem vw9 {L:Nat→Prop} {nm:Nat} (hl:L nm) (hν:E.ν nm=nilS) {y:Value} (h:jb9 L E w (.v nilS) y):jb9 L E w (.own nm 0) y:=by
  have h:Rep E.F w (.v nilS) y:=h
  cases h
  exact ⟨hl,hν.symm,Int.le_refl 0,Or.inl ⟨rfl,rfl⟩⟩
end
theorem Rel.jz6 {s:PSt} {a:Act} {w:World} (R:Rel base X F0 B s a w) (t z nm:Nat):Rel base X F0 B (jz6 t z nm s) a w:=by
  unfold QR.jz6
  split
  · rename_i c ht
    split
    · rename_i hc
      simp only [Bool.and_eq_true,Nat.blt_eq,Option.isNone_iff_eq_none] at hc
      obtain ⟨h1,h2,h3,h4⟩:=hc
      obtain ⟨E,R⟩:=R
      obtain ⟨E',R',hν⟩:=R.vw8 h3 h4 h2
      refine ⟨E',R'.y58 (t:=t) (v:=.x (.c (.own nm 0))) (fun y hy=>?_) (by have:=(List.getElem?_eq_some_iff.1 ht).1;exact this)⟩
      obtain ⟨y',e1,e2⟩:=R'.slots t _ ht rfl
      rw [hy] at e1
      simp only [Option.some.injEq] at e1
      subst e1
      have e2:jb9 _ E' w c y:=e2
      rw [va6 h1] at e2
      exact vw9 (Or.inl (by simp only [jb0];rfl)) hν e2
    · exact R
  · exact R
theorem Rel.jz7 {s:PSt} {a:Act} {w:World} (R:Rel base X F0 B s a w) (t j z nm:Nat):Rel base X F0 B (jz7 t j z nm s) a w:=by
  unfold QR.jz7
  split
  · split
    · rename_i m off ht _ l hm
      split
      · rename_i c hj
        split
        · rename_i hc
          simp only [Bool.and_eq_true,Nat.blt_eq,Option.isNone_iff_eq_none] at hc
          obtain ⟨h1,h2,h3,h4⟩:=hc
          obtain ⟨E,R⟩:=R
          obtain ⟨E',R',hν⟩:=R.vw8 h3 h4 h2
          have hne:m≠nm:=fun e=>by subst e;rw [hm] at h3;simp at h3
          refine ⟨E',R'.yp9 (m:=m) (l:=l) (by simp only [jb6 hne];exact hm) (fun ys hy=>Fa2.set hj (fun y hy=>?_) hy)⟩
          rw [va6 h1] at hy
          exact vw9 (Or.inl (by simp only [jb0];rfl)) hν hy
        · exact R
      · exact R
    · exact R
  · exact R
theorem Rel.qc9 {a:Act} {w:World}:∀(ts:List (Nat×Option Nat×Nat)) (nm:Nat) (s:PSt),Rel base X F0 B s a w→Rel base X F0 B (qc9 nm ts s) a w
  | [],_,s,R=>R
  | (t,none,z) :: l,nm,s,R=>Rel.qc9 l (nm + 1) _ (R.jz6 t z nm)
  | (t,some j,z) :: l,nm,s,R=>Rel.qc9 l (nm + 1) _ (R.jz7 t j z nm)
theorem vr2 (t z nm:Nat) (s:PSt):(jz6 t z nm s).ok=s.ok:=by
  unfold QR.jz6
  split
  · split <;> rfl
  · rfl
theorem vr3 (t j z nm:Nat) (s:PSt):(jz7 t j z nm s).ok=s.ok:=by
  unfold QR.jz7
  split
  · split
    · split
      · split <;> rfl
      · rfl
    · rfl
  · rfl
theorem qo0:∀(ts:List (Nat×Option Nat×Nat)) (nm:Nat) (s:PSt),(qc9 nm ts s).ok=s.ok
  | [],_,s=>rfl
  | (t,none,z) :: l,nm,s=>(qo0 l (nm + 1) _).trans (vr2 t z nm s)
  | (t,some j,z) :: l,nm,s=>(qo0 l (nm + 1) _).trans (vr3 t j z nm s)
theorem va7 (hO:je9 P O) (hm:P.follows .mixedOrders=true) {id:Nat} {ops:Array Oper} {draw:Bool} {s:PSt} {a:Act} {w w0:World} {Q:Exit→Act→World→Prop} {k:PSt→Prop} (hk:∀s,k s→s.ok)
    (h:jw3 P O id ops.toList draw s k) (R:Rel base X F0 B s a w) (hb:base≤w.heap.size) (hbel:jc3 base X F0 w0 w) (hQ:∀s' a' w',Rel base X F0 B s' a' w'→jc3 base X F0 w0 w'→k s'→Q .normal a' w') :
    (draw=true∧wpAny P .any ops Q ops.size (Array.replicate ops.size false) a { w with drawn:=w.drawn + 1 })∨(draw=false∧wpOps P ops Q (List.range ops.size) a w):=by
  unfold jw3 at h
  rw [force_eq] at h
  obtain ⟨s1,ds,lits,hend,hlen,run⟩:=jk5 (ops:=ops.toList) ops.toList 0 s [] s.lits (fun j o ho=>by rw [Nat.zero_add];exact ho) rfl h
  rw [show ([]:List Delta).reverse ++ ds=ds from rfl] at hend
  have run:=run (fun i=>ds.getD i ⟨gunk,[],[],[]⟩) (fun j d hd=>by simp [List.getD,hd])
  rw [← List.range_eq_range'] at run
  have hsz:ops.toList.length=ops.size:=by simp
  split at hend
  · rename_i hd
    subst hd
    have hc:(jr4 0 ops.toList && jr7 [] (masks [] ops.toList) (rowsOf ops.toList ops.toList ds))=true:=by
      by_cases hc:(jr4 0 ops.toList && jr7 [] (masks [] ops.toList) (rowsOf ops.toList ops.toList ds))=true
      · exact hc
      · rw [if_neg hc] at hend;exact hend.elim
    rw [if_pos hc] at hend
    have hok:=hk _ hend
    simp only [Bool.and_eq_true] at hc
    obtain ⟨hc1,hc2⟩:=hc
    refine Or.inl ⟨rfl,?_⟩
    refine vq9 hO ((s.gen * 4096 + id) * 1024) (fun i=>ds.getD i ⟨gunk,[],[],[]⟩) s1 hok ?_ ?_ w0 (fun a' w' R' hb'=>hQ _ a' w' (R'.lit s1.ok lits s1.gen) hb' hend) ops.size _ s a _ (by simp) ?_ ?_ ?_ (R.drew) hb ⟨⟨hbel.os,hbel.tape,hbel.output,hbel.size,hbel.block⟩,hbel.fro⟩
    · intro L hL i o ho hd b hbi hnb x y hx hy
      have ey:y=o:=by rw [hy] at ho;simpa using ho
      subst ey
      have hi:i < ops.toList.length:=(List.getElem?_eq_some_iff.1 ho).1
      have hmlen:(masks [] ops.toList).length=ops.toList.length:=by rw [qh2];simp
      have hdi:ds[i]?=some (ds.getD i ⟨gunk,[],[],[]⟩):=by rw [List.getD,List.getElem?_eq_getElem (by omega)];rfl
      have hdb:ds[b]?=some (ds.getD b ⟨gunk,[],[],[]⟩):=by rw [List.getD,List.getElem?_eq_getElem (by omega)];rfl
      have hmi:(masks [] ops.toList)[i]?=some ((masks [] ops.toList).getD i 0):=by rw [List.getD,List.getElem?_eq_getElem (by omega)];rfl
      have:=qc8 _ _ _ hc2 i _ _ (qf7 _ _ i y _ hy hdi) hmi b _ (by simpa using qf7 _ _ b x _ hx hdb) (by simpa using hbi)
      rcases this with h | h
      · exact absurd (qu8 hL ops.toList [] (fun k o hk=>by simpa using hk) (by simp) (fun j o hj=>by simp at hj) i y hy hd b h) hnb
      · exact h
    · intro i o ho d hd
      have:=qb3 _ _ hc1 i o ho d hd
      omega
    · intro j o _ hj
      exfalso
      by_cases hz:j < ops.size
      · simp [Array.getD,hz] at hj
      · simp [Array.getD,hz] at hj
    · refine Nat.le_trans (List.length_filter_le _ _) (by simp)
    · have:((List.range ops.size).filter fun i=>!(Array.replicate ops.size false).getD i true)=List.range ops.size:=by
        rw [List.filter_eq_self]
        intro i hi
        have:=List.mem_range.1 hi
        simp [Array.getD,this]
      rw [this,← hsz]
      exact run
  · rename_i hd
    simp only [Bool.not_eq_true] at hd
    subst hd
    refine Or.inr ⟨rfl,?_⟩
    rw [← hsz]
    exact RunL.wp (s':=s1) hO (show (⟨s1.tmps,s1.mem,s1.ok,lits,s1.gen⟩:PSt).ok from hk _ hend) (fun a' w' R' hb'=>hQ _ a' w' (R'.lit s1.ok lits s1.gen) hb' hend) _ s a w run R hb hbel
theorem qo1 (hO:je9 P O) (hm:P.follows .mixedOrders=true) {id:Nat} {ops:Array Oper} {draw:Bool} {s:PSt} {a:Act} {w w0:World} {Q:Exit→Act→World→Prop} {k:PSt→Prop} (hk:∀s,k s→s.ok)
    (h:jq4 P O id ops.toList draw s k) (R:Rel base X F0 B s a w) (hb:base≤w.heap.size) (hbel:jc3 base X F0 w0 w) (hQ:∀s' a' w',Rel base X F0 B s' a' w'→jc3 base X F0 w0 w'→k s'→Q .normal a' w') :
    (draw=true∧wpAny P .any ops Q ops.size (Array.replicate ops.size false) a { w with drawn:=w.drawn + 1 })∨(draw=false∧wpOps P ops Q (List.range ops.size) a w) :=
  va7 hO hm hk h (R.start hb _ _) hb hbel hQ
theorem va8 (hO:je9 P O) (hm:P.follows .mixedOrders=true) {id:Nat} {ops:Array Oper} {draw:Bool} {s:PSt} {a:Act} {w w0:World} {Q:Exit→Act→World→Prop} {k:PSt→Prop} (hk:∀s,k s→s.ok)
    (h:jq4 P O id ops.toList draw s k) (R:Rel base X F0 B s a w) (hb:base≤w.heap.size) (hbel:jc3 base X F0 w0 w) (hQ:∀s' a' w',Rel base X F0 B s' a' w'→jc3 base X F0 w0 w'→k s'→Q .normal a' w') :
    (Code.region id ops draw).wp P Q a w :=
  (qo1 hO hm hk h R hb hbel hQ).elim (fun ⟨e,h'⟩=>by subst e;exact wp_region_any hm h') fun ⟨e,h'⟩=>by subst e;exact wp_region h'
theorem vg7 {ρ:Nat→Nat}:∀{l m:List GV},leT ρ l m→l.length=m.length∧∀(t:Nat) (h:GV),m[t]?=some h→h.k=true→∃g,l[t]?=some g∧g.k=true∧leS ρ g.v h.v
  | [],[],_=>⟨rfl,fun t h e=>by simp at e⟩
  | g :: l,h :: m,hl=>by
    unfold leT at hl
    cases hk:h.k
    · simp only [hk] at hl
      obtain ⟨i1,i2⟩:=vg7 hl
      refine ⟨by simp [i1],fun t x e hx=>?_⟩
      cases t with
      | zero=>simp at e;subst e;rw [hk] at hx;simp at hx
      | succ t=>exact i2 t x (by simpa using e) hx
    · simp only [hk] at hl
      obtain ⟨h1,h2⟩:=hl
      obtain ⟨i1,i2⟩:=vg7 h2
      refine ⟨by simp [i1],fun t x e hx=>?_⟩
      cases t with
      | zero=>simp at e;subst e;exact ⟨g,rfl,h1⟩
      | succ t=>exact i2 t x (by simpa using e) hx
  | [],_ :: _,h=>h.elim
  | _ :: _,[],h=>h.elim
theorem jn2:∀{l:List (Nat×Blk)} {n:Nat} {x:Blk},jp3 l n=some x→(n,x)∈l
  | [],n,x,h=>by simp [jp3] at h
  | (m,y) :: l,n,x,h=>by
    unfold jp3 at h
    cases e:Nat.beq n m
    · rw [e] at h;exact List.mem_cons_of_mem _ (jn2 h)
    · rw [e] at h
      have:=Nat.eq_of_beq_eq_true e
      subst this
      simp at h;subst h;simp
theorem qo2 {ρ:Nat→Nat} {mem:Nat→Option Blk}:∀{l:List (Nat×Blk)},leM ρ mem l→∀p∈l,leB ρ (mem (ρ p.1)) p.2
  | [],_,p,hp=>by simp at hp
  | (n,x) :: l,h,p,hp=>by
    rcases List.mem_cons.1 hp with rfl | hp
    · exact h.1
    · exact qo2 h.2 p hp
theorem vg8 {a b:Nat} (h:a≤b):Nat.ble a b=true:=by rw [Nat.ble_eq];exact h
theorem jy3 {a b:Nat} (h:Nat.ble a b=true):a≤b:=by rw [Nat.ble_eq] at h;exact h
theorem jz9:∀{l:List Nat},distinct l=true→∀(i j a b:Nat),i < j→l[i]?=some a→l[j]?=some b→a≠b
  | [],_,i,j,a,b,_,h,_=>by simp at h
  | x :: l,h,i,j,a,b,hij,hi,hj=>by
    simp only [distinct,Bool.and_eq_true,Bool.not_eq_true',List.any_eq_false] at h
    cases j with
    | zero=>omega
    | succ j =>
      cases i with
      | zero =>
        simp at hi hj
        subst hi
        have:=h.1 b (List.mem_of_getElem? hj)
        intro e;subst e;rw [Nat.beq_refl] at this;simp at this
      | succ i=>exact jz9 h.2 i j a b (by omega) (by simpa using hi) (by simpa using hj)
theorem yt9 {ρ:Nat→Nat} {l:List (Nat×Blk)} (h:distinct (l.map fun p=>ρ p.1)=true) {p q:Nat×Blk} (hp:p∈l) (hq:q∈l) (hne:p.1≠q.1):ρ p.1≠ρ q.1:=by
  obtain ⟨i,hi,ei⟩:=List.getElem_of_mem hp
  obtain ⟨j,hj,ej⟩:=List.getElem_of_mem hq
  have gi:(l.map fun p=>ρ p.1)[i]?=some (ρ p.1):=by rw [List.getElem?_map,List.getElem?_eq_getElem hi,ei];rfl
  have gj:(l.map fun p=>ρ p.1)[j]?=some (ρ q.1):=by rw [List.getElem?_map,List.getElem?_eq_getElem hj,ej];rfl
  rcases Nat.lt_trichotomy i j with h' | h' | h'
  · exact jz9 h i j _ _ h' gi gj
  · subst h'
    exact absurd (by rw [← ei,← ej]) hne
  · exact fun e=>jz9 h j i _ _ h' gj gi e.symm
def wfI0 (blocks:List (Nat×Blk)) (slots:List GV) (ρ:Nat→Nat):Bool :=
  slots.all (fun g=>bif g.k then wfS blocks g.v else true) && blocks.all (fun p=>wfB blocks p.2 && Nat.blt p.1 GB && Nat.blt (ρ p.1) GB) && distinct (blocks.map fun p=>ρ p.1) && distinct (blocks.map (·.1))
def qo3 (I:Inv) (s:PSt) (i:I.ι) (ρ:Nat→Nat):Prop :=
  wfI0 (I.blocks i) (I.slots i) ρ=true∧leT ρ s.tmps (I.slots i)∧leM ρ s.mem (I.blocks i)
theorem Inv.relE {I:Inv} {s:PSt} {i:I.ι} {ρ:Nat→Nat} (ρG:∀k,GB≤k→ρ k=k) (h:qo3 I s i ρ) {a:Act} {w:World} (gen:Nat) {E:Env} {B':Nat→(Nat×Value)×Bool} (R:RelE base X F0 B E s a w) (hnf:∀m,(B' m).2=false) (hpin:∀m b,jp3 (I.blocks i) m=some b→PN≤m→E.β (ρ m)=(B' m).1.1∧E.ν (ρ m)=(B' m).1.2) :
    ∃E',E'.F=E.F∧(∀m,m < GB→E'.β m=E.β (ρ m))∧RelE base X F0 B' E' (ist I i gen) a w:=by
  obtain ⟨hwf,hl,hm⟩:=h
  simp only [wfI0,Bool.and_eq_true,List.all_eq_true] at hwf
  obtain ⟨⟨⟨w1,w2⟩,w3⟩,w4⟩:=hwf
  obtain ⟨l1,l2⟩:=vg7 hl
  have blk:∀m b,jp3 (I.blocks i) m=some b→m < GB∧ρ m < GB∧leB ρ (s.mem (ρ m)) b∧wfB (I.blocks i) b=true:=by
    intro m b hb
    have hmem:=jn2 hb
    have:=w2 _ hmem
    simp only [Nat.blt_eq] at this
    obtain ⟨⟨t1,t2⟩,t3⟩:=this
    exact ⟨t2,t3,qo2 hm _ hmem,t1⟩
  have some_of:∀m b,jp3 (I.blocks i) m=some b→∃b0,s.mem (ρ m)=some b0:=by
    intro m b hb
    have:=(blk m b hb).2.2.1
    cases hs:s.mem (ρ m) with
    | none=>rw [hs] at this;cases b <;> exact this.elim
    | some b0=>exact ⟨b0,rfl⟩
  let E':Env:=⟨E.F,fun m=>if GB≤m then E.β m else E.β (ρ m),fun m=>if GB≤m then E.ν m else E.ν (ρ m)⟩
  have eβ:∀m,m < GB→E'.β m=E.β (ρ m):=fun m hm=>by show (if GB≤m then _ else _)=_;rw [if_neg (by omega)]
  have eν:∀m,m < GB→E'.ν m=E.ν (ρ m):=fun m hm=>by show (if GB≤m then _ else _)=_;rw [if_neg (by omega)]
  have nOk:∀m,qi3 (I.blocks i) m=true→live (ist I i gen) m∧adr E' m=adr E (ρ m)∧(live s (ρ m)→E'.ν m=E.ν (ρ m)):=by
    intro m hm
    unfold qi3 at hm
    by_cases hG:GB≤m
    · rw [show Nat.ble GB m=true from vg8 hG] at hm
      refine ⟨Or.inr ⟨hG,hm⟩,?_,fun _=>?_⟩
      · rw [ρG m hG];unfold adr;rw [if_pos hG,if_pos hG]
      · rw [ρG m hG];show (if GB≤m then _ else _)=_;rw [if_pos hG]
    · have hb:Nat.ble GB m=false:=by
        cases h:Nat.ble GB m
        · rfl
        · exact absurd (jy3 h) hG
      rw [hb] at hm
      obtain ⟨b,hb⟩:=Option.isSome_iff_exists.1 hm
      obtain ⟨h1,h2,_⟩:=blk m b hb
      refine ⟨Or.inl hm,?_,fun _=>eν m h1⟩
      unfold adr
      rw [if_neg (by omega),if_neg (by omega),eβ m h1]
  have cC:∀{c d:CV} {y:Value},leC ρ c d→wfC' (I.blocks i) d=true→jb9 (live s) E w c y→jb9 (live (ist I i gen)) E' w d y:=by
    intro c d y h hw hc
    unfold leC at h
    split at h
    · have hc:Rep E.F w _ y:=hc
      rw [yp8 h] at hc;exact hc
    · obtain ⟨rfl,h1,rfl⟩:=q04 h
      exact Rep.eq (.nil h1 rfl) hc
    · obtain ⟨rfl,rfl,h⟩:=h
      exact Rep.eq (.slc fun i j hi hj=>qn8 h i j hi hj) hc
    · obtain ⟨rfl,rfl⟩:=h
      obtain ⟨h1,_,h3⟩:=nOk _ hw
      exact ⟨h1,by rw [h3 hc.1];exact hc.2.1,hc.2.2⟩
    · obtain ⟨rfl,rfl⟩:=h
      obtain ⟨h1,h2,_⟩:=nOk _ hw
      exact ⟨h1,by rw [h2];exact hc.2⟩
    · rename_i f l g k
      obtain ⟨rfl,rfl⟩:=h
      have hw:∀p∈k,qi3 (I.blocks i) p.1=true:=List.all_eq_true.1 hw
      refine ⟨fun p hp=>(nOk _ (hw p hp)).1,?_⟩
      rw [hc.2]
      congr 2
      rw [List.map_map]
      refine List.map_congr_left fun p hp=>?_
      simp only [Function.comp]
      rw [(nOk _ (hw p hp)).2.1]
    · exact h.elim
  have cL:∀{l m:List CV} {ys:List Value},leL ρ l m→m.all (wfC' (I.blocks i))=true→Fa2 (jb9 (live s) E w) l ys→Fa2 (jb9 (live (ist I i gen)) E' w) m ys:=by
    intro l
    induction l with
    | nil =>
      intro m ys h hw hc
      cases m with
      | nil=>cases ys with
        | nil=>trivial
        | cons=>exact hc.elim
      | cons=>exact h.elim
    | cons c l ih =>
      intro m ys h hw hc
      cases m with
      | nil=>exact h.elim
      | cons d m =>
        cases ys with
        | nil=>exact hc.elim
        | cons y ys =>
          simp only [List.all_cons,Bool.and_eq_true] at hw
          exact ⟨cC h.1 hw.1 hc.1,ih h.2 hw.2 hc.2⟩
  have cX:∀{c d:XV} {y:Value},leX ρ c d→wfX (I.blocks i) d=true→ConcX (live s) E w c y→ConcX (live (ist I i gen)) E' w d y:=by
    intro c d y h hw hc
    unfold leX at h
    split at h
    · exact cC h hw hc
    · obtain ⟨ys,e,hc⟩:=hc;exact ⟨ys,e,cL h hw hc⟩
    · exact h.elim
  have cXs:∀{l m:List XV} {ys:List Value},leXs ρ l m→m.all (wfX (I.blocks i))=true→Fa2 (ConcX (live s) E w) l ys→Fa2 (ConcX (live (ist I i gen)) E' w) m ys:=by
    intro l
    induction l with
    | nil =>
      intro m ys h hw hc
      cases m with
      | nil=>cases ys with
        | nil=>trivial
        | cons=>exact hc.elim
      | cons=>exact h.elim
    | cons c l ih =>
      intro m ys h hw hc
      cases m with
      | nil=>exact h.elim
      | cons d m =>
        cases ys with
        | nil=>exact hc.elim
        | cons y ys =>
          simp only [List.all_cons,Bool.and_eq_true] at hw
          exact ⟨cX h.1 hw.1 hc.1,ih h.2 hw.2 hc.2⟩
  have cS:∀{c d:SV} {y:Value},leS ρ c d→wfS (I.blocks i) d=true→jd5 (live s) E w c y→jd5 (live (ist I i gen)) E' w d y:=by
    intro c d y h hw hc
    unfold leS at h
    split at h
    · exact cX h hw hc
    · obtain ⟨ys,e,hc⟩:=hc;exact ⟨ys,e,cXs h hw hc⟩
    · obtain ⟨rfl,rfl,rfl,rfl⟩:=h
      obtain ⟨h1,_,h3⟩:=nOk _ hw
      exact ⟨h1,by rw [h3 hc.1];exact hc.2⟩
    · exact h.elim
  have bo:∀m b k,jp3 (I.blocks i) m=some b→ja9 E' m b=some k→∃b0,s.mem (ρ m)=some b0∧ja9 E (ρ m) b0=some k:=by
    intro m b k hb hk
    obtain ⟨h1,h2,h3,h4⟩:=blk m b hb
    unfold leB at h3
    split at h3
    · rename_i l m' e;exact ⟨_,e,by simpa [ja9,eβ m h1] using hk⟩
    · rename_i z n r z' n' r' e;exact ⟨_,e,by simpa [ja9,eν m h1] using hk⟩
    · simp [ja9] at hk
    · exact h3.elim
  refine ⟨E',rfl,eβ,R.defers,by rw [R.size];exact l1,?_,?_,?_,R.frz,R.sub,R.glob,R.old,?_,fun m h=>by rw [hnf m] at h;simp at h⟩
  · intro t h e hk
    obtain ⟨g,e',k',v'⟩:=l2 t h e hk
    obtain ⟨y,h1,h2⟩:=R.slots t g e' k'
    have hw:=w1 h (List.mem_of_getElem? e)
    rw [hk] at hw
    exact ⟨y,h1,cS v' hw h2⟩
  · intro m b hb
    replace hb:jp3 (I.blocks i) m=some b:=hb
    obtain ⟨h1,h2,h3,h4⟩:=blk m b hb
    refine ⟨h1,?_⟩
    unfold leB at h3
    split at h3
    · rename_i l m' e
      obtain ⟨_,k1,k2,arr,t,k3,k4⟩:=R.mem _ _ e
      unfold jg5
      rw [eβ m h1]
      exact ⟨k1,k2,arr,t,k3,cL h3 h4 k4⟩
    · rename_i z n r z' n' r' e
      obtain ⟨rfl,rfl,h3⟩:=h3
      obtain ⟨_,k0,k1,k2,el,xs,k3,k4⟩:=R.mem _ _ e
      unfold jg5
      rw [eν m h1]
      refine ⟨k0,k1,k2,el,xs,k3,fun i j hi hj=>?_⟩
      obtain ⟨u,e1,e2⟩:=k4 i j hi hj
      exact ⟨u,e1,Rep.eq (qn8 h3 i j hi hj) e2⟩
    · rename_i z n r z' n' r' e
      obtain ⟨rfl,rfl,h3⟩:=h3
      have hr:Rep E.F w (.slc z n r) (E.ν (ρ m)):=(R.mem _ _ e).2
      unfold jg5
      rw [eν m h1]
      exact Rep.eq (.slc fun i j hi hj=>qn8 h3 i j hi hj) hr
    · exact h3.elim
  · intro m m' b b' hb hb' hne k hk hk'
    obtain ⟨b0,e0,f0⟩:=bo m b k hb hk
    obtain ⟨b1,e1,f1⟩:=bo m' b' k hb' hk'
    exact R.sep _ _ b0 b1 e0 e1 (yt9 w3 (jn2 hb) (jn2 hb') hne) k f0 f1
  · intro m hP hb
    obtain ⟨b,hb⟩:=Option.isSome_iff_exists.1 hb
    replace hb:jp3 (I.blocks i) m=some b:=hb
    rw [eβ m (blk m b hb).1,eν m (blk m b hb).1]
    exact hpin m b hb (hP.resolve_right (by rw [hnf m];simp))
theorem yu0 (l:List (Nat×Nat)):∀k,GB≤k→rho l k=k:=by
  intro k hk
  unfold rho
  rw [show Nat.ble GB k=true from vg8 hk];rfl
def nf (B:Nat→(Nat×Value)×Bool):Prop:=∀m,(B m).2=false
theorem Inv.rel {I:Inv} {s:PSt} {i:I.ι} (hnf:nf B) (h:jh2 I s i) {a:Act} {w:World} (gen:Nat) (R:Rel base X F0 B s a w):Rel base X F0 B (ist I i gen) a w:=by
  obtain ⟨E,R⟩:=R
  obtain ⟨_,hwf,hl,hm⟩:=h
  have hwf':=hwf
  simp only [wfI,Bool.and_eq_true,List.all_eq_true] at hwf
  obtain ⟨⟨⟨w1,w2⟩,w3⟩,w4⟩:=hwf
  have h0:qo3 I s i (rho (rename s (I.slots i) (I.blocks i))):=by
    refine ⟨?_,hl,hm⟩
    simp only [wfI0,Bool.and_eq_true,List.all_eq_true]
    exact ⟨⟨⟨w1,fun p hp=>(w2 p hp).1⟩,w3⟩,w4⟩
  obtain ⟨E',_,_,R'⟩:=Inv.relE (yu0 _) h0 gen R (B':=B) hnf fun m b hb hP=>by
    have hmem:=jn2 hb
    have t4:=(w2 _ hmem).2
    rw [show Nat.ble PN m=true from vg8 hP] at t4
    have e:=Nat.eq_of_beq_eq_true t4
    have hB:=qo2 hm _ hmem
    rw [e] at hB ⊢
    refine R.pin m (Or.inl hP) ?_
    cases hs:s.mem m with
    | none=>rw [hs] at hB;cases b <;> exact hB.elim
    | some b0=>rfl
  exact ⟨E',R'⟩
theorem qd0 {f:(Ex→PSt→Prop)→PSt→Prop} {k:Ex→PSt→Prop} (hf:∀k s,(∀e s,k e s→s.ok)→f k s→s.ok):∀(n:Nat) (s:PSt),(∀e s,k e s→s.ok)→va5 f k n s→s.ok
  | 0,s,_,h=>h.elim
  | n + 1,s,hk,h=>hf _ s (fun e s' he=>by
      cases e with
      | normal=>exact qd0 (f:=f) hf n (bump s') hk he
      | exit m=>exact hk _ _ he
      | ret=>exact hk _ _ he) h
theorem jg0 {I:Inv} {k:Ex→PSt→Prop} (hk:∀e s,k e s→s.ok):∀e s,cutK I k e s→s.ok:=by
  intro e s he
  cases e with
  | normal=>obtain ⟨j,_,hj⟩:=he;exact hj.1
  | exit m=>exact hk _ _ he
  | ret=>exact hk _ _ he
theorem yu1 (s:PSt) (l:List Nat):(frzS s l).ok=s.ok:=by unfold frzS;split <;> rfl
theorem vr4 (t j:Nat) (s:PSt):(jz8 t j s).ok=s.ok:=by
  unfold jz8
  split
  · split
    · split
      · split <;> rfl
      · rfl
    · rfl
  · split <;> rfl
  · rfl
theorem va9:∀(ts:List (Nat×Nat)) (s:PSt),(qi4 ts s).ok=s.ok
  | [],_=>rfl
  | (t,j) :: l,s=>by unfold qi4;rw [va9 l,vr4]
theorem vx0:∀(l:List (List (Nat×Nat)×Inv)) (s:PSt),anyZ l s→s.ok
  | [],_,h=>h.elim
  | (ts,I) :: l,s,h=>by
    rcases h with ⟨i,_,h⟩ | h
    · have:=h.1;rw [va9,yu1] at this;exact this
    · exact vx0 l s h
theorem jw6 {l:List (List (Nat×Nat)×Inv)} {k:Ex→PSt→Prop} (hk:∀e s,k e s→s.ok):∀e s,yt8 l k e s→s.ok:=by
  intro e s h
  cases e with
  | normal=>exact vx0 l s h
  | exit m=>exact hk _ _ h
  | ret=>exact hk _ _ h
theorem jn3 {id:Nat} {k:Ex→PSt→Prop} (hk:∀e s,k e s→s.ok):∀e s,ju4 id k e s→s.ok:=by
  intro e s he
  cases e with
  | normal=>exact hk _ _ he
  | exit m=>simp only [ju4] at he;split at he <;> exact hk _ _ he
  | ret=>exact hk _ _ he
theorem jj3 {I:Inv} {k:Ex→PSt→Prop} {Q:Exit→Act→World→Prop} {gen:Nat} {w0:World} (hNF:nf B) (hq:∀e s a w,Rel base X F0 B s a w→jc3 base X F0 w0 w→base≤w.heap.size→k e s→Q (exOf e) a w) (hc:∀i,I.good i→k .normal (ist I i gen)) :
    ∀e s a w,Rel base X F0 B s a w→jc3 base X F0 w0 w→base≤w.heap.size→cutK I k e s→Q (exOf e) a w:=by
  intro e s a w R hb hb2 he
  cases e with
  | normal=>obtain ⟨j,hg,hj⟩:=he;exact hq .normal _ a w (Inv.rel hNF hj _ R) hb hb2 (hc j hg)
  | exit m=>exact hq (.exit m) s a w R hb hb2 he
  | ret=>exact hq .ret s a w R hb hb2 he
theorem Rel.frzS {s:PSt} {a:Act} {w:World} (R:Rel base X F0 B s a w) (hb:base≤w.heap.size) (l:List Nat):Rel base X F0 B (frzS s l) a w:=by
  unfold QR.frzS
  split
  · exact R
  · exact R.frz hb _
theorem Rel.jz8 {s:PSt} {a:Act} {w:World} (R:Rel base X F0 B s a w) (t j:Nat):Rel base X F0 B (jz8 t j s) a w:=by
  unfold QR.jz8
  split
  · split
    · rename_i m off ht _ l hm
      split
      · rename_i r n hj
        split
        · rename_i z k row hr
          obtain ⟨E,R⟩:=R
          refine ⟨E,R.yp9 (m:=m) (l:=l) hm (fun ys hy=>Fa2.set hj (fun y hy=>?_) hy)⟩
          have h1:y=E.ν r:=hy.2.1
          have h2:Rep E.F w (.slc z k row) (E.ν r):=(R.mem r _ hr).2
          rw [h1]
          exact h2
        · exact R
      · exact R
    · exact R
  · split
    · rename_i r n ht _ z k row hr
      obtain ⟨E,R⟩:=R
      refine ⟨E,{ defers:=R.defers,size:=by rw [List.length_set];exact R.size,slots:=fun t' g hg hk=>?_,mem:=R.mem,sep:=R.sep,frz:=R.frz,sub:=R.sub,glob:=R.glob,old:=R.old,pin:=R.pin,pinL:=R.pinL }⟩
      by_cases e:t=t'
      · subst e
        obtain ⟨y,h1,h2⟩:=R.slots t _ ht rfl
        refine ⟨y,h1,?_⟩
        have:t < s.tmps.length:=(List.getElem?_eq_some_iff.1 ht).1
        rw [List.getElem?_set_self this,Option.some.injEq] at hg
        subst hg
        have h3:y=E.ν r:=h2.2.1
        rw [h3]
        exact (R.mem r _ hr).2
      · rw [List.getElem?_set_ne e] at hg
        exact R.slots t' g hg hk
    · exact R
  · exact R
theorem Rel.qi4 {a:Act} {w:World}:∀(ts:List (Nat×Nat)) (s:PSt),Rel base X F0 B s a w→Rel base X F0 B (qi4 ts s) a w
  | [],_,R=>R
  | (t,j) :: l,s,R=>Rel.qi4 l _ (R.jz8 t j)
theorem jq5 {a:Act} {w:World} (hNF:nf B) (hb:base≤w.heap.size) {f:PSt→Prop} {g:Nat}:∀(l:List (List (Nat×Nat)×Inv)) (s:PSt),Rel base X F0 B s a w→anyZ l s→allZ l f g→∃s',Rel base X F0 B s' a w∧f s'
  | [],_,_,h,_=>h.elim
  | (ts,I) :: l,s,R,h,hc=>by
    rcases h with ⟨i,hg,h⟩ | h
    · exact ⟨_,Inv.rel hNF h g (Rel.qi4 ts _ (R.frzS hb _)),hc.1 i hg⟩
    · exact jq5 hNF hb l s R h hc.2
end
end Go.Proofs.YthkidembkknoeaaDoor.QR
namespace Go.Proofs.YthkidembkknoeaaDoor.QR
open Go.RowKit PR
set_option linter.unusedVariables false
set_option linter.unusedSimpArgs false
def resX (s:PSt):XV→Option (XV×List Nat)
  | .c c=>match resC s c with
    | some (d,ms)=>some (.c d,ms)
    | none=>none
  | .agg l=>match resL s l with
    | some (d,ms)=>some (.agg d,ms)
    | none=>none
def qk2 (P:Program) (s:PSt):ResultVar→Option (XV×List Nat)
  | .tmp t=>match s.tmps.getD t (gnow (.tup [])) with
    | ⟨true,.x v⟩=>resX s v
    | ⟨true,.view m z l n⟩=>match qy6 s m z l n with
      | some (d,ms)=>some (.c d,ms)
      | none=>none
    | _=>none
  | .cell t ty=>match s.tmps.getD t (gnow (.tup [])) with
    | ⟨true,.x (.c (.ptr m off))⟩=>match memC s m with
      | some l=>match ql7 P l ty off with
        | some v=>resX s v
        | none=>none
      | none=>none
    | _=>none
def jq6 (P:Program) (s:PSt):List ResultVar→Option (List XV×List Nat)
  | []=>some ([],[])
  | r :: rs=>match qk2 P s r,jq6 P s rs with
    | some (v,a),some (vs,b)=>some (v :: vs,a ++ b)
    | _,_=>none
def yh1 (s:PSt):CV→Option (CV×List Nat)
  | .own m _=>match s.mem m with
    | some (.row z k r)=>some (.fresh z k r,[m])
    | _=>none
  | c=>resC s c
def vx1 (s:PSt):List CV→Option (List CV×List Nat)
  | []=>some ([],[])
  | c :: l=>match yh1 s c,vx1 s l with
    | some (d,a),some (m,b)=>some (d :: m,a ++ b)
    | _,_=>none
def yh2 (s:PSt):XV→Option (XV×List Nat)
  | .c c=>match yh1 s c with
    | some (d,ms)=>some (.c d,ms)
    | none=>none
  | .agg l=>match vx1 s l with
    | some (d,ms)=>some (.agg d,ms)
    | none=>none
def qd1 (P:Program) (s:PSt):ResultVar→Option (XV×List Nat)
  | .tmp t=>match s.tmps.getD t (gnow (.tup [])) with
    | ⟨true,.x v⟩=>yh2 s v
    | _=>none
  | .cell t ty=>match s.tmps.getD t (gnow (.tup [])) with
    | ⟨true,.x (.c (.ptr m off))⟩=>match memC s m with
      | some l=>match ql7 P l ty off with
        | some v=>yh2 s v
        | none=>none
      | none=>none
    | _=>none
def jm6 (P:Program) (s:PSt):List ResultVar→Option (List XV×List Nat)
  | []=>some ([],[])
  | r :: rs=>match qd1 P s r,jm6 P s rs with
    | some (v,a),some (vs,b)=>some (v :: vs,a ++ b)
    | _,_=>none
def qv7 (s:PSt):List Nat→Option (List (List CV)×List Nat)
  | []=>some ([],[])
  | m :: l=>match s.mem m with
    | some (.cells c)=>match resL s c,qv7 s l with
      | some (d,a),some (u,b)=>some (d :: u,a ++ b)
      | _,_=>none
    | _=>none
def jf6:Nat→List AV→List GV
  | _,[]=>[]
  | k,.x v :: l=>gnow (.x v) :: jf6 k l
  | k,.ref off _ :: l=>gnow (.x (.c (.ptr (PN + k) off))) :: jf6 (k + 1) l
def jo6:Nat→List AV→Nat→Option Blk
  | _,[]=>fun _=>none
  | k,.x _ :: l=>jo6 k l
  | k,.ref _ c :: l=>fun m=>bif Nat.beq m (PN + k) then some (.cells c) else jo6 (k + 1) l m
def jd3:Nat→List AV→List Nat
  | _,[]=>[]
  | k,.x _ :: l=>jd3 k l
  | k,.ref _ _ :: l=>(PN + k) :: jd3 (k + 1) l
def entry (n:Nat) (args:List AV):PSt:=⟨jf6 0 args ++ List.replicate (n - args.length) (gnow (.tup [])),jo6 0 args,True,[],0⟩
def cloL (s:PSt):List (Nat×Nat)→Option (List (List Value))
  | []=>some []
  | (m,off) :: l=>match s.mem m with
    | some (.cells c)=>match toVs c,cloL s l with
      | some vs,some k=>bif Nat.beq off 0 then some (vs :: k) else none
      | _,_=>none
    | _=>none
def vb2 (s:PSt):List ResultVar→List Nat→Option (List XV)
  | [.tmp t],[]=>match s.tmps.getD t (gnow (.tup [])) with
    | ⟨true,.x (.c (.fn f caps))⟩=>match cloL s caps with
      | some l=>some [.c (.clo f l)]
      | none=>none
    | _=>none
  | _,_=>none
def j00 (P:Program) (rs:List ResultVar) (names:List Nat) (V:List XV→List (List CV)→Prop) (s:PSt):Prop :=
  match jq6 P s rs,qv7 s names with
  | some (res,ms),some (upd,ms')=>match ms,ms' with
    | [_],[]=>match jm6 P s rs with
      | some (r,[_])=>bif Nat.beq (jc1 r).length 1 then s.ok∧V r upd else s.ok∧V res upd
      | _=>s.ok∧V res upd
    | _,_=>s.ok∧V res upd
  | _,_=>match vb2 s rs names with
    | some res=>s.ok∧V res []
    | none=>False
def eqL:List CV→List CV→Prop
  | [],[]=>True
  | a :: l,b :: m=>eqc a b∧eqL l m
  | _,_=>False
def eqo:CV→CV→Prop
  | .fresh z n r,.slc z' n' r'=>EqC (.slc z n r) (.slc z' n' r')
  | .fresh z n r,.fresh z' n' r'=>EqC (.slc z n r) (.slc z' n' r')
  | .v a,.fresh z n _=>nilC a z n
  | .v a,b=>eqc (.v a) b
  | .slc z n r,.slc z' n' r'=>eqc (.slc z n r) (.slc z' n' r')
  | .clo f l,.clo g k=>f=g∧l=k
  | _,_=>False
def eqLo:List CV→List CV→Prop
  | [],[]=>True
  | a :: l,b :: m=>eqo a b∧eqLo l m
  | _,_=>False
def eqX:XV→XV→Prop
  | .c a,.c b=>eqo a b
  | .agg l,.agg m=>eqLo l m
  | _,_=>False
def eqXs:List XV→List XV→Prop
  | [],[]=>True
  | a :: l,b :: m=>eqX a b∧eqXs l m
  | _,_=>False
def eqUs:List (List CV)→List (List CV)→Prop
  | [],[]=>True
  | a :: l,b :: m=>eqL a b∧eqUs l m
  | _,_=>False
section
variable {F:Nat→Prop} {w:World}
theorem vx2:∀{l m:List CV} {ys:List Value},eqL l m→Fa2 (Rep F w) l ys→Fa2 (Rep F w) m ys
  | [],[],ys,_,h=>h
  | a :: l,b :: m,[],_,h=>h.elim
  | a :: l,b :: m,y :: ys,h,k=>⟨Rep.eq (vl0 h.1) k.1,vx2 h.2 k.2⟩
  | [],_ :: _,_,h,_=>h.elim
  | _ :: _,[],_,h,_=>h.elim
theorem jk3.rep {base z:Nat} {n:Int} {r:Row} {y:Value} (h:jk3 base F w z n r y) {F':Nat→Prop} (hF:∀k,F k→F' k) (hk:∀k,y.ownBlock=some k→F' k):Rep F' w (.slc z n r) y:=by
  obtain ⟨h0,hz,_,e,xs,ho,hr⟩:=h
  obtain ⟨k,rfl⟩:=Int.eq_ofNat_of_zero_le h0
  rcases ho.1.2 with ⟨hv,hn⟩ | ⟨g,cap,cur,hv,⟨fz,_,hg⟩,hnc,_,hcs,htake⟩
  · have:k=0:=by simpa using hn
    subst this
    rw [hv];exact .nil hz (fun _=>rfl)
  · have hv':y=.slice (some ⟨g,0,none⟩) k cap:=by rw [hv];simp
    rw [hv']
    have hgF:F' g:=hk g (by rw [hv];rfl)
    refine .slc (fun i j=>(xs[i * z + j]?).getD undef) hz (by simpa using hnc) hgF hg (fun i j hi hj=>?_) (fun i j hi hj=>?_)
    · obtain ⟨u,e1,_⟩:=hr i j (by omega) hj
      rw [e1,Option.getD_some,Nat.zero_add,← Array.getElem?_toList]
      rw [← htake,List.getElem?_take] at e1
      split at e1
      · exact e1
      · simp at e1
    · obtain ⟨u,e1,e2⟩:=hr i j (by omega) hj
      rw [e1,Option.getD_some]
      exact e2.mono hF (fun _ _=>rfl)
def eqA (c d:CV):Prop:=eqo c d∧(je1 c=[]∨je1 d=[])
def eqB (c d:CV):Prop:=(∃z n r z' n' r',c=.fresh z n r∧d=.fresh z' n' r'∧EqC (.slc z n r) (.slc z' n' r'))∨(je1 c=[]∧je1 d=[]∧eqo c d)
def allL (R:CV→CV→Prop):List CV→List CV→Prop
  | [],[]=>True
  | a :: l,b :: m=>R a b∧allL R l m
  | _,_=>False
def allX (R:CV→CV→Prop):XV→XV→Prop
  | .c a,.c b=>R a b
  | .agg l,.agg m=>allL R l m
  | _,_=>False
def vr5 (R:CV→CV→Prop):List XV→List XV→Prop
  | [],[]=>True
  | a :: l,b :: m=>allX R a b∧vr5 R l m
  | _,_=>False
theorem vb3 {c d:CV} (h:eqo c d) (hc:je1 c=[]) (hd:je1 d=[]):eqB c d:=Or.inr ⟨hc,hd,h⟩
theorem vl2:∀{l m:List CV},eqLo l m→jb7 l=[]→jb7 m=[]→allL eqB l m∧allL eqA l m
  | [],[],_,_,_=>⟨trivial,trivial⟩
  | [],_ :: _,h,_,_=>h.elim
  | _ :: _,[],h,_,_=>h.elim
  | c :: l,d :: m,h,e1,e2=>by
    obtain ⟨a1,a2⟩:=jl4 e1
    obtain ⟨b1,b2⟩:=jl4 e2
    have k:=vl2 h.2 a2 b2
    exact ⟨⟨vb3 h.1 a1 b1,k.1⟩,⟨h.1,Or.inl a1⟩,k.2⟩
theorem jq7 (c:CV):je1 c=[]∨∃z n r,c=.fresh z n r:=by
  cases c with
  | fresh z n r=>exact Or.inr ⟨z,n,r,rfl⟩
  | _=>exact Or.inl rfl
theorem vl3:∀{l m:List CV},eqLo l m→(jb7 l).length≤1→(jb7 m).length≤1→allL eqA l m∨(allL eqB l m∧jb7 l≠[]∧jb7 m≠[])
  | [],[],_,_,_=>Or.inl trivial
  | [],_ :: _,h,_,_=>h.elim
  | _ :: _,[],h,_,_=>h.elim
  | c :: l,d :: m,h,e1,e2=>by
    simp only [jb7,List.length_append] at e1 e2
    rcases jq7 c with hc | ⟨z,n,r,rfl⟩
    · rcases vl3 h.2 (by omega) (by omega) with k | ⟨k,k1,k2⟩
      · exact Or.inl ⟨⟨h.1,Or.inl hc⟩,k⟩
      · have:0 < (jb7 m).length:=List.length_pos_iff.2 k2
        have hd:je1 d=[]:=List.eq_nil_of_length_eq_zero (by omega)
        exact Or.inr ⟨⟨vb3 h.1 hc hd,k⟩,by simp [jb7,k1],by simp [jb7,k2]⟩
    · have hl:jb7 l=[]:=List.eq_nil_of_length_eq_zero (by simp [je1] at e1;omega)
      rcases jq7 d with hd | ⟨z',n',r',rfl⟩
      · rcases vl3 h.2 (by omega) (by omega) with k | ⟨k,k1,k2⟩
        · exact Or.inl ⟨⟨h.1,Or.inr hd⟩,k⟩
        · exact absurd hl k1
      · have hm:jb7 m=[]:=List.eq_nil_of_length_eq_zero (by simp [je1] at e2;omega)
        exact Or.inr ⟨⟨Or.inl ⟨z,n,r,z',n',r',rfl,rfl,h.1⟩,(vl2 h.2 hl hm).1⟩,by simp [jb7,je1],by simp [jb7,je1]⟩
theorem y59 {x x':XV} (h:eqX x x') (e1:(jb7 (cellsOf x)).length≤1) (e2:(jb7 (cellsOf x')).length≤1):allX eqA x x'∨(allX eqB x x'∧jb7 (cellsOf x)≠[]∧jb7 (cellsOf x')≠[]):=by
  unfold eqX at h
  split at h
  · rename_i a b
    rcases vl3 (l:=[a]) (m:=[b]) ⟨h,trivial⟩ e1 e2 with k | ⟨k,k1,k2⟩
    · exact Or.inl k.1
    · exact Or.inr ⟨k.1,k1,k2⟩
  · exact vl3 h e1 e2
  · exact h.elim
theorem yq0 {x x':XV} (h:eqX x x') (e1:jb7 (cellsOf x)=[]) (e2:jb7 (cellsOf x')=[]):allX eqB x x':=by
  unfold eqX at h
  split at h
  · rename_i a b
    exact (vl2 (l:=[a]) (m:=[b]) ⟨h,trivial⟩ e1 e2).1.1
  · exact (vl2 h e1 e2).1
  · exact h.elim
theorem vx3:∀{l m:List XV},eqXs l m→jc1 l=[]→jc1 m=[]→vr5 eqB l m
  | [],[],_,_,_=>trivial
  | [],_ :: _,h,_,_=>h.elim
  | _ :: _,[],h,_,_=>h.elim
  | c :: l,d :: m,h,e1,e2=>by
    obtain ⟨a1,a2⟩:=jl4 e1
    obtain ⟨b1,b2⟩:=jl4 e2
    exact ⟨yq0 h.1 a1 b1,vx3 h.2 a2 b2⟩
theorem vx4:∀{l m:List XV},eqXs l m→(jc1 l).length≤1→(jc1 m).length≤1→vr5 eqA l m∨(vr5 eqB l m∧jc1 l≠[]∧jc1 m≠[])
  | [],[],_,_,_=>Or.inl trivial
  | [],_ :: _,h,_,_=>h.elim
  | _ :: _,[],h,_,_=>h.elim
  | c :: l,d :: m,h,e1,e2=>by
    simp only [jc1,List.length_append] at e1 e2
    rcases y59 h.1 (by omega) (by omega) with k | ⟨k,k1,k2⟩
    · rcases vx4 h.2 (by omega) (by omega) with g | ⟨g,g1,g2⟩
      · exact Or.inl ⟨k,g⟩
      · have p1:0 < (jc1 l).length:=List.length_pos_iff.2 g1
        have p2:0 < (jc1 m).length:=List.length_pos_iff.2 g2
        exact Or.inr ⟨⟨yq0 h.1 (List.eq_nil_of_length_eq_zero (by omega)) (List.eq_nil_of_length_eq_zero (by omega)),g⟩,by simp [jc1,g1],by simp [jc1,g2]⟩
    · have p1:0 < (jb7 (cellsOf c)).length:=List.length_pos_iff.2 k1
      have p2:0 < (jb7 (cellsOf d)).length:=List.length_pos_iff.2 k2
      exact Or.inr ⟨⟨k,vx3 h.2 (List.eq_nil_of_length_eq_zero (by omega)) (List.eq_nil_of_length_eq_zero (by omega))⟩,by simp [jc1,k1],by simp [jc1,k2]⟩
theorem qo4 {c d:CV} {y:Value} (h:eqo c d) (hc:je1 c=[]) (hd:je1 d=[]) (k:Rep F w c y):Rep F w d y:=by
  unfold eqo at h
  split at h
  · simp [je1] at hc
  · simp [je1] at hc
  · simp [je1] at hd
  · exact Rep.eq (vl0 h) k
  · exact Rep.eq (vl0 h) k
  · rw [← h.1,← h.2];exact k
  · exact h.elim
section
variable {base:Nat} {f:Option Value}
def vb4 (F:Nat→Prop) (f:Option Value) (k:Nat):Prop:=F k∨∃y,f=some y∧y.ownBlock=some k
theorem yu2 {c d:CV} {y:Value} (h:eqA c d) (k:RepO base F f w c y):RepO base (vb4 F f) (some nilS) w d y:=by
  obtain ⟨h,hp⟩:=h
  have mono:∀{d:CV},Rep F w d y→Rep (vb4 F f) w d y:=fun h=>h.mono (fun k hk=>Or.inl hk) (fun _ _=>rfl)
  rcases jq7 c with hc | ⟨z,n,r,rfl⟩
  · have k:=k.plain hc
    rcases jq7 d with hd | ⟨z',n',r',rfl⟩
    · exact RepO.of (mono (qo4 h hc hd k))
    · cases c with
      | v a =>
        have h:nilC a z' n':=h
        obtain ⟨rfl,h1,rfl⟩:=q04 h
        cases k
        exact ⟨rfl,Int.le_refl 0,h1,(fun k hk=>by simp [Value.ownBlock] at hk),0,[],OwnB.nil,fun i j hi hj=>by omega⟩
      | fresh z n r=>simp [je1] at hc
      | slc z n r=>exact (show False from h).elim
      | own m n=>exact (show False from h).elim
      | ptr m off=>exact (show False from h).elim
      | fn g caps=>exact (show False from h).elim
      | clo g k=>exact (show False from h).elim
  · rcases hp with hp | hd
    · simp [je1] at hp
    · obtain ⟨rfl,k⟩:=k
      have rp:=k.rep (F':=vb4 F (some y)) (fun k hk=>Or.inl hk) (fun k hk=>Or.inr ⟨y,rfl,hk⟩)
      cases d with
      | slc z' n' r' =>
        have h:EqC (.slc z n r) (.slc z' n' r'):=h
        exact RepO.of (Rep.eq h rp)
      | fresh z n r=>simp [je1] at hd
      | v a=>exact (show False from h).elim
      | own m n=>exact (show False from h).elim
      | ptr m off=>exact (show False from h).elim
      | fn g caps=>exact (show False from h).elim
      | clo g k=>exact (show False from h).elim
theorem yu3 {c d:CV} {y:Value} (h:eqB c d) (k:RepO base F f w c y):RepO base F f w d y:=by
  rcases h with ⟨z,n,r,z',n',r',rfl,rfl,h⟩ | ⟨hc,hd,h⟩
  · obtain ⟨e,k0,kz,kF,el,xs,ko,kr⟩:=k
    cases h with
    | slc h =>
      refine ⟨e,k0,kz,kF,el,xs,ko,fun i j hi hj=>?_⟩
      obtain ⟨u,e1,e2⟩:=kr i j hi hj
      exact ⟨u,e1,Rep.eq (h i j hi hj) e2⟩
  · exact RepO.of (qo4 h hc hd (k.plain hc))
theorem vl4 {R:CV→CV→Prop} {F':Nat→Prop} {f':Option Value} (H:∀{c d:CV} {y:Value},R c d→RepO base F f w c y→RepO base F' f' w d y):∀{l m:List CV} {ys:List Value},allL R l m→Fa2 (RepO base F f w) l ys→Fa2 (RepO base F' f' w) m ys
  | [],[],[],_,_=>trivial
  | [],[],_ :: _,_,h=>h.elim
  | [],_ :: _,_,h,_=>h.elim
  | _ :: _,[],_,h,_=>h.elim
  | _ :: _,_ :: _,[],_,h=>h.elim
  | c :: l,d :: m,y :: ys,h,k=>⟨H h.1 k.1,vl4 H h.2 k.2⟩
theorem vl5 {R:CV→CV→Prop} {F':Nat→Prop} {f':Option Value} (H:∀{c d:CV} {y:Value},R c d→RepO base F f w c y→RepO base F' f' w d y) {x x':XV} {y:Value} (h:allX R x x') (k:jj9 base F f w x y):jj9 base F' f' w x' y:=by
  unfold allX at h
  split at h
  · exact H h k
  · obtain ⟨ys,e,k⟩:=k;exact ⟨ys,e,vl4 H h k⟩
  · exact h.elim
theorem qo5 {R:CV→CV→Prop} {F':Nat→Prop} {f':Option Value} (H:∀{c d:CV} {y:Value},R c d→RepO base F f w c y→RepO base F' f' w d y):∀{l m:List XV} {ys:List Value},vr5 R l m→Fa2 (jj9 base F f w) l ys→Fa2 (jj9 base F' f' w) m ys
  | [],[],[],_,_=>trivial
  | [],[],_ :: _,_,h=>h.elim
  | [],_ :: _,_,h,_=>h.elim
  | _ :: _,[],_,h,_=>h.elim
  | _ :: _,_ :: _,[],_,h=>h.elim
  | c :: l,d :: m,y :: ys,h,k=>⟨vl5 H h.1 k.1,qo5 H h.2 k.2⟩
theorem qv8 {R:CV→CV→Prop} {F':Nat→Prop} {f':Option Value} (H:∀{c d:CV} {y:Value},R c d→RepO base F f w c y→RepO base F' f' w d y) {l m:List XV} {v:Value} (h:vr5 R l m) (k:jh1 base F f w l v):jh1 base F' f' w m v:=by
  match l,m,h,k with
  | [],[],_,⟨ys,e,k⟩=>exact ⟨ys,e,qo5 (l:=[]) (m:=[]) H trivial k⟩
  | [a],[b],h,k=>exact vl5 H h.1 k
  | a :: a' :: l,b :: b' :: m,h,⟨ys,e,k⟩=>exact ⟨ys,e,qo5 H h k⟩
theorem q05 {l m:List XV} {v:Value} (h:eqXs l m) (hl:(jc1 l).length≤1) (hm:(jc1 m).length≤1) (k:jh1 base F f w l v):(jh1 base (vb4 F f) (some nilS) w m v∧True)∨jh1 base F f w m v:=by
  rcases vx4 h hl hm with q | ⟨q,_⟩
  · exact Or.inl ⟨qv8 yu2 q k,trivial⟩
  · exact Or.inr (qv8 yu3 q k)
end
theorem qo6:∀{bs:List Nat} {l m:List (List CV)},eqUs l m→Refs F w bs l→Refs F w bs m
  | [],[],[],_,_=>trivial
  | b :: bs,a :: l,c :: m,h,k=>by
    obtain ⟨⟨arr,t,k1,k2⟩,k3⟩:=k
    exact ⟨⟨arr,t,k1,vx2 h.1 k2⟩,qo6 h.2 k3⟩
  | [],_ :: _,_,_,k=>k.elim
  | _ :: _,[],_,_,k=>k.elim
  | [],[],_ :: _,h,_=>h.elim
  | _ :: _,_ :: _,[],h,_=>h.elim
end
section
variable {P:Program} {O:ja7} {base:Nat} {X F0:Nat→Prop} {B:Nat→(Nat×Value)×Bool} {E:Env} {s:PSt} {a:Act} {w:World}
theorem qv9 (R:RelE base X F0 B E s a w) {x v:XV} {ms rows:List Nat} {y:Value} (h:resX s x=some (v,ms)) (hm:∀m∈ms,m∈rows) (hc:ConcX (live s) E w x y):jl3 (jf1 E s rows) w v y:=by
  unfold resX at h
  split at h
  · split at h <;> try (simp at h;done)
    rename_i hr
    simp only [Option.some.injEq,Prod.mk.injEq] at h
    obtain ⟨rfl,rfl⟩:=h
    exact jq1 R hr hm hc
  · split at h <;> try (simp at h;done)
    rename_i hr
    simp only [Option.some.injEq,Prod.mk.injEq] at h
    obtain ⟨rfl,rfl⟩:=h
    obtain ⟨ys,e,hc⟩:=hc
    exact ⟨ys,e,jm4 R hr hm hc⟩
theorem jk9 (R:RelE base X F0 B E s a w) (t:Tmp) {v:SV} (h:s.tmps.getD t (gnow (.tup []))=⟨true,v⟩):jd5 (live s) E w v (a.tmps.getD t undef):=by
  have:=R.eval (.tmp t) (by show (s.tmps.getD t (gnow (.tup []))).k=true;rw [h])
  have e:(operand s (.tmp t)).v=v:=by show (s.tmps.getD t (gnow (.tup []))).v=v;rw [h]
  rw [e] at this;exact this
theorem qu1 (R:RelE base X F0 B E s a w) {r:ResultVar} {v:XV} {ms rows:List Nat} (h:qk2 P s r=some (v,ms)) (hm:∀m∈ms,m∈rows) :
    ∃y,(match r with | .tmp t=>(pure (a.tmps.getD t undef):Sem Value) | .cell x t=>(do loadVar t (← asAddr (a.tmps.getD x undef)):Sem Value)).run P w=.ok y w∧jl3 (jf1 E s rows) w v y:=by
  cases r with
  | tmp t =>
    simp only [qk2] at h
    split at h <;> try (simp at h;done)
    · rename_i x hx
      exact ⟨_,by simp only [Sem.run_pure],qv9 R h hm (jk9 R t hx)⟩
    · rename_i m z l n hx
      split at h <;> try (simp at h;done)
      rename_i d ms' hr
      simp only [Option.some.injEq,Prod.mk.injEq] at h
      obtain ⟨rfl,rfl⟩:=h
      exact ⟨_,by simp only [Sem.run_pure],jz3 R hr hm (jk9 R t hx)⟩
  | cell t ty =>
    simp only [qk2] at h
    split at h <;> try (simp at h;done)
    rename_i m off hx
    split at h <;> try (simp at h;done)
    rename_i l hl
    split at h <;> try (simp at h;done)
    rename_i x hp
    have hv:=jk9 R t hx
    obtain ⟨arr,el,h1,h2⟩:=ju1 R hl hv.1
    obtain ⟨y,e1,e2⟩:=ju0 (P:=P) h1 h2 hp
    refine ⟨y,?_,qv9 R h hm e2⟩
    simp only [Instr.loadAt,Instr.sureAddr,Sem.run_bind,Sem.run_pure,Result.andThen_ok] at e1
    simp only [qb9 hv,asAddr,Sem.run_bind,Sem.run_pure,Result.andThen_ok,e1]
theorem ju5 (R:RelE base X F0 B E s a w) {rows:List Nat}:∀{rs:List ResultVar} {vs:List XV} {ms:List Nat},jq6 P s rs=some (vs,ms)→(∀m∈ms,m∈rows)→
    ∃ys,(rs.mapM (m:=Sem) fun r=>match r with | .tmp t=>pure (a.tmps.getD t undef) | .cell x t=>do loadVar t (← asAddr (a.tmps.getD x undef))).run P w=.ok ys w∧Fa2 (jl3 (jf1 E s rows) w) vs ys
  | [],vs,ms,h,_=>by simp only [jq6,Option.some.injEq,Prod.mk.injEq] at h;obtain ⟨rfl,rfl⟩:=h;exact ⟨[],rfl,trivial⟩
  | r :: rs,vs,ms,h,hm=>by
    unfold jq6 at h
    split at h <;> try (simp at h;done)
    rename_i v1 a1 vs1 b1 h1 h2
    simp only [Option.some.injEq,Prod.mk.injEq] at h
    obtain ⟨rfl,rfl⟩:=h
    obtain ⟨y,e1,c1⟩:=qu1 R h1 fun m hh=>hm m (by simp [hh])
    obtain ⟨ys,e2,c2⟩:=ju5 R h2 fun m hh=>hm m (by simp [hh])
    refine ⟨y :: ys,?_,c1,c2⟩
    rw [List.mapM_cons]
    simp only [Sem.run_bind,e1,Result.andThen_ok,e2,Sem.run_pure]
theorem vg9 {F:Nat→Prop} {c:CV} {y:Value} (h:Rep F w c y):je1 c=[]:=by
  cases h <;> rfl
theorem ju6 {F:Nat→Prop}:∀{l:List CV} {ys:List Value},Fa2 (Rep F w) l ys→jb7 l=[]
  | [],_,_=>rfl
  | _ :: _,[],h=>h.elim
  | c :: l,y :: ys,h=>by simp [jb7,vg9 h.1,ju6 h.2]
theorem q06 {F:Nat→Prop} {c:XV} {y:Value} (h:jl3 F w c y):jb7 (cellsOf c)=[]:=by
  cases c with
  | c x=>exact ju6 (l:=[x]) (ys:=[y]) ⟨h,trivial⟩
  | agg l=>obtain ⟨ys,_,h⟩:=h;exact ju6 h
theorem jy4 {F:Nat→Prop}:∀{l:List XV} {ys:List Value},Fa2 (jl3 F w) l ys→jc1 l=[]
  | [],_,_=>rfl
  | _ :: _,[],h=>h.elim
  | c :: l,y :: ys,h=>by simp [jc1,q06 h.1,jy4 h.2]
theorem vr6 {c d:CV} {ms:List Nat} (h:resC s c=some (d,ms)) (hc:∀m n,c≠ .own m n):ms=[]:=by
  unfold resC at h
  split at h
  · exact absurd rfl (hc _ _)
  · simp at h
  · simp at h
  · simp at h
  · simp only [Option.some.injEq,Prod.mk.injEq] at h;exact h.2.symm
theorem qo7 (R:RelE base X F0 B E s a w) (hX:∀m z n r k,s.mem m=some (.row z n r)→(E.ν m).ownBlock=some k→base≤k) {c d:CV} {ms:List Nat} {y:Value} {f:Option Value} (h:yh1 s c=some (d,ms)) (hm:∀m∈ms,f=some (E.ν m)) (hc:jb9 (live s) E w c y):RepO base (jf1 E s []) f w d y:=by
  unfold yh1 at h
  split at h
  · rename_i m n
    split at h <;> try (simp at h;done)
    rename_i z k r hmem
    simp only [Option.some.injEq,Prod.mk.injEq] at h
    obtain ⟨rfl,rfl⟩:=h
    obtain ⟨_,h0,hz,hF,e,xs,ho,hr⟩:=R.mem m _ hmem
    rw [hc.2.1]
    refine ⟨hm m (by simp),h0,hz,fun k hk=>?_,e,xs,⟨ho.1,fun k hk=>hX m _ _ _ k hmem hk⟩,fun i j hi hj=>?_⟩
    · rintro (h | ⟨m',hm',_⟩)
      · exact hF k hk h
      · simp at hm'
    · obtain ⟨u,e1,e2⟩:=hr i j hi hj
      exact ⟨u,e1,e2.mono (fun k hk=>Or.inl hk) (fun _ _=>rfl)⟩
  · rename_i hne
    have:ms=[]:=vr6 h (fun m n e=>hne m n e)
    subst this
    exact RepO.of (jq1 R h (fun m hh=>hh) hc)
theorem qo8 (R:RelE base X F0 B E s a w) (hX:∀m z n r k,s.mem m=some (.row z n r)→(E.ν m).ownBlock=some k→base≤k) {f:Option Value}:∀{l d:List CV} {ms:List Nat} {ys:List Value},vx1 s l=some (d,ms)→(∀m∈ms,f=some (E.ν m))→Fa2 (jb9 (live s) E w) l ys→Fa2 (RepO base (jf1 E s []) f w) d ys
  | [],d,ms,ys,h,_,hc=>by
    simp only [vx1,Option.some.injEq,Prod.mk.injEq] at h
    obtain ⟨rfl,rfl⟩:=h
    cases ys with
    | nil=>trivial
    | cons=>exact hc.elim
  | c :: l,d,ms,ys,h,hm,hc=>by
    unfold vx1 at h
    split at h <;> try (simp at h;done)
    rename_i d1 a1 d2 a2 h1 h2
    simp only [Option.some.injEq,Prod.mk.injEq] at h
    obtain ⟨rfl,rfl⟩:=h
    cases ys with
    | nil=>exact hc.elim
    | cons y ys=>exact ⟨qo7 R hX h1 (fun m hh=>hm m (by simp [hh])) hc.1,qo8 R hX h2 (fun m hh=>hm m (by simp [hh])) hc.2⟩
theorem qo9 (R:RelE base X F0 B E s a w) (hX:∀m z n r k,s.mem m=some (.row z n r)→(E.ν m).ownBlock=some k→base≤k) {x v:XV} {ms:List Nat} {y:Value} {f:Option Value} (h:yh2 s x=some (v,ms)) (hm:∀m∈ms,f=some (E.ν m)) (hc:ConcX (live s) E w x y):jj9 base (jf1 E s []) f w v y:=by
  unfold yh2 at h
  split at h
  · split at h <;> try (simp at h;done)
    rename_i hr
    simp only [Option.some.injEq,Prod.mk.injEq] at h
    obtain ⟨rfl,rfl⟩:=h
    exact qo7 R hX hr hm hc
  · split at h <;> try (simp at h;done)
    rename_i hr
    simp only [Option.some.injEq,Prod.mk.injEq] at h
    obtain ⟨rfl,rfl⟩:=h
    obtain ⟨ys,e,hc⟩:=hc
    exact ⟨ys,e,qo8 R hX hr hm hc⟩
theorem qp0 (R:RelE base X F0 B E s a w) (hX:∀m z n r k,s.mem m=some (.row z n r)→(E.ν m).ownBlock=some k→base≤k) {r:ResultVar} {v:XV} {ms:List Nat} {f:Option Value} (h:qd1 P s r=some (v,ms)) (hm:∀m∈ms,f=some (E.ν m)) :
    ∃y,(match r with | .tmp t=>(pure (a.tmps.getD t undef):Sem Value) | .cell x t=>(do loadVar t (← asAddr (a.tmps.getD x undef)):Sem Value)).run P w=.ok y w∧jj9 base (jf1 E s []) f w v y:=by
  cases r with
  | tmp t =>
    simp only [qd1] at h
    split at h <;> try (simp at h;done)
    rename_i x hx
    exact ⟨_,by simp only [Sem.run_pure],qo9 R hX h hm (jk9 R t hx)⟩
  | cell t ty =>
    simp only [qd1] at h
    split at h <;> try (simp at h;done)
    rename_i m off hx
    split at h <;> try (simp at h;done)
    rename_i l hl
    split at h <;> try (simp at h;done)
    rename_i x hp
    have hv:=jk9 R t hx
    obtain ⟨arr,el,h1,h2⟩:=ju1 R hl hv.1
    obtain ⟨y,e1,e2⟩:=ju0 (P:=P) h1 h2 hp
    refine ⟨y,?_,qo9 R hX h hm e2⟩
    simp only [Instr.loadAt,Instr.sureAddr,Sem.run_bind,Sem.run_pure,Result.andThen_ok] at e1
    simp only [qb9 hv,asAddr,Sem.run_bind,Sem.run_pure,Result.andThen_ok,e1]
theorem js6 (R:RelE base X F0 B E s a w) (hX:∀m z n r k,s.mem m=some (.row z n r)→(E.ν m).ownBlock=some k→base≤k) {f:Option Value}:∀{rs:List ResultVar} {vs:List XV} {ms:List Nat},jm6 P s rs=some (vs,ms)→(∀m∈ms,f=some (E.ν m))→
    ∃ys,(rs.mapM (m:=Sem) fun r=>match r with | .tmp t=>pure (a.tmps.getD t undef) | .cell x t=>do loadVar t (← asAddr (a.tmps.getD x undef))).run P w=.ok ys w∧Fa2 (jj9 base (jf1 E s []) f w) vs ys
  | [],vs,ms,h,_=>by simp only [jm6,Option.some.injEq,Prod.mk.injEq] at h;obtain ⟨rfl,rfl⟩:=h;exact ⟨[],rfl,trivial⟩
  | r :: rs,vs,ms,h,hm=>by
    unfold jm6 at h
    split at h <;> try (simp at h;done)
    rename_i v1 a1 vs1 b1 h1 h2
    simp only [Option.some.injEq,Prod.mk.injEq] at h
    obtain ⟨rfl,rfl⟩:=h
    obtain ⟨y,e1,c1⟩:=qp0 R hX h1 fun m hh=>hm m (by simp [hh])
    obtain ⟨ys,e2,c2⟩:=js6 R hX h2 fun m hh=>hm m (by simp [hh])
    refine ⟨y :: ys,?_,c1,c2⟩
    rw [List.mapM_cons]
    simp only [Sem.run_bind,e1,Result.andThen_ok,e2,Sem.run_pure]
theorem q07 {F:Nat→Prop} {f:Option Value} {vs:List XV} {ys:List Value} (h:Fa2 (jj9 base F f w) vs ys):jh1 base F f w vs (if h:ys.length=1 then ys[0] else .tuple ys.toArray):=by
  match vs,ys,h with
  | [],[],h=>exact ⟨[],rfl,trivial⟩
  | [v],[y],h=>exact h.1
  | v :: v' :: vs,y :: y' :: ys,h =>
    have:¬ (y :: y' :: ys).length=1:=by simp
    rw [dif_neg this]
    exact ⟨_,rfl,h⟩
theorem ju7 (R:RelE base X F0 B E s a w) {rows:List Nat}:∀{names:List Nat} {u:List (List CV)} {ms:List Nat},qv7 s names=some (u,ms)→(∀m∈ms,m∈rows)→Refs (jf1 E s rows) w (names.map E.β) u∧∀m∈names,∃c,s.mem m=some (.cells c)
  | [],u,ms,h,_=>by simp only [qv7,Option.some.injEq,Prod.mk.injEq] at h;obtain ⟨rfl,rfl⟩:=h;exact ⟨trivial,by simp⟩
  | m :: l,u,ms,h,hm=>by
    unfold qv7 at h
    split at h <;> try (simp at h;done)
    rename_i c hc
    split at h <;> try (simp at h;done)
    rename_i d a1 u1 b1 h1 h2
    simp only [Option.some.injEq,Prod.mk.injEq] at h
    obtain ⟨rfl,rfl⟩:=h
    obtain ⟨_,_,_,arr,t,k1,k2⟩:=R.mem m _ hc
    obtain ⟨i1,i2⟩:=ju7 R h2 fun m hh=>hm m (by simp [hh])
    refine ⟨⟨⟨arr,t,k1,jm4 R h1 (fun m hh=>hm m (by simp [hh])) k2⟩,i1⟩,fun k hk=>?_⟩
    rcases List.mem_cons.1 hk with rfl | hk
    · exact ⟨_,hc⟩
    · exact i2 k hk
theorem jn4 {fn:Func} {ys:List Value} (h:(fn.results.toList.mapM (m:=Sem) fun r=>match r with | .tmp t=>pure (a.tmps.getD t undef) | .cell x t=>do loadVar t (← asAddr (a.tmps.getD x undef))).run P w=.ok ys w) :
    (results fn a.tmps).run P w=.ok (if h:ys.length=1 then ys[0] else .tuple ys.toArray) w:=by
  unfold results
  rw [Sem.run_bind,Array.mapM_eq_mapM_toList,Sem.run_map]
  erw [h]
  simp
theorem vb5 {F:Nat→Prop} {vs:List XV} {ys:List Value} (h:Fa2 (jl3 F w) vs ys):jp4 F w vs (if h:ys.length=1 then ys[0] else .tuple ys.toArray):=by
  match vs,ys,h with
  | [],[],h=>exact ⟨[],rfl,trivial⟩
  | [v],[y],h=>exact h.1
  | v :: v' :: vs,y :: y' :: ys,h =>
    have:¬ (y :: y' :: ys).length=1:=by simp
    rw [dif_neg this]
    exact ⟨_,rfl,h⟩
end
section
variable {P:Program} {O:ja7}
theorem jq8:∀(k:Nat) (args:List AV),(jf6 k args).length=args.length
  | _,[]=>rfl
  | k,.x v :: l=>by simp [jf6,jq8 k l]
  | k,.ref off c :: l=>by simp [jf6,jq8 (k + 1) l]
theorem q08 {F:Nat→Prop} {w:World}:∀{args:List AV} {ys:List Value} {bs:List Nat},je2 F w args ys bs→args.length=ys.length
  | [],[],_,_=>rfl
  | .x v :: l,y :: ys,bs,h=>by simp [q08 h.2]
  | .ref off c :: l,y :: ys,b :: bs,h=>by simp [q08 h.2.2.2.2]
  | [],_ :: _,_,h=>h.elim
  | .x _ :: _,[],_,h=>h.elim
  | .ref _ _ :: _,[],_,h=>h.elim
  | .ref _ _ :: _,_ :: _,[],h=>h.elim
theorem q09 {F:Nat→Prop} {w:World}:∀{k:Nat} {args:List AV} {ys:List Value} {bs:List Nat},je2 F w args ys bs→jd3 k args=(List.range' (PN + k) bs.length)
  | k,[],[],bs,h=>by have h:bs=[]:=h;subst h;rfl
  | k,.x v :: l,y :: ys,bs,h=>q09 (k:=k) (args:=l) h.2
  | k,.ref off c :: l,y :: ys,b :: bs,h=>by
    simp only [jd3,List.length_cons,List.range'_succ,q09 (k:=k + 1) h.2.2.2.2,Nat.add_assoc]
  | _,[],_ :: _,_,h=>h.elim
  | _,.x _ :: _,[],_,h=>h.elim
  | _,.ref _ _ :: _,[],_,h=>h.elim
  | _,.ref _ _ :: _,_ :: _,[],h=>h.elim
theorem yu4 {F:Nat→Prop} {w:World}:∀{args:List AV} {ys:List Value} {bs:List Nat},je2 F w args ys bs→bs.length≤args.length∧∀b∈bs,b < w.heap.size∧¬ F b
  | [],[],bs,h=>by have h:bs=[]:=h;subst h;simp
  | .x v :: l,y :: ys,bs,h=>by have:=yu4 h.2;exact ⟨by simp;omega,this.2⟩
  | .ref off c :: l,y :: ys,b :: bs,h=>by
    have:=yu4 h.2.2.2.2
    refine ⟨by simp;omega,fun x hx=>?_⟩
    rcases List.mem_cons.1 hx with rfl | hx
    · obtain ⟨arr,t,h1,_⟩:=h.2.2.2.1
      exact ⟨(Array.getElem?_eq_some_iff.1 h1).1,h.2.1⟩
    · exact this.2 x hx
  | [],_ :: _,_,h=>h.elim
  | .x _ :: _,[],_,h=>h.elim
  | .ref _ _ :: _,[],_,h=>h.elim
  | .ref _ _ :: _,_ :: _,[],h=>h.elim
theorem j01 {F:Nat→Prop} {w:World} {L:Nat→Prop} {E:Env} (hF:E.F=F):∀{k:Nat} {args:List AV} {ys:List Value} {bs:List Nat},je2 F w args ys bs→(∀(i b:Nat),bs[i]?=some b→E.β (PN + (k + i))=b∧L (PN + (k + i))∧PN + (k + i) < GB)→
    ∀(t:Nat) (g:GV),(jf6 k args)[t]?=some g→∃y,ys[t]?=some y∧jd5 L E w g.v y
  | k,[],[],bs,h,_,t,g,hg=>by simp [jf6] at hg
  | k,.x v :: l,y :: ys,bs,h,hb,t,g,hg=>by
    cases t with
    | zero =>
      simp only [jf6,List.getElem?_cons_zero,Option.some.injEq] at hg
      subst hg
      exact ⟨y,rfl,ConcX.jp5 (by rw [hF];exact h.1)⟩
    | succ t=>exact j01 hF h.2 hb t g (by simpa [jf6] using hg)
  | k,.ref off c :: l,y :: ys,b :: bs,h,hb,t,g,hg=>by
    cases t with
    | zero =>
      simp only [jf6,List.getElem?_cons_zero,Option.some.injEq] at hg
      subst hg
      obtain ⟨h1,h2,h3⟩:=hb 0 b rfl
      rw [Nat.add_zero] at h1 h2 h3
      exact ⟨y,rfl,h2,by rw [adr,if_neg (by omega),h1];exact h.1⟩
    | succ t=>exact j01 hF h.2.2.2.2 (k:=k + 1) (fun i b' hi=>by have:=hb (i + 1) b' (by simpa using hi);rw [show k + 1 + i=k + (i + 1) by omega];exact this) t g (by simpa [jf6] using hg)
  | _,[],_ :: _,_,h,_,_,_,_=>h.elim
  | _,.x _ :: _,[],_,h,_,_,_,_=>h.elim
  | _,.ref _ _ :: _,[],_,h,_,_,_,_=>h.elim
  | _,.ref _ _ :: _,_ :: _,[],h,_,_,_,_=>h.elim
theorem ju8 {F:Nat→Prop} {w:World}:∀{k:Nat} {args:List AV} {ys:List Value} {bs:List Nat},je2 F w args ys bs→∀(m:Nat) (b:Blk),jo6 k args m=some b→∃(i bl:Nat) (c:List CV),m=PN + (k + i)∧bs[i]?=some bl∧b=.cells c∧qm3 F w bl c
  | k,[],[],bs,h,m,b,hm=>by simp [jo6] at hm
  | k,.x v :: l,y :: ys,bs,h,m,b,hm=>ju8 h.2 m b hm
  | k,.ref off c :: l,y :: ys,bl :: bs,h,m,b,hm=>by
    simp only [jo6] at hm
    cases e:Nat.beq m (PN + k)
    · rw [e] at hm
      obtain ⟨i,bl',c',h1,h2,h3,h4⟩:=ju8 h.2.2.2.2 m b hm
      exact ⟨i + 1,bl',c',by omega,by simpa using h2,h3,h4⟩
    · rw [e] at hm
      simp only [cond_true,Option.some.injEq] at hm
      exact ⟨0,bl,c,Nat.eq_of_beq_eq_true e,rfl,hm.symm,h.2.2.2.1⟩
  | _,[],_ :: _,_,h,_,_,_=>h.elim
  | _,.x _ :: _,[],_,h,_,_,_=>h.elim
  | _,.ref _ _ :: _,[],_,h,_,_,_=>h.elim
  | _,.ref _ _ :: _,_ :: _,[],h,_,_,_=>h.elim
theorem qf8 {F:Nat→Prop} {w:World}:∀{k:Nat} {args:List AV} {ys:List Value} {bs:List Nat},je2 F w args ys bs→∀(i b:Nat),bs[i]?=some b→(jo6 k args (PN + (k + i))).isSome=true
  | k,[],[],bs,h,i,b,hi=>by have h:bs=[]:=h;subst h;simp at hi
  | k,.x v :: l,y :: ys,bs,h,i,b,hi=>qf8 (k:=k) h.2 i b hi
  | k,.ref off c :: l,y :: ys,bl :: bs,h,i,b,hi=>by
    simp only [jo6]
    cases i with
    | zero=>rw [Nat.add_zero,Nat.beq_refl];rfl
    | succ i =>
      rw [qb7 (by omega),cond_false,show k + (i + 1)=k + 1 + i by omega]
      exact qf8 (k:=k + 1) h.2.2.2.2 i b (by simpa using hi)
  | _,[],_ :: _,_,h,_,_,_=>h.elim
  | _,.x _ :: _,[],_,h,_,_,_=>h.elim
  | _,.ref _ _ :: _,[],_,h,_,_,_=>h.elim
  | _,.ref _ _ :: _,_ :: _,[],h,_,_,_=>h.elim
theorem jw7 {F:Nat→Prop} {w:World}:∀{args:List AV} {ys:List Value} {bs:List Nat},je2 F w args ys bs→∀(i j a b:Nat),i < j→bs[i]?=some a→bs[j]?=some b→a≠b
  | [],[],bs,h,i,j,a,b,_,hi,_=>by have h:bs=[]:=h;subst h;simp at hi
  | .x v :: l,y :: ys,bs,h,i,j,a,b,hij,hi,hj=>jw7 h.2 i j a b hij hi hj
  | .ref off c :: l,y :: ys,bl :: bs,h,i,j,a,b,hij,hi,hj=>by
    cases j with
    | zero=>omega
    | succ j =>
      cases i with
      | zero =>
        simp only [List.getElem?_cons_zero,Option.some.injEq] at hi
        subst hi
        intro e
        subst e
        exact h.2.2.1 (List.mem_of_getElem? (by simpa using hj))
      | succ i=>exact jw7 h.2.2.2.2 i j a b (by omega) (by simpa using hi) (by simpa using hj)
  | [],_ :: _,_,h,_,_,_,_,_,_,_=>h.elim
  | .x _ :: _,[],_,h,_,_,_,_,_,_,_=>h.elim
  | .ref _ _ :: _,[],_,h,_,_,_,_,_,_,_=>h.elim
  | .ref _ _ :: _,_ :: _,[],h,_,_,_,_,_,_,_=>h.elim
def Done (F:Nat→Prop) (w:World) (bs:List Nat) (V:List XV→List (List CV)→Prop) (v:Value) (w':World):Prop :=
  ∃res upd,V res upd∧(jc1 res).length≤1∧Keep w.heap.size (·∈bs) w w'∧∃(F':Nat→Prop) (f:Option Value),(∀k,F k→F' k)∧(∀k,F' k→k < w'.heap.size∧(F k∨w.heap.size≤k))∧
    (∀y k,f=some y→y.ownBlock=some k→k < w'.heap.size∧w.heap.size≤k)∧jh1 w.heap.size F' f w' res v∧Refs F' w' bs upd
theorem qp1 {rs:List ResultVar} {names:List Nat} {V:List XV→List (List CV)→Prop} {s:PSt} (h:j00 P rs names V s):s.ok∧((∃res ms upd ms',jq6 P s rs=some (res,ms)∧qv7 s names=some (upd,ms')∧
    (V res upd∨(ms'=[]∧∃r m,jm6 P s rs=some (r,[m])∧(jc1 r).length=1∧V r upd)))∨∃res,vb2 s rs names=some res∧V res []):=by
  unfold j00 at h
  split at h
  · rename_i res ms upd ms' h1 h2
    split at h
    · split at h
      · rename_i r m h3
        cases hb:Nat.beq (jc1 r).length 1
        · rw [hb] at h;exact ⟨h.1,Or.inl ⟨res,_,upd,_,h1,h2,Or.inl h.2⟩⟩
        · rw [hb] at h;exact ⟨h.1,Or.inl ⟨res,_,upd,_,h1,h2,Or.inr ⟨rfl,r,m,h3,Nat.eq_of_beq_eq_true hb,h.2⟩⟩⟩
      · exact ⟨h.1,Or.inl ⟨res,_,upd,_,h1,h2,Or.inl h.2⟩⟩
    · exact ⟨h.1,Or.inl ⟨res,_,upd,_,h1,h2,Or.inl h.2⟩⟩
  · split at h
    · rename_i res h3;exact ⟨h.1,Or.inr ⟨res,h3,h.2⟩⟩
    · exact h.elim
section
variable {w:World} {D:Nat} {o:Obj} {x:Option (List Deferred)}
theorem Rep.undef {F:Nat→Prop} (hD:w.heap[D]?=some (.deferred x)) {c:CV} {y:Value} (h:Rep F w c y):Rep (fun k=>F k∧k≠D) (w.putObj D o) c y:=by
  induction h with
  | v h=>exact .v h
  | nil h h'=>exact .nil h h'
  | slc u h1 hc h2 h3 h4 _ ih =>
    rename_i b _ _ _ _ _ _
    have hne:b≠D:=fun e=>by subst e;rw [hD] at h3;simp at h3
    exact .slc u h1 hc ⟨h2,hne⟩ (by rw [World.putObj_heap_other hne];exact h3) h4 ih
  | clo bs h =>
    refine .clo bs (h.mono fun c b ⟨h1,t,h2⟩=>?_)
    have hne:b≠D:=fun e=>by subst e;rw [hD] at h2;simp at h2
    exact ⟨⟨h1,hne⟩,t,by rw [World.putObj_heap_other hne];exact h2⟩
theorem jb9.undef {L:Nat→Prop} {E:Env} (hD:w.heap[D]?=some (.deferred x)) {c:CV} {y:Value} (h:jb9 L E w c y):jb9 L ⟨fun k=>E.F k∧k≠D,E.β,E.ν⟩ (w.putObj D o) c y:=by
  cases c with
  | v _=>exact Rep.undef hD h
  | slc _ _ _=>exact Rep.undef hD h
  | clo _ _=>exact Rep.undef hD h
  | own m n=>exact h
  | ptr m off=>exact h
  | fn f caps=>exact h
  | fresh _ _ _=>exact h.elim
theorem ConcX.undef {L:Nat→Prop} {E:Env} (hD:w.heap[D]?=some (.deferred x)) {c:XV} {y:Value} (h:ConcX L E w c y):ConcX L ⟨fun k=>E.F k∧k≠D,E.β,E.ν⟩ (w.putObj D o) c y:=by
  cases c with
  | c c=>exact jb9.undef hD h
  | agg l=>obtain ⟨ys,e,h⟩:=h;exact ⟨ys,e,h.mono fun _ _=>jb9.undef hD⟩
theorem jd5.undef {L:Nat→Prop} {E:Env} (hD:w.heap[D]?=some (.deferred x)) {c:SV} {y:Value} (h:jd5 L E w c y):jd5 L ⟨fun k=>E.F k∧k≠D,E.β,E.ν⟩ (w.putObj D o) c y:=by
  cases c with
  | x v=>exact ConcX.undef hD h
  | tup l=>obtain ⟨ys,e,h⟩:=h;exact ⟨ys,e,h.mono fun _ _=>ConcX.undef hD⟩
  | eptr m z i off=>exact h
  | view m z l n=>exact h
  | fptr z r i off =>
    obtain ⟨h0,b,o',arr,t,fr,h1,h2,h3,h4⟩:=h
    have hne:b≠D:=fun e=>by subst e;rw [hD] at h2;simp at h2
    refine ⟨h0,b,o',arr,t,fr,⟨h1,hne⟩,by rw [World.putObj_heap_other hne];exact h2,h3,fun j hj=>?_⟩
    obtain ⟨u,e,k⟩:=h4 j hj
    exact ⟨u,e,k.undef hD⟩
theorem dfOK.minus {base:Nat} {F0 F:Nat→Prop}:∀{l:List Deferred},(∀d'∈l,d'≠{ target:=.collected D,args:=#[] })→dfOK base F0 F w l→dfOK base F0 (fun k=>F k∧k≠D) (w.putObj D o) l
  | [],_,_=>trivial
  | d :: l,hn,⟨⟨D',e,h1,h2,h3,h4⟩,h⟩=>by
    have hne:D'≠D:=fun q=>by subst q;exact hn d (by simp) e
    exact ⟨⟨D',e,⟨h1,hne⟩,h2,by rw [World.putObj_heap_other hne];exact h3,h4⟩,dfOK.minus (fun d' hd=>hn d' (by simp [hd])) h⟩
theorem Rel.yu5 {base:Nat} {X F0:Nat→Prop} {B:Nat→(Nat×Value)×Bool} {s:PSt} {a:Act} (R:Rel base X F0 B s a w) {d:Deferred} {ds:List Deferred} (hd:a.defers=d :: ds) :
    ∃D,d={ target:=.collected D,args:=#[] }∧(base≤D∧¬ F0 D)∧w.heap[D]?=some (.deferred (some []))∧Rel base X F0 B s { a with defers:=ds } (w.putObj D (.deferred none)):=by
  obtain ⟨E,R⟩:=R
  have dd:=R.defers
  rw [hd] at dd
  obtain ⟨⟨D,rfl,h1,h2,h3,h4⟩,h5⟩:=dd
  have sz:(w.putObj D (.deferred none)).heap.size=w.heap.size:=by simp [World.putObj]
  have cells:∀{k:Nat} {arr:Array Value} {t:TypeId} {fr:Nat×Nat},w.heap[k]?=some (.cells arr t fr)→k≠D:=fun h e=>by subst e;rw [h3] at h;simp at h
  refine ⟨D,rfl,h2,h3,⟨fun k=>E.F k∧k≠D,E.β,E.ν⟩,dfOK.minus h4 h5,R.size,fun t g e hk=>?_,fun m b hb=>?_,R.sep,fun k hk=>?_,fun k hk=>⟨R.sub k hk,fun (e:k=D)=>h2.2 (by rw [← e];exact hk)⟩,fun m l e hm=>?_,fun k hk=>?_,R.pin,R.pinL⟩
  · obtain ⟨y,e1,e2⟩:=R.slots t g e hk
    exact ⟨y,e1,jd5.undef h3 e2⟩
  · obtain ⟨k1,k2⟩:=R.mem m b hb
    refine ⟨k1,?_⟩
    cases b with
    | cells l =>
      obtain ⟨g1,g2,arr,t,g3,g4⟩:=k2
      exact ⟨g1,fun h=>g2 h.1,arr,t,by rw [World.putObj_heap_other (cells g3)];exact g3,g4.mono fun _ _=>jb9.undef h3⟩
    | row z n r =>
      obtain ⟨g0,gz,gF,e,xs,go,gr⟩:=k2
      refine ⟨g0,gz,fun k hk h=>gF k hk h.1,e,xs,⟨go.1.heap fun k hk=>World.putObj_heap_other ?_,go.2⟩,fun i j hi hj=>?_⟩
      · rcases go.1.2 with ⟨e1,_⟩ | ⟨g,cap,cur,e1,⟨fz,_,hg⟩,_⟩
        · rw [e1] at hk;simp [Value.ownBlock] at hk
        · rw [e1] at hk
          simp only [Value.ownBlock,Option.some.injEq] at hk
          subst hk
          exact cells hg
      · obtain ⟨u,e1,e2⟩:=gr i j hi hj
        exact ⟨u,e1,e2.undef h3⟩
    | fro z n r=>exact Rep.undef h3 k2
    | dead=>trivial
  · have:=R.frz k hk.1
    exact ⟨by rw [sz];exact this.1,this.2⟩
  · obtain ⟨g1,arr,t,g2,g3⟩:=R.glob m l e hm
    have hne:=cells g2
    exact ⟨⟨g1,hne⟩,arr,t,by rw [World.putObj_heap_other hne];exact g2,g3.mono fun _ _=>Rep.undef h3⟩
  · rw [sz];exact R.old k hk
end
theorem jc3.put {base:Nat} {X F0:Nat→Prop} {w0 w:World} (h:jc3 base X F0 w0 w) {D:Nat} (hD:base≤D∧¬ F0 D) (o:Obj):jc3 base X F0 w0 (w.putObj D o) :=
  ⟨⟨h.os,h.tape,h.output,by have:=h.size;simpa [World.putObj] using this,fun k hk hx=>(World.putObj_heap_other (by omega)).trans (h.block k hk hx)⟩,fun k hk=>(World.putObj_heap_other (fun (e:k=D)=>hD.2 (by rw [← e];exact hk))).trans (h.fro k hk)⟩
theorem jm0 {base:Nat} {X F0:Nat→Prop} {B:Nat→(Nat×Value)×Bool} {s:PSt} {w0:World} {n:Nat} {fn:Func} {R':Ending→World→Prop}:∀(ds:List Deferred) (a:Act) (w:World),a.defers=ds→Rel base X F0 B s a w→jc3 base X F0 w0 w→
    (∀a' w',a'.tmps=a.tmps→Rel base X F0 B s a' w'→jc3 base X F0 w0 w'→∃v,(results fn a.tmps).run P w'=.ok v w'∧R' (.returned v) w')→LeavesInM Fence.wide n P fn a.tmps R' ds .returning w
  | [],a,w,hd,R,hk,H=>H a w rfl R hk
  | d :: ds,a,w,hd,R,hk,H=>by
    obtain ⟨D,rfl,h1,h2,R'⟩:=R.yu5 hd
    exact ⟨by simp,Or.inl ⟨D,_,rfl,run_takeDeferred h2,jm0 ds { a with defers:=ds } _ rfl R' (hk.put h1 _) H⟩⟩
theorem Refs.mono {F F':Nat→Prop} {w:World} (hF:∀k,F k→F' k):∀{bs:List Nat} {cs:List (List CV)},Refs F w bs cs→Refs F' w bs cs
  | [],[],_=>trivial
  | [],_ :: _,h=>h.elim
  | _ :: _,[],h=>h.elim
  | b :: bs,c :: cs,⟨⟨arr,t,h1,h2⟩,h3⟩=>⟨⟨arr,t,h1,h2.mono fun _ _=>Rep.mono hF (fun _ _=>rfl)⟩,Refs.mono hF h3⟩
theorem qw0 {base:Nat} {X F0:Nat→Prop} {B:Nat→(Nat×Value)×Bool} {E:Env} {s:PSt} {a:Act} {w:World} (R:RelE base X F0 B E s a w):∀{caps:List (Nat×Nat)} {l:List (List Value)},cloL s caps=some l→
    (caps.map fun p=>Value.pointer (some ⟨adr E p.1,p.2,none⟩))=(caps.map fun p=>E.β p.1).map (fun b=>Value.pointer (some ⟨b,0,none⟩))∧
    Fa2 (fun (c:List Value) (b:Nat)=>(E.F b∨∃m c,s.mem m=some (.cells c)∧E.β m=b)∧∃t,w.heap[b]?=some (.cells c.toArray t (0,0))) l (caps.map fun p=>E.β p.1)
  | [],l,h=>by simp only [cloL,Option.some.injEq] at h;subst h;exact ⟨rfl,trivial⟩
  | (m,off) :: caps,l,h=>by
    unfold cloL at h
    split at h <;> try (simp at h;done)
    rename_i c hm
    split at h <;> try (simp at h;done)
    rename_i vs k hvs hk
    cases ho:Nat.beq off 0
    · rw [ho] at h;simp at h
    · rw [ho,cond_true,Option.some.injEq] at h
      subst h
      obtain rfl:=Nat.eq_of_beq_eq_true ho
      obtain ⟨i1,i2⟩:=qw0 R hk
      obtain ⟨g0,_,_,arr,t,g2,g3⟩:=R.mem m _ hm
      refine ⟨?_,⟨Or.inr ⟨m,c,hm,rfl⟩,t,?_⟩,i2⟩
      · simp only [List.map_cons,i1]
        unfold adr
        rw [if_neg (by omega)]
      · rw [g2]
        have:=jt9 hvs g3
        rw [← this]
theorem vr7 {s:PSt} {rs:List ResultVar} {names:List Nat} {res:List XV} (h:vb2 s rs names=some res):names=[]:=by
  unfold vb2 at h
  split at h
  · rfl
  · simp at h
end
def agree (T:Nat) (B' B:Nat→(Nat×Value)×Bool):Prop:=∀m,m < PN + T→B' m=B m
theorem agree.refl (T:Nat) (B:Nat→(Nat×Value)×Bool):agree T B B:=fun _ _=>rfl
theorem agree.trans {T:Nat} {A B C:Nat→(Nat×Value)×Bool} (h:agree T A B) (k:agree T B C):agree T A C:=fun m hm=>(h m hm).trans (k m hm)
theorem agree.less {T U:Nat} {A B:Nat→(Nat×Value)×Bool} (hT:U≤T) (h:agree T A B):agree U A B:=fun m hm=>h m (by omega)
def EvT (T:Nat) (P:Program) (c:Code) (ev:(Ex→PSt→Prop)→PSt→Prop):Prop :=
  ∀(base:Nat) (X F0:Nat→Prop) (B:Nat→(Nat×Value)×Bool) (w0:World) (k:Ex→PSt→Prop) (Q:Exit→Act→World→Prop) (s:PSt) (a:Act) (w:World),base≤w0.heap.size→nf B→(∀e s,k e s→s.ok)→
    (∀B':Nat→(Nat×Value)×Bool,agree T B' B→nf B'→∀e s a w,Rel base X F0 B' s a w→jc3 base X F0 w0 w→base≤w.heap.size→k e s→Q (exOf e) a w)→
    Rel base X F0 B s a w→jc3 base X F0 w0 w→base≤w.heap.size→ev k s→c.wp P Q a w
def EvF (P:Program) (c:Code) (ev:(Ex→PSt→Prop)→PSt→Prop):Prop :=
  ∀(base:Nat) (X F0:Nat→Prop) (B:Nat→(Nat×Value)×Bool) (w0:World) (k:Ex→PSt→Prop) (Q:Exit→Act→World→Prop) (s:PSt) (a:Act) (w:World),base≤w0.heap.size→(∀e s,k e s→s.ok)→
    (∀e s a w,Rel base X F0 B s a w→jc3 base X F0 w0 w→base≤w.heap.size→k e s→Q (exOf e) a w)→
    Rel base X F0 B s a w→jc3 base X F0 w0 w→base≤w.heap.size→ev k s→c.wp P Q a w
def FLT:Nat:=GB + GB
def vh0 (T m:Nat):Bool:=Nat.beq T FLT || (Nat.ble PN m && Nat.blt m (PN + T))
def vh1 (T:Nat):CV→Bool
  | .v _=>true
  | .slc _ _ _=>true
  | .clo _ _=>true
  | .ptr m _=>vh0 T m
  | .own m _=>vh0 T m && Nat.blt m GB
  | .fn _ l=>l.all fun p=>vh0 T p.1 && Nat.blt p.1 GB
  | _=>false
def yh3 (T:Nat):XV→Bool
  | .c c=>vh1 T c
  | .agg l=>l.all (vh1 T)
def vx5 (T:Nat):SV→Bool
  | .x v=>yh3 T v
  | .tup l=>l.all (yh3 T)
  | .fptr _ _ _ _=>true
  | _=>false
def vh2 (T:Nat) (g:GV):GV:=bif g.k then (bif vx5 T g.v then g else gunk) else gunk
def livC (mem:Nat→Option Blk):CV→Bool
  | .ptr m _=>bif Nat.ble GB m then (gtab m).isSome else (mem m).isSome
  | .own m _=>(mem m).isSome
  | .fn _ l=>l.all fun p=>(mem p.1).isSome
  | _=>true
def livX (mem:Nat→Option Blk):XV→Bool
  | .c c=>livC mem c
  | .agg l=>l.all (livC mem)
def livS (mem:Nat→Option Blk):SV→Bool
  | .x v=>livX mem v
  | .tup l=>l.all (livX mem)
  | _=>true
def livG (mem:Nat→Option Blk) (g:GV):Bool:=bif g.k then livS mem g.v else true
def yh4 (P:Program) (s:PSt):ResultVar→Option XV
  | .tmp t=>match s.tmps.getD t (gnow (.tup [])) with
    | ⟨true,.x v⟩=>some v
    | _=>none
  | .cell t ty=>match s.tmps.getD t (gnow (.tup [])) with
    | ⟨true,.x (.c (.ptr m off))⟩=>match memC s m with
      | some c=>ql7 P c ty off
      | none=>none
    | _=>none
def resI (P:Program) (s:PSt):List ResultVar→Option (List XV)
  | []=>some []
  | r :: rs=>match yh4 P s r,resI P s rs with
    | some v,some l=>some (v :: l)
    | _,_=>none
structure Inl where
  j:Nat
  T:Nat
  f:FuncId
  n:Nat
  rs:List ResultVar
  ev:(Ex→PSt→Prop)→PSt→Prop
def qf9 (P:Program) (J:Inl):Prop:=∃fn c,P.funcs[J.f]?=some fn∧(fn.name == "runtime.NumGoroutine")=false∧fn.body=some c∧fn.ntmps=J.n∧fn.results.toList=J.rs∧EvT J.T P c J.ev∧(J.T=FLT→EvF P c J.ev)
def qp2 (P:Program) (O:ja7) (J:Inl) (ops:List Oper) (nm:Nat) (dst:Option Tmp) (slots:List GV) (k:PSt→Prop) (s2:PSt):Prop :=
  match resI P s2 J.rs with
  | some res=>s2.ok∧slots.all (livG s2.mem)=true∧
      jo4 P O ops [] nm (J.j + 1) (ops.drop (J.j + 1)) ⟨je5 slots dst (gnow (resS res)),s2.mem,True,[],s2.gen + 1⟩ (List.replicate (J.j + 1) ⟨gunk,[],[],[]⟩) [] fun s3 _=>k s3
  | none=>False
def inlK (P:Program) (O:ja7) (J:Inl) (ops:List Oper) (nm:Nat) (dst:Option Tmp) (slots:List GV) (k:PSt→Prop):Ex→PSt→Prop:=fun e s=>match e with
  | .normal=>qp2 P O J ops nm dst slots k s
  | .ret=>qp2 P O J ops nm dst slots k s
  | .exit _=>False
def qp3 (P:Program) (O:ja7) (J:Inl) (ops:List Oper) (nm:Nat) (k:PSt→Prop) (o:Oper) (c:Call) (s1:PSt):Prop :=
  if jj7 s1 o then match jj6 s1 c.callee with
    | some (f,caps)=>if Nat.beq f J.f then
        s1.ok∧J.ev (inlK P O J ops nm o.dst (s1.tmps.map (vh2 J.T)) k)
          ⟨((c.args.toList.map (valOf s1) ++ caps.map fun p=>SV.x (.c (.ptr p.1 p.2))).map gnow) ++ List.replicate (J.n - (c.args.toList.length + caps.length)) (gnow (.tup [])),s1.mem,True,[],s1.gen + 1⟩
      else False
    | none=>False
  else False
def vx6 (P:Program) (O:ja7) (J:Inl) (ops:List Oper) (nm:Nat) (k:PSt→Prop) (o:Oper) (s1:PSt):Prop :=
  s1.ok∧jo4 P O ops [] nm (J.j + 1) (ops.drop (J.j + 1)) ⟨je5 s1.tmps o.dst (gnow (.tup [])),s1.mem,True,[],s1.gen + 1⟩ (List.replicate (J.j + 1) ⟨gunk,[],[],[]⟩) [] fun s3 _=>k s3
def yh5 (P:Program) (O:ja7) (J:Inl) (ops:List Oper) (nm:Nat) (k:PSt→Prop) (s1:PSt):Prop :=
  match ops[J.j]? with
  | some o=>match o.op,o.guard with
    | .call c,none=>qp3 P O J ops nm k o c s1
    | .call c,some _=>match guardOf s1 ops o with
      | some true=>qp3 P O J ops nm k o c s1
      | some false=>vx6 P O J ops nm k o s1
      | none=>False
    | _,_=>False
  | none=>False
def y60 (J:Inl) (ops:List Oper):List Nat :=
  match ops[J.j]? with
  | some o=>match o.guard with
    | some (j,_)=>[j]
    | none=>[]
  | none=>[]
def inlC (P:Program) (O:ja7) (J:Inl) (id:Nat) (ops:List Oper) (k:PSt→Prop) (s:PSt):Prop :=
  force s.gen fun g=>jo4 P O ops (y60 J ops) ((g * 4096 + id) * 1024) 0 (ops.take J.j) s [] s.lits fun s1 _=>yh5 P O J ops ((g * 4096 + id) * 1024) k s1
section
variable {P:Program} {O:ja7} {base:Nat} {X F0:Nat→Prop} {B:Nat→(Nat×Value)×Bool} {E:Env} {s:PSt} {a:Act} {w:World}
theorem Rel.reB {B':Nat→(Nat×Value)×Bool} (hNF:nf B) (R:Rel base X F0 B' s a w) (h:∀m,m < GB→B' m=B m):Rel base X F0 B s a w:=by
  obtain ⟨E,R⟩:=R
  refine ⟨E,R.defers,R.size,R.slots,R.mem,R.sep,R.frz,R.sub,R.glob,R.old,fun m hm hs=>?_,fun m hm=>?_⟩
  · obtain ⟨b,hb⟩:=Option.isSome_iff_exists.1 hs
    have e:=h m (R.mem m b hb).1
    rw [← e] at hm ⊢
    exact R.pin m hm hs
  · by_cases hG:m < GB
    · exact R.pinL m (by rw [h m hG];exact hm)
    · rw [hNF m] at hm;simp at hm
theorem vb6 {id:Nat} {ops:List Oper} {draw:Bool} {k:PSt→Prop} (hk:∀s,k s→s.ok) (h:jq4 P O id ops draw s k):s.ok:=by
  unfold jq4 jw3 at h
  rw [force_eq] at h
  rw [← vw3 ops (draw && !qm1 O) s]
  obtain ⟨s1,ds,lits,hend,hlen,run⟩:=jk5 (ops:=ops) ops 0 (qn4 ops (draw && !qm1 O) s) [] (qn4 ops (draw && !qm1 O) s).lits (fun j o ho=>by rw [Nat.zero_add];exact ho) rfl h
  have run:=run (fun i=>ds.getD i ⟨gunk,[],[],[]⟩) (fun j d hd=>by simp [List.getD,hd])
  refine RunL.ok run (show (⟨s1.tmps,s1.mem,s1.ok,lits,s1.gen⟩:PSt).ok from ?_)
  split at hend
  · by_cases hc:(jr4 0 ops && jr7 [] (masks [] ops) (rowsOf ops ops ([].reverse ++ ds)))=true
    · rw [if_pos hc] at hend;exact hk _ hend
    · rw [if_neg hc] at hend;exact hend.elim
  · exact hk _ hend
theorem vb7 {J:Inl} {ops:List Oper} {nm:Nat} {dst:Option Tmp} {slots:List GV} {k:PSt→Prop} (h:qp2 P O J ops nm dst slots k s):s.ok:=by
  unfold qp2 at h
  split at h
  · exact h.1
  · exact h.elim
theorem qp4 {J:Inl} {ops:List Oper} {nm:Nat} {k:PSt→Prop} (h:yh5 P O J ops nm k s):∃o c,ops[J.j]?=some o∧o.op=.call c∧((guardOf s ops o=some true∧qp3 P O J ops nm k o c s)∨(guardOf s ops o=some false∧vx6 P O J ops nm k o s)):=by
  unfold yh5 at h
  split at h <;> try (exact h.elim)
  rename_i o ho
  split at h <;> try (exact h.elim)
  · rename_i c hop hgd
    exact ⟨o,c,ho,hop,Or.inl ⟨by unfold guardOf;rw [hgd],h⟩⟩
  · rename_i c g hop hgd
    split at h <;> try (exact h.elim)
    · rename_i hg;exact ⟨o,c,ho,hop,Or.inl ⟨hg,h⟩⟩
    · rename_i hg;exact ⟨o,c,ho,hop,Or.inr ⟨hg,h⟩⟩
theorem vl6 {J:Inl} {ops:List Oper} {nm:Nat} {k:PSt→Prop} (h:yh5 P O J ops nm k s):s.ok:=by
  obtain ⟨o,c,_,_,⟨_,h⟩ | ⟨_,h⟩⟩:=qp4 h
  · unfold qp3 at h
    split at h <;> try (exact h.elim)
    split at h <;> try (exact h.elim)
    split at h <;> try (exact h.elim)
    exact h.1
  · exact h.1
theorem vl7 {α:Type} {l:List α} {n j:Nat} {x:α} (h:(l.take n)[j]?=some x):l[j]?=some x:=by
  rw [List.getElem?_take] at h
  split at h
  · exact h
  · simp at h
theorem vx7 {J:Inl} {id:Nat} {ops:List Oper} {k:PSt→Prop} (hk:∀s,k s→s.ok) (h:inlC P O J id ops k s):s.ok:=by
  unfold inlC at h
  rw [force_eq] at h
  obtain ⟨s1,ds,lits,hend,hlen,run⟩:=jk5 (ops:=ops) (ops.take J.j) 0 s [] s.lits (fun j o ho=>by rw [Nat.zero_add];exact vl7 ho) rfl h
  have run:=run (fun i=>ds.getD i ⟨gunk,[],[],[]⟩) (fun j d hd=>by simp [List.getD,hd])
  exact RunL.ok run (show (⟨s1.tmps,s1.mem,s1.ok,lits,s1.gen⟩:PSt).ok from vl6 hend)
theorem RunL.yq1 (hO:je9 P O) {ops:Array Oper} {nm:Nat} {D:Nat→Delta} {Q:Exit→Act→World→Prop} {w0:World} {s':PSt} (hok:s'.ok) (l2:List Nat)
    (hQ:∀a' w',Rel base X F0 B s' a' w'→jc3 base X F0 w0 w'→base≤w'.heap.size→wpOps P ops Q l2 a' w') :
    ∀(l:List Nat) (s:PSt) (a:Act) (w:World),RunL P O ops.toList nm D l s s'→Rel base X F0 B s a w→base≤w.heap.size→jc3 base X F0 w0 w→wpOps P ops Q (l ++ l2) a w
  | [],s,a,w,h,R,hb,hbel=>by cases h;exact hQ _ _ R hbel hb
  | i :: l,s,a,w,h,R,hb,hbel=>by
    cases h with
    | cons ho h t =>
      rw [List.cons_append,wpOps_cons]
      exact qf6 hO R hb (by simpa using ho) h (RunL.ok t hok) fun a' w' R' hb'=>RunL.yq1 hO hok l2 hQ l _ a' w' t R' (Nat.le_trans hb hb'.size) (hbel.trans hb')
section
variable {E':Env} {w':World} {T:Nat} {mem:Nat→Option Blk} {L L':Nat→Prop}
structure qp5 (T:Nat) (L L':Nat→Prop) (mem:Nat→Option Blk) (E E':Env) (w w':World):Prop where
  F:∀k,E.F k→E'.F k
  heap:∀k,E.F k→w'.heap[k]?=w.heap[k]?
  β:∀m,vh0 T m=true→m < GB→L m→(mem m).isSome=true→E'.β m=E.β m∧E'.ν m=E.ν m
  live:∀m,(mem m).isSome=true→L' m
  tab:∀m,GB≤m→(gtab m).isSome=true→L' m
theorem qp5.c (H:qp5 T L L' mem E E' w w') {c:CV} {y:Value} (hk:vh1 T c=true) (hl:livC mem c=true) (h:jb9 L E w c y):jb9 L' E' w' c y:=by
  cases c with
  | v x=>exact Rep.mono H.F H.heap h
  | slc z n r=>exact Rep.mono H.F H.heap h
  | clo f l=>exact Rep.mono H.F H.heap h
  | ptr m off =>
    obtain ⟨h1,h2⟩:=h
    have hk:vh0 T m=true:=hk
    have hl:(bif Nat.ble GB m then (gtab m).isSome else (mem m).isSome)=true:=hl
    by_cases hG:GB≤m
    · rw [show Nat.ble GB m=true from vg8 hG,cond_true] at hl
      refine ⟨H.tab m hG hl,?_⟩
      rw [h2];unfold adr;rw [if_pos hG,if_pos hG]
    · have hb:Nat.ble GB m=false:=by
        cases h:Nat.ble GB m
        · rfl
        · exact absurd (jy3 h) hG
      rw [hb,cond_false] at hl
      refine ⟨H.live m hl,?_⟩
      rw [h2];unfold adr;rw [if_neg hG,if_neg hG,(H.β m hk (by omega) h1 hl).1]
  | own m n =>
    obtain ⟨h1,h2,h3⟩:=h
    simp only [vh1,Bool.and_eq_true,Nat.blt_eq] at hk
    have hl:(mem m).isSome=true:=hl
    exact ⟨H.live m hl,by rw [(H.β m hk.1 hk.2 h1 hl).2];exact h2,h3⟩
  | fn f caps =>
    obtain ⟨h1,h2⟩:=h
    simp only [vh1,List.all_eq_true,Bool.and_eq_true,Nat.blt_eq] at hk
    simp only [livC,List.all_eq_true] at hl
    refine ⟨fun p hp=>H.live _ (hl p hp),?_⟩
    have:(caps.map fun p=>Value.pointer (some ⟨adr E' p.1,p.2,none⟩))=caps.map fun p=>Value.pointer (some ⟨adr E p.1,p.2,none⟩):=List.map_congr_left fun p hp=>by
      obtain ⟨k1,k3⟩:=hk p hp
      unfold adr
      rw [if_neg (by omega),if_neg (by omega),(H.β p.1 k1 k3 (h1 p hp) (hl p hp)).1]
    rw [this];exact h2
  | fresh z n r=>simp [vh1] at hk
theorem qp5.cs (H:qp5 T L L' mem E E' w w'):∀{l:List CV} {ys:List Value},l.all (vh1 T)=true→l.all (livC mem)=true→Fa2 (jb9 L E w) l ys→Fa2 (jb9 L' E' w') l ys
  | [],[],_,_,_=>trivial
  | [],_ :: _,_,_,h=>h.elim
  | _ :: _,[],_,_,h=>h.elim
  | c :: l,y :: ys,hk,hl,h=>by
    simp only [List.all_cons,Bool.and_eq_true] at hk hl
    exact ⟨H.c hk.1 hl.1 h.1,H.cs hk.2 hl.2 h.2⟩
theorem qp5.x (H:qp5 T L L' mem E E' w w') {c:XV} {y:Value} (hk:yh3 T c=true) (hl:livX mem c=true) (h:ConcX L E w c y):ConcX L' E' w' c y:=by
  cases c with
  | c c=>exact H.c hk hl h
  | agg l=>obtain ⟨ys,e,h⟩:=h;exact ⟨ys,e,H.cs hk hl h⟩
theorem qp5.xs (H:qp5 T L L' mem E E' w w'):∀{l:List XV} {ys:List Value},l.all (yh3 T)=true→l.all (livX mem)=true→Fa2 (ConcX L E w) l ys→Fa2 (ConcX L' E' w') l ys
  | [],[],_,_,_=>trivial
  | [],_ :: _,_,_,h=>h.elim
  | _ :: _,[],_,_,h=>h.elim
  | c :: l,y :: ys,hk,hl,h=>by
    simp only [List.all_cons,Bool.and_eq_true] at hk hl
    exact ⟨H.x hk.1 hl.1 h.1,H.xs hk.2 hl.2 h.2⟩
theorem qp5.sv (H:qp5 T L L' mem E E' w w') {c:SV} {y:Value} (hk:vx5 T c=true) (hl:livS mem c=true) (h:jd5 L E w c y):jd5 L' E' w' c y:=by
  cases c with
  | x v=>exact H.x hk hl h
  | tup l=>obtain ⟨ys,e,h⟩:=h;exact ⟨ys,e,H.xs hk hl h⟩
  | fptr z r i off =>
    obtain ⟨h0,b,o,arr,t,fr,h1,h2,h3,h4⟩:=h
    refine ⟨h0,b,o,arr,t,fr,H.F b h1,by rw [H.heap b h1];exact h2,h3,fun j hj=>?_⟩
    obtain ⟨u,e,k⟩:=h4 j hj
    exact ⟨u,e,Rep.mono H.F H.heap k⟩
  | eptr m z i off=>simp [vx5] at hk
  | view m z l n=>simp [vx5] at hk
end
theorem vh3 (R:RelE base X F0 B E s a w) {r:ResultVar} {v:XV} (h:yh4 P s r=some v) :
    ∃y,(match r with | .tmp t=>(pure (a.tmps.getD t undef):Sem Value) | .cell x t=>(do loadVar t (← asAddr (a.tmps.getD x undef)):Sem Value)).run P w=.ok y w∧ConcX (live s) E w v y:=by
  cases r with
  | tmp t =>
    simp only [yh4] at h
    split at h <;> try (simp at h;done)
    rename_i x hx
    simp only [Option.some.injEq] at h
    subst h
    exact ⟨_,by simp only [Sem.run_pure],jk9 R t hx⟩
  | cell t ty =>
    simp only [yh4] at h
    split at h <;> try (simp at h;done)
    rename_i m off hx
    split at h <;> try (simp at h;done)
    rename_i l hl
    have hv:=jk9 R t hx
    obtain ⟨arr,el,h1,h2⟩:=ju1 R hl hv.1
    obtain ⟨y,e1,e2⟩:=ju0 (P:=P) h1 h2 h
    refine ⟨y,?_,e2⟩
    simp only [Instr.loadAt,Instr.sureAddr,Sem.run_bind,Sem.run_pure,Result.andThen_ok] at e1
    simp only [qb9 hv,asAddr,Sem.run_bind,Sem.run_pure,Result.andThen_ok,e1]
theorem qw1 (R:RelE base X F0 B E s a w):∀{rs:List ResultVar} {vs:List XV},resI P s rs=some vs→
    ∃ys,(rs.mapM (m:=Sem) fun r=>match r with | .tmp t=>pure (a.tmps.getD t undef) | .cell x t=>do loadVar t (← asAddr (a.tmps.getD x undef))).run P w=.ok ys w∧Fa2 (ConcX (live s) E w) vs ys
  | [],vs,h=>by simp only [resI,Option.some.injEq] at h;subst h;exact ⟨[],rfl,trivial⟩
  | r :: rs,vs,h=>by
    unfold resI at h
    split at h <;> try (simp at h;done)
    rename_i v l hv hl
    simp only [Option.some.injEq] at h
    subst h
    obtain ⟨y,e1,c1⟩:=vh3 R hv
    obtain ⟨ys,e2,c2⟩:=qw1 R hl
    refine ⟨y :: ys,?_,c1,c2⟩
    rw [List.mapM_cons]
    simp only [Sem.run_bind,e1,Result.andThen_ok,e2,Sem.run_pure]
theorem vx8 {L:Nat→Prop} {vs:List XV} {ys:List Value} (h:Fa2 (ConcX L E w) vs ys):jd5 L E w (resS vs) (if h:ys.length=1 then ys[0] else .tuple ys.toArray):=by
  match vs,ys,h with
  | [],[],h=>exact ⟨[],rfl,trivial⟩
  | [v],[y],h=>exact h.1
  | v :: v' :: vs,y :: y' :: ys,h =>
    have:¬ (y :: y' :: ys).length=1:=by simp
    rw [dif_neg this]
    exact ⟨_,rfl,h⟩
theorem range_split {n j:Nat} (h:j < n):List.range n=List.range' 0 j ++ (j :: List.range' (j + 1) (n - (j + 1))):=by
  rw [List.range_eq_range',show n=j + (1 + (n - (j + 1))) by omega,← List.range'_append_1,Nat.zero_add,← List.range'_append_1]
  congr 1
  simp [show j + (1 + (n - (j + 1))) - (j + 1)=n - (j + 1) by omega]
theorem RelE.y61 (R:RelE base X F0 B E s a w) (dst:Option Tmp) (g:GV) (y:Value) (hy:g.k=true→jd5 (live s) E w g.v y) (p:Prop) (li:List Tmp) (gen:Nat):RelE base X F0 B E ⟨je5 s.tmps dst g,s.mem,p,li,gen⟩ (a.put dst y) w :=
  R.go dst g y p li gen (Later.refl _ _ _) (fun _ _=>rfl) (fun _ h=>h) hy R.mem R.sep R.frz (Nat.le_refl _) (fun _ _ h=>h)
theorem jc3.less {F1:Nat→Prop} {w':World} (h:jc3 base X F1 w w') (hF:∀k,F0 k→F1 k):jc3 base X F0 w w':=⟨h.toKeep,fun k hk=>h.fro k (hF k hk)⟩
theorem q14 (hO:je9 P O) {J:Inl} (hJ:qf9 P J) (hNF:nf B∨J.T=FLT) {id:Nat} {ops:Array Oper} {Q:Exit→Act→World→Prop} {w0:World} {k:PSt→Prop} (hk:∀s,k s→s.ok) (h:inlC P O J id ops.toList k s) (R:Rel base X F0 B s a w) (hb:base≤w.heap.size) (hbel:jc3 base X F0 w0 w)
    (hQ:∀B':Nat→(Nat×Value)×Bool,agree J.T B' B→(nf B→nf B')→∀s' a' w',Rel base X F0 B' s' a' w'→jc3 base X F0 w0 w'→k s'→Q .normal a' w'):wpOps P ops Q (List.range ops.size) a w:=by
  unfold inlC at h
  rw [force_eq] at h
  obtain ⟨s1,ds,lits,hend,hlen,run⟩:=jk5 (ops:=ops.toList) (ops.toList.take J.j) 0 s [] s.lits (fun j o ho=>by rw [Nat.zero_add];exact vl7 ho) rfl h
  have run:=run (fun i=>ds.getD i ⟨gunk,[],[],[]⟩) (fun j d hd=>by simp [List.getD,hd])
  have hok1:s1.ok:=show (⟨s1.tmps,s1.mem,s1.ok,lits,s1.gen⟩:PSt).ok from vl6 hend
  obtain ⟨o,c,ho,hop,hcase⟩:=qp4 hend
  have hjs:J.j < ops.size:=by
    have:=(List.getElem?_eq_some_iff.1 ho).1
    simpa using this
  have htk:(ops.toList.take J.j).length=J.j:=by simp;omega
  rw [htk] at run
  rw [range_split hjs]
  refine RunL.yq1 hO hok1 _ (fun a1 w1 R1 hb1 hz1=>?_) _ s a w run R hb hbel
  replace R1:Rel base X F0 B ⟨s1.tmps,s1.mem,s1.ok,lits,s1.gen⟩ a1 w1:=R1.lit _ _ _
  generalize hs1:(⟨s1.tmps,s1.mem,s1.ok,lits,s1.gen⟩:PSt)=t1 at *
  obtain ⟨E,R1⟩:=R1
  rw [wpOps_cons]
  unfold wpOp
  have ho':ops[J.j]?=some o:=by simpa using ho
  rw [ho']
  rcases hcase with ⟨hgd,hend⟩ | ⟨hgd,hend⟩
  rotate_left
  · have hγ:Region.wanted o (yielded ops a1.tmps)=false:=js0 R1 hgd
    simp only [hγ,Bool.false_eq_true,if_false]
    obtain ⟨_,hrun2⟩:=hend
    have R4:=R1.y61 o.dst (gnow (.tup [])) undef (fun _=>⟨[],rfl,trivial⟩) True [] (t1.gen + 1)
    obtain ⟨s3,es,l3,hend3,hlen3',run3⟩:=jk5 (ops:=ops.toList) (ops.toList.drop (J.j + 1)) (J.j + 1) _ _ [] (fun j o ho=>by rw [List.getElem?_drop] at ho;exact ho) (by simp) hrun2
    have run3:=run3 (fun i=>es.getD (i - (J.j + 1)) ⟨gunk,[],[],[]⟩) (fun j d hd=>by simp [List.getD,hd])
    have hdl:(ops.toList.drop (J.j + 1)).length=ops.size - (J.j + 1):=by simp
    rw [hdl] at run3
    exact RunL.wp (s':=s3) hO (show (⟨s3.tmps,s3.mem,s3.ok,l3,s3.gen⟩:PSt).ok from hk _ hend3) (fun a' w'' R' hb'=>hQ B (agree.refl J.T B) (fun h=>h) _ a' w'' (R'.lit s3.ok l3 s3.gen) hb' hend3) _ _ _ _ run3 ⟨E,R4⟩ hz1 hb1
  have hγ:Region.wanted o (yielded ops a1.tmps)=true:=js0 R1 hgd
  unfold qp3 at hend
  split at hend <;> try (exact hend.elim)
  rename_i hkn
  split at hend <;> try (exact hend.elim)
  rename_i f caps hcal
  split at hend <;> try (exact hend.elim)
  rename_i hf
  have hf:=Nat.eq_of_beq_eq_true hf
  obtain ⟨_,hev⟩:=hend
  simp only [hγ,if_true]
  refine Or.inl ?_
  have hv:∀x∈o.op.operands.toList,jd5 (live t1) E w1 (valOf t1 x) (a1.eval x):=fun x hx=>R1.eval x (va0 (fun c u v e=>by rw [hop] at e;simp at e) hkn hx)
  obtain ⟨x,cv,hx,hevx,hcv⟩:=ju2 R1 hcal
  have hfa:Fa2 (jd5 (live t1) E w1) (c.args.toList.map (valOf t1) ++ caps.map fun p=>SV.x (.c (.ptr p.1 p.2))) (c.args.toList.map a1.eval ++ cv.toList) :=
    Fa2.app (ju3 hv _ fun y hy=>by rw [hop];simp only [Op.operands,Call.operands,Array.toList_append];exact List.mem_append_right _ hy) hcv
  have hrun:(execOp a1.eval o).run P w1=(callFunc f (c.args.toList.map a1.eval ++ cv.toList).toArray).run P w1:=by
    simp only [execOp,hop,resolve,hx,hevx,Deferred.ofValue,Sem.run_bind,Sem.run_pure,Result.andThen_ok,invoke]
    congr 2
    apply Array.ext'
    simp
  obtain ⟨fn,cd,q1,q2,q3,q4,q5,q6,q7⟩:=hJ
  unfold Oper.wp
  rw [hrun,jw1 (hf▸q1) q2 q3 _ w1]
  show Calls P f _ w1 _
  generalize hys:c.args.toList.map a1.eval ++ cv.toList=ys at hfa ⊢
  refine Calls.mono (R:=fun e w'=>∃v,e=.returned v∧wpOps P ops Q (List.range' (J.j + 1) (ops.size - (J.j + 1))) (a1.put o.dst v) w') ?_ ?_
  · refine (callsIn_wide (n:=0)).1 (callsIn_of_wp_marks (hf▸q1) q3 trivial (wpIn_wide.2 ?_))
    have hlen2:(c.args.toList.map (valOf t1) ++ caps.map fun p=>SV.x (.c (.ptr p.1 p.2))).length=ys.length:=hfa.len
    have hlen3:c.args.toList.length + caps.length=ys.length:=by rw [← hlen2];simp
    have EFsub:∀k,E.F k→k < w1.heap.size:=fun k hk=>(R1.frz k hk).1
    have ent:∀(act:Act) (BX:Nat→(Nat×Value)×Bool),act=⟨ys.toArray ++ Array.replicate (fn.ntmps - ys.toArray.size) undef,[]⟩→(∀m,PN≤m∨(BX m).2=true→(t1.mem m).isSome=true→E.β m=(BX m).1.1∧E.ν m=(BX m).1.2)→(∀m,(BX m).2=true→(t1.mem m).isSome=true)→Rel base X E.F BX ⟨((c.args.toList.map (valOf t1) ++ caps.map fun p=>SV.x (.c (.ptr p.1 p.2))).map gnow) ++ List.replicate (J.n - (c.args.toList.length + caps.length)) (gnow (.tup [])),t1.mem,True,[],t1.gen + 1⟩ act w1:=by
      rintro act BX rfl hp hl
      refine ⟨E,trivial,?_,?_,R1.mem,R1.sep,fun k hk=>⟨EFsub k hk,Or.inl hk⟩,fun k hk=>hk,R1.glob,R1.old,hp,hl⟩
      · have hcv2:caps.length=cv.size:=by simpa using hcv.len
        simp only [List.length_append,List.length_map,List.length_replicate,Array.size_append,List.size_toArray,Array.size_replicate]
        rw [q4,← hlen3]
      · intro t g hg hkg
        by_cases ht:t < ys.length
        · rw [List.getElem?_append_left (by rw [List.length_map,hlen2];exact ht),List.getElem?_map] at hg
          cases hv2:(c.args.toList.map (valOf t1) ++ caps.map fun p=>SV.x (.c (.ptr p.1 p.2)))[t]? with
          | none=>rw [hv2] at hg;simp at hg
          | some v =>
            rw [hv2] at hg
            simp only [Option.map_some,Option.some.injEq] at hg
            subst hg
            obtain ⟨y,e1,e2⟩:=hfa.get hv2
            exact ⟨y,by simp only [List.size_toArray];rw [Array.getElem?_append_left (by simpa using ht)];simpa using e1,e2⟩
        · rw [List.getElem?_append_right (by rw [List.length_map,hlen2];omega),List.getElem?_replicate] at hg
          split at hg <;> try (simp at hg;done)
          rename_i hl2
          simp only [Option.some.injEq] at hg
          subst hg
          rw [List.length_map,hlen2,hlen3] at hl2
          refine ⟨undef,?_,[],rfl,trivial⟩
          rw [Array.getElem?_append_right (by simp;omega)]
          simp only [List.size_toArray,Array.getElem?_replicate]
          rw [if_pos (by rw [q4];omega)]
    have okE:∀e s2,inlK P O J ops.toList ((s.gen * 4096 + id) * 1024) o.dst (t1.tmps.map (vh2 J.T)) k e s2→s2.ok:=fun e s he=>by
      cases e with
      | normal=>exact vb7 he
      | ret=>exact vb7 he
      | exit id=>exact he.elim
    have fin_gen:∀(BR B':Nat→(Nat×Value)×Bool),agree J.T B' B→(nf B→nf B')→(∀E2 s2 a w',RelE base X E.F BR E2 s2 a w'→(∀m,vh0 J.T m=true→m < GB→live t1 m→(s2.mem m).isSome=true→E2.β m=E.β m∧E2.ν m=E.ν m)∧(∀m,PN≤m∨(B' m).2=true→(s2.mem m).isSome=true→E2.β m=(B' m).1.1∧E2.ν m=(B' m).1.2)∧(∀m,(B' m).2=true→(s2.mem m).isSome=true))→
        ∀e s2 a2 w2,Rel base X E.F BR s2 a2 w2→jc3 base X E.F w1 w2→inlK P O J ops.toList ((s.gen * 4096 + id) * 1024) o.dst (t1.tmps.map (vh2 J.T)) k e s2→bodyPostM Fence.wide 0 P fn (fun e w''=>∃v,e=.returned v∧wpOps P ops Q (List.range' (J.j + 1) (ops.size - (J.j + 1))) (a1.put o.dst v) w'') (exOf e) a2 w2:=by
      intro BR B' hB hN KP e s2 a2 w2 R2 hk2 he
      have fin0:∀(a:Act) (w':World),Rel base X E.F BR s2 a w'→jc3 base X E.F w1 w'→qp2 P O J ops.toList ((s.gen * 4096 + id) * 1024) o.dst (t1.tmps.map (vh2 J.T)) k s2→
          ∃v,(results fn a.tmps).run P w'=.ok v w'∧∃v',Ending.returned v=.returned v'∧wpOps P ops Q (List.range' (J.j + 1) (ops.size - (J.j + 1))) (a1.put o.dst v') w':=fun a w' R hbl he=>by
        unfold qp2 at he
        split at he <;> try (exact he.elim)
        rename_i res hres
        obtain ⟨hok2,hliv,hrun2⟩:=he
        obtain ⟨E2,R2⟩:=R
        rw [← q5] at hres
        obtain ⟨zs,r1,r2⟩:=qw1 (P:=P) R2 hres
        refine ⟨_,jn4 r1,_,rfl,?_⟩
        have hcon:=vx8 r2
        obtain ⟨KB,KP,KL⟩:=KP E2 s2 a w' R2
        have K:qp5 J.T (live t1) (live s2) s2.mem E E2 w1 w':=⟨R2.sub,hbl.fro,KB,fun m h=>Or.inl h,fun m hG h=>Or.inr ⟨hG,h⟩⟩
        have R3:RelE base X F0 B' E2 ⟨t1.tmps.map (vh2 J.T),s2.mem,True,[],s2.gen + 1⟩ a1 w':=by
          refine ⟨R1.defers.later R2.sub hbl.fro,by simp [R1.size],fun t g e hkg=>?_,R2.mem,R2.sep,fun k hk=>?_,fun k hk=>R2.sub k (R1.sub k hk),R2.glob,R2.old,KP,KL⟩
          · rw [List.getElem?_map] at e
            cases hg:t1.tmps[t]? with
            | none=>rw [hg] at e;simp at e
            | some g0 =>
              rw [hg] at e
              simp only [Option.map_some,Option.some.injEq] at e
              have hl:livG s2.mem g=true:=List.all_eq_true.1 hliv g (by rw [← e];exact List.mem_map.2 ⟨g0,List.mem_of_getElem? hg,rfl⟩)
              unfold vh2 at e
              cases hk0:g0.k
              · rw [hk0,cond_false] at e;subst e;simp [gunk] at hkg
              · rw [hk0,cond_true] at e
                cases hks:vx5 J.T g0.v
                · rw [hks,cond_false] at e;subst e;simp [gunk] at hkg
                · rw [hks,cond_true] at e
                  subst e
                  unfold livG at hl
                  rw [hk0,cond_true] at hl
                  obtain ⟨y,e1,e2⟩:=R1.slots t g0 hg hk0
                  exact ⟨y,e1,K.sv hks hl e2⟩
          · have h1:=R2.frz k hk
            refine ⟨h1.1,?_⟩
            rcases h1.2 with h2 | h2
            · exact (R1.frz k h2).2
            · exact Or.inr h2
        have R4:=R3.y61 o.dst (gnow (resS res)) _ (fun _=>hcon) True [] (s2.gen + 1)
        obtain ⟨s3,es,l3,hend3,hlen3',run3⟩:=jk5 (ops:=ops.toList) (ops.toList.drop (J.j + 1)) (J.j + 1) _ _ [] (fun j o ho=>by rw [List.getElem?_drop] at ho;exact ho) (by simp) hrun2
        have run3:=run3 (fun i=>es.getD (i - (J.j + 1)) ⟨gunk,[],[],[]⟩) (fun j d hd=>by simp [List.getD,hd])
        have hdl:(ops.toList.drop (J.j + 1)).length=ops.size - (J.j + 1):=by simp
        rw [hdl] at run3
        exact RunL.wp (s':=s3) hO (show (⟨s3.tmps,s3.mem,s3.ok,l3,s3.gen⟩:PSt).ok from hk _ hend3) (fun a' w'' R' hb'=>hQ B' hB hN _ a' w'' (R'.lit s3.ok l3 s3.gen) hb' hend3) _ _ _ _ run3 ⟨E2,R4⟩ (Nat.le_trans hz1 hbl.size) (hb1.trans (hbl.less R1.sub))
      have fin:qp2 P O J ops.toList ((s.gen * 4096 + id) * 1024) o.dst (t1.tmps.map (vh2 J.T)) k s2→bodyPostM Fence.wide 0 P fn (fun e w''=>∃v,e=.returned v∧wpOps P ops Q (List.range' (J.j + 1) (ops.size - (J.j + 1))) (a1.put o.dst v) w'') .normal a2 w2:=fun he =>
        jm0 a2.defers a2 w2 rfl R2 hk2 fun a' w'' et R' hk'=>by
          have:=fin0 a' w'' R' hk' he
          rw [et] at this
          exact this
      cases e with
      | normal=>exact fin he
      | ret=>exact fin he
      | exit id=>exact he.elim
    by_cases hT:J.T=FLT
    · have kn:∀m,live t1 m→m < GB→(t1.mem m).isSome=true:=fun m h hG=>h.resolve_right fun q=>by omega
      let B1:Nat→(Nat×Value)×Bool:=fun m=>if (t1.mem m).isSome=true then ((E.β m,E.ν m),true) else ((B m).1,false)
      have b1:∀m,(t1.mem m).isSome=true→B1 m=((E.β m,E.ν m),true):=fun m h=>if_pos h
      have b0:∀m,¬ (t1.mem m).isSome=true→B1 m=((B m).1,false):=fun m h=>if_neg h
      refine q7 hT base X E.F B1 w1 _ _ ⟨((c.args.toList.map (valOf t1) ++ caps.map fun p=>SV.x (.c (.ptr p.1 p.2))).map gnow) ++ List.replicate (J.n - (c.args.toList.length + caps.length)) (gnow (.tup [])),t1.mem,True,[],t1.gen + 1⟩ _ w1 hz1 okE (fun e s2 a2 w2 R2 hk2 hz2 he=>fin_gen B1 B (agree.refl _ _) (fun h=>h) (fun E2 s2 a w' R2=>?_) e s2 a2 w2 R2 hk2 he) (ent _ B1 (by simp) (fun m hm hs=>?_) (fun m hm=>?_)) (jc3.refl _ _ _ _) hz1 hev
      · have key:∀m,(t1.mem m).isSome=true→(s2.mem m).isSome=true→E2.β m=E.β m∧E2.ν m=E.ν m:=fun m h hs=>by
          have:=R2.pin m (Or.inr (by rw [b1 m h])) hs
          rw [b1 m h] at this
          exact this
        refine ⟨fun m _ hG hL hs=>key m (kn m hL hG) hs,fun m hm hs=>?_,fun m hm=>R2.pinL m (by rw [b1 m (R1.pinL m hm)])⟩
        by_cases h:(t1.mem m).isSome=true
        · have k1:=key m h hs
          have k2:=R1.pin m hm h
          exact ⟨k1.1.trans k2.1,k1.2.trans k2.2⟩
        · have hP:PN≤m:=hm.resolve_right fun q=>h (R1.pinL m q)
          have:=R2.pin m (Or.inl hP) hs
          rw [b0 m h] at this
          exact this
      · rw [b1 m hs];exact ⟨rfl,rfl⟩
      · by_cases h:(t1.mem m).isSome=true
        · exact h
        · rw [b0 m h] at hm;simp at hm
    · have hN:=hNF.resolve_right hT
      refine q6 base X E.F B w1 _ _ ⟨((c.args.toList.map (valOf t1) ++ caps.map fun p=>SV.x (.c (.ptr p.1 p.2))).map gnow) ++ List.replicate (J.n - (c.args.toList.length + caps.length)) (gnow (.tup [])),t1.mem,True,[],t1.gen + 1⟩ _ w1 hz1 hN okE (fun B' hB hN' e s2 a2 w2 R2 hk2 hz2 he=>fin_gen B' B' hB (fun _=>hN') (fun E2 s2 a w' R2=>⟨fun m hm hG hL hs=>?_,R2.pin,R2.pinL⟩) e s2 a2 w2 R2 hk2 he) (ent _ B (by simp) R1.pin R1.pinL) (jc3.refl _ _ _ _) hz1 hev
      unfold vh0 at hm
      have hf:Nat.beq J.T FLT=false:=by
        cases h:Nat.beq J.T FLT
        · rfl
        · exact absurd (Nat.eq_of_beq_eq_true h) hT
      rw [hf,Bool.false_or,Bool.and_eq_true,Nat.blt_eq] at hm
      have hP:=jy3 hm.1
      have h1:=R2.pin m (Or.inl hP) hs
      rw [hB m hm.2] at h1
      have h2:=R1.pin m (Or.inl hP) (hL.resolve_right fun q=>by omega)
      exact ⟨h1.1.trans h2.1.symm,h1.2.trans h2.2.symm⟩
  · rintro e w' ⟨v,rfl,h⟩
    exact h
end
def inlA (P:Program) (O:ja7) (J:Nat→Option Inl) (c:Inl) (id:Nat) (ops:List Oper) (k:PSt→Prop) (s:PSt):Prop :=
  match J (1000000 + id) with
  | some d=>inlC P O c id ops k s∨inlC P O d id ops k s
  | none=>inlC P O c id ops k s
theorem q15 {P:Program} {O:ja7} {J:Nat→Option Inl} {p:Inl→Prop} (hJ:∀n c,J n=some c→p c) {c:Inl} {n id:Nat} (hc:J n=some c) {ops:List Oper} {k:PSt→Prop} {s:PSt} (h:inlA P O J c id ops k s):∃d,p d∧inlC P O d id ops k s:=by
  unfold inlA at h
  split at h
  · rename_i d hd
    rcases h with h | h
    · exact ⟨c,hJ _ _ hc,h⟩
    · exact ⟨d,hJ _ _ hd,h⟩
  · exact ⟨c,hJ _ _ hc,h⟩
def jc0 (P:Program) (O:ja7) (L:Nat→Option Ann) (J:Nat→Option Inl):Code→(Ex→PSt→Prop)→PSt→Prop
  | .skip,k,s=>k .normal s
  | .label _,k,s=>k .normal s
  | .region id ops draw,k,s=>match J id with
    | some c=>if draw then False else inlA P O J c id ops.toList (flush (k .normal)) s
    | none=>jq4 P O id ops.toList draw s (flush (k .normal))
  | .seq a b,k,s=>match L (700000 + PR.keyOf b) with
    | some (.cut I)=>jc0 P O L J a (cutK I k) s∧∀i,I.good i→jc0 P O L J b k (ist I i (s.gen + 1))
    | some (.cuts l)=>jc0 P O L J a (vr1 l k) s∧allP l fun I i=>jc0 P O L J b k (ist I i (s.gen + 1))
    | some (.cutF f)=>jc0 P O L J a (vr1 (f (qu0 s)) k) s∧allP (f (qu0 s)) fun I i=>jc0 P O L J b k (ist I i (s.gen + 1))
    | some (.cutZ l)=>jc0 P O L J a (yt8 l k) s∧allZ l (fun s=>jc0 P O L J b k s) (s.gen + 1)
    | some (.cutZF f)=>jc0 P O L J a (yt8 (f (qu0 s)) k) s∧allZ (f (qu0 s)) (fun s=>jc0 P O L J b k s) (s.gen + 1)
    | _=>jc0 P O L J a (fun e s'=>match e with
      | .normal=>jc0 P O L J b k s'
      | .exit id=>k (.exit id) s'
      | .ret=>k .ret s') s
  | .cond c x y,k,s=>match L (500000 + PR.keyOf x) with
    | some (.cut I)=>condC s c (jc0 P O L J x (cutK I k) s) (jc0 P O L J y (cutK I k) s)∧∀i,I.good i→k .normal (ist I i (s.gen + 1))
    | some (.cuts l)=>condC s c (jc0 P O L J x (vr1 l k) s) (jc0 P O L J y (vr1 l k) s)∧allP l fun I i=>k .normal (ist I i (s.gen + 1))
    | _=>condC s c (jc0 P O L J x k s) (jc0 P O L J y k s)
  | .loop body,k,s=>match L (PR.keyOf body) with
    | some (.rounds n)=>va5 (fun k s=>jc0 P O L J body k s) k n s
    | some (.inv I)=>(∃i,I.good i∧jh2 I s i)∧∀i,I.good i→jc0 P O L J body (fun e s'=>match e with
      | .normal=>∃j,I.good j∧jh2 I s' j∧I.μ j < I.μ i
      | .exit m=>k (.exit m) s'
      | .ret=>k .ret s') (ist I i (s.gen + 1))
    | some (.invs l)=>vw7 l (fun k s=>jc0 P O L J body k s) k s
    | some (.invF f)=>vw7 (f (qu0 s)) (fun k s=>jc0 P O L J body k s) k s
    | some (.ownF ts f)=>force s.gen fun g=>(fun s=>vw7 (f (qu0 s)) (fun k s=>jc0 P O L J body k s) k s) (qc9 ((g * 4096 + 4090) * 1024) ts s)
    | _=>False
  | .block id c,k,s=>match L (600000 + PR.keyOf c) with
    | some (.cut I)=>jc0 P O L J c (ju4 id (cutK I k)) s∧∀i,I.good i→k .normal (ist I i (s.gen + 1))
    | some (.cuts l)=>jc0 P O L J c (ju4 id (vr1 l k)) s∧allP l fun I i=>k .normal (ist I i (s.gen + 1))
    | _=>jc0 P O L J c (ju4 id k) s
  | .exit id,k,s=>k (.exit id) s
  | .ret,k,s=>k .ret s
  | _,_,_=>False
def q17 (P:Program) (O:ja7) (L:Nat→Option Ann):Code→(Ex→PSt→Prop)→PSt→Prop:=jc0 P O L fun _=>none
section
variable {P:Program} {O:ja7} {base:Nat} {X F0:Nat→Prop} {B:Nat→(Nat×Value)×Bool}
theorem jd0 {L:Nat→Option Ann} {J:Nat→Option Inl}:∀(c:Code) (k:Ex→PSt→Prop) (s:PSt),(∀e s,k e s→s.ok)→jc0 P O L J c k s→s.ok
  | .skip,k,s,hk,h=>hk _ _ (by simpa [jc0] using h)
  | .label _,k,s,hk,h=>hk _ _ (by simpa [jc0] using h)
  | .exit _,k,s,hk,h=>hk _ _ (by simpa [jc0] using h)
  | .ret,k,s,hk,h=>hk _ _ (by simpa [jc0] using h)
  | .region id ops draw,k,s,hk,h=>by
    unfold jc0 at h
    split at h
    · rename_i c hc
      split at h
      · exact h.elim
      · obtain ⟨d,_,h⟩:=q15 (p:=fun _=>True) (fun _ _ _=>trivial) hc h
        exact vx7 (fun s hs=>hs.1) h
    · exact vb6 (fun s hs=>hs.1) h
  | .seq a b,k,s,hk,h=>by
    unfold jc0 at h
    split at h
    · exact jd0 a _ s (jg0 hk) h.1
    · rw [ji5] at h;exact jd0 a _ s (jg0 hk) h.1
    · rw [ji5] at h;exact jd0 a _ s (jg0 hk) h.1
    · exact jd0 a _ s (jw6 hk) h.1
    · exact jd0 a _ s (jw6 hk) h.1
    · refine jd0 a _ s (fun e s' he=>?_) h
      cases e with
      | normal=>exact jd0 b k s' hk he
      | exit id=>exact hk _ _ he
      | ret=>exact hk _ _ he
  | .cond c x y,k,s,hk,h=>by
    have core:∀k',(∀e s,k' e s→s.ok)→condC s c (jc0 P O L J x k' s) (jc0 P O L J y k' s)→s.ok:=by
      intro k' hk' h
      unfold condC at h
      split at h <;> try (exact h.elim)
      rename_i b hb
      split at h
      · cases b
        · exact jd0 y k' _ hk' h
        · exact jd0 x k' _ hk' h
      · cases b
        · exact jd0 y k' _ hk' h
        · exact jd0 x k' _ hk' h
    unfold jc0 at h
    split at h
    · rename_i I _
      exact core (cutK I k) (jg0 hk) h.1
    · rename_i l _
      rw [ji5] at h
      exact core (cutK (sumI l) k) (jg0 hk) h.1
    · exact core k hk h
  | .loop body,k,s,hk,h=>by
    unfold jc0 at h
    split at h <;> try (exact h.elim)
    · rename_i n _
      exact qd0 (fun k s hk h=>jd0 body k s hk h) n s hk h
    · obtain ⟨⟨i,_,hi⟩,_⟩:=h
      exact hi.1
    · obtain ⟨i,_,hi⟩:=(jw5 _ s).1 h.1
      exact hi.1
    · obtain ⟨i,_,hi⟩:=(jw5 _ s).1 h.1
      exact hi.1
    · rename_i ts f _
      rw [force_eq] at h
      obtain ⟨i,_,hi⟩:=(jw5 _ _).1 h.1
      rw [← qo0 ts _ s]
      exact hi.1
  | .block id c,k,s,hk,h=>by
    unfold jc0 at h
    split at h
    · rename_i I _
      exact jd0 c _ s (jn3 (jg0 hk)) h.1
    · rw [ji5] at h
      exact jd0 c _ s (jn3 (jg0 hk)) h.1
    · exact jd0 c _ s (jn3 hk) h
  | .rangeFunc ..,k,s,hk,h=>by unfold jc0 at h;exact h.elim
  | .scope _,k,s,hk,h=>by unfold jc0 at h;exact h.elim
  | .goto _,k,s,hk,h=>by unfold jc0 at h;exact h.elim
  | .refuse _,k,s,hk,h=>by unfold jc0 at h;exact h.elim
theorem jd1 (hO:je9 P O) (hm:P.follows .mixedOrders=true) {L:Nat→Option Ann} {J:Nat→Option Inl} (hJ:∀n c,J n=some c→qf9 P c∧GB≤c.T) (hNF:nf B) (w0:World) (hb0:base≤w0.heap.size):∀(c:Code) (k:Ex→PSt→Prop) (Q:Exit→Act→World→Prop) (s:PSt) (a:Act) (w:World),
    (∀e s,k e s→s.ok)→(∀e s a w,Rel base X F0 B s a w→jc3 base X F0 w0 w→base≤w.heap.size→k e s→Q (exOf e) a w)→
    Rel base X F0 B s a w→jc3 base X F0 w0 w→base≤w.heap.size→jc0 P O L J c k s→c.wp P Q a w
  | .skip,k,Q,s,a,w,hk,hq,R,hbel,hb,h=>wp_skip (hq .normal s a w R hbel hb h)
  | .label _,k,Q,s,a,w,hk,hq,R,hbel,hb,h=>wp_label (hq .normal s a w R hbel hb h)
  | .exit id,k,Q,s,a,w,hk,hq,R,hbel,hb,h=>wp_exit (hq (.exit id) s a w R hbel hb h)
  | .ret,k,Q,s,a,w,hk,hq,R,hbel,hb,h=>wp_ret (hq .ret s a w R hbel hb h)
  | .region id ops draw,k,Q,s,a,w,hk,hq,R,hbel,hb,h=>by
    unfold jc0 at h
    split at h
    · rename_i c hc
      split at h
      · exact h.elim
      · rename_i hd
        simp only [Bool.not_eq_true] at hd
        subst hd
        obtain ⟨d,hd,h⟩:=q15 hJ hc h
        refine wp_region (q14 hO hd.1 (Or.inl hNF) (fun s hs=>hs.1) h R hb hbel fun B' hB _ s' a' w' R' hb' h=>?_)
        exact hq .normal _ a' w' (Rel.reB hNF (R'.lit True s'.lits s'.gen) fun m hm=>hB m (by have:=hd.2;omega)) hb' (Nat.le_trans hb0 hb'.size) h.2
    · refine va8 hO hm (fun s hs=>hs.1) h R hb hbel fun s' a' w' R' hb' h=>?_
      exact hq .normal _ a' w' (R'.lit True s'.lits s'.gen) hb' (Nat.le_trans hb0 hb'.size) h.2
  | .seq x y,k,Q,s,a,w,hk,hq,R,hbel,hb,h=>by
    unfold jc0 at h
    split at h
    · rename_i I _
      obtain ⟨h,hc⟩:=h
      refine wp_seq (jd1 hO hm hJ hNF w0 hb0 x _ _ s a w (jg0 hk) (fun e s' a' w' R' hb' hb2 he=>?_) R hbel hb h)
      cases e with
      | normal=>obtain ⟨j,hg,hj⟩:=he;exact jd1 hO hm hJ hNF w0 hb0 y k Q _ a' w' hk hq (Inv.rel hNF hj _ R') hb' hb2 (hc j hg)
      | exit id=>exact hq _ s' a' w' R' hb' hb2 he
      | ret=>exact hq _ s' a' w' R' hb' hb2 he
    · rename_i l _
      rw [ji5] at h
      obtain ⟨h,hc⟩:=h
      replace hc:=(jl5 l _ fun _ s=>jc0 P O L J y k s).1 hc
      refine wp_seq (jd1 hO hm hJ hNF w0 hb0 x _ _ s a w (jg0 hk) (fun e s' a' w' R' hb' hb2 he=>?_) R hbel hb h)
      cases e with
      | normal=>obtain ⟨j,hg,hj⟩:=he;exact jd1 hO hm hJ hNF w0 hb0 y k Q _ a' w' hk hq (Inv.rel hNF hj _ R') hb' hb2 (hc j hg)
      | exit id=>exact hq _ s' a' w' R' hb' hb2 he
      | ret=>exact hq _ s' a' w' R' hb' hb2 he
    · rename_i f _
      rw [ji5] at h
      obtain ⟨h,hc⟩:=h
      replace hc:=(jl5 (f (qu0 s)) _ fun _ s=>jc0 P O L J y k s).1 hc
      refine wp_seq (jd1 hO hm hJ hNF w0 hb0 x _ _ s a w (jg0 hk) (fun e s' a' w' R' hb' hb2 he=>?_) R hbel hb h)
      cases e with
      | normal=>obtain ⟨j,hg,hj⟩:=he;exact jd1 hO hm hJ hNF w0 hb0 y k Q _ a' w' hk hq (Inv.rel hNF hj _ R') hb' hb2 (hc j hg)
      | exit id=>exact hq _ s' a' w' R' hb' hb2 he
      | ret=>exact hq _ s' a' w' R' hb' hb2 he
    · rename_i l _
      obtain ⟨h,hc⟩:=h
      refine wp_seq (jd1 hO hm hJ hNF w0 hb0 x _ _ s a w (jw6 hk) (fun e s' a' w' R' hb' hb2 he=>?_) R hbel hb h)
      cases e with
      | normal =>
        obtain ⟨s2,R2,h2⟩:=jq5 hNF hb2 l s' R' he hc
        exact jd1 hO hm hJ hNF w0 hb0 y k Q _ a' w' hk hq R2 hb' hb2 h2
      | exit id=>exact hq _ s' a' w' R' hb' hb2 he
      | ret=>exact hq _ s' a' w' R' hb' hb2 he
    · rename_i l _
      obtain ⟨h,hc⟩:=h
      refine wp_seq (jd1 hO hm hJ hNF w0 hb0 x _ _ s a w (jw6 hk) (fun e s' a' w' R' hb' hb2 he=>?_) R hbel hb h)
      cases e with
      | normal =>
        obtain ⟨s2,R2,h2⟩:=jq5 hNF hb2 (l (qu0 s)) s' R' he hc
        exact jd1 hO hm hJ hNF w0 hb0 y k Q _ a' w' hk hq R2 hb' hb2 h2
      | exit id=>exact hq _ s' a' w' R' hb' hb2 he
      | ret=>exact hq _ s' a' w' R' hb' hb2 he
    · refine wp_seq (jd1 hO hm hJ hNF w0 hb0 x _ _ s a w (fun e s' he=>?_) (fun e s' a' w' R' hb' hb2 he=>?_) R hbel hb h)
      · cases e with
        | normal=>exact jd0 y k s' hk he
        | exit id=>exact hk _ _ he
        | ret=>exact hk _ _ he
      · cases e with
        | normal=>exact jd1 hO hm hJ hNF w0 hb0 y k Q s' a' w' hk hq R' hb' hb2 he
        | exit id=>exact hq _ s' a' w' R' hb' hb2 he
        | ret=>exact hq _ s' a' w' R' hb' hb2 he
  | .cond c x y,k,Q,s,a,w,hk,hq,R,hbel,hb,h=>by
    have core:∀k',(∀e s,k' e s→s.ok)→(∀e s a w,Rel base X F0 B s a w→jc3 base X F0 w0 w→base≤w.heap.size→k' e s→Q (exOf e) a w)→
        condC s c (jc0 P O L J x k' s) (jc0 P O L J y k' s)→(Code.cond c x y).wp P Q a w:=by
      intro k' hk' hq' h
      unfold condC at h
      split at h <;> try (exact h.elim)
      rename_i b hb'
      have ev:a.eval c=.bool b:=by
        obtain ⟨E,R⟩:=R
        have:=R.eval c (by rw [hb'])
        rw [hb'] at this
        exact cv_v this
      have h:ja0 b (jc0 P O L J x k' s) (jc0 P O L J y k' s):=by
        split at h
        · cases b <;> exact h
        · exact h
      rw [ja1] at h
      refine wp_cond_split (t:=b) ev (fun e=>?_) (fun e=>?_)
      · exact jd1 hO hm hJ hNF w0 hb0 x k' Q _ a w hk' hq' R hbel hb (h.1 e)
      · exact jd1 hO hm hJ hNF w0 hb0 y k' Q _ a w hk' hq' R hbel hb (h.2 e)
    unfold jc0 at h
    split at h
    · rename_i I _
      obtain ⟨h,hc⟩:=h
      exact core (cutK I k) (jg0 hk) (jj3 hNF hq hc) h
    · rename_i l _
      rw [ji5] at h
      obtain ⟨h,hc⟩:=h
      exact core (cutK (sumI l) k) (jg0 hk) (jj3 hNF hq ((jl5 l _ fun _ s=>k .normal s).1 hc)) h
    · exact core k hk hq h
  | .loop body,k,Q,s,a,w,hk,hq,R,hbel,hb,h=>by
    have core:∀(s:PSt) (R:Rel base X F0 B s a w) (I:Inv),(∃i,I.good i∧jh2 I s i)→(∀i,I.good i→jc0 P O L J body (fun e s'=>match e with
        | .normal=>∃j,I.good j∧jh2 I s' j∧I.μ j < I.μ i
        | .exit m=>k (.exit m) s'
        | .ret=>k .ret s') (ist I i (s.gen + 1)))→(Code.loop body).wp P Q a w:=by
      intro s R I ⟨i0,hg0,hi0⟩ hround
      refine wp_loop' (fun i a w=>I.good i∧Rel base X F0 B (ist I i (s.gen + 1)) a w∧jc3 base X F0 w0 w∧base≤w.heap.size) I.μ i0 ⟨hg0,Inv.rel hNF hi0 _ R,hbel,hb⟩ (fun i a w hi=>?_)
      obtain ⟨hg,R,hbel,hb⟩:=hi
      refine jd1 hO hm hJ hNF w0 hb0 body _ _ (ist I i (s.gen + 1)) a w (fun e s' he=>?_) (fun e s' a' w' R' hb' hb2 he=>?_) R hbel hb (hround i hg)
      · cases e with
        | normal=>obtain ⟨j,_,hj,_⟩:=he;exact hj.1
        | exit m=>exact hk _ _ he
        | ret=>exact hk _ _ he
      · cases e with
        | normal =>
          obtain ⟨j,hgj,hj,hlt⟩:=he
          exact ⟨j,⟨hgj,Inv.rel hNF hj _ R',hb',hb2⟩,hlt⟩
        | exit m=>exact hq (.exit m) s' a' w' R' hb' hb2 he
        | ret=>exact hq .ret s' a' w' R' hb' hb2 he
    have coreL:∀(s:PSt) (R:Rel base X F0 B s a w) (l:List Inv),vw7 l (fun k s=>jc0 P O L J body k s) k s→(Code.loop body).wp P Q a w:=by
      intro s R l h
      refine core s R (sumI l) ((jw5 l s).1 h.1) ?_
      have h2:=(jl5 l _ fun m s0=>jc0 P O L J body (fun e s'=>match e with
        | .normal=>anyP l fun J j=>J.good j∧jh2 J s' j∧J.μ j < m
        | .exit m=>k (.exit m) s'
        | .ret=>k .ret s') s0).1 h.2
      intro i hi
      have:=h2 i hi
      have e:(fun (e:Ex) (s':PSt)=>match e with
        | .normal=>anyP l fun J j=>J.good j∧jh2 J s' j∧J.μ j < (sumI l).μ i
        | .exit m=>k (.exit m) s'
        | .ret=>k .ret s')=(fun (e:Ex) (s':PSt)=>match e with
        | .normal=>∃j,(sumI l).good j∧jh2 (sumI l) s' j∧(sumI l).μ j < (sumI l).μ i
        | .exit m=>k (.exit m) s'
        | .ret=>k .ret s'):=by
        funext e s'
        cases e with
        | normal=>exact propext (qn9 l s' fun n=>n < (sumI l).μ i)
        | exit m=>rfl
        | ret=>rfl
      rw [e] at this
      exact this
    unfold jc0 at h
    split at h <;> try (exact h.elim)
    · rename_i n _
      refine wp_loop' (fun i a w=>∃s',Rel base X F0 B s' a w∧jc3 base X F0 w0 w∧base≤w.heap.size∧va5 (fun k s=>jc0 P O L J body k s) k i s') (fun i=>i) n ⟨s,R,hbel,hb,h⟩ (fun i a w hi=>?_)
      obtain ⟨s1,R,hbel,hb,h⟩:=hi
      cases i with
      | zero=>exact h.elim
      | succ i =>
        refine jd1 hO hm hJ hNF w0 hb0 body _ _ s1 a w (fun e s' he=>?_) (fun e s' a' w' R' hb' hb2 he=>?_) R hbel hb h
        · cases e with
          | normal=>exact qd0 (fun k s hk h=>jd0 body k s hk h) i (bump s') hk he
          | exit m=>exact hk _ _ he
          | ret=>exact hk _ _ he
        · cases e with
          | normal=>exact ⟨i,⟨bump s',R'.lit _ _ _,hb',hb2,he⟩,Nat.lt_succ_self i⟩
          | exit m=>exact hq (.exit m) s' a' w' R' hb' hb2 he
          | ret=>exact hq .ret s' a' w' R' hb' hb2 he
    · rename_i I hI
      exact core s R I h.1 h.2
    · rename_i l hI
      exact coreL s R l h
    · rename_i f hI
      exact coreL s R _ h
    · rw [force_eq] at h
      exact coreL _ (Rel.qc9 _ _ s R) _ h
  | .block id c,k,Q,s,a,w,hk,hq,R,hbel,hb,h=>by
    have core:∀k',(∀e s,k' e s→s.ok)→(∀e s a w,Rel base X F0 B s a w→jc3 base X F0 w0 w→base≤w.heap.size→k' e s→Q (exOf e) a w)→
        jc0 P O L J c (ju4 id k') s→(Code.block id c).wp P Q a w:=by
      intro k' hk' hq' h
      refine wp_block (jd1 hO hm hJ hNF w0 hb0 c _ _ s a w (jn3 hk') (fun e s' a' w' R' hb' hb2 he=>?_) R hbel hb h)
      cases e with
      | normal=>exact hq' .normal s' a' w' R' hb' hb2 he
      | exit m =>
        simp only [ju4] at he
        simp only [exOf,Exit.inBlock]
        split
        · rename_i e;rw [if_pos e] at he;exact hq' .normal s' a' w' R' hb' hb2 he
        · rename_i e;rw [if_neg e] at he;exact hq' (.exit m) s' a' w' R' hb' hb2 he
      | ret=>exact hq' .ret s' a' w' R' hb' hb2 he
    unfold jc0 at h
    split at h
    · rename_i I _
      obtain ⟨h,hc⟩:=h
      exact core (cutK I k) (jg0 hk) (jj3 hNF hq hc) h
    · rename_i l _
      rw [ji5] at h
      obtain ⟨h,hc⟩:=h
      exact core (cutK (sumI l) k) (jg0 hk) (jj3 hNF hq ((jl5 l _ fun _ s=>k .normal s).1 hc)) h
    · exact core k hk hq h
  | .rangeFunc ..,k,Q,s,a,w,hk,hq,R,hbel,hb,h=>by unfold jc0 at h;exact h.elim
  | .scope _,k,Q,s,a,w,hk,hq,R,hbel,hb,h=>by unfold jc0 at h;exact h.elim
  | .goto _,k,Q,s,a,w,hk,hq,R,hbel,hb,h=>by unfold jc0 at h;exact h.elim
  | .refuse _,k,Q,s,a,w,hk,hq,R,hbel,hb,h=>by unfold jc0 at h;exact h.elim
end
def ja5 (P:Program) (O:ja7) (L:Nat→Option Ann) (c:Code) (rs:List ResultVar) (n:Nat) (args:List AV) (V:List XV→List (List CV)→Prop):Prop :=
  q17 P O L c (fun e s=>match e with | .normal=>j00 P rs (jd3 0 args) V s | .ret=>j00 P rs (jd3 0 args) V s | .exit _=>False) (entry n args)
section
variable {P:Program} {O:ja7}
theorem jf8 (hO:je9 P O) (hm:P.follows .mixedOrders=true) (L:Nat→Option Ann) {J:Nat→Option Inl} (hJ:∀n c,J n=some c→qf9 P c∧GB≤c.T) (T:Nat) (c:Code):EvT T P c (jc0 P O L J c) :=
  fun base X F0 B w0 k Q s a w hb0 hNF hk hq R hbel hb h=>jd1 hO hm hJ hNF w0 hb0 c k Q s a w hk (hq B (agree.refl T B) hNF) R hbel hb h
theorem no_J:∀(n:Nat) (c:Inl),(fun _:Nat=>(none:Option Inl)) n=some c→qf9 P c∧GB≤c.T:=fun n c h=>by simp at h
theorem ju9 (hO:je9 P O) (hm:P.follows .mixedOrders=true) (L:Nat→Option Ann) (T:Nat) (c:Code):EvT T P c (q17 P O L c):=jf8 hO hm L (no_J) T c
theorem jv0 {f:FuncId} {fn:Func} {c:Code} (hf:P.funcs[f]?=some fn) (hb:fn.body=some c) {args:List AV} (hlen:args.length≤500) {V:List XV→List (List CV)→Prop} {ev:(Ex→PSt→Prop)→PSt→Prop} (hev:EvT 500 P c ev)
    (h:ev (fun e s=>match e with | .normal=>j00 P fn.results.toList (jd3 0 args) V s | .ret=>j00 P fn.results.toList (jd3 0 args) V s | .exit _=>False) (entry fn.ntmps args)) {w:World} {F:Nat→Prop} {ys:List Value} {bs:List Nat} (hG:Laid F w) (hF:∀k,F k→k < w.heap.size) (hA:je2 F w args ys bs) :
    Calls P f ys.toArray w fun e w'=>∃v,e=.returned v∧Done F w bs V v w':=by
  refine (callsIn_wide (n:=0)).1 (callsIn_of_wp_marks hf hb trivial (wpIn_wide.2 ?_))
  have hle:=yu4 hA
  have hPG:PN + 1000 < GB:=by decide
  let B:Nat→(Nat×Value)×Bool:=fun m=>((bs.getD (m - PN) 0,undef),false)
  let E:Env:=⟨F,fun m=>(B m).1.1,fun _=>undef⟩
  have hB:∀(i b:Nat),bs[i]?=some b→(B (PN + (0 + i))).1.1=b:=by
    intro i b hi
    show bs.getD (PN + (0 + i) - PN) 0=b
    rw [show PN + (0 + i) - PN=i by omega,List.getD_eq_getElem?_getD,hi];rfl
  have hi500:∀(i b:Nat),bs[i]?=some b→i < 500:=fun i b hi=>by have:=(List.getElem?_eq_some_iff.1 hi).1;omega
  have R0:∀act:Act,act=⟨ys.toArray ++ Array.replicate (fn.ntmps - ys.length) undef,[]⟩→Rel w.heap.size (·∈bs) F B (entry fn.ntmps args) act w:=by
    rintro act rfl
    have hl:=q08 hA
    refine ⟨E,trivial,by simp [entry,jq8,hl],?_,?_,?_,fun k hk=>⟨hF k hk,Or.inl hk⟩,fun k hk=>hk,hG,fun k hk=>(hle.2 k hk).1,fun _ _ _=>⟨rfl,rfl⟩,fun _ h=>by simp [B] at h⟩
    · intro t g hg hk
      simp only [entry] at hg
      by_cases ht:t < args.length
      · rw [List.getElem?_append_left (by rw [jq8];exact ht)] at hg
        obtain ⟨y,h1,h2⟩:=j01 (L:=live (entry fn.ntmps args)) (E:=E) rfl hA (fun i b hi=>⟨hB i b hi,Or.inl (qf8 hA i b hi),by have:=hi500 i b hi;omega⟩) t g hg
        exact ⟨y,by simp only;rw [Array.getElem?_append_left (by simp;omega)];simpa using h1,h2⟩
      · rw [List.getElem?_append_right (by rw [jq8];omega),List.getElem?_replicate] at hg
        split at hg <;> try (simp at hg;done)
        rename_i hl2
        simp only [Option.some.injEq] at hg
        subst hg
        rw [jq8] at hl2
        refine ⟨undef,?_,[],rfl,trivial⟩
        simp only
        rw [Array.getElem?_append_right (by simp;omega)]
        simp only [List.size_toArray,Array.getElem?_replicate]
        rw [if_pos (by omega)]
    · intro m b hmb
      obtain ⟨i,bl,c',h1,h2,rfl,arr,t,h4,h5⟩:=ju8 hA m b hmb
      have hβ:E.β m=bl:=by rw [h1];exact hB i bl h2
      have hin:=List.mem_of_getElem? h2
      refine ⟨by have:=hi500 i bl h2;omega,?_⟩
      unfold jg5
      rw [hβ]
      exact ⟨Or.inr hin,(hle.2 bl hin).2,arr,t,h4,h5.mono fun _ _=>jb9.jp5⟩
    · intro m m' b b' hmb hmb' hne k hk hk'
      obtain ⟨i,bl,c1,h1,h2,rfl,_⟩:=ju8 hA m b hmb
      obtain ⟨i',bl',c2,h1',h2',rfl,_⟩:=ju8 hA m' b' hmb'
      have hβ:E.β m=bl:=by rw [h1];exact hB i bl h2
      have hβ':E.β m'=bl':=by rw [h1'];exact hB i' bl' h2'
      simp only [ja9,Option.some.injEq,hβ,hβ'] at hk hk'
      rcases Nat.lt_trichotomy i i' with q | q | q
      · exact jw7 hA i i' bl bl' q h2 h2' (by omega)
      · subst q;exact hne (by rw [h1,h1'])
      · exact jw7 hA i' i bl' bl q h2' h2 (by omega)
  have names:jd3 0 args=List.range' (PN + 0) bs.length:=q09 hA
  refine hev w.heap.size (·∈bs) F B w _ _ (entry fn.ntmps args) _ w (Nat.le_refl _) (fun _=>rfl) (fun e s he=>?_) (fun B' hBB _ e s a w' R hbel hsz he=>?_) (R0 _ (by simp)) (jc3.refl _ _ _ _) (Nat.le_refl _) h
  · have at_ok:j00 P fn.results.toList (jd3 0 args) V s→s.ok:=fun h=>(qp1 h).1
    cases e with
    | normal=>exact at_ok he
    | ret=>exact at_ok he
    | exit id=>exact he.elim
  · have fin0:∀(a:Act) (w':World),Rel w.heap.size (·∈bs) F B' s a w'→jc3 w.heap.size (·∈bs) F w w'→j00 P fn.results.toList (jd3 0 args) V s→
        ∃v,(results fn a.tmps).run P w'=.ok v w'∧∃v',Ending.returned v=.returned v'∧Done F w bs V v' w':=fun a w' R hbel he=>by
      obtain ⟨hok,hcase⟩:=qp1 he
      obtain ⟨E,R⟩:=R
      have keep:Keep w.heap.size (·∈bs) w w':=hbel.toKeep
      rcases hcase with ⟨res,ms,upd,ms',h1,h2,hV⟩ | ⟨res,h1,hV⟩
      · obtain ⟨zs,r1,r2⟩:=ju5 (P:=P) R (rows:=ms ++ ms') h1 fun m hh=>by simp [hh]
        obtain ⟨u1,u2⟩:=ju7 R (rows:=ms ++ ms') h2 fun m hh=>by simp [hh]
        have hmap:(jd3 0 args).map E.β=bs:=by
          rw [names]
          apply List.ext_getElem?
          intro i
          rw [List.getElem?_map]
          by_cases hi:i < bs.length
          · have hg:bs[i]?=some bs[i]:=List.getElem?_eq_getElem hi
            rw [List.getElem?_range' hi,hg]
            simp only [Option.map_some,Nat.one_mul]
            have hpin:=R.pin (PN + 0 + i) (Or.inl (by omega)) (by obtain ⟨c,hc⟩:=u2 (PN + 0 + i) (by rw [names];exact List.mem_range'_1.2 ⟨by omega,by omega⟩);rw [hc];rfl)
            have:=hB i _ hg
            rw [← Nat.add_assoc] at this
            rw [hpin.1,hBB _ (by have:=hi500 i _ hg;omega),this]
          · rw [List.getElem?_eq_none (by simpa using hi),List.getElem?_eq_none (by simpa using hi)];rfl
        have hbs:∀k∈bs,∃m c,s.mem m=some (.cells c)∧E.β m=k:=fun k hk=>by
          rw [← hmap] at hk
          obtain ⟨m,hm,e⟩:=List.mem_map.1 hk
          obtain ⟨c,hc⟩:=u2 m hm
          exact ⟨m,c,hc,e⟩
        have hX:∀m z n r k,s.mem m=some (.row z n r)→(E.ν m).ownBlock=some k→w.heap.size≤k:=fun m z n r k hm hk=>by
          obtain ⟨_,_,_,_,e0,xs0,h4,_⟩:=R.mem m _ hm
          refine (h4.lt k hk).1.resolve_right fun hb=>?_
          obtain ⟨m',c,h1,h2⟩:=hbs k hb
          exact R.sep m' m _ _ h1 hm (fun e=>by subst e;rw [h1] at hm;simp at hm) k (by simp [ja9,h2]) hk
        have bound:∀{rows:List Nat} (k:Nat),jf1 E s rows k→k < w'.heap.size∧(F k∨w.heap.size≤k):=fun {rows} k hk=>⟨ji3 R hk,by
          rcases hk with hk | ⟨m,hm',z,n,r,e1,e2⟩
          · rcases (R.frz k hk).2 with h | h | h
            · exact Or.inl h
            · exact Or.inr h
            · obtain ⟨m',c,h1,h2⟩:=hbs k h
              exact absurd (h2▸hk) (R.mem m' _ h1).2.2.1
          · exact Or.inr (hX m z n r k e1 e2)⟩
        rcases hV with hV | ⟨rfl,r,m,h3,hl,hV⟩
        · rw [hmap] at u1
          exact ⟨_,jn4 r1,_,rfl,res,upd,hV,by rw [jy4 r2];simp,keep,jf1 E s (ms ++ ms'),none,fun k hk=>Or.inl (R.sub k hk),fun k hk=>bound k hk,fun y k e=>by simp at e,jh1.of (vb5 r2),u1⟩
        · obtain ⟨u1',_⟩:=ju7 R (rows:=[]) h2 fun m hh=>by simp at hh
          rw [hmap] at u1'
          obtain ⟨zs',r1',r2'⟩:=js6 (P:=P) R hX (f:=some (E.ν m)) h3 fun m' hh=>by simp only [List.mem_singleton] at hh;rw [hh]
          refine ⟨_,jn4 r1',_,rfl,r,upd,hV,by omega,keep,jf1 E s [],some (E.ν m),fun k hk=>Or.inl (R.sub k hk),fun k hk=>bound k hk,fun y k e hk=>?_,q07 r2',u1'⟩
          obtain rfl:=Option.some.inj e
          have hne:jc1 r≠[]:=fun q=>by rw [q] at hl;simp at hl
          obtain ⟨⟨z,n,row⟩,hmem⟩:=List.exists_mem_of_ne_nil _ hne
          obtain ⟨y',e',_,_,_,el,xs,ho,_⟩:=jn0 hmem r2'
          obtain rfl:=Option.some.inj e'
          exact ⟨(ho.lt k hk).2,(ho.lt k hk).1⟩
      ·
        have hb0:bs=[]:=by
          have hn:=vr7 h1
          rw [hn] at names
          cases bs with
          | nil=>rfl
          | cons b bs=>simp [List.range'] at names
        unfold vb2 at h1
        split at h1 <;> try (simp at h1;done)
        rename_i t hrs hnm
        split at h1 <;> try (simp at h1;done)
        rename_i f caps hslot
        split at h1 <;> try (simp at h1;done)
        rename_i l hl
        simp only [Option.some.injEq] at h1
        subst h1
        have hv:=jk9 R t hslot
        let F':Nat→Prop:=fun k=>E.F k∨∃m c,s.mem m=some (.cells c)∧E.β m=k
        have rep:=qw0 R hl
        refine ⟨_,jn4 (ys:=[a.tmps.getD t undef]) (by rw [hrs];simp only [List.mapM_cons,List.mapM_nil];rfl),_,rfl,[.c (.clo f l)],[],hV,by simp [jc1,jb7,je1,cellsOf],keep,F',none,fun k hk=>Or.inl (R.sub k hk),fun k hk=>?_,fun y k e=>by simp at e,?_,?_⟩
        · rcases hk with hk | ⟨m,c,hm,rfl⟩
          · have:=R.frz k hk
            exact ⟨this.1,this.2.elim Or.inl fun h=>Or.inr (h.resolve_right (by rw [hb0];simp))⟩
          · obtain ⟨_,g1,_,arr,t',g2,_⟩:=R.mem m _ hm
            exact ⟨(Array.getElem?_eq_some_iff.1 g2).1,Or.inr (g1.resolve_right (by rw [hb0];simp))⟩
        · have hv:jb9 (live s) E w' (.fn f caps) (a.tmps.getD t undef):=hv
          have hr:Rep F' w' (.clo f l) (a.tmps.getD t undef):=by
            rw [hv.2,rep.1]
            exact Rep.clo _ rep.2
          exact RepO.of (base:=w.heap.size) (f:=none) (F:=F') (w:=w') (c:=.clo f l) hr
        · rw [hb0];trivial
    have fin:j00 P fn.results.toList (jd3 0 args) V s→bodyPostM Fence.wide 0 P fn (fun e w''=>∃v,e=.returned v∧Done F w bs V v w'') .normal a w':=fun he =>
      jm0 a.defers a w' rfl R hbel fun a' w'' et R' hk'=>by
        have:=fin0 a' w'' R' hk' he
        rw [et] at this
        exact this
    cases e with
    | normal=>exact fin he
    | ret=>exact fin he
    | exit id=>exact he.elim
theorem jy5 (hO:je9 P O) (hm:P.follows .mixedOrders=true) {L:Nat→Option Ann} {f:FuncId} {fn:Func} {c:Code} (hf:P.funcs[f]?=some fn) (hb:fn.body=some c) {args:List AV} (hlen:args.length≤500) {V:List XV→List (List CV)→Prop}
    (h:ja5 P O L c fn.results.toList fn.ntmps args V) {w:World} {F:Nat→Prop} {ys:List Value} {bs:List Nat} (hG:Laid F w) (hF:∀k,F k→k < w.heap.size) (hA:je2 F w args ys bs) :
    Calls P f ys.toArray w fun e w'=>∃v,e=.returned v∧Done F w bs V v w' :=
  jv0 hf hb hlen (ju9 hO hm L 500 c) h hG hF hA
def qk3 (P:Program) (f:Nat) (s:List AV→Option Ans):Prop:=∀al ans,s al=some ans→(∀q∈ans.ask,q)→jk0 P f al ans
theorem jb4:je9 P (orc []):=fun f al ans h=>by simp [orc] at h
def noF (f:Nat) (l:List (Nat×(List AV→Option Ans))):Bool:=l.all fun p=>!Nat.beq p.1 f
theorem vl8 {f:Nat}:∀{l:List (Nat×(List AV→Option Ans))},noF f l=true→∀al,orc l f al=none
  | [],_,_=>rfl
  | (h,g) :: l,hn,al=>by
    unfold noF at hn
    simp only [List.all_cons,Bool.and_eq_true,Bool.not_eq_true'] at hn
    unfold orc
    rw [qb7 (fun e=>by rw [e,Nat.beq_refl] at hn;simp at hn),cond_false]
    exact vl8 (l:=l) (by unfold noF;exact hn.2) al
theorem j02 {f f':Nat} {g:List AV→Option Ans} {l:List (Nat×(List AV→Option Ans))} (h:jh7 + f'≠f):gives (orc ((f,g) :: l)) f'=gives (orc l) f':=by
  unfold gives
  rw [show orc ((f,g) :: l) (jh7 + f') []=orc l (jh7 + f') [] by show (bif Nat.beq (jh7 + f') f then g [] else orc l (jh7 + f') [])=_;rw [qb7 h];rfl]
theorem vr8 {f:Nat} {l:List (Nat×(List AV→Option Ans))} (h:noF (jh7 + f) l=true):gives (orc l) f=none:=by
  unfold gives
  rw [vl8 h]
theorem yu6 {f:Nat} {g:List AV→Option Ans} {l:List (Nat×(List AV→Option Ans))} (h:∀al ans,g al=some ans→(∀q∈ans.ask,q)→jk0 P f al ans∨(∃v,vp7 ans.res=some v∧ys2 P f al v)∨(vp9 ans.upd=true∧jk0 P f al ⟨ans.res,jk8 al,ans.ask⟩)) (k:je9 P (orc l))
    (hf:Nat.blt f jh7=true) (hn:noF (jh7 + f) l=true):je9 P (orc ((f,g) :: l)):=by
  have hf:f < jh7:=by simpa using hf
  intro h' al ans e hq
  rw [j02 (show jh7 + h'≠f by unfold jh7 at *;omega)]
  unfold orc at e
  by_cases hh:h'=f
  · subst hh
    simp only [Nat.beq_refl,cond_true] at e
    exact Or.inr ⟨vr8 hn,h al ans e hq⟩
  · simp only [qb7 hh,cond_false] at e
    exact k h' al ans e hq
theorem ja3 {f:Nat} {g:List AV→Option Ans} {l:List (Nat×(List AV→Option Ans))} (h:qk3 P f g) (k:je9 P (orc l)) (hf:Nat.blt f jh7=true:=by kernel_rfl) (hn:noF (jh7 + f) l=true:=by kernel_rfl):je9 P (orc ((f,g) :: l)) :=
  yu6 (fun al ans e hq=>Or.inl (h al ans e hq)) k hf hn
theorem vx9:qk3 P 1000000011 qe8:=fun al ans h hq=>by
  unfold qe8 at h
  simp only [Option.some.injEq] at h
  subst h
  exact (hq False (by simp)).elim
def jb5 (ans:Ans) (res:List XV) (upd:List (List CV)):Prop:=eqXs res ans.res∧eqUs upd ans.upd
theorem jp6 {f:FuncId} {fn:Func} (hf:P.funcs[f]?=some fn) (hn:(fn.name == "runtime.NumGoroutine")=false) (hb:fn.body=some (fn.body.getD .skip)) {args:List AV} (hlen:args.length≤500) {ans:Ans}
    {ev:(Ex→PSt→Prop)→PSt→Prop} (hev:EvT 500 P (fn.body.getD .skip) ev) (h:ev (fun e s=>match e with | .normal=>j00 P fn.results.toList (jd3 0 args) (jb5 ans) s | .ret=>j00 P fn.results.toList (jd3 0 args) (jb5 ans) s | .exit _=>False) (entry fn.ntmps args)) (hfr:Nat.ble (jc1 ans.res).length 1=true:=by rfl):jk0 P f args ans:=by
  intro w F ys bs hG hF hA
  refine Or.inr ⟨jw1 hf hn hb _ w,(jv0 hf hb hlen hev h hG hF hA).mono ?_⟩
  rintro e w' ⟨v,rfl,res,upd,⟨h1,h2⟩,hl,hk,F',f',f1,f2,fb,f3,f4⟩
  rcases q05 h1 hl (jy3 hfr) f3 with ⟨g,_⟩ | g
  · refine ⟨v,rfl,hk,vb4 F' f',some nilS,fun k hk=>Or.inl (f1 k hk),fun k hk=>?_,g,Refs.mono (fun k hk=>Or.inl hk) (qo6 h2 f4)⟩
    rcases hk with hk | ⟨y,e,hk⟩
    · exact f2 k hk
    · exact ⟨(fb y k e hk).1,Or.inr (fb y k e hk).2⟩
  · exact ⟨v,rfl,hk,F',f',f1,f2,g,qo6 h2 f4⟩
theorem ja2 (hO:je9 P O) (hm:P.follows .mixedOrders=true) (L:Nat→Option Ann) {f:FuncId} {fn:Func} (hf:P.funcs[f]?=some fn) (hn:(fn.name == "runtime.NumGoroutine")=false) (hb:fn.body=some (fn.body.getD .skip)) {args:List AV} (hlen:args.length≤500) {ans:Ans}
    (h:ja5 P O L (fn.body.getD .skip) fn.results.toList fn.ntmps args (jb5 ans)) (hfr:Nat.ble (jc1 ans.res).length 1=true:=by rfl):jk0 P f args ans :=
  jp6 hf hn hb hlen (ju9 hO hm L 500 _) h hfr
def jo7:List AV→Option (List Value)
  | []=>some []
  | .x (.c (.v x)) :: l=>match jo7 l with | some m=>some (x :: m) | none=>none
  | .x (.agg c) :: l=>match toVs c,jo7 l with | some cs,some m=>some (.agg cs.toArray :: m) | _,_=>none
  | _ :: _=>none
def ofV:Value→Option XV
  | .agg ⟨cs⟩=>if cs.all jh0 then some (.agg (cs.map .v)) else none
  | v=>if jh0 v then some (.c (.v v)) else none
def ofVs:List Value→Option (List XV)
  | []=>some []
  | v :: l=>match ofV v,ofVs l with | some x,some m=>some (x :: m) | _,_=>none
def yu7:Value→Option (List XV)
  | .tuple ⟨[v]⟩=>none
  | .tuple ⟨vs⟩=>ofVs vs
  | v=>match ofV v with | some x=>some [x] | none=>none
def jx6 (s:List Value→Option (Value×List Bool)) (al:List AV):Option Ans :=
  match jo7 al with
  | some vs=>match s vs with
    | some (v,b)=>match yu7 v with
      | some res=>some ⟨res,[],b.map (·=true)⟩
      | none=>none
    | none=>none
  | none=>none
theorem vb8 {F:Nat→Prop} {w:World}:∀{l:List Value},l.all jh0=true→Fa2 (Rep F w) (l.map CV.v) l
  | [],_=>trivial
  | x :: l,h=>by
    simp only [List.all_cons,Bool.and_eq_true] at h
    exact ⟨.v h.1,vb8 h.2⟩
theorem q18 {F:Nat→Prop} {w:World} {v:Value} {x:XV} (h:ofV v=some x):jl3 F w x v:=by
  unfold ofV at h
  split at h
  · rename_i cs
    split at h <;> try (simp at h;done)
    rename_i hc
    simp only [Option.some.injEq] at h
    subst h
    exact ⟨cs,rfl,vb8 hc⟩
  · split at h <;> try (simp at h;done)
    rename_i hc
    simp only [Option.some.injEq] at h
    subst h
    exact Rep.v hc
theorem vb9 {F:Nat→Prop} {w:World}:∀{l:List Value} {m:List XV},ofVs l=some m→Fa2 (jl3 F w) m l
  | [],m,h=>by simp only [ofVs,Option.some.injEq] at h;subst h;trivial
  | v :: l,m,h=>by
    unfold ofVs at h
    split at h <;> try (simp at h;done)
    rename_i x m' h1 h2
    simp only [Option.some.injEq] at h
    subst h
    exact ⟨q18 h1,vb9 h2⟩
theorem vr9 {F:Nat→Prop} {w:World} {v:Value} {l:List XV} (h:yu7 v=some l):jp4 F w l v:=by
  unfold yu7 at h
  split at h
  · simp at h
  · rename_i vs hne
    have:=vb9 (F:=F) (w:=w) h
    match l,vs,this with
    | [],[],_=>exact ⟨[],rfl,trivial⟩
    | [x],[y],_=>exact absurd rfl (hne y)
    | _ :: _ :: _,_ :: _ :: _,k=>exact ⟨_,rfl,k⟩
  · split at h <;> try (simp at h;done)
    rename_i x hx
    simp only [Option.some.injEq] at h
    subst h
    exact q18 hx
theorem vy0 {F:Nat→Prop} {w:World} {c:List CV} {ys xs:List Value} (h:toVs c=some xs) (k:Fa2 (Rep F w) c ys):ys=xs :=
  jt9 (L:=fun _=>True) (E:=⟨F,fun n=>n,fun _=>undef⟩) (w:=w) h (k.mono fun _ _=>jb9.jp5)
theorem j03 {F:Nat→Prop} {w:World}:∀{al:List AV} {vs ys:List Value} {bs:List Nat},jo7 al=some vs→je2 F w al ys bs→ys=vs∧bs=[]
  | [],vs,[],bs,h,hA=>by simp only [jo7,Option.some.injEq] at h;subst h;exact ⟨rfl,hA⟩
  | .x (.c (.v x)) :: l,vs,y :: ys,bs,h,hA=>by
    unfold jo7 at h
    split at h <;> try (simp at h;done)
    rename_i m hm
    simp only [Option.some.injEq] at h
    subst h
    obtain ⟨h1,h2⟩:=j03 hm hA.2
    have:Rep F w (.v x) y:=hA.1
    cases this
    exact ⟨by rw [h1],h2⟩
  | .x (.agg c) :: l,vs,y :: ys,bs,h,hA=>by
    unfold jo7 at h
    split at h <;> try (simp at h;done)
    rename_i cs m hc hm
    simp only [Option.some.injEq] at h
    subst h
    obtain ⟨h1,h2⟩:=j03 hm hA.2
    obtain ⟨zs,rfl,hz⟩:=hA.1
    exact ⟨by rw [h1,vy0 hc hz],h2⟩
  | .x (.c (.slc _ _ _)) :: _,_,_,_,h,_=>by simp [jo7] at h
  | .x (.c (.own _ _)) :: _,_,_,_,h,_=>by simp [jo7] at h
  | .x (.c (.ptr _ _)) :: _,_,_,_,h,_=>by simp [jo7] at h
  | .x (.c (.fn _ _)) :: _,_,_,_,h,_=>by simp [jo7] at h
  | .x (.c (.fresh _ _ _)) :: _,_,_,_,h,_=>by simp [jo7] at h
  | .x (.c (.clo _ _)) :: _,_,_,_,h,_=>by simp [jo7] at h
  | .ref _ _ :: _,_,_,_,h,_=>by simp [jo7] at h
  | [],_,_ :: _,_,_,hA=>hA.elim
  | .x (.c (.v _)) :: _,_,[],_,_,hA=>hA.elim
  | .x (.agg _) :: _,_,[],_,_,hA=>hA.elim
theorem vh4 {f:Nat} {s:List Value→Option (Value×List Bool)} (h:vk0 P f s):qk3 P f (jx6 s):=by
  intro al ans ha hq w F ys bs hG hF hA
  unfold jx6 at ha
  split at ha <;> try (simp at ha;done)
  rename_i vs hvs
  split at ha <;> try (simp at ha;done)
  rename_i v b hs
  split at ha <;> try (simp at ha;done)
  rename_i res hres
  simp only [Option.some.injEq] at ha
  subst ha
  obtain ⟨rfl,rfl⟩:=j03 hvs hA
  have post:∀w',Below w.heap.size w w'→Post F w [] ⟨res,[],b.map (·=true)⟩ v w':=fun w' hb =>
    ⟨⟨hb.os,hb.tape,hb.output,hb.size,fun k hk _=>hb.block k hk⟩,F,none,fun _ h=>h,fun k hk=>⟨Nat.lt_of_lt_of_le (hF k hk) hb.size,Or.inl hk⟩,jh1.of (vr9 hres),trivial⟩
  rcases h ys v b hs (q79.2 ⟨fun c hc=>hq _ (List.mem_map.2 ⟨c,hc,rfl⟩),trivial⟩) w with ⟨w',r,hb⟩ | ⟨r,C⟩
  · exact Or.inl ⟨v,w',r,post w' hb⟩
  · refine Or.inr ⟨r,Calls.mono C ?_⟩
    rintro e w' ⟨rfl,hb⟩
    exact ⟨v,rfl,post w' hb⟩
end
end Go.Proofs.YthkidembkknoeaaDoor.QR
namespace Go.Proofs.YthkidembkknoeaaDoor.QR
open Go.RowKit PR
set_option linter.unusedVariables false
set_option linter.unusedSimpArgs false
def enN (j:Nat):Nat:=PN + (250 + j)
def jf2:Nat→Nat→List AV→List GV
  | _,_,[]=>[]
  | k,j,.x v :: l=>gnow (.x (owX enN j v)) :: jf2 k (j + (jb7 (cellsOf v)).length) l
  | k,j,.ref off c :: l=>gnow (.x (.c (.ptr (PN + k) off))) :: jf2 (k + 1) (j + (jb7 c).length) l
def jh3:Nat→Nat→List AV→List (Nat×Blk)
  | _,_,[]=>[]
  | k,j,.x v :: l=>jr5 enN j (jb7 (cellsOf v)) ++ jh3 k (j + (jb7 (cellsOf v)).length) l
  | k,j,.ref _ c :: l=>(PN + k,.cells (owL enN j c)) :: (jr5 enN j (jb7 c) ++ jh3 (k + 1) (j + (jb7 c).length) l)
def jy6 (n:Nat) (args:List AV):PSt:=⟨jf2 0 0 args ++ List.replicate (n - args.length) (gnow (.tup [])),jb2 (fun _=>none) (jh3 0 0 args),True,[],0⟩
def frsA:List AV→List (Nat×Int×Row)
  | []=>[]
  | .x v :: l=>jb7 (cellsOf v) ++ frsA l
  | .ref _ c :: l=>jb7 c ++ frsA l
def yh6 (s:PSt):XV→Option (XV×List Nat)
  | .c c=>match gvC s c with
    | some (d,_,g)=>some (.c d,g)
    | none=>none
  | .agg l=>match gvL s l with
    | some (d,_,g)=>some (.agg d,g)
    | none=>none
def qd2 (P:Program) (s:PSt):ResultVar→Option (XV×List Nat)
  | .tmp t=>match s.tmps.getD t (gnow (.tup [])) with
    | ⟨true,.x v⟩=>yh6 s v
    | _=>none
  | .cell t ty=>match s.tmps.getD t (gnow (.tup [])) with
    | ⟨true,.x (.c (.ptr m off))⟩=>match memC s m with
      | some l=>match ql7 P l ty off with
        | some v=>yh6 s v
        | none=>none
      | none=>none
    | _=>none
def jq9 (P:Program) (s:PSt):List ResultVar→Option (List XV×List Nat)
  | []=>some ([],[])
  | r :: rs=>match qd2 P s r,jq9 P s rs with
    | some (v,a),some (vs,b)=>some (v :: vs,a ++ b)
    | _,_=>none
def qp6 (s:PSt):List Nat→Option (List (List CV)×List Nat)
  | []=>some ([],[])
  | m :: l=>match s.mem m with
    | some (.cells c)=>match gvL s c,qp6 s l with
      | some (d,_,a),some (u,b)=>some (d :: u,a ++ b)
      | _,_=>none
    | _=>none
def qp7 (P:Program) (rs:List ResultVar) (names:List Nat) (V:List XV→List (List CV)→Prop) (s:PSt):Prop :=
  match jq9 P s rs,qp6 s names with
  | some (r,ms),some (u,ms')=>bif distinct (ms ++ ms') then s.ok∧V r u else False
  | _,_=>False
def eqUo:List (List CV)→List (List CV)→Prop
  | [],[]=>True
  | a :: l,b :: m=>eqLo a b∧eqUo l m
  | _,_=>False
def vl9 (ans:Ans) (res:List XV) (upd:List (List CV)):Prop:=eqXs res ans.res∧eqUo upd ans.upd
def endG (P:Program) (rs:List ResultVar) (names:List Nat) (V:List XV→List (List CV)→Prop) (e:Ex) (s:PSt):Prop:=match e with
  | .normal=>qp7 P rs names V s
  | .ret=>qp7 P rs names V s
  | .exit _=>False
def vc0 (P:Program) (O:ja7) (L:Nat→Option Ann) (c:Code) (rs:List ResultVar) (n:Nat) (args:List AV) (V:List XV→List (List CV)→Prop):Prop :=
  q17 P O L c (endG P rs (jd3 0 args) V) (jy6 n args)
section
variable {P:Program} {O:ja7}
theorem Of.app {g1 g2:List Value} {k:Nat}:Of (g1 ++ g2) k↔Of g1 k∨Of g2 k:=by
  unfold Of
  constructor
  · rintro ⟨y,hy,e⟩
    exact (List.mem_append.1 hy).elim (fun h=>Or.inl ⟨y,h,e⟩) fun h=>Or.inr ⟨y,h,e⟩
  · rintro (⟨y,hy,e⟩ | ⟨y,hy,e⟩)
    · exact ⟨y,List.mem_append_left _ hy,e⟩
    · exact ⟨y,List.mem_append_right _ hy,e⟩
theorem qp8 {F:Nat→Prop} {w:World}:∀{args:List AV} {ys:List Value} {bs:List Nat} {g:List Value},jz2 F w args ys bs g→args.length=ys.length∧bs.length≤args.length∧g.length=(frsA args).length
  | [],[],bs,g,⟨h1,h2⟩=>by subst h1 h2;simp [frsA]
  | .x v :: l,y :: ys,bs,g,⟨g1,g2,e,h1,h2⟩=>by
    have:=qp8 h2
    subst e
    refine ⟨by simp [this.1],by simp;omega,?_⟩
    simp only [frsA,List.length_append,h1.len,this.2.2]
  | .ref off c :: l,y :: ys,b :: bs,g,⟨_,_,_,g1,g2,e,⟨arr,t,_,h1⟩,h2⟩=>by
    have:=qp8 h2
    subst e
    refine ⟨by simp [this.1],by simp;omega,?_⟩
    simp only [frsA,List.length_append,h1.len,this.2.2]
  | [],_ :: _,_,_,h=>h.elim
  | .x _ :: _,[],_,_,h=>h.elim
  | .ref _ _ :: _,[],_,_,h=>h.elim
  | .ref _ _ :: _,_ :: _,[],_,h=>h.elim
theorem jw8 {F:Nat→Prop} {w:World}:∀{args:List AV} {ys:List Value} {bs:List Nat} {g:List Value},jz2 F w args ys bs g→(∀b∈bs,b < w.heap.size∧¬ F b)∧∀k,Of g k→k < w.heap.size∧¬ F k
  | [],[],bs,g,⟨h1,h2⟩=>by subst h1 h2;exact ⟨by simp,fun k ⟨y,hy,_⟩=>by simp at hy⟩
  | .x v :: l,y :: ys,bs,g,⟨g1,g2,e,h1,h2⟩=>by
    have i:=jw8 h2
    subst e
    refine ⟨i.1,fun k hk=>?_⟩
    rcases Of.app.1 hk with ⟨y',hy,e⟩ | hk
    · obtain ⟨j,hj,e'⟩:=List.getElem_of_mem hy
      have hfr:=h1.frs
      have hl:=hfr.len
      obtain ⟨z,q1,q2⟩:=hfr.get (i:=j) (List.getElem?_eq_getElem (by rw [hl];exact hj))
      rw [List.getElem?_eq_getElem hj,e'] at q1
      simp only [Option.some.injEq] at q1
      subst q1
      obtain ⟨_,_,qF,el,xs,qo,_⟩:=q2
      exact ⟨(qo.lt k e).2,qF k e⟩
    · exact i.2 k hk
  | .ref off c :: l,y :: ys,b :: bs,g,⟨_,hF,_,g1,g2,e,⟨arr,t,h0,h1⟩,h2⟩=>by
    have i:=jw8 h2
    subst e
    refine ⟨fun x hx=>?_,fun k hk=>?_⟩
    · rcases List.mem_cons.1 hx with rfl | hx
      · exact ⟨(Array.getElem?_eq_some_iff.1 h0).1,hF⟩
      · exact i.1 x hx
    · rcases Of.app.1 hk with ⟨y',hy,e⟩ | hk
      · obtain ⟨j,hj,e'⟩:=List.getElem_of_mem hy
        have hfr:=h1.frs
        have hl:=hfr.len
        obtain ⟨z,q1,q2⟩:=hfr.get (i:=j) (List.getElem?_eq_getElem (by rw [hl];exact hj))
        rw [List.getElem?_eq_getElem hj,e'] at q1
        simp only [Option.some.injEq] at q1
        subst q1
        obtain ⟨_,_,qF,el,xs,qo,_⟩:=q2
        exact ⟨(qo.lt k e).2,qF k e⟩
      · exact i.2 k hk
  | [],_ :: _,_,_,h=>h.elim
  | .x _ :: _,[],_,_,h=>h.elim
  | .ref _ _ :: _,[],_,_,h=>h.elim
  | .ref _ _ :: _,_ :: _,[],_,h=>h.elim
theorem js1 {F:Nat→Prop} {w:World}:∀{args:List AV} {ys:List Value} {bs:List Nat} {g:List Value},jz2 F w args ys bs g→∀(i j a b:Nat),i < j→bs[i]?=some a→bs[j]?=some b→a≠b
  | [],[],bs,g,h,i,j,a,b,_,hi,_=>by have h:bs=[]:=h.1;subst h;simp at hi
  | .x v :: l,y :: ys,bs,g,⟨_,_,_,_,h⟩,i,j,a,b,hij,hi,hj=>js1 h i j a b hij hi hj
  | .ref off c :: l,y :: ys,bl :: bs,g,⟨_,_,hn,_,_,_,_,h⟩,i,j,a,b,hij,hi,hj=>by
    cases j with
    | zero=>omega
    | succ j =>
      cases i with
      | zero =>
        simp only [List.getElem?_cons_zero,Option.some.injEq] at hi
        subst hi
        intro e
        subst e
        exact hn (List.mem_of_getElem? (by simpa using hj))
      | succ i=>exact js1 h i j a b (by omega) (by simpa using hi) (by simpa using hj)
  | [],_ :: _,_,_,h,_,_,_,_,_,_,_=>h.elim
  | .x _ :: _,[],_,_,h,_,_,_,_,_,_,_=>h.elim
  | .ref _ _ :: _,[],_,_,h,_,_,_,_,_,_,_=>h.elim
  | .ref _ _ :: _,_ :: _,[],_,h,_,_,_,_,_,_,_=>h.elim
theorem j04 {F:Nat→Prop} {w:World}:∀{k:Nat} {args:List AV} {ys:List Value} {bs:List Nat} {g:List Value},jz2 F w args ys bs g→jd3 k args=(List.range' (PN + k) bs.length)
  | k,[],[],bs,g,h=>by have h:bs=[]:=h.1;subst h;rfl
  | k,.x v :: l,y :: ys,bs,g,⟨_,_,_,_,h⟩=>j04 (k:=k) (args:=l) h
  | k,.ref off c :: l,y :: ys,b :: bs,g,⟨_,_,_,_,_,_,_,h⟩=>by
    simp only [jd3,List.length_cons,List.range'_succ,j04 (k:=k + 1) h,Nat.add_assoc]
  | _,[],_ :: _,_,_,h=>h.elim
  | _,.x _ :: _,[],_,_,h=>h.elim
  | _,.ref _ _ :: _,[],_,_,h=>h.elim
  | _,.ref _ _ :: _,_ :: _,[],_,h=>h.elim
theorem vy1 (i j:Nat) (h:enN i=enN j):i=j:=by unfold enN at h;omega
theorem yu8 (i:Nat):enN (0 + i) - (PN + 250)=i:=by
  unfold enN
  generalize PN=p
  omega
theorem j05 {F:Nat→Prop} {w:World}:∀{k j:Nat} {args:List AV} {ys:List Value} {bs:List Nat} {g:List Value},jz2 F w args ys bs g→k + bs.length≤250→
    (∀i,i < bs.length→(jb2 (fun _=>none) (jh3 k j args) (PN + (k + i))).isSome=true)∧∀i,i < g.length→(jb2 (fun _=>none) (jh3 k j args) (enN (j + i))).isSome=true
  | k,j,[],[],bs,g,⟨h1,h2⟩,_=>by subst h1 h2;exact ⟨fun i h=>by simp at h,fun i h=>by simp at h⟩
  | k,j,.x v :: l,y :: ys,bs,g,⟨g1,g2,e,h1,h2⟩,hk=>by
    subst e
    obtain ⟨i1,i2⟩:=j05 (k:=k) (j:=j + (jb7 (cellsOf v)).length) h2 hk
    unfold jh3
    have skip:∀m,(jb2 (fun _=>none) (jh3 k (j + (jb7 (cellsOf v)).length) l) m).isSome=true→(jb2 (fun _=>none) (jr5 enN j (jb7 (cellsOf v)) ++ jh3 k (j + (jb7 (cellsOf v)).length) l) m).isSome=true:=by
      intro m hm
      generalize jb7 (cellsOf v)=fr at *
      generalize jh3 k (j + fr.length) l=q at hm
      clear i1 i2 h1
      induction fr generalizing j with
      | nil=>exact hm
      | cons p fr ih =>
        obtain ⟨z,n,r⟩:=p
        unfold jr5
        rw [List.cons_append]
        by_cases e:m=enN j
        · rw [e,jb0];rfl
        · rw [jb6 e];exact ih (j:=j + 1)
    refine ⟨fun i hi=>skip _ (i1 i hi),fun i hi=>?_⟩
    rw [List.length_append,h1.len] at hi
    by_cases q:i < (jb7 (cellsOf v)).length
    · exact qk0 vy1 q
    · have:=skip _ (i2 (i - (jb7 (cellsOf v)).length) (by omega))
      rwa [show j + (jb7 (cellsOf v)).length + (i - (jb7 (cellsOf v)).length)=j + i by omega] at this
  | k,j,.ref off c :: l,y :: ys,b :: bs,g,⟨_,_,_,g1,g2,e,⟨arr,t,_,h1⟩,h2⟩,hk=>by
    subst e
    simp only [List.length_cons] at hk
    obtain ⟨i1,i2⟩:=j05 (k:=k + 1) (j:=j + (jb7 c).length) h2 (by omega)
    unfold jh3
    have skip:∀m,(jb2 (fun _=>none) (jh3 (k + 1) (j + (jb7 c).length) l) m).isSome=true→(jb2 (fun _=>none) (jr5 enN j (jb7 c) ++ jh3 (k + 1) (j + (jb7 c).length) l) m).isSome=true:=by
      intro m hm
      generalize jb7 c=fr at *
      generalize jh3 (k + 1) (j + fr.length) l=q at hm
      clear i1 i2 h1
      induction fr generalizing j with
      | nil=>exact hm
      | cons p fr ih =>
        obtain ⟨z,n,r⟩:=p
        unfold jr5
        rw [List.cons_append]
        by_cases e:m=enN j
        · rw [e,jb0];rfl
        · rw [jb6 e];exact ih (j:=j + 1)
    refine ⟨fun i hi=>?_,fun i hi=>?_⟩
    · cases i with
      | zero=>show (jb2 _ _ (PN + k)).isSome=true;rw [jb0];rfl
      | succ i =>
        rw [jb6 (by omega),show k + (i + 1)=k + 1 + i by omega]
        exact skip _ (i1 i (by simpa using hi))
    · rw [jb6 (by unfold enN;omega)]
      rw [List.length_append,h1.len] at hi
      by_cases q:i < (jb7 c).length
      · exact qk0 vy1 q
      · have:=skip _ (i2 (i - (jb7 c).length) (by omega))
        rwa [show j + (jb7 c).length + (i - (jb7 c).length)=j + i by omega] at this
  | _,_,[],_ :: _,_,_,h,_=>h.elim
  | _,_,.x _ :: _,[],_,_,h,_=>h.elim
  | _,_,.ref _ _ :: _,[],_,_,h,_=>h.elim
  | _,_,.ref _ _ :: _,_ :: _,[],_,h,_=>h.elim
theorem qg0 {F:Nat→Prop} {w:World} {L:Nat→Prop} {E:Env} (hF:E.F=F):∀{k j:Nat} {args:List AV} {ys:List Value} {bs:List Nat} {g:List Value},jz2 F w args ys bs g→Named L E enN j g→∀(m:Nat) (b:Blk),jb2 (fun _=>none) (jh3 k j args) m=some b→
    (∃(i bl:Nat) (c:List CV),m=PN + (k + i)∧bs[i]?=some bl∧b=.cells c∧∃arr t,w.heap[bl]?=some (.cells arr t (0,0))∧Fa2 (jb9 L E w) c arr.toList)∨∃(i z:Nat) (n:Int) (r:Row) (y:Value),m=enN (j + i)∧g[i]?=some y∧b=.row z n r∧jk3 0 F w z n r y
  | k,j,[],[],bs,g,h,_,m,b,hm=>by simp [jh3,jb2] at hm
  | k,j,.x v :: l,y :: ys,bs,g,⟨g1,g2,e,h1,h2⟩,hN,m,b,hm=>by
    subst e
    unfold jh3 at hm
    rcases qj9 hm with ⟨i,z,n,r,e1,e2,e3⟩ | ⟨_,hm⟩
    · obtain ⟨y',q1,q2⟩:=h1.frs.get e1
      exact Or.inr ⟨i,z,n,r,y',e2,by rw [List.getElem?_append_left (List.getElem?_eq_some_iff.1 q1).1];exact q1,e3,q2⟩
    · rcases qg0 hF h2 (by rw [← h1.len];exact hN.right) m b hm with h | ⟨i,z,n,r,y',e1,e2,e3⟩
      · exact Or.inl h
      · refine Or.inr ⟨g1.length + i,z,n,r,y',by rw [e1,h1.len];congr 1;omega,?_,e3⟩
        rw [List.getElem?_append_right (by omega),show g1.length + i - g1.length=i by omega];exact e2
  | k,j,.ref off c :: l,y :: ys,bl :: bs,g,⟨_,_,_,g1,g2,e,⟨arr,t,h0,h1⟩,h2⟩,hN,m,b,hm=>by
    subst e
    unfold jh3 at hm
    by_cases e:m=PN + k
    · rw [e,jb0] at hm
      simp only [Option.some.injEq] at hm
      exact Or.inl ⟨0,bl,_,e,rfl,hm.symm,arr,t,h0,qj8 hF h1 hN.left⟩
    · rw [jb6 e] at hm
      rcases qj9 hm with ⟨i,z,n,r,e1,e2,e3⟩ | ⟨_,hm⟩
      · obtain ⟨y',q1,q2⟩:=h1.frs.get e1
        exact Or.inr ⟨i,z,n,r,y',e2,by rw [List.getElem?_append_left (List.getElem?_eq_some_iff.1 q1).1];exact q1,e3,q2⟩
      · rcases qg0 hF h2 (by rw [← h1.len];exact hN.right) m b hm with ⟨i,bl',c',e1,e2,e3⟩ | ⟨i,z,n,r,y',e1,e2,e3⟩
        · exact Or.inl ⟨i + 1,bl',c',by omega,by simpa using e2,e3⟩
        · refine Or.inr ⟨g1.length + i,z,n,r,y',by rw [e1,h1.len];congr 1;omega,?_,e3⟩
          rw [List.getElem?_append_right (by omega),show g1.length + i - g1.length=i by omega];exact e2
  | _,_,[],_ :: _,_,_,h,_,_,_,_=>h.elim
  | _,_,.x _ :: _,[],_,_,h,_,_,_,_=>h.elim
  | _,_,.ref _ _ :: _,[],_,_,h,_,_,_,_=>h.elim
  | _,_,.ref _ _ :: _,_ :: _,[],_,h,_,_,_,_=>h.elim
theorem jm7:∀(k j:Nat) (args:List AV),(jf2 k j args).length=args.length
  | _,_,[]=>rfl
  | k,j,.x v :: l=>by simp [jf2,jm7 k _ l]
  | k,j,.ref off c :: l=>by simp [jf2,jm7 (k + 1) _ l]
theorem jv1 {F:Nat→Prop} {w:World} {L:Nat→Prop} {E:Env} (hF:E.F=F):∀{k j:Nat} {args:List AV} {ys:List Value} {bs:List Nat} {g:List Value},jz2 F w args ys bs g→Named L E enN j g→(∀(i b:Nat),bs[i]?=some b→E.β (PN + (k + i))=b∧L (PN + (k + i))∧PN + (k + i) < GB)→
    ∀(t:Nat) (q:GV),(jf2 k j args)[t]?=some q→∃y,ys[t]?=some y∧jd5 L E w q.v y
  | k,j,[],[],bs,g,h,_,_,t,q,hg=>by simp [jf2] at hg
  | k,j,.x v :: l,y :: ys,bs,g,⟨g1,g2,e,h1,h2⟩,hN,hb,t,q,hg=>by
    subst e
    cases t with
    | zero =>
      simp only [jf2,List.getElem?_cons_zero,Option.some.injEq] at hg
      subst hg
      exact ⟨y,rfl,qz0 hF h1 hN.left⟩
    | succ t=>exact jv1 hF (j:=j + (jb7 (cellsOf v)).length) h2 (by rw [← h1.len];exact hN.right) hb t q (by simpa [jf2] using hg)
  | k,j,.ref off c :: l,y :: ys,b :: bs,g,⟨h0,_,_,g1,g2,e,⟨arr,t',_,h1⟩,h2⟩,hN,hb,t,q,hg=>by
    subst e
    cases t with
    | zero =>
      simp only [jf2,List.getElem?_cons_zero,Option.some.injEq] at hg
      subst hg
      obtain ⟨q1,q2,q3⟩:=hb 0 b rfl
      rw [Nat.add_zero] at q1 q2 q3
      exact ⟨y,rfl,q2,by rw [adr,if_neg (by omega),q1];exact h0⟩
    | succ t=>exact jv1 hF (j:=j + (jb7 c).length) h2 (by rw [← h1.len];exact hN.right) (k:=k + 1) (fun i b' hi=>by have:=hb (i + 1) b' (by simpa using hi);rw [show k + 1 + i=k + (i + 1) by omega];exact this) t q (by simpa [jf2] using hg)
  | _,_,[],_ :: _,_,_,h,_,_,_,_,_=>h.elim
  | _,_,.x _ :: _,[],_,_,h,_,_,_,_,_=>h.elim
  | _,_,.ref _ _ :: _,[],_,_,h,_,_,_,_,_=>h.elim
  | _,_,.ref _ _ :: _,_ :: _,[],_,h,_,_,_,_,_=>h.elim
section
variable {base:Nat} {X F0:Nat→Prop} {B:Nat→(Nat×Value)×Bool} {E:Env} {s:PSt} {a:Act} {w:World}
theorem qp9 (R:RelE base X F0 B E s a w) {x v:XV} {ms:List Nat} {y:Value} (h:yh6 s x=some (v,ms)) (hc:ConcX (live s) E w x y):OwnX E.F w v y (ms.map E.ν)∧∀m∈ms,∃z n r,s.mem m=some (.row z n r):=by
  have hN:∀{ms:List Nat},(∀m∈ms,∃z n r,s.mem m=some (.row z n r))→∀m∈ms,∀k,(E.ν m).ownBlock=some k→¬ E.F k:=fun hr m hm k hk=>by
    obtain ⟨z,n,r,e⟩:=hr m hm
    exact je4 (R.mem m _ e).2 (k:=k) hk
  unfold yh6 at h
  split at h
  · split at h <;> try (simp at h;done)
    rename_i hr
    simp only [Option.some.injEq,Prod.mk.injEq] at h
    obtain ⟨rfl,rfl⟩:=h
    have g:=vv5 hr
    exact ⟨q92 R hr (fun _ h=>h) (hN g) hc,g⟩
  · split at h <;> try (simp at h;done)
    rename_i hr
    simp only [Option.some.injEq,Prod.mk.injEq] at h
    obtain ⟨rfl,rfl⟩:=h
    have g:=qm8 hr
    obtain ⟨ys,e,hc⟩:=hc
    exact ⟨⟨ys,e,qb8 R (fun _ h=>h) hr (hN g) hc⟩,g⟩
theorem qq0 (R:RelE base X F0 B E s a w) {r:ResultVar} {v:XV} {ms:List Nat} (h:qd2 P s r=some (v,ms)) :
    ∃y,(match r with | .tmp t=>(pure (a.tmps.getD t undef):Sem Value) | .cell x t=>(do loadVar t (← asAddr (a.tmps.getD x undef)):Sem Value)).run P w=.ok y w∧OwnX E.F w v y (ms.map E.ν)∧∀m∈ms,∃z n r,s.mem m=some (.row z n r):=by
  cases r with
  | tmp t =>
    simp only [qd2] at h
    split at h <;> try (simp at h;done)
    rename_i x hx
    exact ⟨_,by simp only [Sem.run_pure],qp9 R h (jk9 R t hx)⟩
  | cell t ty =>
    simp only [qd2] at h
    split at h <;> try (simp at h;done)
    rename_i m off hx
    split at h <;> try (simp at h;done)
    rename_i l hl
    split at h <;> try (simp at h;done)
    rename_i x hp
    have hv:=jk9 R t hx
    obtain ⟨arr,el,h1,h2⟩:=ju1 R hl hv.1
    obtain ⟨y,e1,e2⟩:=ju0 (P:=P) h1 h2 hp
    refine ⟨y,?_,qp9 R h e2⟩
    simp only [Instr.loadAt,Instr.sureAddr,Sem.run_bind,Sem.run_pure,Result.andThen_ok] at e1
    simp only [qb9 hv,asAddr,Sem.run_bind,Sem.run_pure,Result.andThen_ok,e1]
theorem js7 (R:RelE base X F0 B E s a w):∀{rs:List ResultVar} {vs:List XV} {ms:List Nat},jq9 P s rs=some (vs,ms)→
    ∃ys,(rs.mapM (m:=Sem) fun r=>match r with | .tmp t=>pure (a.tmps.getD t undef) | .cell x t=>do loadVar t (← asAddr (a.tmps.getD x undef))).run P w=.ok ys w∧jz0 E.F w vs ys (ms.map E.ν)∧∀m∈ms,∃z n r,s.mem m=some (.row z n r)
  | [],vs,ms,h=>by simp only [jq9,Option.some.injEq,Prod.mk.injEq] at h;obtain ⟨rfl,rfl⟩:=h;exact ⟨[],rfl,rfl,by simp⟩
  | r :: rs,vs,ms,h=>by
    unfold jq9 at h
    split at h <;> try (simp at h;done)
    rename_i v1 a1 vs1 b1 h1 h2
    simp only [Option.some.injEq,Prod.mk.injEq] at h
    obtain ⟨rfl,rfl⟩:=h
    obtain ⟨y,e1,c1,d1⟩:=qq0 R h1
    obtain ⟨ys,e2,c2,d2⟩:=js7 R h2
    refine ⟨y :: ys,?_,⟨_,_,by rw [List.map_append],c1,c2⟩,fun m hm=>(List.mem_append.1 hm).elim (d1 m) (d2 m)⟩
    rw [List.mapM_cons]
    simp only [Sem.run_bind,e1,Result.andThen_ok,e2,Sem.run_pure]
theorem vy2 {F:Nat→Prop} {vs:List XV} {ys g:List Value} (h:jz0 F w vs ys g):jy2 F w vs (if h:ys.length=1 then ys[0] else .tuple ys.toArray) g:=by
  match vs,ys,h with
  | [],[],h=>exact ⟨[],rfl,h⟩
  | [v],[y],⟨g1,g2,e,h1,h2⟩ =>
    have h2:g2=[]:=h2
    subst h2
    rw [List.append_nil] at e
    subst e;exact h1
  | v :: v' :: vs,y :: y' :: ys,h =>
    have:¬ (y :: y' :: ys).length=1:=by simp
    rw [dif_neg this]
    exact ⟨_,rfl,h⟩
theorem qd3 (R:RelE base X F0 B E s a w):∀{names:List Nat} {u:List (List CV)} {ms:List Nat},qp6 s names=some (u,ms)→qf1 E.F w (names.map E.β) u (ms.map E.ν)∧(∀m∈ms,∃z n r,s.mem m=some (.row z n r))∧∀m∈names,∃c,s.mem m=some (.cells c)
  | [],u,ms,h=>by simp only [qp6,Option.some.injEq,Prod.mk.injEq] at h;obtain ⟨rfl,rfl⟩:=h;exact ⟨rfl,by simp,by simp⟩
  | m :: l,u,ms,h=>by
    unfold qp6 at h
    split at h <;> try (simp at h;done)
    rename_i c hc
    split at h <;> try (simp at h;done)
    rename_i d q a1 u1 b1 h1 h2
    simp only [Option.some.injEq,Prod.mk.injEq] at h
    obtain ⟨rfl,rfl⟩:=h
    obtain ⟨_,_,_,arr,t,k1,k2⟩:=R.mem m _ hc
    obtain ⟨i1,i2,i3⟩:=qd3 R h2
    have g:=qm8 h1
    have hN:∀m∈a1,∀k,(E.ν m).ownBlock=some k→¬ E.F k:=fun m hm k hk=>by
      obtain ⟨z,n,r,e⟩:=g m hm
      exact je4 (R.mem m _ e).2 (k:=k) hk
    refine ⟨⟨_,_,by rw [List.map_append],⟨arr,t,k1,qb8 R (fun _ h=>h) h1 hN k2⟩,i1⟩,fun m hm=>(List.mem_append.1 hm).elim (g m) (i2 m),fun k hk=>?_⟩
    rcases List.mem_cons.1 hk with rfl | hk
    · exact ⟨_,hc⟩
    · exact i3 k hk
end
def vy3 (F:Nat→Prop) (w:World) (bs:List Nat) (G:Nat→Prop) (V:List XV→List (List CV)→Prop) (v:Value) (w':World):Prop :=
  ∃res upd,V res upd∧Keep w.heap.size (fun k=>k∈bs∨G k) w w'∧∃(F':Nat→Prop) (g1 g2:List Value),(∀k,F k→F' k)∧(∀k,F' k→k < w'.heap.size∧(F k∨w.heap.size≤k∨G k))∧jy2 F' w' res v g1∧qf1 F' w' bs upd g2∧Apart (g1 ++ g2)∧∀k,Of (g1 ++ g2) k→k < w'.heap.size∧(w.heap.size≤k∨G k)
theorem qj3 {f:FuncId} {fn:Func} {c:Code} (hf:P.funcs[f]?=some fn) (hb:fn.body=some c) {args:List AV} (hlen:args.length≤250∧(frsA args).length≤250) {V:List XV→List (List CV)→Prop} {ev:(Ex→PSt→Prop)→PSt→Prop} (hev:EvT 500 P c ev)
    (h:ev (endG P fn.results.toList (jd3 0 args) V) (jy6 fn.ntmps args)) {w:World} {F:Nat→Prop} {ys:List Value} {bs:List Nat} {g:List Value} (hG:Laid F w) (hF:∀k,F k→k < w.heap.size) (hA:jz2 F w args ys bs g) (hap:Apart g) (hOf:∀k,Of g k→k ∉ bs) :
    Calls P f ys.toArray w fun e w'=>∃v,e=.returned v∧vy3 F w bs (Of g) V v w':=by
  refine (callsIn_wide (n:=0)).1 (callsIn_of_wp_marks hf hb trivial (wpIn_wide.2 ?_))
  obtain ⟨hl,hl1,hl2⟩:=qp8 hA
  obtain ⟨hbs,hgs⟩:=jw8 hA
  have hPG:PN + 1000 < GB:=by decide
  let B:Nat→(Nat×Value)×Bool:=fun m=>((bs.getD (m - PN) 0,g.getD (m - (PN + 250)) undef),false)
  let E:Env:=⟨F,fun m=>(B m).1.1,fun m=>(B m).1.2⟩
  have hB:∀(i b:Nat),bs[i]?=some b→(B (PN + (0 + i))).1.1=b:=by
    intro i b hi
    show bs.getD (PN + (0 + i) - PN) 0=b
    rw [show PN + (0 + i) - PN=i by omega,List.getD_eq_getElem?_getD,hi];rfl
  have hBν:∀(i:Nat) (y:Value),g[i]?=some y→(B (enN (0 + i))).1.2=y:=by
    intro i y hi
    show g.getD (enN (0 + i) - (PN + 250)) undef=y
    rw [yu8,List.getD_eq_getElem?_getD,hi];rfl
  have hi500:∀(i b:Nat),bs[i]?=some b→i < 250:=fun i b hi=>by have:=(List.getElem?_eq_some_iff.1 hi).1;omega
  obtain ⟨so1,so2⟩:=j05 (k:=0) (j:=0) hA (by omega)
  have hNm:Named (live (jy6 fn.ntmps args)) E enN 0 g:=fun i y hi=>⟨Or.inl (so2 i (List.getElem?_eq_some_iff.1 hi).1),hBν i y hi⟩
  have hmem:=qg0 (L:=live (jy6 fn.ntmps args)) (E:=E) rfl (k:=0) hA hNm
  have R0:∀act:Act,act=⟨ys.toArray ++ Array.replicate (fn.ntmps - ys.length) undef,[]⟩→Rel w.heap.size (fun k=>k∈bs∨Of g k) F B (jy6 fn.ntmps args) act w:=by
    rintro act rfl
    refine ⟨E,trivial,by simp [jy6,jm7,hl],?_,?_,?_,fun k hk=>⟨hF k hk,Or.inl hk⟩,fun k hk=>hk,hG,fun k hk=>hk.elim (fun h=>(hbs k h).1) fun h=>(hgs k h).1,fun _ _ _=>⟨rfl,rfl⟩,fun _ h=>by simp [B] at h⟩
    · intro t q hg hk
      simp only [jy6] at hg
      by_cases ht:t < args.length
      · rw [List.getElem?_append_left (by rw [jm7];exact ht)] at hg
        obtain ⟨y,h1,h2⟩:=jv1 (L:=live (jy6 fn.ntmps args)) (E:=E) rfl hA hNm (fun i b hi=>⟨hB i b hi,Or.inl (so1 i (List.getElem?_eq_some_iff.1 hi).1),by have:=hi500 i b hi;omega⟩) t q hg
        exact ⟨y,by simp only;rw [Array.getElem?_append_left (by simp;omega)];simpa using h1,h2⟩
      · rw [List.getElem?_append_right (by rw [jm7];omega),List.getElem?_replicate] at hg
        split at hg <;> try (simp at hg;done)
        rename_i hl2
        simp only [Option.some.injEq] at hg
        subst hg
        rw [jm7] at hl2
        refine ⟨undef,?_,[],rfl,trivial⟩
        simp only
        rw [Array.getElem?_append_right (by simp;omega)]
        simp only [List.size_toArray,Array.getElem?_replicate]
        rw [if_pos (by omega)]
    · intro m b hmb
      rcases hmem m b hmb with ⟨i,bl,c',h1,h2,rfl,arr,t,h4,h5⟩ | ⟨i,z,n,r,y,h1,h2,rfl,h3⟩
      · have hβ:E.β m=bl:=by rw [h1];exact hB i bl h2
        have hin:=List.mem_of_getElem? h2
        refine ⟨by have:=hi500 i bl h2;omega,?_⟩
        unfold jg5
        rw [hβ]
        exact ⟨Or.inr (Or.inl hin),(hbs bl hin).2,arr,t,h4,h5⟩
      · have hν:E.ν m=y:=by rw [h1];exact hBν i y h2
        have hi:=(List.getElem?_eq_some_iff.1 h2).1
        refine ⟨by rw [h1];unfold enN;omega,?_⟩
        unfold jg5
        rw [hν]
        obtain ⟨f0,fz,fF,e,xs,fo,fr⟩:=h3
        exact ⟨f0,fz,fF,e,xs,⟨fo.1,fun k hk=>Or.inr (Or.inr ⟨y,List.mem_of_getElem? h2,hk⟩)⟩,fr⟩
    · intro m m' b b' hmb hmb' hne k hk hk'
      have c1:=hmem m b hmb
      have c2:=hmem m' b' hmb'
      have cell:∀{m:Nat} {b:Blk} {i bl:Nat} {c:List CV},m=PN + (0 + i)→bs[i]?=some bl→b=.cells c→ja9 E m b=some k→bl=k:=by
        rintro m b i bl c h1 h2 rfl hk
        have hβ:E.β m=bl:=by rw [h1];exact hB i bl h2
        simp only [ja9,Option.some.injEq,hβ] at hk
        exact hk
      have row:∀{m:Nat} {b:Blk} {i z:Nat} {n:Int} {r:Row} {y:Value},m=enN (0 + i)→g[i]?=some y→b=.row z n r→ja9 E m b=some k→y.ownBlock=some k:=by
        rintro m b i z n r y h1 h2 rfl hk
        have hν:E.ν m=y:=by rw [h1];exact hBν i y h2
        simp only [ja9,hν] at hk
        exact hk
      rcases c1 with ⟨i,bl,c1,h1,h2,h3,_⟩ | ⟨i,z,n,r,y,h1,h2,h3,_⟩
      · have e1:=cell h1 h2 h3 hk
        rcases c2 with ⟨i',bl',c2,h1',h2',h3',_⟩ | ⟨i',z,n,r,y,h1',h2',h3',_⟩
        · have e2:=cell h1' h2' h3' hk'
          rcases Nat.lt_trichotomy i i' with q | q | q
          · exact js1 hA i i' bl bl' q h2 h2' (by omega)
          · subst q;exact hne (by rw [h1,h1'])
          · exact js1 hA i' i bl' bl q h2' h2 (by omega)
        · have e2:=row h1' h2' h3' hk'
          exact hOf k ⟨y,List.mem_of_getElem? h2',e2⟩ (by rw [← e1];exact List.mem_of_getElem? h2)
      · have e1:=row h1 h2 h3 hk
        rcases c2 with ⟨i',bl',c2,h1',h2',h3',_⟩ | ⟨i',z',n',r',y',h1',h2',h3',_⟩
        · have e2:=cell h1' h2' h3' hk'
          exact hOf k ⟨y,List.mem_of_getElem? h2,e1⟩ (by rw [← e2];exact List.mem_of_getElem? h2')
        · have e2:=row h1' h2' h3' hk'
          exact hap.get (fun e=>hne (by rw [h1,h1',e])) h2 h2' e1 e2
  have names:jd3 0 args=List.range' (PN + 0) bs.length:=j04 hA
  refine hev w.heap.size (fun k=>k∈bs∨Of g k) F B w _ _ (jy6 fn.ntmps args) _ w (Nat.le_refl _) (fun _=>rfl) (fun e s he=>?_) (fun B' hBB _ e s a w' R hbel hsz he=>?_) (R0 _ (by simp)) (jc3.refl _ _ _ _) (Nat.le_refl _) h
  · have at_ok:qp7 P fn.results.toList (jd3 0 args) V s→s.ok:=fun h=>by
      unfold qp7 at h
      split at h <;> try (exact h.elim)
      rename_i r ms u ms' _ _
      cases hd:distinct (ms ++ ms')
      · rw [hd] at h;exact h.elim
      · rw [hd] at h;exact h.1
    cases e with
    | normal=>exact at_ok he
    | ret=>exact at_ok he
    | exit id=>exact he.elim
  · have fin0:∀(a:Act) (w':World),Rel w.heap.size (fun k=>k∈bs∨Of g k) F B' s a w'→jc3 w.heap.size (fun k=>k∈bs∨Of g k) F w w'→qp7 P fn.results.toList (jd3 0 args) V s→
        ∃v,(results fn a.tmps).run P w'=.ok v w'∧∃v',Ending.returned v=.returned v'∧vy3 F w bs (Of g) V v' w':=fun a w' R hbel he=>by
      unfold qp7 at he
      split at he <;> try (exact he.elim)
      rename_i res ms upd ms' h1 h2
      cases hd:distinct (ms ++ ms')
      · rw [hd] at he;exact he.elim
      rw [hd,cond_true] at he
      obtain ⟨hok,hV⟩:=he
      obtain ⟨E,R⟩:=R
      obtain ⟨zs,r1,r2,r3⟩:=js7 (P:=P) R h1
      obtain ⟨u1,u3,u2⟩:=qd3 R h2
      have hmap:(jd3 0 args).map E.β=bs:=by
        rw [names]
        apply List.ext_getElem?
        intro i
        rw [List.getElem?_map]
        by_cases hi:i < bs.length
        · have hg:bs[i]?=some bs[i]:=List.getElem?_eq_getElem hi
          rw [List.getElem?_range' hi,hg]
          simp only [Option.map_some,Nat.one_mul]
          have hpin:=R.pin (PN + 0 + i) (Or.inl (by omega)) (by obtain ⟨c,hc⟩:=u2 (PN + 0 + i) (by rw [names];exact List.mem_range'_1.2 ⟨by omega,by omega⟩);rw [hc];rfl)
          have:=hB i _ hg
          rw [← Nat.add_assoc] at this
          rw [hpin.1,hBB _ (by have:=hi500 i _ hg;omega),this]
        · rw [List.getElem?_eq_none (by simpa using hi),List.getElem?_eq_none (by simpa using hi)];rfl
      have hcell:∀k∈bs,∃m c,s.mem m=some (.cells c)∧E.β m=k:=fun k hk=>by
        rw [← hmap] at hk
        obtain ⟨m,hm,e⟩:=List.mem_map.1 hk
        obtain ⟨c,hc⟩:=u2 m hm
        exact ⟨m,c,hc,e⟩
      have hrow:∀m∈ms ++ ms',∃z n r,s.mem m=some (.row z n r):=fun m hm=>(List.mem_append.1 hm).elim (r3 m) (u3 m)
      rw [hmap] at u1
      refine ⟨_,jn4 r1,_,rfl,res,upd,hV,hbel.toKeep,E.F,ms.map E.ν,ms'.map E.ν,R.sub,fun k hk=>⟨(R.frz k hk).1,?_⟩,vy2 r2,u1,?_,?_⟩
      · rcases (R.frz k hk).2 with h | h | h | h
        · exact Or.inl h
        · exact Or.inr (Or.inl h)
        · obtain ⟨m',c,h1,h2⟩:=hcell k h
          exact absurd (h2▸hk) (R.mem m' _ h1).2.2.1
        · exact Or.inr (Or.inr h)
      · rw [← List.map_append]
        refine List.pairwise_iff_getElem.2 fun i j hi hj hij k hk hk'=>?_
        rw [List.length_map] at hi hj
        rw [List.getElem_map] at hk hk'
        obtain ⟨z,n,r,e1⟩:=hrow _ (List.getElem_mem hi)
        obtain ⟨z',n',r',e2⟩:=hrow _ (List.getElem_mem hj)
        refine R.sep _ _ _ _ e1 e2 (fun e=>?_) k hk hk'
        have:=jt8 hd (i:=i) (j:=j) (List.getElem?_eq_getElem hi) (by rw [e];exact List.getElem?_eq_getElem hj)
        omega
      · rw [← List.map_append]
        rintro k ⟨y,hy,hk⟩
        obtain ⟨m,hm,rfl⟩:=List.mem_map.1 hy
        obtain ⟨z,n,r,e1⟩:=hrow m hm
        obtain ⟨_,_,_,_,e0,xs0,h4,_⟩:=R.mem m _ e1
        refine ⟨(h4.lt k hk).2,?_⟩
        rcases (h4.lt k hk).1 with h | h | h
        · exact Or.inl h
        · obtain ⟨m',c,h1,h2⟩:=hcell k h
          exact absurd hk (R.sep m' m _ _ h1 e1 (fun e=>by subst e;rw [h1] at e1;simp at e1) k (by simp [ja9,h2]))
        · exact Or.inr h
    have fin:qp7 P fn.results.toList (jd3 0 args) V s→bodyPostM Fence.wide 0 P fn (fun e w''=>∃v,e=.returned v∧vy3 F w bs (Of g) V v w'') .normal a w':=fun he =>
      jm0 a.defers a w' rfl R hbel fun a' w'' et R' hk'=>by
        have:=fin0 a' w'' R' hk' he
        rw [et] at this
        exact this
    cases e with
    | normal=>exact fin he
    | ret=>exact fin he
    | exit id=>exact he.elim
def jn5 (g g' fz:List Value):Prop:=∃nl:List Value,(g' ++ fz).Perm (g ++ nl)∧∀y∈nl,y.ownBlock=none
theorem zc6 {α:Type} {a1 a2 f1 f2 g1 g2 n1 n2:List α} (h1:(a1 ++ f1).Perm (g1 ++ n1)) (h2:(a2 ++ f2).Perm (g2 ++ n2)):((a1 ++ a2) ++ (f1 ++ f2)).Perm ((g1 ++ g2) ++ (n1 ++ n2)):=by
  have sw:∀(a b c d:List α),((a ++ b) ++ (c ++ d)).Perm ((a ++ c) ++ (b ++ d)):=fun a b c d=>by
    rw [List.append_assoc,List.append_assoc]
    refine List.Perm.append_left a ?_
    rw [← List.append_assoc,← List.append_assoc]
    exact List.Perm.append_right d List.perm_append_comm
  exact (sw a1 a2 f1 f2).trans ((h1.append h2).trans (sw g1 n1 g2 n2))
theorem jn5.app {g1 g1' f1 g2 g2' f2:List Value} (h:jn5 g1 g1' f1) (k:jn5 g2 g2' f2):jn5 (g1 ++ g2) (g1' ++ g2') (f1 ++ f2):=by
  obtain ⟨n1,p1,q1⟩:=h
  obtain ⟨n2,p2,q2⟩:=k
  exact ⟨n1 ++ n2,zc6 p1 p2,fun y hy=>(List.mem_append.1 hy).elim (q1 y) (q2 y)⟩
theorem jn5.of {g g' fz:List Value} (h:jn5 g g' fz) {k:Nat} (hk:Of g' k∨Of fz k):Of g k:=by
  obtain ⟨nl,p,q⟩:=h
  obtain ⟨y,hy,e⟩:=Of.app.2 hk
  rcases List.mem_append.1 (p.mem_iff.1 hy) with h | h
  · exact ⟨y,h,e⟩
  · rw [q y h] at e;simp at e
theorem jn5.apart {g g' fz:List Value} (h:jn5 g g' fz) (ha:Apart g):Apart (g' ++ fz):=by
  obtain ⟨nl,p,q⟩:=h
  unfold Apart at *
  refine (p.pairwise_iff (fun {a b} h k hk hk'=>h k hk' hk)).2 (List.pairwise_append.2 ⟨ha,?_,fun a _ b hb k _ hk=>by rw [q b hb] at hk;simp at hk⟩)
  refine List.pairwise_iff_getElem.2 fun i j hi hj _ k hk=>?_
  rw [q _ (List.getElem_mem hi)] at hk;simp at hk
section
variable {F:Nat→Prop} {w:World}
def eqG (c d:CV):Prop :=
  match c,d with
  | .fresh z n r,.slc z' n' r'=>EqC (.slc z n r) (.slc z' n' r')
  | .fresh z n r,.fresh z' n' r'=>EqC (.slc z n r) (.slc z' n' r')
  | .v a,.fresh z n _=>nilC a z n
  | c,d=>je1 c=[]∧je1 d=[]∧∀(F:Nat→Prop) (w:World) (y:Value),Rep F w c y→Rep F w d y
theorem yq2 {c d:CV} (h:EqC c d) (hc:je1 c=[]) (hd:je1 d=[]):eqG c d:=by
  unfold eqG
  split <;> first
    | (simp [je1] at hc;done)
    | (simp [je1] at hd;done)
    | exact ⟨hc,hd,fun F w y k=>Rep.eq h k⟩
theorem vh5 {c d:CV} (h:eqo c d):eqG c d:=by
  unfold eqG
  split
  · exact h
  · exact h
  · exact h
  · rename_i h1 h2 h3
    rcases jq7 c with hc | ⟨z,n,r,rfl⟩
    · rcases jq7 d with hd | ⟨z',n',r',rfl⟩
      · exact ⟨hc,hd,fun F w y k=>qo4 h hc hd k⟩
      · cases c with
        | v a=>exact absurd rfl (h3 a z' n' r' rfl)
        | fresh z n r=>simp [je1] at hc
        | slc z n r=>exact (show False from h).elim
        | own m n=>exact (show False from h).elim
        | ptr m off=>exact (show False from h).elim
        | fn g caps=>exact (show False from h).elim
        | clo g k=>exact (show False from h).elim
    · cases d with
      | slc z' n' r'=>exact absurd rfl (h1 z n r z' n' r' rfl)
      | fresh z' n' r'=>exact absurd rfl (h2 z n r z' n' r' rfl)
      | v x=>exact (show False from h).elim
      | own m n=>exact (show False from h).elim
      | ptr m off=>exact (show False from h).elim
      | fn g caps=>exact (show False from h).elim
      | clo g k=>exact (show False from h).elim
theorem vy4 {c d:CV} {y:Value} {g:List Value} (h:eqG c d) (k:OwnC F w c y g) :
    ∃g' fz,jn5 g g' fz∧∀F2:Nat→Prop,(∀k,F k→F2 k)→(∀k,Of fz k→F2 k)→(∀k,Of g' k→¬ F2 k)→OwnC F2 w d y g':=by
  unfold eqG at h
  split at h
  · rename_i z n r z' n' r'
    obtain ⟨rfl,hf⟩:=k
    exact ⟨[],[y],⟨[],List.Perm.refl _,by simp⟩,fun F2 hF hz _=>⟨rfl,Rep.eq h (hf.rep hF fun k hk=>hz k ⟨y,by simp,hk⟩)⟩⟩
  · rename_i z n r z' n' r'
    obtain ⟨rfl,hf⟩:=k
    cases h with
    | slc hcell =>
      refine ⟨[y],[],⟨[],List.Perm.refl _,by simp⟩,fun F2 hF _ hn=>?_⟩
      obtain ⟨f0,fz,fF,e,xs,fo,fr⟩:=hf
      refine ⟨rfl,f0,fz,fun k hk=>hn k ⟨y,by simp,hk⟩,e,xs,fo,fun i j hi hj=>?_⟩
      obtain ⟨u,e1,e2⟩:=fr i j hi hj
      exact ⟨u,e1,(Rep.eq (hcell i j hi hj) e2).mono hF (fun _ _=>rfl)⟩
  · rename_i a z' n' r'
    obtain ⟨rfl,hk⟩:=k
    obtain ⟨rfl,h1,rfl⟩:=q04 h
    cases hk
    exact ⟨[.slice none 0 0],[],⟨[.slice none 0 0],List.Perm.refl _,by simp [Value.ownBlock]⟩,fun F2 _ _ _=>⟨rfl,Int.le_refl 0,h1,(fun k hk=>by simp [Value.ownBlock] at hk),0,[],OwnB.nil,fun i j hi hj=>by omega⟩⟩
  · obtain ⟨hc,hd,h⟩:=h
    have hk:g=[]∧Rep F w c y:=by
      cases c with
      | fresh z n r=>simp [je1] at hc
      | _=>exact k
    obtain ⟨rfl,hk⟩:=hk
    exact ⟨[],[],⟨[],List.Perm.refl _,by simp⟩,fun F2 hF _ _=>OwnC.plain hd ((h F w y hk).mono hF (fun _ _=>rfl))⟩
theorem q19 {R:CV→CV→Prop} (H:∀{c d:CV},R c d→eqG c d):∀{l m:List CV} {ys g:List Value},allL R l m→OwnL F w l ys g→∃g' fz,jn5 g g' fz∧∀F2:Nat→Prop,(∀k,F k→F2 k)→(∀k,Of fz k→F2 k)→(∀k,Of g' k→¬ F2 k)→OwnL F2 w m ys g'
  | [],[],[],g,_,h=>by have h:g=[]:=h;subst h;exact ⟨[],[],⟨[],List.Perm.refl _,by simp⟩,fun _ _ _ _=>rfl⟩
  | c :: l,d :: m,y :: ys,g,h,⟨g1,g2,e,k1,k2⟩=>by
    subst e
    obtain ⟨a1,f1,s1,t1⟩:=vy4 (H h.1) k1
    obtain ⟨a2,f2,s2,t2⟩:=q19 H h.2 k2
    exact ⟨_,_,s1.app s2,fun F2 hF hz hn=>⟨a1,a2,rfl,t1 F2 hF (fun k hk=>hz k (Of.app.2 (Or.inl hk))) (fun k hk=>hn k (Of.app.2 (Or.inl hk))),t2 F2 hF (fun k hk=>hz k (Of.app.2 (Or.inr hk))) (fun k hk=>hn k (Of.app.2 (Or.inr hk)))⟩⟩
  | [],_ :: _,_,_,h,_=>h.elim
  | _ :: _,[],_,_,h,_=>h.elim
  | [],[],_ :: _,_,_,h=>h.elim
  | _ :: _,_ :: _,[],_,_,h=>h.elim
theorem q20:∀{l m:List CV},eqLo l m→allL eqo l m
  | [],[],_=>trivial
  | _ :: _,_ :: _,h=>⟨h.1,q20 h.2⟩
  | [],_ :: _,h=>h.elim
  | _ :: _,[],h=>h.elim
theorem vm0 {a b:XV} (h:eqX a b):allX eqo a b:=by
  cases a with
  | c a=>cases b with
    | c b=>exact h
    | agg m=>exact (show False from h).elim
  | agg l=>cases b with
    | c b=>exact (show False from h).elim
    | agg m=>exact q20 h
theorem vh6 {R:CV→CV→Prop} (H:∀{c d:CV},R c d→eqG c d) {x x':XV} {y:Value} {g:List Value} (h:allX R x x') (k:OwnX F w x y g):∃g' fz,jn5 g g' fz∧∀F2:Nat→Prop,(∀k,F k→F2 k)→(∀k,Of fz k→F2 k)→(∀k,Of g' k→¬ F2 k)→OwnX F2 w x' y g':=by
  unfold allX at h
  split at h
  · exact vy4 (H h) k
  · obtain ⟨ys,e,k⟩:=k
    obtain ⟨a,f,s,t⟩:=q19 H h k
    exact ⟨a,f,s,fun F2 hF hz hn=>⟨ys,e,t F2 hF hz hn⟩⟩
  · exact h.elim
theorem q21:∀{l m:List XV} {ys g:List Value},eqXs l m→jz0 F w l ys g→∃g' fz,jn5 g g' fz∧∀F2:Nat→Prop,(∀k,F k→F2 k)→(∀k,Of fz k→F2 k)→(∀k,Of g' k→¬ F2 k)→jz0 F2 w m ys g'
  | [],[],[],g,_,h=>by have h:g=[]:=h;subst h;exact ⟨[],[],⟨[],List.Perm.refl _,by simp⟩,fun _ _ _ _=>rfl⟩
  | c :: l,d :: m,y :: ys,g,h,⟨g1,g2,e,k1,k2⟩=>by
    subst e
    obtain ⟨a1,f1,s1,t1⟩:=vh6 vh5 (vm0 h.1) k1
    obtain ⟨a2,f2,s2,t2⟩:=q21 h.2 k2
    exact ⟨_,_,s1.app s2,fun F2 hF hz hn=>⟨a1,a2,rfl,t1 F2 hF (fun k hk=>hz k (Of.app.2 (Or.inl hk))) (fun k hk=>hn k (Of.app.2 (Or.inl hk))),t2 F2 hF (fun k hk=>hz k (Of.app.2 (Or.inr hk))) (fun k hk=>hn k (Of.app.2 (Or.inr hk)))⟩⟩
  | [],_ :: _,_,_,h,_=>h.elim
  | _ :: _,[],_,_,h,_=>h.elim
  | [],[],_ :: _,_,_,h=>h.elim
  | _ :: _,_ :: _,[],_,_,h=>h.elim
theorem vy5 {l m:List XV} {v:Value} {g:List Value} (h:eqXs l m) (k:jy2 F w l v g):∃g' fz,jn5 g g' fz∧∀F2:Nat→Prop,(∀k,F k→F2 k)→(∀k,Of fz k→F2 k)→(∀k,Of g' k→¬ F2 k)→jy2 F2 w m v g':=by
  match l,m,h,k with
  | [],[],h,⟨ys,e,k⟩ =>
    obtain ⟨a,f,s,t⟩:=q21 h k
    exact ⟨a,f,s,fun F2 hF hz hn=>⟨ys,e,t F2 hF hz hn⟩⟩
  | [x],[x'],h,k=>exact vh6 vh5 (vm0 h.1) k
  | x :: x2 :: l,x' :: x2' :: m,h,⟨ys,e,k⟩ =>
    obtain ⟨a,f,s,t⟩:=q21 h k
    exact ⟨a,f,s,fun F2 hF hz hn=>⟨ys,e,t F2 hF hz hn⟩⟩
  | [_],_ :: _ :: _,h,_=>exact h.2.elim
  | _ :: _ :: _,[_],h,_=>exact h.2.elim
theorem vm1:∀{bs:List Nat} {l m:List (List CV)} {g:List Value},eqUo l m→qf1 F w bs l g→∃g' fz,jn5 g g' fz∧∀F2:Nat→Prop,(∀k,F k→F2 k)→(∀k,Of fz k→F2 k)→(∀k,Of g' k→¬ F2 k)→qf1 F2 w bs m g'
  | [],[],[],g,_,h=>by have h:g=[]:=h;subst h;exact ⟨[],[],⟨[],List.Perm.refl _,by simp⟩,fun _ _ _ _=>rfl⟩
  | b :: bs,c :: l,d :: m,g,h,⟨g1,g2,e,⟨arr,t0,k0,k1⟩,k2⟩=>by
    subst e
    obtain ⟨a1,f1,s1,t1⟩:=q19 vh5 (q20 h.1) k1
    obtain ⟨a2,f2,s2,t2⟩:=vm1 h.2 k2
    exact ⟨_,_,s1.app s2,fun F2 hF hz hn=>⟨a1,a2,rfl,⟨arr,t0,k0,t1 F2 hF (fun k hk=>hz k (Of.app.2 (Or.inl hk))) (fun k hk=>hn k (Of.app.2 (Or.inl hk)))⟩,t2 F2 hF (fun k hk=>hz k (Of.app.2 (Or.inr hk))) (fun k hk=>hn k (Of.app.2 (Or.inr hk)))⟩⟩
  | [],_ :: _,_,_,_,k=>k.elim
  | _ :: _,[],_,_,_,k=>k.elim
  | [],[],_ :: _,_,h,_=>h.elim
  | _ :: _,_ :: _,[],_,h,_=>h.elim
def y62:AV→AV→Prop
  | .x a,.x b=>allX eqG a b
  | .ref o l,.ref o' m=>o=o'∧allL eqG l m
  | _,_=>False
def vy6:List AV→List AV→Prop
  | [],[]=>True
  | a :: l,b :: m=>y62 a b∧vy6 l m
  | _,_=>False
theorem qq1:∀{al al':List AV} {ys:List Value} {bs:List Nat} {g:List Value},vy6 al al'→jz2 F w al ys bs g→∃g' fz,jn5 g g' fz∧∀F2:Nat→Prop,(∀k,F k→F2 k)→(∀k,Of fz k→F2 k)→(∀k,Of g' k→¬ F2 k)→(∀b∈bs,¬ F2 b)→jz2 F2 w al' ys bs g'
  | [],[],[],bs,g,_,h=>by obtain ⟨rfl,rfl⟩:bs=[]∧g=[]:=h;exact ⟨[],[],⟨[],List.Perm.refl _,by simp⟩,fun _ _ _ _ _=>⟨rfl,rfl⟩⟩
  | .x a :: al,.x b :: al',y :: ys,bs,g,h,⟨g1,g2,e,k1,k2⟩=>by
    subst e
    obtain ⟨a1,f1,s1,t1⟩:=vh6 (fun h=>h) h.1 k1
    obtain ⟨a2,f2,s2,t2⟩:=qq1 h.2 k2
    exact ⟨_,_,s1.app s2,fun F2 hF hz hn hb=>⟨a1,a2,rfl,t1 F2 hF (fun k hk=>hz k (Of.app.2 (Or.inl hk))) (fun k hk=>hn k (Of.app.2 (Or.inl hk))),t2 F2 hF (fun k hk=>hz k (Of.app.2 (Or.inr hk))) (fun k hk=>hn k (Of.app.2 (Or.inr hk))) hb⟩⟩
  | .ref o l :: al,.ref o' m :: al',y :: ys,b :: bs,g,h,⟨h0,hF0,hnb,g1,g2,e,⟨arr,t0,k0,k1⟩,k2⟩=>by
    subst e
    obtain ⟨⟨rfl,h1⟩,h2⟩:=h
    obtain ⟨a1,f1,s1,t1⟩:=q19 (fun h=>h) h1 k1
    obtain ⟨a2,f2,s2,t2⟩:=qq1 h2 k2
    exact ⟨_,_,s1.app s2,fun F2 hF hz hn hb=>⟨h0,hb b (by simp),hnb,a1,a2,rfl,⟨arr,t0,k0,t1 F2 hF (fun k hk=>hz k (Of.app.2 (Or.inl hk))) (fun k hk=>hn k (Of.app.2 (Or.inl hk)))⟩,t2 F2 hF (fun k hk=>hz k (Of.app.2 (Or.inr hk))) (fun k hk=>hn k (Of.app.2 (Or.inr hk))) fun x hx=>hb x (by simp [hx])⟩⟩
  | [],_ :: _,_,_,_,h,_=>h.elim
  | _ :: _,[],_,_,_,h,_=>h.elim
  | .x _ :: _,.ref _ _ :: _,_,_,_,h,_=>h.1.elim
  | .ref _ _ :: _,.x _ :: _,_,_,_,h,_=>h.1.elim
  | [],[],_ :: _,_,_,_,h=>h.elim
  | .x _ :: _,.x _ :: _,[],_,_,_,h=>h.elim
  | .ref _ _ :: _,.ref _ _ :: _,[],_,_,_,h=>h.elim
  | .ref _ _ :: _,.ref _ _ :: _,_ :: _,[],_,_,h=>h.elim
theorem Frs.nF:∀{fr:List (Nat×Int×Row)} {g:List Value},Frs F w fr g→∀k,Of g k→¬ F k
  | [],[],_,k,⟨y,hy,_⟩=>by simp at hy
  | p :: fr,y :: g,⟨h1,h2⟩,k,⟨y',hy,e⟩=>by
    rcases List.mem_cons.1 hy with rfl | hy
    · exact h1.2.2.1 k e
    · exact Frs.nF h2 k ⟨y',hy,e⟩
  | [],_ :: _,h,_,_=>h.elim
  | _ :: _,[],h,_,_=>h.elim
end
theorem yh7 {F:Nat→Prop} {w:World} {args:List AV} {ys:List Value} {bs:List Nat} {g:List Value} (h:jz2 F w args ys bs g):(∀b∈bs,¬ F b)∧∀k,Of g k→¬ F k:=⟨fun b hb=>((jw8 h).1 b hb).2,fun k hk=>((jw8 h).2 k hk).2⟩
theorem vs6 {f:FuncId} {al al':List AV} {ans:Ans} (e:vy6 al al') (h:q86 P f al' ans):q86 P f al ans:=by
  intro w F ys bs g hG hF hA hap hOf
  obtain ⟨g',fz,sp,t⟩:=qq1 e hA
  obtain ⟨n1,n2⟩:=yh7 hA
  obtain ⟨_,b2⟩:=jw8 hA
  have hap':=sp.apart hap
  have hn:∀k,Of g' k→¬ (F k∨Of fz k):=by
    rintro k hk (h | h)
    · exact n2 k (sp.of (Or.inl hk)) h
    · obtain ⟨y,hy,e⟩:=hk
      obtain ⟨y',hy',e'⟩:=h
      exact (List.pairwise_append.1 hap').2.2 y hy y' hy' k e e'
  obtain ⟨r,C⟩:=h w (fun k=>F k∨Of fz k) ys bs g' (fun m l e hm=>by
      obtain ⟨h1,arr,t,h2,h3⟩:=hG m l e hm
      exact ⟨Or.inl h1,arr,t,h2,h3.mono fun _ _=>Rep.mono (fun k hk=>Or.inl hk) (fun _ _=>rfl)⟩)
    (fun k hk=>hk.elim (hF k) fun h=>(b2 k (sp.of (Or.inr h))).1)
    (t _ (fun k hk=>Or.inl hk) (fun k hk=>Or.inr hk) hn fun b hb=>by
      rintro (h | h)
      · exact n1 b hb h
      · exact hOf b (sp.of (Or.inr h)) hb)
    (List.pairwise_append.1 hap').1 (fun k hk=>hOf k (sp.of (Or.inl hk)))
  refine ⟨r,C.mono ?_⟩
  rintro e w' ⟨v,rfl,hk,F',g1,g2,f1,f2,f3,f4,f5,f6⟩
  have gg:∀k,Of g' k→Of g k:=fun k hk=>sp.of (Or.inl hk)
  refine ⟨v,rfl,⟨hk.os,hk.tape,hk.output,hk.size,fun k h1 h2=>hk.block k h1 fun h=>h2 (h.imp (fun h=>h) (gg k))⟩,F',g1,g2,fun k hk=>f1 k (Or.inl hk),fun k hk=>⟨(f2 k hk).1,?_⟩,f3,f4,f5,fun k hk=>(f6 k hk).imp (fun h=>h) (gg k)⟩
  rcases (f2 k hk).2 with (h | h) | h | h
  · exact Or.inl h
  · exact Or.inr (Or.inr (sp.of (Or.inr h)))
  · exact Or.inr (Or.inl h)
  · exact Or.inr (Or.inr (gg k h))
theorem vy3.post {F:Nat→Prop} {w:World} {bs:List Nat} {G:Nat→Prop} {ans:Ans} {v:Value} {w':World} (h:vy3 F w bs G (vl9 ans) v w'):yf8 F w bs G ans v w':=by
  obtain ⟨res,upd,⟨h1,h2⟩,hk,F',g1,g2,hF1,hF2,hr,hu,hap,hnew⟩:=h
  obtain ⟨a1,f1,s1,t1⟩:=vy5 h1 hr
  obtain ⟨a2,f2,s2,t2⟩:=vm1 h2 hu
  have sp:=s1.app s2
  have hap':=sp.apart hap
  have hnF:∀k,Of (g1 ++ g2) k→¬ F' k:=fun k hk=>(Of.app.1 hk).elim (hr.frs.nF k) (hu.frs.nF k)
  have hn:∀k,Of (a1 ++ a2) k→¬ (F' k∨Of (f1 ++ f2) k):=by
    rintro k hk (h | h)
    · exact hnF k (sp.of (Or.inl hk)) h
    · obtain ⟨y,hy,e⟩:=hk
      obtain ⟨y',hy',e'⟩:=h
      exact (List.pairwise_append.1 hap').2.2 y hy y' hy' k e e'
  refine ⟨hk,fun k=>F' k∨Of (f1 ++ f2) k,a1,a2,fun k hk=>Or.inl (hF1 k hk),fun k hk=>?_,t1 _ (fun k hk=>Or.inl hk) (fun k hk=>Or.inr (Of.app.2 (Or.inl hk))) (fun k hk=>hn k (Of.app.2 (Or.inl hk))),t2 _ (fun k hk=>Or.inl hk) (fun k hk=>Or.inr (Of.app.2 (Or.inr hk))) (fun k hk=>hn k (Of.app.2 (Or.inr hk))),(List.pairwise_append.1 hap').1,fun k hk=>(hnew k (sp.of (Or.inl hk))).2⟩
  rcases hk with hk | hk
  · exact hF2 k hk
  · have:=hnew k (sp.of (Or.inr hk))
    exact ⟨this.1,Or.inr this.2⟩
theorem qu2 {f:FuncId} {fn:Func} (hf:P.funcs[f]?=some fn) (hn:(fn.name == "runtime.NumGoroutine")=false) (hb:fn.body=some (fn.body.getD .skip)) {args:List AV} {ans:Ans}
    {ev:(Ex→PSt→Prop)→PSt→Prop} (hev:EvT 500 P (fn.body.getD .skip) ev) (h:ev (endG P fn.results.toList (jd3 0 args) (vl9 ans)) (jy6 fn.ntmps args)) (hlen:Nat.ble args.length 250=true∧Nat.ble (frsA args).length 250=true:=by exact ⟨rfl,rfl⟩):q86 P f args ans:=by
  intro w F ys bs g hG hF hA hap hOf
  refine ⟨jw1 hf hn hb _ w,(qj3 hf hb ⟨jy3 hlen.1,jy3 hlen.2⟩ hev h hG hF hA hap hOf).mono ?_⟩
  rintro e w' ⟨v,rfl,hd⟩
  exact ⟨v,rfl,hd.post⟩
theorem q25 (hO:je9 P O) (hm:P.follows .mixedOrders=true) (L:Nat→Option Ann) {f:FuncId} {fn:Func} (hf:P.funcs[f]?=some fn) (hn:(fn.name == "runtime.NumGoroutine")=false) (hb:fn.body=some (fn.body.getD .skip)) {args:List AV} {ans:Ans}
    (h:vc0 P O L (fn.body.getD .skip) fn.results.toList fn.ntmps args (vl9 ans)) (hlen:Nat.ble args.length 250=true∧Nat.ble (frsA args).length 250=true:=by exact ⟨rfl,rfl⟩):q86 P f args ans :=
  qu2 hf hn hb (ju9 hO hm L 500 _) h hlen
def vm2 (P:Program) (f:Nat) (s:List AV→Option Ans):Prop:=∀al ans,s al=some ans→(∀q∈ans.ask,q)→q86 P f al ans
theorem qd4 {f n:Nat} {m:List Bool} {g:List AV→Option Ans} {l:List (Nat×(List AV→Option Ans))} (h:vm2 P f g) (k:je9 P (orc l)) (hf:Nat.blt f jh7=true:=by kernel_rfl) (hn:Nat.beq n (jh7 + f)=true:=by kernel_rfl) (hl:noF f l=true:=by kernel_rfl):je9 P (orc ((f,g) :: (n,jt7 m) :: l)):=by
  have hf:f < jh7:=by simpa using hf
  obtain rfl:=Nat.eq_of_beq_eq_true hn
  have hne:jh7 + f≠f:=by unfold jh7;omega
  intro h' al ans e hq
  have e0:orc ((f,g) :: (jh7 + f,jt7 m) :: l) h' al=bif Nat.beq h' f then g al else bif Nat.beq h' (jh7 + f) then jt7 m al else orc l h' al:=rfl
  rw [e0] at e
  by_cases h1:h'=f
  · subst h1
    rw [Nat.beq_refl,cond_true] at e
    refine Or.inl ⟨?_,h al ans e hq⟩
    unfold gives
    have:orc ((h',g) :: (jh7 + h',jt7 m) :: l) (jh7 + h') []=jt7 m []:=by
      show (bif Nat.beq (jh7 + h') h' then g [] else bif Nat.beq (jh7 + h') (jh7 + h') then jt7 m [] else orc l (jh7 + h') [])=_
      rw [qb7 hne,Nat.beq_refl];rfl
    rw [this];rfl
  · rw [qb7 h1,cond_false] at e
    by_cases h2:h'=jh7 + f
    · rw [h2,Nat.beq_refl,cond_true] at e
      simp only [jt7,Option.some.injEq] at e
      subst e
      exact (hq False (by simp)).elim
    · rw [qb7 h2,cond_false] at e
      have eg:gives (orc ((f,g) :: (jh7 + f,jt7 m) :: l)) h'=gives (orc l) h':=by
        rw [j02 (show jh7 + h'≠f by unfold jh7 at *;omega),j02 (fun e=>h1 (Nat.add_left_cancel e))]
      rw [eg]
      exact k h' al ans e hq
end
end Go.Proofs.YthkidembkknoeaaDoor.QR
namespace Go.Proofs.YthkidembkknoeaaDoor
open Go.RowKit PR QR
set_option linter.unusedVariables false
def vy7 (f:Nat) (s:List AV→Option QR.Ans):Prop:=QR.vm2 Tryd.prog f s
def ja6 (f:Nat) (s:List AV→Option QR.Ans):Prop:=QR.qk3 Tryd.prog f s
theorem up {f:Nat} {s:List Value→Option (Value×List Bool)} (h:vt9 f s):ja6 f (jx6 s):=vh4 h
def Asked:List Prop→Prop
  | []=>True
  | p :: l=>p∧Asked l
theorem asked:∀{l:List Prop},(∀q∈l,q)→Asked l
  | [],_=>trivial
  | p :: l,h=>⟨h p (by simp),asked fun q hq=>h q (by simp [hq])⟩
theorem qi5 {F:Nat→Prop} {w:World}:∀{vs:List Value} {xs:List XV},ofVs vs=some xs→je2 F w (xs.map AV.x) vs []
  | [],xs,h=>by simp only [ofVs,Option.some.injEq] at h;subst h;rfl
  | v :: vs,xs,h=>by
    unfold ofVs at h
    split at h <;> try (simp at h;done)
    rename_i x m h1 h2
    simp only [Option.some.injEq] at h
    subst h
    exact ⟨q18 h1,qi5 h2⟩
theorem vh7 {O:QR.ja7} (hO:QR.je9 Tryd.prog O) (hm:Tryd.prog.follows .mixedOrders=true) (L:Nat→Option QR.Ann) {f:FuncId} {fn:Func} (hf:Tryd.prog.funcs[f]?=some fn) (hb:fn.body=some (fn.body.getD .skip)) {vs:List Value} {xs:List XV} {args:List AV} (hv:ofVs vs=some xs) (ha:args=xs.map AV.x) (hl:args.length≤500)
    (h:QR.ja5 Tryd.prog O L (fn.body.getD .skip) fn.results.toList fn.ntmps args (jb5 ⟨[.c (.v (.bool true))],[],[]⟩)) (w:World) {F:Nat→Prop} (hG:Laid F w) (hF:∀k,F k→k < w.heap.size) :
    Calls Tryd.prog f vs.toArray w fun e w'=>e=.returned (.bool true)∧Below w.heap.size w w':=by
  subst ha
  refine (QR.jy5 hO hm hf hb hl h hG hF (qi5 hv)).mono ?_
  rintro e w' ⟨v,rfl,res,upd,⟨h1,h2⟩,hl,hk,F',f',f1,f2,fb,f3,f4⟩
  have:v=.bool true:=by
    rcases q05 h1 hl (by decide) f3 with ⟨g,_⟩ | g
    · have g:Rep _ w' (.v (.bool true)) v:=g
      cases g;rfl
    · have g:Rep _ w' (.v (.bool true)) v:=g
      cases g;rfl
  subst this
  exact ⟨rfl,⟨hk.os,hk.tape,hk.output,hk.size,fun k hk'=>hk.block k hk' (by simp)⟩⟩
end Go.Proofs.YthkidembkknoeaaDoor
namespace Go.Proofs.YthkidembkknoeaaDoor
open Go.RowKit PR QR
set_option linter.unusedVariables false
theorem yh8 {P:Program} {W:World} {base:Nat} {sp:Nat→Bool} {held:Bool} {fuel:Nat} {t:TypeId} {cs:List Value} {x:DataW Unit×List MemPlace} {k:FloatKind} (ht:P.underlying t=some (.float k)) (h:DataW.trod (fun _=>()) P W base sp held fuel t cs=some x):∃b,cs=[.float k b]∧x=(.lit (.float k b),[]):=by
  cases fuel with
  | zero=>simp [DataW.trod] at h
  | succ n =>
    unfold DataW.trod at h
    rw [ht] at h
    split at h <;> simp_all
def vc1 (P:Program):Nat→TypeId→DataW Unit→List Value→Bool
  | 0,_,_,_=>false
  | k + 1,t,d,l =>
    match P.underlying t,d with
    | some .bool,.lit (.bool b)=>(match l with | [.bool c]=>b == c | _=>false)
    | some (.int q),.lit (.int q' n)=>(match l with | [.int q2 m]=>decide (q'=q) && decide (q2=q) && n == m | _=>false)
    | some (.float q),.lit (.float q' n)=>(match l with | [.float q2 m]=>decide (q'=q) && decide (q2=q) && decide (n=m) | _=>false)
    | some .string,.lit (.string s)=>(match l with | [.string b]=>b.data.toList == s | _=>false)
    | some (.struct fs),.agg ds=>Nat.beq l.length (P.cellsOf t) && Nat.beq ds.length fs.size &&
        ((List.range fs.size).all fun i=>match fs[i]?,ds[i]? with | some f,some d=>vc1 P k f.type d ((l.drop f.offset).take (P.cellsOf f.type)) | _,_=>false) &&
        ((List.range l.length).all fun p=>(List.range fs.size).any fun i=>match fs[i]? with | some f=>Nat.ble f.offset p && Nat.blt p (f.offset + P.cellsOf f.type) | none=>false)
    | some (.array n e),.agg ds=>Nat.beq l.length (P.cellsOf t) && Nat.beq (n * P.cellsOf e) (P.cellsOf t) && Nat.beq ds.length n &&
        ((List.range n).all fun i=>match ds[i]? with | some d=>vc1 P k e d ((l.drop (i * P.cellsOf e)).take (P.cellsOf e)) | none=>false)
    | _,_=>false
theorem vc2 {l m:List Value} {o z p:Nat} (h:(l.drop o).take z=(m.drop o).take z) (h1:o≤p) (h2:p < o + z):l[p]?=m[p]?:=by
  have:=congrArg (fun x=>x[p - o]?) h
  simp only [List.getElem?_take,List.getElem?_drop] at this
  rw [if_pos (by omega),if_pos (by omega),show o + (p - o)=p by omega] at this
  exact this
theorem vy8 {xs:List (DataW Unit×List MemPlace)} {ds:List (DataW Unit)} (h:ds=xs.map (·.1)) {i:Nat} {d:DataW Unit} (hd:ds[i]?=some d):∃x,xs[i]?=some x∧x.1=d:=by
  rw [h,List.getElem?_map] at hd
  cases hx:xs[i]? with
  | none=>rw [hx] at hd;simp at hd
  | some x=>rw [hx] at hd;exact ⟨x,rfl,by simpa using hd⟩
theorem qk4 {P:Program} {W:World} {base:Nat} {sp:Nat→Bool} {held:Bool}:∀(k:Nat) {fuel:Nat} {t:TypeId} {cs l:List Value} {d:DataW Unit} {p:List MemPlace},
    DataW.trod (fun _=>()) P W base sp held fuel t cs=some (d,p)→vc1 P k t d l=true→cs=l
  | 0,_,_,_,_,_,_,_,hf=>by simp [vc1] at hf
  | k + 1,fuel,t,cs,l,d,p,h,hf=>by
    unfold vc1 at hf
    split at hf <;> try (simp at hf;done)
    · rename_i ht
      obtain ⟨b,rfl,hx⟩:=DataW.trod_bool ht h
      simp only [Prod.mk.injEq,DataW.lit.injEq,Lit.bool.injEq] at hx
      split at hf <;> simp_all
    · rename_i ht
      obtain ⟨b,rfl,hx,_⟩:=DataW.trod_int ht h
      simp only [Prod.mk.injEq,DataW.lit.injEq,Lit.int.injEq] at hx
      split at hf <;> simp_all
    · rename_i ht
      obtain ⟨b,rfl,hx⟩:=yh8 ht h
      simp only [Prod.mk.injEq,DataW.lit.injEq,Lit.float.injEq] at hx
      split at hf <;> simp_all
    · rename_i ht
      obtain ⟨b,rfl,hx,_⟩:=DataW.trod_string ht h
      simp only [Prod.mk.injEq,DataW.lit.injEq,Lit.string.injEq] at hx
      split at hf
      · rename_i c
        have e:c.data.toList=b.data.toList:=by simpa [hx.1] using hf
        have e2:c=b:=by
          cases c with | mk c=>cases b with | mk b=>cases c;cases b;simp_all
        rw [e2]
      · simp at hf
    · rename_i fs ds ht
      simp only [Bool.and_eq_true,List.all_eq_true,List.any_eq_true,List.mem_range] at hf
      obtain ⟨⟨⟨h1,h2⟩,h3⟩,h4⟩:=hf
      have h1:=Nat.eq_of_beq_eq_true h1
      obtain ⟨xs,m,rfl,ex,hl,hxs,hel⟩:=DataW.trod_struct ht h
      simp only [Prod.mk.injEq,DataW.agg.injEq] at ex
      apply List.ext_getElem?
      intro q
      by_cases hq:q < l.length
      · obtain ⟨i,hi,hp⟩:=h4 q hq
        have hp2:=h3 i hi
        split at hp <;> try (simp at hp;done)
        rename_i f hf
        simp only [Bool.and_eq_true] at hp
        have o1:=Nat.le_of_ble_eq_true hp.1
        have o2:q < f.offset + P.cellsOf f.type:=Nat.le_of_ble_eq_true hp.2
        rw [hf] at hp2
        split at hp2 <;> try (simp at hp2;done)
        rename_i f' d' e1 e2
        obtain rfl:=Option.some.inj e1
        obtain ⟨x,hx1,hx2⟩:=vy8 ex.1 e2
        have:=hel i _ hf
        rw [hx1] at this
        exact vc2 (qk4 k (by rw [this,← hx2]) hp2) o1 o2
      · rw [List.getElem?_eq_none (by omega),List.getElem?_eq_none (by omega)]
    · rename_i n e ds ht
      simp only [Bool.and_eq_true,List.all_eq_true,List.mem_range] at hf
      obtain ⟨⟨⟨h1,h2⟩,h3⟩,h4⟩:=hf
      have h1:=Nat.eq_of_beq_eq_true h1
      have h2:=Nat.eq_of_beq_eq_true h2
      obtain ⟨xs,m,rfl,ex,hl,hxs,hel⟩:=DataW.trod_array ht h
      simp only [Prod.mk.injEq,DataW.agg.injEq] at ex
      apply List.ext_getElem?
      intro q
      by_cases hq:q < l.length
      · have hz:0 < P.cellsOf e:=by
          rcases Nat.eq_zero_or_pos (P.cellsOf e) with h0 | h0
          · rw [h0] at h2;omega
          · exact h0
        have hi:q / P.cellsOf e < n:=Nat.div_lt_of_lt_mul (by rw [Nat.mul_comm];omega)
        have hp2:=h4 _ hi
        have o1:q / P.cellsOf e * P.cellsOf e≤q:=Nat.div_mul_le_self _ _
        have o2:q < q / P.cellsOf e * P.cellsOf e + P.cellsOf e:=by
          have:=Nat.lt_div_mul_add hz (a:=q);exact this
        split at hp2 <;> try (simp at hp2;done)
        rename_i d' e2
        obtain ⟨x,hx1,hx2⟩:=vy8 ex.1 e2
        have:=hel _ hi
        rw [hx1] at this
        exact vc2 (qk4 k (by rw [this,← hx2]) hp2) o1 o2
      · rw [List.getElem?_eq_none (by omega),List.getElem?_eq_none (by omega)]
theorem qq3 {F:Nat→Prop} {W:World}:∀l:List Value,(l.all jh0)=true→Fa2 (Rep F W) (l.map CV.v) l
  | [],_=>trivial
  | v :: l,h=>by
    simp only [List.all_cons,Bool.and_eq_true] at h
    exact ⟨.v h.1,qq3 l h.2⟩
theorem qw2 {P:Program} {W:World} {nm:String} {g:Nat} {cs:Array Value} {ps:List MemPlace} (hg:P.globalNamed nm=some g) (hv:W.var? P nm=some cs) (h0:0 < cs.size)
    (hin:∀x∈MemPlace.row ⟨g,0,none⟩ cs.size,x∈ps) (hz:∀b off,MemPlace.cell b off∈ps→(∃c t,W.heap[b]?=some (.cells c t (0,0)))∧∀u v,W.cell? ⟨b,off,none⟩=some (.iface u v)→Value.okWide P W .any 0 u v) :
    ∃t,W.heap[g]?=some (.cells cs t (0,0)):=by
  obtain ⟨⟨c,t,e⟩,_⟩:=hz g 0 (hin _ (MemPlace.mem_row.2 ⟨0,h0,rfl⟩))
  unfold World.var? at hv
  rw [hg] at hv
  simp only [Option.bind_some,e,Option.some.injEq] at hv
  subst hv
  exact ⟨t,e⟩
theorem lt_of_block {W:World} {g:Nat} {c:Array Value} {t:TypeId} {m:Nat×Nat} (h:W.heap[g]?=some (.cells c t m)):g < W.heap.size:=(Array.getElem?_eq_some_iff.1 h).1
theorem qq4 {W:World} (h:laidMetH Tryd.prog [("compositor/operator.table",Rows.laid_compositor_operator_table),("compositor/blend.names",Rows.laid_compositor_blend_names)] W):∃F,Laid F W∧∀k,F k→k < W.heap.size:=by
  rw [MakeChecks.laidMetH_plain _ _ _ (by kernel_rfl)] at h
  obtain ⟨ps,⟨g0,t0,cs0,f0,p0,q0,hg0,ht0,hv0,hd0,⟨g1,t1,cs1,f1,p1,q1,hg1,ht1,hv1,hd1,R,hps1⟩,hps0⟩,_,hz⟩:=h
  obtain rfl:=Option.some.inj ((show Tryd.prog.globalNamed "compositor/operator.table"=some 0 by kernel_rfl).symm.trans hg0)
  obtain rfl:=Option.some.inj ((show (Tryd.prog.globals[0]?).map (·.type)=some 119 by kernel_rfl).symm.trans ht0)
  have hc0:=qk4 8 (l:=[.string (bs []),.int .i64 0,.int .i64 0,.int .i64 0,.bool false,.bool false,.string (bs [99,108,101,97,114]),.int .i64 0,.int .i64 0,.int .i64 0,.bool false,.bool false,.string (bs [115,114,99]),.int .i64 1,.int .i64 0,.int .i64 1,.bool false,.bool true,.string (bs [100,115,116]),.int .i64 0,.int .i64 1,.int .i64 2,.bool true,.bool false,.string (bs [115,114,99,45,111,118,101,114]),.int .i64 1,.int .i64 3,.int .i64 3,.bool true,.bool true,.string (bs [100,115,116,45,111,118,101,114]),.int .i64 3,.int .i64 1,.int .i64 3,.bool true,.bool true,.string (bs [115,114,99,45,105,110]),.int .i64 2,.int .i64 0,.int .i64 4,.bool false,.bool false,.string (bs [100,115,116,45,105,110]),.int .i64 0,.int .i64 2,.int .i64 4,.bool false,.bool false,.string (bs [115,114,99,45,111,117,116]),.int .i64 3,.int .i64 0,.int .i64 1,.bool false,.bool true,.string (bs [100,115,116,45,111,117,116]),.int .i64 0,.int .i64 3,.int .i64 2,.bool true,.bool false,.string (bs [115,114,99,45,97,116,111,112]),.int .i64 2,.int .i64 3,.int .i64 2,.bool true,.bool false,.string (bs [100,115,116,45,97,116,111,112]),.int .i64 3,.int .i64 2,.int .i64 1,.bool false,.bool true,.string (bs [120,111,114]),.int .i64 3,.int .i64 3,.int .i64 3,.bool true,.bool true]) hd0 (by kernel_rfl)
  obtain ⟨y0,hb0⟩:=qw2 hg0 hv0 (by rw [← Array.length_toList,hc0];simp) (by intro x hx;subst_vars;simp only [List.mem_append];simp [hx]) hz
  obtain rfl:=Option.some.inj ((show Tryd.prog.globalNamed "compositor/blend.names"=some 1 by kernel_rfl).symm.trans hg1)
  obtain rfl:=Option.some.inj ((show (Tryd.prog.globals[1]?).map (·.type)=some 120 by kernel_rfl).symm.trans ht1)
  have hc1:=qk4 8 (l:=[.string (bs []),.string (bs [110,111,114,109,97,108]),.string (bs [109,117,108,116,105,112,108,121]),.string (bs [115,99,114,101,101,110]),.string (bs [111,118,101,114,108,97,121]),.string (bs [100,97,114,107,101,110]),.string (bs [108,105,103,104,116,101,110]),.string (bs [99,111,108,111,114,45,100,111,100,103,101]),.string (bs [99,111,108,111,114,45,98,117,114,110]),.string (bs [104,97,114,100,45,108,105,103,104,116]),.string (bs [115,111,102,116,45,108,105,103,104,116]),.string (bs [100,105,102,102,101,114,101,110,99,101]),.string (bs [101,120,99,108,117,115,105,111,110])]) hd1 (by kernel_rfl)
  obtain ⟨y1,hb1⟩:=qw2 hg1 hv1 (by rw [← Array.length_toList,hc1];simp) (by intro x hx;subst_vars;simp only [List.mem_append];simp [hx]) hz
  refine ⟨fun k=>k=0∨k=1,fun m l hg hm=>?_,fun k hk=>?_⟩
  · by_cases c0:m=GB + 0
    · subst c0
      obtain rfl:_=l:=Option.some.inj hg
      refine ⟨by simp,cs0,y0,by rw [Nat.add_sub_cancel_left];exact hb0,?_⟩
      rw [hc0]
      exact qq3 [.string (bs []),.int .i64 0,.int .i64 0,.int .i64 0,.bool false,.bool false,.string (bs [99,108,101,97,114]),.int .i64 0,.int .i64 0,.int .i64 0,.bool false,.bool false,.string (bs [115,114,99]),.int .i64 1,.int .i64 0,.int .i64 1,.bool false,.bool true,.string (bs [100,115,116]),.int .i64 0,.int .i64 1,.int .i64 2,.bool true,.bool false,.string (bs [115,114,99,45,111,118,101,114]),.int .i64 1,.int .i64 3,.int .i64 3,.bool true,.bool true,.string (bs [100,115,116,45,111,118,101,114]),.int .i64 3,.int .i64 1,.int .i64 3,.bool true,.bool true,.string (bs [115,114,99,45,105,110]),.int .i64 2,.int .i64 0,.int .i64 4,.bool false,.bool false,.string (bs [100,115,116,45,105,110]),.int .i64 0,.int .i64 2,.int .i64 4,.bool false,.bool false,.string (bs [115,114,99,45,111,117,116]),.int .i64 3,.int .i64 0,.int .i64 1,.bool false,.bool true,.string (bs [100,115,116,45,111,117,116]),.int .i64 0,.int .i64 3,.int .i64 2,.bool true,.bool false,.string (bs [115,114,99,45,97,116,111,112]),.int .i64 2,.int .i64 3,.int .i64 2,.bool true,.bool false,.string (bs [100,115,116,45,97,116,111,112]),.int .i64 3,.int .i64 2,.int .i64 1,.bool false,.bool true,.string (bs [120,111,114]),.int .i64 3,.int .i64 3,.int .i64 3,.bool true,.bool true] (by kernel_rfl)
    by_cases c1:m=GB + 1
    · subst c1
      obtain rfl:_=l:=Option.some.inj hg
      refine ⟨by simp,cs1,y1,by rw [Nat.add_sub_cancel_left];exact hb1,?_⟩
      rw [hc1]
      exact qq3 [.string (bs []),.string (bs [110,111,114,109,97,108]),.string (bs [109,117,108,116,105,112,108,121]),.string (bs [115,99,114,101,101,110]),.string (bs [111,118,101,114,108,97,121]),.string (bs [100,97,114,107,101,110]),.string (bs [108,105,103,104,116,101,110]),.string (bs [99,111,108,111,114,45,100,111,100,103,101]),.string (bs [99,111,108,111,114,45,98,117,114,110]),.string (bs [104,97,114,100,45,108,105,103,104,116]),.string (bs [115,111,102,116,45,108,105,103,104,116]),.string (bs [100,105,102,102,101,114,101,110,99,101]),.string (bs [101,120,99,108,117,115,105,111,110])] (by kernel_rfl)
    · exfalso
      have d0:Nat.beq m (GB + 0)=false:=by cases hh:Nat.beq m (GB + 0) with | false=>rfl | true=>exact absurd (Nat.eq_of_beq_eq_true hh) c0
      have d1:Nat.beq m (GB + 1)=false:=by cases hh:Nat.beq m (GB + 1) with | false=>rfl | true=>exact absurd (Nat.eq_of_beq_eq_true hh) c1
      unfold gtab at hg
      simp only [d0,d1,cond_false] at hg
      exact absurd hg (by simp)
  · rcases hk with rfl | rfl
    · exact lt_of_block hb0
    · exact lt_of_block hb1
end Go.Proofs.YthkidembkknoeaaDoor
