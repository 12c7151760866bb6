import Derived.Test.YthkidembkknoeaaDoorPk02
import Derived.Laws.MakeOwn
import Derived.Lib.AppendStr
import Derived.Laws.IdiomCopy
import Derived.Laws.BytesString
import Derived.Lib.ConvBytes
import Derived.Test.YthkidembkknoeaaDoorPk04
namespace Go.Proofs.YthkidembkknoeaaDoor.QR
open Go.RowKit PR
set_option linter.unusedVariables false
set_option linter.unusedSimpArgs false
def Delta.conf (d e:Delta):Bool :=
  d.up.any (fun p=>e.rd.any (Nat.beq p.1) || e.up.any fun q=>Nat.beq p.1 q.1) || e.up.any fun p=>d.rd.any (Nat.beq p.1)
def yg5 (lits:List Tmp):Operand→Bool
  | .tmp t=>lits.any (Nat.beq t)
  | .const _=>true
  | _=>false
def yt5 (s:PSt) (lits:List Tmp) (o:Oper):Bool :=
  match o.op with
  | .move x | .assign x=>yg5 lits x
  | .pick c a b=>match valOf s c with
    | .x (.c (.v (.bool true)))=>yg5 lits a
    | .x (.c (.v (.bool false)))=>yg5 lits b
    | _=>false
  | _=>false
def yg6:List CV→(List CV→Prop)→Prop
  | [],k=>k []
  | .v (.int kd n) :: l,k=>∀i:Int,i=n→yg6 l fun l'=>k (.v (.int kd i) :: l')
  | c :: l,k=>yg6 l fun l'=>k (c :: l')
def yg7:XV→(XV→Prop)→Prop
  | .c (.v (.int kd n)),k=>∀i:Int,i=n→k (.c (.v (.int kd i)))
  | .c c,k=>k (.c c)
  | .agg l,k=>bif Nat.ble 20 l.length then k (.agg l) else yg6 l fun l'=>k (.agg l')
def vk9:List XV→(List XV→Prop)→Prop
  | [],k=>k []
  | v :: l,k=>yg7 v fun v'=>vk9 l fun l'=>k (v' :: l')
def yt6:SV→(SV→Prop)→Prop
  | .x v,k=>yg7 v fun v'=>k (.x v')
  | .tup l,k=>vk9 l fun l'=>k (.tup l')
  | v,k=>k v
def ixOf (P:Program) (ops:List Oper) (s:PSt) (o:Oper):Option (IntKind×Int×Nat) :=
  bif y47 (guardOf s ops o) then match o.op with
    | .index t _ i | .indexAddr t _ i=>match jy1 (valOf s i),P.underlying t with
      | some (k,m),some (.array len _)=>bif (operand s i).k then some (k,m,len) else none
      | _,_=>none
    | _=>none
  else none
def jo4 (P:Program) (O:ja7) (ops:List Oper) (src:List Nat) (nm:Nat):Nat→List Oper→PSt→List Delta→List Tmp→(PSt→List Delta→Prop)→Prop
  | _,[],s,ds,lits,k=>k ⟨s.tmps,s.mem,s.ok,lits,s.gen⟩ ds.reverse
  | i,o :: rest,s,ds,lits,k=>match ixOf P ops s o with
    | some (kd,m,len)=>vj9 m 0 len fun j=>match stepD P O ops (nm + i) (qh1 o kd j) s with
      | none=>False
      | some d=>jo4 P O ops src nm (i + 1) rest (jg8 o.dst d s) (d :: ds) (qu6 lits o.dst false) k
    | none=>match stepD P O ops (nm + i) o s with
      | none=>False
      | some d=>if src.any (Nat.beq i) && !yt5 s lits o then
          match d.g.v with
          | .x (.c (.v (.bool x)))=>ja0 x (jo4 P O ops src nm (i + 1) rest (jg8 o.dst ⟨gnow (vS (.bool true)),d.up,d.ok,d.rd⟩ s) (⟨gnow (vS (.bool true)),d.up,d.ok,d.rd⟩ :: ds) (qu6 lits o.dst true) k)
              (jo4 P O ops src nm (i + 1) rest (jg8 o.dst ⟨gnow (vS (.bool false)),d.up,d.ok,d.rd⟩ s) (⟨gnow (vS (.bool false)),d.up,d.ok,d.rd⟩ :: ds) (qu6 lits o.dst true) k)
          | .tup _=>jo4 P O ops src nm (i + 1) rest (jg8 o.dst d s) (d :: ds) (qu6 lits o.dst false) k
          | _=>False
        else bif yo8 o then yt6 d.g.v fun v=>jo4 P O ops src nm (i + 1) rest (jg8 o.dst ⟨⟨d.g.k,v⟩,d.up,d.ok,d.rd⟩ s) (⟨⟨d.g.k,v⟩,d.up,d.ok,d.rd⟩ :: ds) (qu6 lits o.dst (yt5 s lits o)) k
        else jo4 P O ops src nm (i + 1) rest (jg8 o.dst d s) (d :: ds) (qu6 lits o.dst (yt5 s lits o)) k
structure RowO where
  dst:Option Tmp
  looks:List Tmp
  d:Delta
def rowsOf (ops:List Oper):List Oper→List Delta→List RowO
  | o :: os,d :: ds=>⟨o.dst,looks ops o,d⟩ :: rowsOf ops os ds
  | _,_=>[]
def qz8 (mask:Nat) (y:RowO):Nat→List RowO→Bool
  | _,[]=>true
  | i,x :: xs=>(Nat.testBit mask i || (apart x.looks y.looks x.dst y.dst && !x.d.conf y.d)) && qz8 mask y (i + 1) xs
def jr7 (done:List RowO):List Nat→List RowO→Bool
  | m :: ms,y :: ys=>qz8 m y 0 done && jr7 (done ++ [y]) ms ys
  | _,_=>true
def force:Nat→(Nat→Prop)→Prop
  | 0,k=>k 0
  | n + 1,k=>force n fun m=>k (m + 1)
theorem force_eq:∀(n:Nat) (k:Nat→Prop),force n k=k n
  | 0,_=>rfl
  | n + 1,k=>force_eq n fun m=>k (m + 1)
def jw3 (P:Program) (O:ja7) (id:Nat) (ops:List Oper) (draw:Bool) (s:PSt) (k:PSt→Prop):Prop :=
  force s.gen fun g=>jo4 P O ops (sources ops) ((g * 4096 + id) * 1024) 0 ops s [] s.lits fun s' ds=>if draw then (if jr4 0 ops && jr7 [] (masks [] ops) (rowsOf ops ops ds) then k s' else False) else k s'
def ownN (s:PSt) (t:Tmp):List Nat :=
  match (s.tmps.getD t (gnow (.tup []))).v with
  | .x (.c (.own m _))=>[m]
  | _=>[]
def qz9 (t:Tmp):List Oper→List Tmp
  | []=>[]
  | o :: l=>match o.dst,o.op with
    | some d,.move (.tmp b)=>if Nat.beq d t then b :: qz9 t l else qz9 t l
    | _,_=>qz9 t l
def y56 (s:PSt):List Tmp→List Nat
  | []=>[]
  | t :: l=>ownN s t ++ y56 s l
def preF (ops:List Oper) (s:PSt):List Oper→List Nat
  | []=>[]
  | o :: l=>match o.op with
    | .slice _ (.tmp a) _ _ _=>y56 s (qz9 a ops) ++ preF ops s l
    | _=>preF ops s l
def frzS (s:PSt):List Nat→PSt
  | []=>s
  | m :: l=>⟨s.tmps,jb2 s.mem (froze s (m :: l)),s.ok,s.lits,s.gen⟩
def qn4 (ops:List Oper) (draw:Bool) (s:PSt):PSt:=if draw then frzS s (preF ops s ops) else s
theorem vw3 (ops:List Oper) (draw:Bool) (s:PSt):(qn4 ops draw s).ok=s.ok:=by
  unfold qn4 frzS
  split
  · split <;> rfl
  · rfl
def jq4 (P:Program) (O:ja7) (id:Nat) (ops:List Oper) (draw:Bool) (s:PSt) (k:PSt→Prop):Prop :=
  jw3 P O id ops draw (qn4 ops (draw && !qm1 O) s) k
theorem qc0 {l:List Prop} {p:Prop}:ql6 l p↔(∀b∈l,b)∧p:=by
  induction l with
  | nil=>simp [ql6]
  | cons b l ih=>simp only [ql6,ih,List.forall_mem_cons,and_assoc]
section
variable {P:Program} {O:ja7} {ops:List Oper}
theorem jr8 {s s':PSt} {o:Oper} (h:∀t∈looks ops o,s'.tmps[t]?=s.tmps[t]?) {x:Operand} (hx:x∈o.op.operands.toList):operand s' x=operand s x:=by
  cases x with
  | tmp t =>
    have:s'.tmps[t]?=s.tmps[t]?:=h t (by
      unfold looks
      refine List.mem_append_left _ (List.mem_filterMap.2 ⟨_,hx,rfl⟩))
    simp [operand,List.getD,this]
  | _=>rfl
theorem vg2 {s s':PSt} {o:Oper} (h:∀t∈looks ops o,s'.tmps[t]?=s.tmps[t]?):guardOf s' ops o=guardOf s ops o:=by
  unfold guardOf
  split
  · rfl
  · rename_i j want hg
    split
    · rename_i d hd
      rw [h d (by unfold looks;rw [hg];simp only;rw [hd];exact List.mem_append_right _ (by simp))]
    · rfl
theorem vg3 {s s':PSt} {o:Oper} (h:∀t∈looks ops o,s'.tmps[t]?=s.tmps[t]?):jj7 s' o=jj7 s o:=by
  have hv:∀x∈o.op.operands.toList,operand s' x=operand s x:=fun x hx=>jr8 h hx
  unfold jj7
  split
  · rename_i c a b ho
    rw [ho] at hv
    unfold valOf
    rw [hv c (by simp [Op.operands]),hv a (by simp [Op.operands]),hv b (by simp [Op.operands])]
  · rw [List.map_congr_left hv]
theorem qf4 {s s':PSt} {c d:CV} {ms:List Nat} (h:resC s c=some (d,ms)) (hm:∀m∈ms,s'.mem m=s.mem m):resC s' c=some (d,ms):=by
  unfold resC at h ⊢
  split at h
  · rename_i m n
    split at h <;> try (simp at h;done)
    rename_i z k r hr
    simp only [Option.some.injEq,Prod.mk.injEq] at h
    obtain ⟨rfl,rfl⟩:=h
    have:rowOf s' m=rowOf s m:=by unfold rowOf;rw [hm m (by simp)]
    simp only [this,hr]
  · simp at h
  · simp at h
  · simp at h
  · exact h
theorem jw4 {s s':PSt}:∀{l d:List CV} {ms:List Nat},resL s l=some (d,ms)→(∀m∈ms,s'.mem m=s.mem m)→resL s' l=some (d,ms)
  | [],d,ms,h,_=>h
  | c :: l,d,ms,h,hm=>by
    unfold resL at h ⊢
    split at h <;> try (simp at h;done)
    rename_i d1 a1 d2 a2 h1 h2
    simp only [Option.some.injEq,Prod.mk.injEq] at h
    obtain ⟨rfl,rfl⟩:=h
    rw [qf4 h1 fun m hh=>hm m (by simp [hh]),jw4 h2 fun m hh=>hm m (by simp [hh])]
theorem vq4 {s s':PSt} {v:SV} {g:Arg} (h:argA s v=some g) (h1:∀m∈g.rows,s'.mem m=s.mem m) (h2:∀m∈g.refs,s'.mem m=s.mem m):argA s' v=some g:=by
  unfold argA at h ⊢
  split at h
  · rename_i m off
    split at h <;> try (simp at h;done)
    rename_i l hl
    split at h <;> try (simp at h;done)
    rename_i k a hr
    simp only [Option.some.injEq] at h
    subst h
    simp only [h2 m (by simp),hl,jw4 hr h1]
  · split at h <;> try (simp at h;done)
    rename_i d a hr
    simp only [Option.some.injEq] at h
    subst h
    simp only [qf4 hr h1]
  · split at h <;> try (simp at h;done)
    rename_i d a hr
    simp only [Option.some.injEq] at h
    subst h
    simp only [jw4 hr h1]
  · rename_i m z l n
    split at h <;> try (simp at h;done)
    rename_i d a hr
    simp only [Option.some.injEq] at h
    subst h
    have hm:qy6 s' m z l n=some (d,a):=by
      unfold qy6 at hr ⊢
      split at hr <;> try (simp at hr;done)
      rename_i z' N r hro
      split at hr <;> try (simp at hr;done)
      rename_i hz
      simp only [Option.some.injEq,Prod.mk.injEq] at hr
      obtain ⟨rfl,rfl⟩:=hr
      have:rowOf s' m=rowOf s m:=by unfold rowOf;rw [h1 m (by simp)]
      simp only [this,hro,hz,if_true]
    simp only [hm]
  · simp at h
theorem qn5 {s s':PSt}:∀{l:List SV} {al:List AV} {rows refs:List Nat},ql8 s l=some (al,rows,refs)→(∀m∈rows,s'.mem m=s.mem m)→(∀m∈refs,s'.mem m=s.mem m)→ql8 s' l=some (al,rows,refs)
  | [],al,rows,refs,h,_,_=>h
  | v :: l,al,rows,refs,h,h1,h2=>by
    unfold ql8 at h ⊢
    split at h <;> try (simp at h;done)
    rename_i g al' rows' refs' e1 e2
    simp only [Option.some.injEq,Prod.mk.injEq] at h
    obtain ⟨rfl,rfl,rfl⟩:=h
    rw [vq4 e1 (fun m hh=>h1 m (by simp [hh])) (fun m hh=>h2 m (by simp [hh])),qn5 e2 (fun m hh=>h1 m (by simp [hh])) (fun m hh=>h2 m (by simp [hh]))]
theorem jn1 {s s':PSt}:∀{rows:List Nat},(∀m∈rows,s'.mem m=s.mem m)→froze s' rows=froze s rows
  | [],_=>rfl
  | m :: l,h=>by
    unfold froze
    rw [h m (by simp),jn1 fun k hk=>h k (by simp [hk])]
theorem qt9 {s s':PSt} {name:Nat} {f:FuncId} {args:List SV} {e:Eff} (h:jw2 O name s f args=some e) (hm:∀m,m∈e.rd→s'.mem m=s.mem m):jw2 O name s' f args=some e:=by
  unfold jw2 at h ⊢
  split at h <;> try (simp at h;done)
  rename_i al rows refs hargs
  have key:(∀m∈rows,s'.mem m=s.mem m)∧(∀m∈refs,s'.mem m=s.mem m):=by
    split at h <;> try (simp at h;done)
    split at h <;> try (simp at h;done)
    split at h
    · unfold vf4 at h
      split at h <;> try (simp at h;done)
      rename_i hr0
      have hr0:refs=[]:=List.eq_nil_of_length_eq_zero (Nat.eq_of_beq_eq_true hr0)
      subst hr0
      split at h <;> try (simp at h;done)
      · simp only [Option.some.injEq] at h
        subst h
        exact ⟨fun m hh=>hm m hh,by simp⟩
      · split at h <;> try (simp at h;done)
        simp only [Option.some.injEq] at h
        subst h
        exact ⟨fun m hh=>hm m hh,by simp⟩
      · split at h <;> try (simp at h;done)
        simp only [Option.some.injEq] at h
        subst h
        exact ⟨fun m hh=>hm m hh,by simp⟩
    split at h
    · split at h <;> try (simp at h;done)
      rename_i hc
      simp only [Bool.and_eq_true,Nat.beq_eq] at hc
      have hr0:rows=[]:=List.eq_nil_of_length_eq_zero hc.1
      subst hr0
      simp only [Option.some.injEq] at h
      subst h
      exact ⟨by simp,fun m hh=>hm m hh⟩
    split at h <;> try (simp at h;done)
    split at h
    · split at h <;> try (simp at h;done)
      split at h
      · rename_i hc
        simp only [Bool.and_eq_true,Nat.beq_eq] at hc
        simp only [Option.some.injEq] at h
        subst h
        have hr0:refs=[]:=List.eq_nil_of_length_eq_zero hc.2
        subst hr0
        exact ⟨fun m hh=>hm m hh,by simp⟩
      · simp only [Option.some.injEq] at h
        subst h
        exact ⟨fun m hh=>hm m (by simp [hh]),fun m hh=>hm m (by simp [hh])⟩
    · split at h <;> try (simp at h;done)
      split at h
      · rename_i hc
        simp only [Bool.and_eq_true,Nat.beq_eq] at hc
        simp only [Option.some.injEq] at h
        subst h
        have hr0:refs=[]:=List.eq_nil_of_length_eq_zero hc.1.2
        subst hr0
        exact ⟨fun m hh=>hm m hh,by simp⟩
      simp only [Option.some.injEq] at h
      subst h
      exact ⟨fun m hh=>hm m (by simp [hh]),fun m hh=>hm m (by simp [hh])⟩
    · simp at h
  rw [qn5 hargs key.1 key.2]
  simp only [jn1 key.1]
  exact h
theorem vw4 {s s':PSt} {c d:CV} {ms gs:List Nat} (h:gvC s c=some (d,ms,gs)) (hm:∀m∈ms,s'.mem m=s.mem m) (hg:∀m∈gs,s'.mem m=s.mem m):gvC s' c=some (d,ms,gs):=by
  unfold gvC at h ⊢
  split at h
  · rename_i m n
    split at h <;> try (simp at h;done)
    · rename_i z k r hr
      simp only [Option.some.injEq,Prod.mk.injEq] at h
      obtain ⟨rfl,rfl,rfl⟩:=h
      simp only [hg m (by simp),hr]
    · rename_i z k r hr
      simp only [Option.some.injEq,Prod.mk.injEq] at h
      obtain ⟨rfl,rfl,rfl⟩:=h
      simp only [hm m (by simp),hr]
  all_goals exact h
theorem va4 {s s':PSt}:∀{l d:List CV} {ms gs:List Nat},gvL s l=some (d,ms,gs)→(∀m∈ms,s'.mem m=s.mem m)→(∀m∈gs,s'.mem m=s.mem m)→gvL s' l=some (d,ms,gs)
  | [],d,ms,gs,h,_,_=>h
  | c :: l,d,ms,gs,h,hm,hg=>by
    unfold gvL at h ⊢
    split at h <;> try (simp at h;done)
    rename_i d1 a1 g1 d2 a2 g2 h1 h2
    simp only [Option.some.injEq,Prod.mk.injEq] at h
    obtain ⟨rfl,rfl,rfl⟩:=h
    rw [vw4 h1 (fun m hh=>hm m (by simp [hh])) (fun m hh=>hg m (by simp [hh])),va4 h2 (fun m hh=>hm m (by simp [hh])) (fun m hh=>hg m (by simp [hh]))]
theorem qf5 {s s':PSt} {b:Bool} {l d:List CV} {ms gs:List Nat} (h:gvOr s b l=some (d,ms,gs)) (hm:∀m∈ms,s'.mem m=s.mem m) (hg:∀m∈gs,s'.mem m=s.mem m):gvOr s' b l=some (d,ms,gs):=by
  unfold gvOr at h ⊢
  split at h
  · rename_i hb
    rw [if_pos hb]
    exact va4 h hm hg
  · rename_i hb
    rw [if_neg hb]
    split at h <;> try (simp at h;done)
    rename_i hr
    simp only [Option.some.injEq,Prod.mk.injEq] at h
    obtain ⟨rfl,rfl,rfl⟩:=h
    rw [jw4 hr hm]
theorem vq5 {s s':PSt} {b:Bool} {v:SV} {g:ArgG} (h:argG s b v=some g) (h1:∀m∈g.rows,s'.mem m=s.mem m) (h2:∀m∈g.refs,s'.mem m=s.mem m) (h3:∀m∈g.gv,s'.mem m=s.mem m):argG s' b v=some g:=by
  unfold argG at h ⊢
  split at h
  · rename_i m off
    split at h <;> try (simp at h;done)
    rename_i l hl
    split at h <;> try (simp at h;done)
    rename_i k a q hr
    simp only [Option.some.injEq] at h
    subst h
    simp only [h2 m (by simp),hl,qf5 hr h1 h3]
  · split at h <;> try (simp at h;done)
    rename_i d a q hr
    simp only [Option.some.injEq] at h
    subst h
    simp only [qf5 hr h1 h3]
  · split at h <;> try (simp at h;done)
    rename_i d a q hr
    simp only [Option.some.injEq] at h
    subst h
    simp only [qf5 hr h1 h3]
  · rename_i m z l n
    split at h <;> try (simp at h;done)
    rename_i d a hr
    simp only [Option.some.injEq] at h
    subst h
    have hm:qy6 s' m z l n=some (d,a):=by
      unfold qy6 at hr ⊢
      split at hr <;> try (simp at hr;done)
      rename_i z' N r hro
      split at hr <;> try (simp at hr;done)
      rename_i hz
      simp only [Option.some.injEq,Prod.mk.injEq] at hr
      obtain ⟨rfl,rfl⟩:=hr
      have:rowOf s' m=rowOf s m:=by unfold rowOf;rw [h1 m (by simp)]
      simp only [this,hro,hz,if_true]
    simp only [hm]
  · simp at h
theorem jz4 {s s':PSt}:∀{mask:List Bool} {l:List SV} {al:List AV} {rows refs gv:List Nat},qm0 s mask l=some (al,rows,refs,gv)→(∀m∈rows,s'.mem m=s.mem m)→(∀m∈refs,s'.mem m=s.mem m)→(∀m∈gv,s'.mem m=s.mem m)→qm0 s' mask l=some (al,rows,refs,gv)
  | _,[],al,rows,refs,gv,h,_,_,_=>h
  | mask,v :: l,al,rows,refs,gv,h,h1,h2,h3=>by
    unfold qm0 at h ⊢
    split at h <;> try (simp at h;done)
    rename_i g al' rows' refs' gv' e1 e2
    simp only [Option.some.injEq,Prod.mk.injEq] at h
    obtain ⟨rfl,rfl,rfl,rfl⟩:=h
    rw [vq5 e1 (fun m hh=>h1 m (by simp [hh])) (fun m hh=>h2 m (by simp [hh])) (fun m hh=>h3 m (by simp [hh])),jz4 e2 (fun m hh=>h1 m (by simp [hh])) (fun m hh=>h2 m (by simp [hh])) (fun m hh=>h3 m (by simp [hh]))]
theorem q00 {s s':PSt} {name:Nat} {f:FuncId} {args:List SV} {e:Eff} (h:qe7 O name s f args=some e) (hm:∀m,m∈e.rd→s'.mem m=s.mem m):qe7 O name s' f args=some e:=by
  unfold qe7 at h ⊢
  split at h
  · unfold vf5 at h ⊢
    split at h <;> try (simp at h;done)
    rename_i al rows refs gv hargs
    split at h <;> try (simp at h;done)
    rename_i hd
    split at h <;> try (simp at h;done)
    rename_i ans hans
    split at h <;> try (simp at h;done)
    rename_i u hu
    split at h <;> try (simp at h;done)
    rename_i hl
    split at h
    · rename_i hn
      simp only [Option.some.injEq] at h
      subst h
      have k1:∀m∈rows,s'.mem m=s.mem m:=fun m hh=>hm m (by simp [hh])
      rw [jz4 hargs k1 (fun m hh=>hm m (by simp [hh])) (fun m hh=>hm m (by simp [hh]))]
      simp only [hd,hans,hu,hl,hn,jn1 k1,if_true]
    · rename_i y b l hn
      split at h <;> try (simp at h;done)
      rename_i hall
      simp only [Option.some.injEq] at h
      subst h
      have k1:∀m∈rows,s'.mem m=s.mem m:=fun m hh=>hm m (by simp [hh])
      have hall':(l.all fun p=>(s'.mem p.1).isNone && Nat.blt p.1 PN)=true:=by
        refine List.all_eq_true.2 fun q hq=>?_
        have e:s'.mem q.1=s.mem q.1:=hm q.1 (List.mem_append_right _ (List.mem_append_right _ (List.mem_append_right _ (List.mem_map.2 ⟨q,hq,rfl⟩))))
        rw [e];exact List.all_eq_true.1 hall q hq
      rw [jz4 hargs k1 (fun m hh=>hm m (by simp [hh])) (fun m hh=>hm m (by simp [hh]))]
      simp only [hd,hans,hu,hl,hn,jn1 k1,if_true,hall']
  · exact qt9 h hm
theorem qj2 {s s':PSt} {name:Nat} {b:Builtin} {tys:List TypeId} {args:List SV} {e:Eff} (h:jm3 P name s b tys args=some e) (hm:∀m,m∈e.rd→s'.mem m=s.mem m):jm3 P name s' b tys args=some e:=by
  unfold jm3 at h ⊢
  split at h
  · exact h
  · exact h
  · exact h
  · rename_i a c t u
    split at h <;> try (simp at h;done)
    rename_i el hu
    try simp only [hu]
    split at h <;> try (simp at h;done)
    rename_i zs hz
    try simp only [hz]
    split at h <;> try (simp at h;done)
    rename_i hc
    rw [if_pos hc]
    split at h <;> try (simp at h;done)
    rename_i z2 n2 r2 rd hrow
    split at h <;> try (simp at h;done)
    rename_i hz2
    have hrd:∀m∈rd,s'.mem m=s.mem m:=by
      intro m hh
      split at h <;> try (simp at h;done)
      · simp only [Option.some.injEq] at h;subst h;exact hm m hh
      · split at h <;> try (simp at h;done)
        split at h <;> try (simp at h;done)
        simp only [Option.some.injEq] at h;subst h;exact hm m (by simp [hh])
    have hrow':srcS P s' t u c=some (z2,n2,r2,rd):=by
      rcases qv2 hrow with ⟨rfl,hr9⟩ | ⟨b,rfl,hu',rfl,rfl,rfl,rfl⟩
      · refine ys9 ?_
        unfold srcA at hr9 ⊢
        split at hr9
        · rename_i m n
          split at hr9 <;> try (simp at hr9;done)
          rename_i z n r hr
          simp only [Option.some.injEq,Prod.mk.injEq] at hr9
          obtain ⟨rfl,rfl,rfl,rfl⟩:=hr9
          have:rowOf s' m=rowOf s m:=by unfold rowOf;rw [hrd m (by simp)]
          simp only [this,hr]
        · exact hr9
        · simp at hr9
      · unfold srcS
        simp only [hu']
    rw [hrow']
    simp only
    rw [if_pos hz2]
    split at h <;> try (simp at h;done)
    · exact h
    · rename_i m n
      have:rowW s' m=rowW s m:=by
        split at h <;> try (simp at h;done)
        split at h <;> try (simp at h;done)
        simp only [Option.some.injEq] at h;subst h
        unfold rowW;rw [hm m (by simp)]
      simp only [this]
      exact h
  · rename_i d c t u
    split at h <;> try (simp at h;done)
    rename_i el hu
    try simp only [hu]
    split at h <;> try (simp at h;done)
    rename_i hc
    rw [if_pos hc]
    split at h <;> try (simp at h;done)
    rename_i m z l n N r z2 n2 r2 rd hd hsrc
    have hall:∀k∈m :: rd,s'.mem k=s.mem k:=by
      split at h <;> try (simp at h;done)
      simp only [Option.some.injEq] at h;subst h
      exact hm
    have hro:rowW s' m=rowW s m:=by unfold rowW;rw [hall m (by simp)]
    have hd':dstA s' d=some (m,z,l,n,N,r):=by
      unfold dstA at hd ⊢
      split at hd
      · split at hd <;> try (simp at hd;done)
        rename_i k n' _ z' N' r' hr
        simp only [Option.some.injEq,Prod.mk.injEq] at hd
        obtain ⟨rfl,rfl,rfl,rfl,rfl,rfl⟩:=hd
        simp only [hro,hr]
      · split at hd <;> try (simp at hd;done)
        rename_i k z'' l' n' _ z' N' r' hr
        split at hd <;> try (simp at hd;done)
        rename_i hzz
        simp only [Option.some.injEq,Prod.mk.injEq] at hd
        obtain ⟨rfl,rfl,rfl,rfl,rfl,rfl⟩:=hd
        simp only [hro,hr,hzz,if_true]
      · simp at hd
    have hsrc':srcV s' c=some (z2,n2,r2,rd):=by
      unfold srcV at hsrc ⊢
      split at hsrc
      · unfold srcA at hsrc ⊢
        split at hsrc
        · split at hsrc <;> try (simp at hsrc;done)
          rename_i k n _ z n' r hr
          simp only [Option.some.injEq,Prod.mk.injEq] at hsrc
          obtain ⟨rfl,rfl,rfl,rfl⟩:=hsrc
          have:rowOf s' k=rowOf s k:=by unfold rowOf;rw [hall k (by simp)]
          simp only [this,hr]
        · exact hsrc
        · simp at hsrc
      · rename_i k z l n
        split at hsrc <;> try (simp at hsrc;done)
        rename_i z' n' r hr
        split at hsrc <;> try (simp at hsrc;done)
        rename_i hzz
        simp only [Option.some.injEq,Prod.mk.injEq] at hsrc
        obtain ⟨rfl,rfl,rfl,rfl⟩:=hsrc
        have:rowOf s' k=rowOf s k:=by unfold rowOf;rw [hall k (by simp)]
        simp only [this,hr,hzz,if_true]
      · simp at hsrc
    rw [hsrc',hd']
    exact h
  · exact h
  · simp at h
theorem vq6 {s s':PSt} {c:SV} {z:Nat} {n:Int} {r:Row} {rd:List Nat} (hsrc:srcV s c=some (z,n,r,rd)) (hall:∀m∈rd,s'.mem m=s.mem m):srcV s' c=some (z,n,r,rd):=by
  unfold srcV at hsrc ⊢
  split at hsrc
  · unfold srcA at hsrc ⊢
    split at hsrc
    · split at hsrc <;> try (simp at hsrc;done)
      rename_i k n _ z n' r hr
      simp only [Option.some.injEq,Prod.mk.injEq] at hsrc
      obtain ⟨rfl,rfl,rfl,rfl⟩:=hsrc
      have:rowOf s' k=rowOf s k:=by unfold rowOf;rw [hall k (by simp)]
      simp only [this,hr]
    · exact hsrc
    · simp at hsrc
  · rename_i k z l n
    split at hsrc <;> try (simp at hsrc;done)
    rename_i z' n' r hr
    split at hsrc <;> try (simp at hsrc;done)
    rename_i hzz
    simp only [Option.some.injEq,Prod.mk.injEq] at hsrc
    obtain ⟨rfl,rfl,rfl,rfl⟩:=hsrc
    have:rowOf s' k=rowOf s k:=by unfold rowOf;rw [hall k (by simp)]
    simp only [this,hr,hzz,if_true]
  · simp at hsrc
theorem q02 {s s':PSt} {name:Nat} {src dst:TypeId} {v:SV} {e:Eff} (h:qm2 P name s src dst v=some e) (hm:∀m,m∈e.rd→s'.mem m=s.mem m):qm2 P name s' src dst v=some e:=by
  unfold qm2 at h ⊢
  split at h
  · exact h
  · exact h
  · exact h
  · exact h
  · split at h <;> try (simp at h;done)
    rename_i z N r q4 hro
    split at h <;> try (simp at h;done)
    rename_i hsd
    simp only [Option.some.injEq] at h
    subst h
    simp only [q4,rowW,hm _ (List.mem_singleton.2 rfl)] at hro ⊢
    simp only [hro,hsd,if_true]
  · split at h <;> try (simp at h;done)
    rename_i z n r ms q4 hsrc
    split at h <;> try (simp at h;done)
    rename_i hz
    simp only [Option.some.injEq] at h
    subst h
    simp only [q4,vq6 hsrc hm,hz,if_true]
  · exact h
theorem jr9 {s s':PSt}:∀{l:List (Nat×Operand)},(∀p∈l,valOf s' p.2=valOf s p.2)→partsOf s' l=partsOf s l
  | [],_=>rfl
  | (i,x) :: l,h=>by
    unfold partsOf
    rw [h (i,x) (by simp),jr9 fun p hp=>h p (by simp [hp])]
theorem qh9 {s s':PSt}:∀{l:List Operand},(∀x∈l,operand s' x=operand s x)→qh4 s' l=qh4 s l
  | [],_=>rfl
  | x :: l,h=>by
    unfold qh4
    rw [h x (by simp),qh9 fun p hp=>h p (by simp [hp])]
theorem qi0 {s s':PSt} {o:Oper} {name:Nat} {e:Eff} (h:∀t∈looks ops o,s'.tmps[t]?=s.tmps[t]?) (he:effect P O name s o=some e) (hm:∀m,m∈e.rd→s'.mem m=s.mem m) (hu:∀p∈e.up,s'.mem p.1=s.mem p.1):effect P O name s' o=some e:=by
  have ho':∀x∈o.op.operands.toList,operand s' x=operand s x:=fun x hx=>jr8 h hx
  have hv:∀x∈o.op.operands.toList,valOf s' x=valOf s x:=fun x hx=>by unfold valOf;rw [jr8 h hx]
  unfold effect at he ⊢
  split at he
  all_goals first
    | (rename_i ho
       rw [ho] at hv ho'
       simp only [Op.operands] at hv ho')
    | (simp at he;done)
  · rw [hv _ (by simp)];exact he
  · rw [hv _ (by simp)];exact he
  · rw [hv _ (by simp)];exact he
  · rename_i c x y;rw [hv c (by simp),hv x (by simp),hv y (by simp)];exact he
  · exact he
  · rw [hv _ (by simp)];exact he
  ·
    rename_i t x
    rw [hv x (by simp)]
    split at he <;> try (simp at he;done)
    · rename_i m off q
      have hmm:memC s' m=memC s m:=by
        have:s'.mem m=s.mem m:=by
          split at he <;> try (simp at he;done)
          split at he <;> try (simp at he;done)
          simp only [Option.some.injEq] at he;subst he
          exact hm m (by simp)
        unfold memC;rw [this]
      simp only [hmm];exact he
    · rename_i m z i off q
      have hmm:rowOf s' m=rowOf s m:=by
        have:s'.mem m=s.mem m:=by
          split at he <;> try (simp at he;done)
          split at he <;> try (simp at he;done)
          split at he <;> try (simp at he;done)
          simp only [Option.some.injEq] at he;subst he
          exact hm m (by simp)
        unfold rowOf;rw [this]
      simp only [hmm];exact he
    · exact he
  ·
    rename_i t x y
    rw [hv x (by simp),hv y (by simp)]
    split at he <;> try (simp at he;done)
    · rename_i m off xv q1 q2
      have hmm:s'.mem m=s.mem m:=by
        split at he <;> try (simp at he;done)
        split at he <;> try (simp at he;done)
        simp only [Option.some.injEq] at he;subst he
        exact hu _ (List.mem_singleton.2 rfl)
      simp only [hmm];exact he
    · rename_i m z i off xv q1 q2
      have hmm:rowW s' m=rowW s m:=by
        have:s'.mem m=s.mem m:=by
          split at he <;> try (simp at he;done)
          split at he <;> try (simp at he;done)
          simp only [Option.some.injEq] at he;subst he
          exact hu _ (List.mem_singleton.2 rfl)
        unfold rowW;rw [this]
      simp only [hmm];exact he
  · rename_i op t x y yt;rw [hv x (by simp),hv y (by simp)];exact he
  · rw [hv _ (by simp)];exact he
  · rw [hv _ (by simp)];exact q02 he hm
  · rw [hv _ (by simp)];exact he
  · rw [hv _ (by simp)];exact he
  ·
    rename_i c
    have hw:c.args.toList.map (valOf s')=c.args.toList.map (valOf s):=List.map_congr_left fun x hx=>hv x (by
      simp only [Call.operands,Array.toList_append]
      exact List.mem_append_right _ hx)
    have hc:∀cal,c.callee=cal→jj6 s' cal=jj6 s cal:=by
      intro cal e
      subst e
      unfold jj6
      split
      · rename_i x hx
        rw [ho' x (by simp [Call.operands,hx])]
      · rfl
    split at he
    · rename_i b hb
      rw [hw]
      exact qj2 he hm
    · rw [hc _ rfl,hw]
      split at he <;> try (simp at he;done)
      exact q00 he hm
  ·
    rename_i t parts
    rw [jr9 (s:=s) (s':=s') fun p hp=>hv p.2 (List.mem_map_of_mem hp)];exact he
  ·
    rename_i t len parts
    rw [jr9 (s:=s) (s':=s') fun p hp=>hv p.2 (List.mem_map_of_mem hp)];exact he
  · rename_i t l c;rw [hv l (by simp),hv c (by simp)];exact he
  ·
    rename_i t x lo hi mx
    have hx:=hv x (by simp)
    have hlo:∀d,jg2 s' d lo=jg2 s d lo:=by
      intro d;cases lo with
      | none=>rfl
      | some y=>unfold jg2;simp only;rw [hv y (by simp)]
    have hhi:∀d,jg2 s' d hi=jg2 s d hi:=by
      intro d;cases hi with
      | none=>rfl
      | some y=>unfold jg2;simp only;rw [hv y (by simp)]
    have hmx:∀d,jg2 s' d mx=jg2 s d mx:=by
      intro d;cases mx with
      | none=>rfl
      | some y=>unfold jg2;simp only;rw [hv y (by simp)]
    by_cases hit:vf6 O lo hi mx=true
    · rw [if_pos hit] at he ⊢
      unfold vv0 at he ⊢
      rw [hx,hhi]
      split at he <;> try (simp at he;done)
      rename_i el m nn h hu q hh2
      split at he <;> try (simp at he;done)
      rename_i z n r hro
      have hro':rowW s' m=some (z,n,r):=by
        split at he <;> try (simp at he;done)
        simp only [Option.some.injEq] at he
        unfold rowW;rw [hm m (by rw [← he];simp)];exact hro
      simp only [hu,q,hh2,hro']
      exact he
    rw [if_neg hit] at he ⊢
    rw [hx]
    split at he <;> try (simp at he;done)
    rename_i el q1 q2
    try simp only [q1,q2]
    split at he
    · rename_i m z l0 n rd hps
      have hm':∀m∈rd,s'.mem m=s.mem m:=by
        split at he <;> try (simp at he;done)
        split at he <;> try (simp at he;done)
        simp only [Option.some.injEq] at he;subst he
        exact hm
      have hps':qe9 O s' (valOf s x)=some (m,z,l0,n,rd):=by
        unfold qe9 at hps ⊢
        split at hps
        · exact hps
        · rename_i k n' q
          split at hps <;> try (simp at hps;done)
          rename_i hvo
          split at hps <;> try (simp at hps;done)
          rename_i z' N r' hro
          simp only [Option.some.injEq,Prod.mk.injEq] at hps
          obtain ⟨rfl,rfl,rfl,rfl,rfl⟩:=hps
          have:rowOf s' k=rowOf s k:=by unfold rowOf;rw [hm' k (by simp)]
          simp only [hvo,if_true,this,hro]
        · simp at hps
      simp only [hps',hlo,hhi,hmx]
      exact he
    · rename_i hps
      have hps':qe9 O s' (valOf s x)=none:=by
        split at he <;> try (simp at he;done)
        rename_i ms z n r hsrc
        have hm':∀m∈ms,s'.mem m=s.mem m:=by
          split at he <;> try (simp at he;done)
          split at he <;> try (simp at he;done)
          simp only [Option.some.injEq] at he;subst he
          exact hm
        unfold qe9 at hps ⊢
        split at hps
        · simp at hps
        · rename_i k n' q
          rw [q] at hsrc
          unfold qb6 resC at hsrc
          cases hr:rowOf s k with
          | none=>simp [hr] at hsrc
          | some p =>
            obtain ⟨z',N,r'⟩:=p
            simp only [hr,Option.some.injEq,Prod.mk.injEq] at hsrc
            have:rowOf s' k=rowOf s k:=by unfold rowOf;rw [hm' k (by rw [← hsrc.1];simp)]
            simp only [this]
            exact hps
        · rfl
      simp only [hps']
      split at he <;> try (simp at he;done)
      rename_i ms z n r hsrc
      have hms:∀m∈ms,s'.mem m=s.mem m:=by
        split at he <;> try (simp at he;done)
        split at he <;> try (simp at he;done)
        simp only [Option.some.injEq] at he;subst he
        exact fun m hh=>hm m hh
      have hs:qb6 s' (valOf s x)=some (ms,z,n,r):=by
        unfold qb6 at hsrc ⊢
        split at hsrc <;> try (simp at hsrc;done)
        split at hsrc <;> try (simp at hsrc;done)
        rename_i hres
        simp only [Option.some.injEq,Prod.mk.injEq] at hsrc
        obtain ⟨rfl,rfl,rfl,rfl⟩:=hsrc
        rw [qf4 hres hms]
      simp only [hs,hlo,hhi,hmx,jn1 hms]
      exact he
  ·
    rename_i f first caps
    rw [qh9 (s:=s) (s':=s') fun x hx=>ho' x (by simp only [Array.toList_append];exact List.mem_append_right _ hx)];exact he
  · rw [hv _ (by simp)];exact he
  · rename_i t x i;rw [hv x (by simp),hv i (by simp)];exact he
  · rename_i t x i;rw [hv x (by simp),hv i (by simp)];exact he
end
end Go.Proofs.YthkidembkknoeaaDoor.QR
