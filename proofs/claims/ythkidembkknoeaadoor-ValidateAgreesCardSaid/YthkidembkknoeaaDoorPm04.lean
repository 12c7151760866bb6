import Derived.Test.YthkidembkknoeaaDoorPm02
import Derived.Laws.MakeOwn
import Derived.Lib.AppendStr
import Derived.Laws.IdiomCopy
import Derived.Laws.BytesString
import Derived.Lib.ConvBytes
import Derived.Test.YthkidembkknoeaaDoorPm03
namespace Go.Proofs.YthkidembkknoeaaDoor.QR
open Go.RowKit PR
set_option linter.unusedVariables false
set_option linter.unusedSimpArgs false
theorem qw7 {P:Program} {s:PSt} {t u:TypeId} {c:CV} {z:Nat} {n:Int} {r:Row} {rd:List Nat} (h:srcS P s t u c=some (z,n,r,rd)) :
  (t=u/\srcA s c=some (z,n,r,rd))\/∃b,c=.v (.string b)/\P.underlying u=some .string/\z=1/\n=jx4 b/\r=.lst .u8 (strL b)/\rd=[]:=by
 unfold srcS at h
 split at h
 ·rename_i b
  split at h <;> try (simp at h;done)
  rename_i hu
  simp only [Option.some.injEq,Prod.mk.injEq] at h
  obtain ⟨rfl,rfl,rfl,rfl⟩:=h
  exact Or.inr ⟨b,rfl,hu,rfl,rfl,rfl,rfl⟩
 ·cases e:Nat.beq t u
  ·rw [e] at h;simp at h
  ·rw [e,cond_true] at h
   exact Or.inl ⟨Nat.eq_of_beq_eq_true e,h⟩
theorem yv5 {P:Program} {s:PSt} {t:TypeId} {c:CV} {x:Nat×Int×Row×List Nat} (h:srcA s c=some x):srcS P s t t c=some x:=by
 unfold srcS
 split
 ·simp [srcA] at h
 ·have:Nat.beq t t=true:=by simp
  rw [this,cond_true];exact h
theorem y82 (a:Value) (y:CV):csel true (.v a) y=.v a:=by
 unfold csel
 split
 ·split
  ·rename_i h;simp_all [isel]
  ·simp_all
 ·simp_all [bsel]
 ·simp_all [ssel]
 ·simp_all
 ·simp_all
 ·simp_all
 ·simp_all
theorem yv6 (x:CV) (b:Value) (hb:b≠ .slice none 0 0):csel false x (.v b)=.v b:=by
 unfold csel
 split
 ·split
  ·rename_i h;simp_all [isel]
  ·simp_all
 ·simp_all [bsel]
 ·simp_all [ssel]
 ·simp_all
 ·simp_all
 ·simp_all
 ·simp_all
theorem yv7 (y:Value):csel false (.v y) (.v (.slice none 0 0))=.v (.slice none 0 0):=by
 unfold csel
 split
 ·simp_all
 ·simp_all
 ·simp_all
 ·simp_all
 ·simp_all
 ·rfl
 ·rfl
theorem vg4 (x:Value) (y:CV) (h:∀b,y≠ .v b):csel false (.v x) y=y:=by
 unfold csel
 split <;> simp_all
theorem vg5 (c:Bool) (z:Nat) (n:Int) (r:Row) (x:Value):csel c (.slc z n r) (.v x)=(bif c then .slc z n r else .v x)\/(x=.slice none 0 0/\0 < z/\csel c (.slc z n r) (.v x)=.slc z (isel c n 0) r):=by
 unfold csel
 split
 ·simp_all
 ·simp_all
 ·simp_all
 ·simp_all
 ·rename_i h1 h2
  simp only [CV.slc.injEq,CV.v.injEq] at h1 h2
  obtain ⟨rfl,rfl,rfl⟩:=h1
  subst h2
  cases e:Nat.blt 0 z
  ·exact Or.inl rfl
  ·exact Or.inr ⟨rfl,by simpa [Nat.blt_eq] using e,rfl⟩
 ·simp_all
 ·exact Or.inl rfl
theorem Rep.yj0 {F:Nat->Prop} {w:World} {x:CV} {u:Value} (h:Rep F w x u):∀y,Rep F w (csel true x y) u:=by
 induction h with
 | v h=>intro y;rw [y82];exact .v h
 | nil h1 h2 =>
  rename_i z r a c
  intro y
  cases y with
  | slc z' n' r' =>
   show Rep F w (bif Nat.beq z z' then .slc z (isel true 0 n') (.sel true r r') else .slc z 0 r) _
   cases Nat.beq z z' <;> exact .nil h1 h2
  | v x =>
   rcases vg5 true z 0 r x with e | ⟨_,_,e⟩ <;> rw [e] <;> exact .nil h1 h2
  | _=>exact .nil h1 h2
 | slc g h1 hc h2 h3 h4 h5 ih =>
  rename_i z n r b off c arr t fr
  intro y
  cases y with
  | slc z' n' r' =>
   show Rep F w (bif Nat.beq z z' then .slc z (isel true n n') (.sel true r r') else .slc z n r) _
   cases Nat.beq z z'
   ·exact .slc g h1 hc h2 h3 h4 h5
   ·exact .slc g h1 hc h2 h3 h4 λ i j hi hj=>ih i j hi hj (den r' i j)
  | v x =>
   rcases vg5 true z n r x with e | ⟨_,_,e⟩ <;> rw [e] <;> exact .slc g h1 hc h2 h3 h4 h5
  | _=>exact .slc g h1 hc h2 h3 h4 h5
 | clo bs h=>intro y;cases y <;> exact .clo bs h
theorem Rep.yv8 {F:Nat->Prop} {w:World} {x:CV} {u:Value} (h:Rep F w x u):∀y,Rep F w (csel false y x) u:=by
 induction h with
 | v h =>
  rename_i x
  intro y
  by_cases hx:x=.slice none 0 0
  ·subst hx
   cases y with
   | slc z n r =>
    rcases vg5 false z n r (.slice none 0 0) with e | ⟨_,hz,e⟩ <;> rw [e]
    ·exact .v h
    ·exact .nil hz λ _=>rfl
   | v y=>rw [yv7];exact .v h
   | _=>exact .v h
  ·rw [yv6 y x hx];exact .v h
 | nil h1 h2 =>
  rename_i z r a c
  intro y
  cases y with
  | slc z' n' r' =>
   show Rep F w (bif Nat.beq z' z then .slc z' (isel false n' 0) (.sel false r' r) else .slc z 0 r) _
   cases e:Nat.beq z' z
   ·exact .nil h1 h2
   ·obtain rfl:=Nat.eq_of_beq_eq_true e;exact .nil h1 h2
  | v x=>rw [vg4 _ _ (λ b=>by simp)];exact .nil h1 h2
  | _=>exact .nil h1 h2
 | slc g h1 hc h2 h3 h4 h5 ih =>
  rename_i z n r b off c arr t fr
  intro y
  cases y with
  | slc z' n' r' =>
   show Rep F w (bif Nat.beq z' z then .slc z' (isel false n' n) (.sel false r' r) else .slc z n r) _
   cases e:Nat.beq z' z
   ·exact .slc g h1 hc h2 h3 h4 h5
   ·obtain rfl:=Nat.eq_of_beq_eq_true e;exact .slc g h1 hc h2 h3 h4 λ i j hi hj=>ih i j hi hj (den r' i j)
  | v x=>rw [vg4 _ _ (λ b=>by simp)];exact .slc g h1 hc h2 h3 h4 h5
  | _=>exact .slc g h1 hc h2 h3 h4 h5
 | clo bs h =>
  intro y
  cases y with
  | v x=>rw [vg4 _ _ (λ b=>by simp)];exact .clo bs h
  | _=>exact .clo bs h
theorem Rep.csel {F:Nat->Prop} {w:World} {c:Bool} {x y:CV} {u:Value} (h:Rep F w (bif c then x else y) u):Rep F w (csel c x y) u:=by
 cases c
 ·exact Rep.yv8 h x
 ·exact Rep.yj0 h y
theorem jj7 {α:Type} (l vs:List α) (o i:Nat) (h:o + vs.length<=l.length):(l.take o ++ vs ++ l.drop (o + vs.length))[i]?=if i < o then l[i]? else if i < o + vs.length then vs[i - o]? else l[i]?:=by
 have h1:(l.take o).length=o:=by rw [List.length_take];omega
 by_cases e:i < o
 ·rw [if_pos e,List.append_assoc,List.getElem?_append_left (by omega),List.getElem?_take,if_pos e]
 ·rw [if_neg e]
  by_cases e2:i < o + vs.length
  ·rw [if_pos e2,List.append_assoc,List.getElem?_append_right (by omega),List.getElem?_append_left (by omega),h1]
  ·rw [if_neg e2,List.getElem?_append_right (by rw [List.length_append,h1];omega),List.getElem?_drop,List.length_append,h1]
   congr 1
   omega
theorem jq9 {α:Type} (l vs:List α) (o:Nat) (h:o + vs.length<=l.length):(l.take o ++ vs ++ l.drop (o + vs.length)).length=l.length:=by
 simp only [List.length_append,List.length_take,List.length_drop];omega
theorem va3 (off:Nat):∀(vs:List Value) (k:Nat) (cells:Array Value),off + k + vs.length<=cells.size->
  ((vs.zipIdx k).foldl (λ cs (p:Value×Nat)=>cs.setIfInBounds (off + p.2) p.1) cells).toList=cells.toList.take (off + k) ++ vs ++ cells.toList.drop (off + k + vs.length)
 | [],k,cells,_=>by simp
 | v :: vs,k,cells,h=>by
  simp only [List.length_cons] at h
  rw [List.zipIdx_cons,List.foldl_cons,va3 off vs (k + 1) _ (by simp only [Array.size_setIfInBounds];omega)]
  apply List.ext_getElem?
  intro i
  have e1:=jj7 (cells.setIfInBounds (off + k) v).toList vs (off + (k + 1)) i (by simp only [Array.length_toList,Array.size_setIfInBounds];omega)
  have e2:=jj7 cells.toList (v :: vs) (off + k) i (by simp only [Array.length_toList,List.length_cons];omega)
  rw [e1,e2]
  simp only [List.length_cons,Array.toList_setIfInBounds,List.getElem?_set,Array.length_toList]
  by_cases c1:i < off + k
  ·rw [if_pos (show i < off + (k + 1) by omega),if_neg (show ¬ off + k=i by omega),if_pos c1]
  ·by_cases c2:i=off + k
   ·subst c2
    rw [if_pos (show off + k < off + (k + 1) by omega),if_pos (show off + k=off + k from rfl),if_pos (show off + k < cells.size by omega),if_neg c1,if_pos (show off + k < off + k + (vs.length + 1) by omega)]
    simp
   ·rw [if_neg (show ¬ i < off + (k + 1) by omega),if_neg c1,if_neg (show ¬ off + k=i by omega)]
    by_cases c3:i < off + (k + 1) + vs.length
    ·rw [if_pos c3,if_pos (show i < off + k + (vs.length + 1) by omega)]
     obtain ⟨j,rfl⟩:∃j,i=off + k + 1 + j:=⟨i - (off + k + 1),by omega⟩
     rw [show off + k + 1 + j - (off + (k + 1))=j by omega,show off + k + 1 + j - (off + k)=j + 1 by omega,List.getElem?_cons_succ]
    ·rw [if_neg c3,if_neg (show ¬ i < off + k + (vs.length + 1) by omega)]
theorem vl8 (off:Nat) (v cells:Array Value) (h:off + v.size<=cells.size) :
  (v.zipIdx.foldl (λ cs (c,j)=>cs.setIfInBounds (off + j) c) cells).toList=cells.toList.take off ++ v.toList ++ cells.toList.drop (off + v.size):=by
 have:=va3 off v.toList 0 cells (by simpa using h)
 simp only [Nat.add_zero,Array.length_toList] at this
 rw [<- this,<- Array.foldl_toList,Array.toList_zipIdx]
theorem jb9.one {L:Nat->Prop} {E:Env} {w:World} {c:CV} {y:Value} (h:jb9 L E w c y):y.oneCell'=true/\y.cells=#[y]:=by
 have main:y.oneCell'=true:=by
  cases c with
  | v x =>
   cases h with
   | v h=>cases y <;> first | rfl | (simp [jh6] at h)
  | slc z n r =>
   cases h with
   | nil _ _=>rfl
   | slc _ _ _ _ _ _ _=>rfl
  | own m n=>obtain ⟨_,_,_,⟨rfl,_⟩ | ⟨a,c,rfl⟩⟩:=h <;> rfl
  | ptr m off=>rw [h.2];rfl
  | fn f caps=>rw [h.2];rfl
  | fresh z n r=>exact h.elim
  | clo f l=>cases h;rfl
 refine ⟨main,?_⟩
 cases y <;> first | rfl | (simp [Value.oneCell'] at main)
theorem Fa2.ones {L:Nat->Prop} {E:Env} {w:World} {l:List CV} {ys:List Value} (h:Fa2 (jb9 L E w) l ys):∀y∈ys,y.oneCell'=true:=by
 intro y hy
 obtain ⟨i,hi,e⟩:=List.getElem_of_mem hy
 have hl:=h.len
 obtain ⟨b,e1,e2⟩:=h.get (i:=i) (a:=l[i]) (by simp)
 have:ys[i]?=some y:=by rw [List.getElem?_eq_getElem hi,e]
 rw [this] at e1
 simp only [Option.some.injEq] at e1
 subst e1
 exact e2.one.1
theorem ConcX.cells {L:Nat->Prop} {E:Env} {w:World} {v:XV} {y:Value} (h:ConcX L E w v y):Fa2 (jb9 L E w) (cellsOf v) y.cells.toList:=by
 cases v with
 | c x=>rw [h.one.2];exact ⟨h,trivial⟩
 | agg l=>obtain ⟨ys,rfl,h⟩:=h;exact h
theorem ConcX.ones {L:Nat->Prop} {E:Env} {w:World} {v:XV} {y:Value} (h:ConcX L E w v y):y.cells.all Value.oneCell'=true:=by
 have:=h.cells.ones
 rw [Array.all_eq_true_iff_forall_mem]
 intro x hx
 exact this x (by simpa using hx)
theorem qw8 {L:Nat->Prop} {E:Env} {w:World} {place:Nat->Option (Nat×Nat)}:∀{ps:List (Nat×List CV)} {qs:List (Nat×Value)} {cells l:List CV} {arr:Array Value},
  Fa2 (λ (p:Nat×List CV) (q:Nat×Value)=>p.1=q.1/\Fa2 (jb9 L E w) p.2 q.2.cells.toList) ps qs->Fa2 (jb9 L E w) cells arr.toList->vw9 place cells ps=some l->
  ∃arr',Instr.fill place arr qs=some arr'/\Fa2 (jb9 L E w) l arr'.toList
 | [],[],cells,l,arr,_,hc,h=>by
  simp only [vw9,Option.some.injEq] at h
  subst h
  exact ⟨arr,rfl,hc⟩
 | (i,d) :: ps,(i',v) :: qs,cells,l,arr,hp,hc,h=>by
  obtain ⟨⟨h1,h2⟩,hp⟩:=hp
  simp only at h1 h2
  subst h1
  unfold vw9 at h
  split at h <;> try (simp at h;done)
  rename_i off size hpl
  split at h <;> try (simp at h;done)
  rename_i hs
  simp only [Bool.and_eq_true,Nat.beq_eq,Nat.ble_eq] at hs
  have l1:=h2.len
  have l2:=hc.len
  simp only [Array.length_toList] at l1 l2
  have e:=vl8 off v.cells arr (by omega)
  unfold Instr.fill
  rw [hpl]
  simp only
  rw [if_neg (by simp;omega)]
  refine qw8 hp ?_ h
  rw [e]
  have:=Fa2.splice off hc h2
  unfold PR.splice at this
  rw [Array.length_toList] at this
  exact this
 | [],_ :: _,_,_,_,hp,_,_=>hp.elim
 | _ :: _,[],_,_,_,hp,_,_=>hp.elim
theorem yj1 {P:Program} {t:TypeId} {pl:Nat->Option (Nat×Nat)} {it:TypeInfo} {z:Value} (h1:vw8 P t=some pl) (h2:P.info? t=some it) (h3:it.zero=some z) (parts:List (Nat×Value)):P.built t parts=Instr.fill pl z.cells parts:=by
 unfold vw8 at h1
 unfold Program.built
 rw [h2]
 split at h1 <;> try (simp at h1;done)
 ·rename_i n e hu
  split at h1 <;> try (simp at h1;done)
  rename_i ie hi
  simp only [Option.some.injEq] at h1
  subst h1
  simp only [hu,h3,hi]
 ·rename_i fs hu
  split at h1 <;> try (simp at h1;done)
  rename_i pls hp
  simp only [Option.some.injEq] at h1
  subst h1
  simp only [hu,h3,hp]
theorem jr0 {P:Program} {t:TypeId} {l:List Value} (h:vf8 P t=some l):∃i z,P.info? t=some i/\i.zero=some z/\z.cells=l.toArray/\l.length=i.size/\∀x∈l,jh6 x=true:=by
 unfold vf8 at h
 split at h <;> try (simp at h;done)
 rename_i i hi
 split at h <;> try (simp at h;done)
 rename_i z hz
 split at h <;> try (simp at h;done)
 rename_i hp
 simp only [Bool.and_eq_true,Nat.beq_eq] at hp
 simp only [Option.some.injEq] at h
 subst h
 exact ⟨i,z,hi,hz,by simp,by simpa using hp.2,List.all_eq_true.1 hp.1⟩
theorem qf7 {L:Nat->Prop} {E:Env} {w:World}:∀{l:List Value},(∀x∈l,jh6 x=true)->Fa2 (jb9 L E w) (l.map CV.v) l
 | [],_=>trivial
 | x :: l,h=>⟨Rep.v (h x (by simp)),qf7 λ y hy=>h y (by simp [hy])⟩
theorem q07 {F:Nat->Prop} {w:World} {u:Value} (i':Int) (b:Nat):∀(cs:List CV) (r:Row) (i:Int) (off:Nat),Rep F w (if i'=i/\off<=b/\b < off + cs.length then (cs[b - off]?).getD yr7 else den r i' b) u->Rep F w (den (q88 r i off cs) i' b) u
 | [],r,i,off,h=>by rw [if_neg (by simp only [List.length_nil];omega)] at h;exact h
 | c :: cs,r,i,off,h=>by
  unfold q88
  refine q07 i' b cs _ _ _ ?_
  simp only [List.length_cons] at h
  by_cases h1:i'=i/\off + 1<=b/\b < off + 1 + cs.length
  ·rw [if_pos h1]
   rw [if_pos (by omega)] at h
   obtain ⟨j,rfl⟩:∃j,b=off + 1 + j:=⟨b - (off + 1),by omega⟩
   rw [show off + 1 + j - off=j + 1 by omega,List.getElem?_cons_succ] at h
   rw [show off + 1 + j - (off + 1)=j by omega]
   exact h
  ·rw [if_neg h1]
   show Rep F w (bif Nat.beq off b then QR.csel (ieq i' i) c (den r i' b) else den r i' b) u
   by_cases h2:off=b
   ·subst h2
    rw [Nat.beq_refl,cond_true]
    by_cases h3:i'=i
    ·subst h3
     rw [if_pos (by omega)] at h
     rw [show ieq i' i'=true by simp [ieq]]
     exact Rep.yj0 (by simpa using h) _
    ·rw [if_neg (by omega)] at h
     rw [show ieq i' i=false by simpa [ieq] using h3]
     exact Rep.yv8 h _
   ·rw [if_neg (by omega)] at h
    rw [qc0 h2,cond_false];exact h
theorem yv9 {z a b c d:Nat} (hb:b < z) (hd:d < z) (h:a * z + b=c * z + d):a=c/\b=d:=by
 have h1:(a * z + b) / z=a:=by rw [Nat.add_comm,Nat.add_mul_div_right _ _ (by omega),Nat.div_eq_of_lt hb,Nat.zero_add]
 have h2:(c * z + d) / z=c:=by rw [Nat.add_comm,Nat.add_mul_div_right _ _ (by omega),Nat.div_eq_of_lt hd,Nat.zero_add]
 have:a=c:=by rw [<- h1,<- h2,h]
 subst this
 omega
theorem qw9 {z n i j:Nat} (hi:i < n) (hj:j < z):i * z + j < n * z:=by
 have:(i + 1) * z<=n * z:=Nat.mul_le_mul_right z hi
 rw [Nat.add_mul,Nat.one_mul] at this
 omega
theorem jd7.upd {F:Nat->Prop} {w:World} {z n:Nat} {r:Row} {xs ys:List Value} {cs:List CV} {i off:Nat} (h:jd7 F w z n r xs) (hx:xs.length=n * z) (hc:Fa2 (Rep F w) cs ys) (hi:i < n) (ho:off + cs.length<=z) :
  jd7 F w z n (q88 r i off cs) (splice xs (i * z + off) ys)/\(splice xs (i * z + off) ys).length=n * z:=by
 have hl:=hc.len
 have hle:i * z + off + ys.length<=xs.length:=by
  have:(i + 1) * z<=n * z:=Nat.mul_le_mul_right z hi
  rw [Nat.add_mul,Nat.one_mul] at this
  omega
 unfold splice
 refine ⟨λ i' j hi' hj=>?_,by rw [jq9 _ _ _ hle,hx]⟩
 rw [jj7 _ _ _ _ hle]
 obtain ⟨u,e1,e2⟩:=h i' j hi' hj
 by_cases hc':(i':Int)=i/\off<=j/\j < off + cs.length
 ·have hpos:=hc'
  obtain ⟨h1,h2,h3⟩:=hc'
  have h1:i'=i:=by omega
  subst h1
  rw [if_neg (by omega),if_pos (by omega),show i' * z + j - (i' * z + off)=j - off by omega]
  have hlt:j - off < cs.length:=by omega
  obtain ⟨b,b1,b2⟩:=hc.get (i:=j - off) (a:=cs[j - off]) (by simp)
  exact ⟨b,b1,q07 _ _ _ _ _ _ (by rw [if_pos hpos,List.getElem?_eq_getElem hlt];exact b2)⟩
 ·have e2:Rep F w (den (q88 r i off cs) i' j) u:=q07 _ _ _ _ _ _ (by rw [if_neg hc'];exact e2)
  have:¬ (i * z + off<=i' * z + j/\i' * z + j < i * z + off + ys.length):=by
   rintro ⟨g1,g2⟩
   obtain ⟨d,hd⟩:∃d,i' * z + j=i * z + (off + d):=⟨i' * z + j - (i * z + off),by omega⟩
   obtain ⟨k1,k2⟩:=yv9 hj (by omega) hd
   exact hc' (by omega)
  by_cases g1:i' * z + j < i * z + off
  ·rw [if_pos g1];exact ⟨u,e1,e2⟩
  ·rw [if_neg g1,if_neg (by omega)];exact ⟨u,e1,e2⟩
theorem vl9:∀(l:List Value) (j:Nat) (x:Value),l[j]?=some x->nthV l j=.v x
 | [],j,x,h=>by simp at h
 | y :: l,0,x,h=>by simp at h;subst h;rfl
 | y :: l,j + 1,x,h=>vl9 l j x (by simpa using h)
theorem jd7.zer {F:Nat->Prop} {w:World} {l:List Value} (hp:∀x∈l,jh6 x=true) {n:Int} {xs:List Value} (h:∀i j:Nat,(i:Int) < n->j < l.length->xs[i * l.length + j]?=l[j]?):jd7 F w l.length n (.zer l) xs:=by
 intro i j hi hj
 have e:l[j]?=some l[j]:=List.getElem?_eq_getElem hj
 refine ⟨l[j],by rw [h i j hi hj,e],?_⟩
 show Rep F w (nthV l j) _
 rw [vl9 l j _ e]
 exact .v (hp _ (List.getElem_mem hj))
theorem js2 {base:Nat} {X F0:Nat->Prop} {E:Env} {s:PSt} {a:Act} {w:World}:∀{l:List (Nat×Operand)} {ps:List (Nat×List CV)},(∀p∈l,jd6 (live s) E w (valOf s p.2) (a.eval p.2))->partsOf s l=some ps->
  Fa2 (λ (p:Nat×List CV) (q:Nat×Value)=>p.1=q.1/\Fa2 (jb9 (live s) E w) p.2 q.2.cells.toList) ps (l.map λ p=>(p.1,a.eval p.2))
 | [],ps,_,h=>by simp only [partsOf,Option.some.injEq] at h;subst h;trivial
 | (i,x) :: l,ps,hc,h=>by
  unfold partsOf at h
  split at h <;> try (simp at h;done)
  rename_i v m h1 h2
  simp only [Option.some.injEq] at h
  subst h
  have:=hc (i,x) (by simp)
  rw [h1] at this
  exact ⟨⟨rfl,ConcX.cells this⟩,js2 (base:=base) (X:=X) (F0:=F0) (λ p hp=>hc p (by simp [hp])) h2⟩
theorem y83 {L:Nat->Prop} {E:Env} {w:World} {c:CV} {y:Value} (hc:isFz c=true) (h:jb9 L E w c y):Rep E.F w c y:=by
 cases c with
 | v x=>exact h
 | slc z n r=>exact h
 | own m n=>simp [isFz] at hc
 | ptr m off=>simp [isFz] at hc
 | fn f caps=>simp [isFz] at hc
 | fresh z n r=>simp [isFz] at hc
 | clo f l=>exact h
theorem vy2 {L:Nat->Prop} {E:Env} {w:World} {l:List CV} {ys:List Value} (hc:l.all isFz=true) (h:Fa2 (jb9 L E w) l ys):Fa2 (Rep E.F w) l ys :=
 Fa2.vx5 (λ c hm y=>y83 (List.all_eq_true.1 hc c hm)) h
theorem qo0 {L:Nat->Prop} {E:Env} {w:World} {z n:Nat}:∀{ps:List (Nat×List CV)} {qs:List (Nat×Value)} {r0 r:Row} {arr:Array Value},
  Fa2 (λ (p:Nat×List CV) (q:Nat×Value)=>p.1=q.1/\Fa2 (jb9 L E w) p.2 q.2.cells.toList) ps qs->(∀p∈ps,p.1 < n)->jd7 E.F w z n r0 arr.toList->arr.size=n * z->vx0 z r0 ps=some r->
  ∃arr',Instr.fill (λ i=>some (i * z,z)) arr qs=some arr'/\jd7 E.F w z n r arr'.toList/\arr'.size=n * z
 | [],[],r0,r,arr,_,_,hr,hs,h=>by
  simp only [vx0,Option.some.injEq] at h
  subst h
  exact ⟨arr,rfl,hr,hs⟩
 | (i,d) :: ps,(i',v) :: qs,r0,r,arr,hp,hn,hr,hs,h=>by
  obtain ⟨⟨h1,h2⟩,hp⟩:=hp
  simp only at h1 h2
  subst h1
  unfold vx0 at h
  split at h <;> try (simp at h;done)
  rename_i hz
  simp only [Bool.and_eq_true,Nat.beq_eq] at hz
  have l1:=h2.len
  simp only [Array.length_toList] at l1
  have hi:i < n:=hn (i,d) (by simp)
  have hle:i * z + z<=n * z:=by
   have:(i + 1) * z<=n * z:=Nat.mul_le_mul_right z hi
   rw [Nat.add_mul,Nat.one_mul] at this
   exact this
  have e:=vl8 (i * z) v.cells arr (by omega)
  have ru:=jd7.upd (off:=0) hr (by simpa using hs) (vy2 hz.2 h2) hi (by omega)
  unfold splice at ru
  rw [Nat.add_zero,Array.length_toList] at ru
  rw [<- e] at ru
  unfold Instr.fill
  simp only
  rw [if_neg (by simp;omega)]
  exact qo0 hp (λ p hp=>hn p (by simp [hp])) ru.1 (by simpa using ru.2) h
 | [],_ :: _,_,_,_,hp,_,_,_,_=>hp.elim
 | _ :: _,[],_,_,_,hp,_,_,_,_=>hp.elim
theorem jd7.app {F:Nat->Prop} {w:World} {z:Nat} {n n2:Int} {r r2:Row} {xs ys:List Value} (h0:0<=n) (hx:xs.length=n.toNat * z) (h:jd7 F w z n r xs) (k:jd7 F w z n2 r2 ys):jd7 F w z (addZ n n2) (.app r n r2) (xs ++ ys):=by
 intro i j hi hj
 show ∃u,_/\Rep F w (csel (ilt i n) (den r i j) (den r2 (subZ i n) j)) u
 by_cases hlt:(i:Int) < n
 ·rw [show ilt (i:Int) n=true from decide_eq_true hlt]
  obtain ⟨u,e1,e2⟩:=h i j hlt hj
  have:i * z + j < xs.length:=by rw [hx];exact qw9 (by omega) hj
  exact ⟨u,by rw [List.getElem?_append_left this];exact e1,Rep.yj0 e2 _⟩
 ·rw [show ilt (i:Int) n=false from decide_eq_false hlt]
  obtain ⟨d,hd⟩:∃d:Nat,i=n.toNat + d:=⟨i - n.toNat,by omega⟩
  unfold addZ at hi
  obtain ⟨u,e1,e2⟩:=k d j (by omega) hj
  refine ⟨u,?_,?_⟩
  ·rw [List.getElem?_append_right (by rw [hx,hd,Nat.add_mul];omega),hx,hd,Nat.add_mul,show n.toNat * z + d * z + j - n.toNat * z=d * z + j by omega]
   exact e1
  ·rw [show subZ (i:Int) n=d by unfold subZ;omega];exact Rep.yv8 e2 _
theorem Rep.one {F:Nat->Prop} {w:World} {c:CV} {y:Value} (h:Rep F w c y):y.oneCell'=true :=
 (jb9.one (L:=λ _=>True) (E:=⟨F,λ n=>n,λ _=>undef⟩) (jb9.jq0 h)).1
theorem Rep.news {F:Nat->Prop} {w:World} {z:Nat} {n:Int} {r:Row} {y:Value} (h:Rep F w (.slc z n r) y) :
  (y=.slice none 0 0/\n=0)\/∃(ad:Addr) (m c:Nat) (news:List Value),y=.slice (some ad) m c/\n=m/\news.length=m * z/\(∀j u,news[j]?=some u->w.cell? (ad.add j)=some u)/\(∀u∈news,u.oneCell'=true)/\jd7 F w z n r news:=by
 cases h with
 | nil hz hc =>
  rename_i a c
  cases a with
  | none=>rw [hc rfl];exact Or.inl ⟨rfl,rfl⟩
  | some ad=>exact Or.inr ⟨ad,0,c,[],rfl,rfl,by simp,by simp,by simp,λ i j hi _=>by omega⟩
 | slc u hz hc hF hh hu hr =>
  rename_i m b off c arr t fr
  refine Or.inr ⟨⟨b,off,none⟩,m,c,(arr.toList.drop off).take (m * z),rfl,rfl,?_,λ j v hv=>?_,λ v hv=>?_,λ i j hi hj=>?_⟩
  ·rw [List.length_take,List.length_drop,Array.length_toList]
   by_cases hm:m=0
   ·subst hm;simp
   ·have e:=hu (m - 1) (z - 1) (by omega) (by omega)
    have lt:=(Array.getElem?_eq_some_iff.1 e).1
    have:(m - 1) * z + z=m * z:=by rw [<- Nat.succ_mul,show (m - 1).succ=m by omega]
    omega
  ·rw [Addr.add_lit]
   simp only [World.cell?,hh]
   rw [List.getElem?_take] at hv
   split at hv
   ·rw [List.getElem?_drop] at hv;simpa using hv
   ·simp at hv
  ·obtain ⟨k,hk,e⟩:=List.getElem_of_mem hv
   have hkl:k < m * z:=by rw [List.length_take] at hk;omega
   have hq:k / z < m:=by rw [Nat.div_lt_iff_lt_mul hz];exact hkl
   have hm:=Nat.mod_lt k hz
   have e2:=hu (k / z) (k % z) hq hm
   have e3:=hr (k / z) (k % z) hq hm
   have:off + k / z * z + k % z=off + k:=by rw [Nat.add_assoc,Nat.mul_comm,Nat.div_add_mod]
   rw [this,<- Array.getElem?_toList] at e2
   have e4:((arr.toList.drop off).take (m * z))[k]?=some v:=by rw [List.getElem?_eq_getElem hk,e]
   rw [List.getElem?_take,if_pos hkl,List.getElem?_drop,e2] at e4
   simp only [Option.some.injEq] at e4
   rw [<- e4];exact e3.one
  ·have hi':i < m:=by omega
   refine ⟨u i j,?_,hr i j hi' hj⟩
   rw [List.getElem?_take,if_pos (qw9 hi' hj),List.getElem?_drop,Array.getElem?_toList]
   have:=hu i j hi' hj
   rw [Nat.add_assoc] at this
   exact this
section
variable {P:Program} (w:World)
theorem jg1 (P:Program) (g o:Nat) (t:TypeId) (fz:Nat×Nat):∀(vs:List Value) (i:Nat) (cur:Array Value) (w:World),w.heap[g]?=some (.cells cur t fz)->noFz fz cur.size->o + i + vs.length<=cur.size->(∀v∈vs,v.oneCell'=true)->
  (storeCells ⟨g,o,none⟩ vs i).run P w=.ok () (w.setRow g (cur.toList.take (o + i) ++ vs ++ cur.toList.drop (o + i + vs.length)).toArray)
 | [],i,cur,w,hg,_,_,_=>by
  simp only [storeCells,List.append_nil,List.length_nil,Nat.add_zero,List.take_append_drop,Array.toArray_toList]
  rw [setRow_self w g cur t fz hg]
  rfl
 | v :: rest,i,cur,w,hg,hfz,hl,h1=>by
  have hi:o + i < cur.size:=by simp at hl;omega
  have hadd:(⟨g,o,none⟩:Addr).add i=⟨g,o + i,none⟩:=by unfold Addr.add;split <;> simp_all
  have hcell:w.cell? ⟨g,o + i,none⟩=some cur[o + i]:=by simp [World.cell?,hg,hi]
  have hfro:w.frozen? ⟨g,o + i,none⟩=false:=by
   obtain ⟨lo,hi'⟩:=fz
   simp only [World.frozen?,hg,Bool.and_eq_false_iff,decide_eq_false_iff_not]
   rcases hfz with hfz | hfz
   ·simp only [Prod.mk.injEq] at hfz;right;omega
   ·left;simp only at hfz;omega
  have hst:(store ((⟨g,o,none⟩:Addr).add i) v).run P w=.ok () (w.setRow g (cur.setIfInBounds (o + i) v)):=by
   rw [hadd,run_store P w _ v _ (h1 v (by simp)),hcell]
   simp [hfro,setCell_eq_setRow w g (o + i) cur t fz v hg]
  have ih:=jg1 P g o t fz rest (i + 1) (cur.setIfInBounds (o + i) v) (w.setRow g (cur.setIfInBounds (o + i) v)) (setRow_heap w g cur _ t _ hg) (by simpa using hfz) (by simp at hl ⊢;omega) (λ x hx=>h1 x (by simp [hx]))
  simp only [storeCells,Sem.run_bind,hst,Result.andThen_ok,ih,setRow_setRow]
  congr 3
  have e:=list_seg_step cur.toList (o + i) v rest (by simp at hl ⊢;omega)
  simpa [Array.toList_setIfInBounds,Nat.add_assoc] using e
theorem q08 {P:Program} {w:World} (g off:Nat) (t ty:TypeId) (fz:Nat×Nat) (cur:Array Value) (x:Value) (hg:w.heap[g]?=some (.cells cur t fz)) (hfz:noFz fz cur.size) (hi:(P.info? ty).isSome=true)
  (hs:x.cells.size=jd0 P ty) (hl:off + x.cells.size<=cur.size) (h1:x.cells.all Value.oneCell'=true) :
  (Instr.storeAt ty (.pointer (some ⟨g,off,none⟩)) x).run P w=.ok () (w.setRow g (PR.splice cur.toList off x.cells.toList).toArray):=by
 obtain ⟨i,hi⟩:=Option.isSome_iff_exists.1 hi
 have hs:x.cells.size=i.size:=by simpa [jd0,hi] using hs
 have:=jg1 P g off t fz x.cells.toList 0 cur w hg hfz (by simpa using hl) (λ v hv=>(Array.all_eq_true_iff_forall_mem.1 h1) v (by simpa using hv))
 simp only [Nat.add_zero] at this
 simp [Instr.storeAt,Instr.sureAddr,storeVar,sizeOf,typeInfo,hi,hs,this,PR.splice]
theorem vy3 (t ty e e0:TypeId) (i:TypeInfo) (z:Value) (ht:P.underlying t=some (.slice e)) (hi:P.info? e=some i) (hz:i.zero=some z) (hzs:z.cells.size=i.size)
  (v:Value) (n:Nat) (xs:List Value) (hown:OwnR w e0 i.size v n xs)
  (a:Addr) (m c:Nat) (news:List Value) (hl:news.length=m * i.size) (hnews:∀j u,news[j]?=some u->w.cell? (a.add j)=some u) (h1:∀u∈news,u.oneCell'=true)
  (h63:n + m<=maxLen) (hbytes:(n + m) * i.bytes<=140737488355328) :
  ∃v' w' e',(Builtin.append_ #[t,t] ty #[v,.slice (some a) m c]).run P w=.ok v' w'/\OwnR w' e' i.size v' (n + m) (xs ++ news)/\w.grownBy w' v.ownBlock/\
   ∀k,v'.ownBlock=some k->w.heap.size<=k\/v.ownBlock=some k:=by
 have hsmall:n + m<=9223372036854775807:=by simp only [maxLen] at h63;omega
 have hlen:(xs ++ news).length=(n + m) * i.size:=by rw [List.length_append,hown.1,hl,Nat.add_mul]
 have grown:∀(old:Nat) (row:Option Nat),
   OwnR (w.drew.alloc (.cells (xs.toArray ++ news.toArray ++ Builtin.zeroCells z.cells (grownCap w (n + m) old e - (n + m))) e)) e i.size (.slice (some ⟨w.heap.size,0,none⟩) (n + m) (grownCap w (n + m) old e)) (n + m) (xs ++ news)/\
   w.grownBy (w.drew.alloc (.cells (xs.toArray ++ news.toArray ++ Builtin.zeroCells z.cells (grownCap w (n + m) old e - (n + m))) e)) row:=by
  intro old row
  have hge:=grownCap_ge w (n + m) old e
  have hcm:=grownCap_le_maxLen w (n + m) old e h63
  refine ⟨⟨hlen,.inr ⟨w.heap.size,_,_,rfl,⟨(0,0),Or.inl rfl,heap_alloc_new w.drew _⟩,hge,hcm,?_,?_⟩⟩,⟨rfl,rfl,rfl,by simp,λ k hk _=>heap_alloc_old w.drew _ k hk⟩⟩
  ·have:=congrArg (· * i.size) (show n + m + (grownCap w (n + m) old e - (n + m))=grownCap w (n + m) old e by omega)
   simp only [Nat.add_mul] at this
   simp only [Array.size_append,List.size_toArray,size_zeroCells,hzs,hown.1,hl]
   exact this
  ·rw [<- hlen]
   simp only [Array.toList_append]
   exact List.take_left
 rcases hown.2 with ⟨rfl,rfl⟩ | ⟨g,cap,cur,rfl,⟨fz,hfz,hg⟩,hnc,hcm,hcs,htake⟩
 ·have hx:xs=[]:=List.eq_nil_of_length_eq_zero (by simpa using hown.1)
  subst hx
  by_cases hm:m=0
  ·subst hm
   have hn:news=[]:=List.eq_nil_of_length_eq_zero (by simpa using hl)
   subst hn
   refine ⟨.slice none 0 0,w,e,?_,(OwnB.nil (base:=0)).1,⟨rfl,rfl,rfl,Nat.le_refl _,λ _ _ _=>rfl⟩,λ k hk=>by simp [Value.ownBlock] at hk⟩
   simp [Builtin.append_,run_underlying ht,sizeOf,typeInfo,hi,Builtin.lenOf,Builtin.firstCells,loadCells,loadCellsFrom]
  ·have hr:=run_append_nil (P:=P) w t ty e i z ht hi hz a m c news hl hnews (by omega) (by omega) (by simp only [Nat.zero_add] at hbytes;omega)
   have hgr:=grown 0 (Value.ownBlock (.slice none 0 0))
   simp only [Nat.zero_add,List.nil_append,Array.empty_append] at hgr ⊢
   exact ⟨_,_,e,hr,hgr.1,hgr.2,λ k hk=>by simp only [Value.ownBlock,Option.some.injEq] at hk;omega⟩
 ·by_cases hroom:n + m<=cap
  ·have hfit:n * i.size + news.length<=cur.size:=by rw [hl,hcs,<- Nat.add_mul];exact Nat.mul_le_mul_right _ hroom
   have hf:=run_firstCells_some (P:=P) w i.size m a m c news hl hnews
   have hst:=jg1 P g (n * i.size) e0 fz news 0 cur w hg hfz (by simpa using hfit) h1
   simp only [Nat.add_zero] at hst
   have hr:(Builtin.append_ #[t,t] ty #[.slice (some ⟨g,0,none⟩) n cap,.slice (some a) m c]).run P w =
     .ok (.slice (some ⟨g,0,none⟩) (n + m) cap) (w.setRow g (cur.toList.take (n * i.size) ++ news ++ cur.toList.drop (n * i.size + news.length)).toArray):=by
    simp [Builtin.append_,run_underlying ht,sizeOf,typeInfo,hi,Builtin.lenOf,hroom,hf,Addr.add_lit,hst]
   refine ⟨_,_,e0,hr,⟨hlen,.inr ⟨g,cap,_,rfl,⟨fz,?_,setRow_heap w g cur _ e0 _ hg⟩,hroom,hcm,?_,?_⟩⟩,⟨rfl,rfl,rfl,by simp,λ k _ hk=>setRow_other w g k _ (λ e=>hk (by simp [Value.ownBlock,e]))⟩,λ k hk=>Or.inr hk⟩
   ·have e:(cur.toList.take (n * i.size) ++ news ++ cur.toList.drop (n * i.size + news.length)).toArray.size=cur.size:=by
     simp only [List.size_toArray,List.length_append,List.length_take,List.length_drop,Array.length_toList]
     omega
    rw [e];exact hfz
   ·simp only [List.size_toArray,List.length_append,List.length_take,List.length_drop,Array.length_toList]
    omega
   ·rw [htake,<- hlen]
    exact List.take_left
  ·have holds:∀j u,xs[j]?=some u->w.cell? ((⟨g,0,none⟩:Addr).add j)=some u:=hown.cells (g:=g) rfl
   have hr:=run_append_grow (P:=P) w t ty e i z ht hi hz ⟨g,0,none⟩ n cap xs hown.1 holds a m c news hl hnews (by omega) (by omega) (growslice_fits (by omega) hbytes)
   have hgr:=grown cap (Value.ownBlock (.slice (some ⟨g,0,none⟩) n cap))
   exact ⟨_,_,e,hr,hgr.1,hgr.2,λ k hk=>by simp only [Value.ownBlock,Option.some.injEq] at hk;omega⟩
theorem q09 (t u ty e e0:TypeId) (i:TypeInfo) (z:Value) (ht:P.underlying t=some (.slice e)) (hu:P.underlying u=some .string) (hi:P.info? e=some i) (hz:i.zero=some z) (hzs:z.cells.size=i.size) (hs1:i.size=1)
  (v:Value) (n:Nat) (xs:List Value) (hown:OwnR w e0 i.size v n xs) (b:ByteArray)
  (h63:n + b.size<=maxLen) (hbytes:(n + b.size) * i.bytes<=140737488355328) :
  ∃v' w' e',(Builtin.append_ #[t,u] ty #[v,.string b]).run P w=.ok v' w'/\OwnR w' e' i.size v' (n + b.size) (xs ++ Lib.strCells b)/\w.grownBy w' v.ownBlock/\
   ∀k,v'.ownBlock=some k->w.heap.size<=k\/v.ownBlock=some k:=by
 have hl:(Lib.strCells b).length=b.size * i.size:=by rw [Lib.strCells_length,hs1,Nat.mul_one]
 have h1:=Lib.strCells_oneCell b
 have hsmall:n + b.size<=9223372036854775807:=by simp only [maxLen] at h63;omega
 have hlen:(xs ++ Lib.strCells b).length=(n + b.size) * i.size:=by rw [List.length_append,hown.1,hl,Nat.add_mul]
 have grown:∀(old:Nat) (row:Option Nat),
   OwnR (w.drew.alloc (.cells (xs.toArray ++ (Lib.strCells b).toArray ++ Builtin.zeroCells z.cells (grownCap w (n + b.size) old e - (n + b.size))) e)) e i.size (.slice (some ⟨w.heap.size,0,none⟩) (n + b.size) (grownCap w (n + b.size) old e)) (n + b.size) (xs ++ Lib.strCells b)/\
   w.grownBy (w.drew.alloc (.cells (xs.toArray ++ (Lib.strCells b).toArray ++ Builtin.zeroCells z.cells (grownCap w (n + b.size) old e - (n + b.size))) e)) row:=by
  intro old row
  have hge:=grownCap_ge w (n + b.size) old e
  have hcm:=grownCap_le_maxLen w (n + b.size) old e h63
  refine ⟨⟨hlen,.inr ⟨w.heap.size,_,_,rfl,⟨(0,0),Or.inl rfl,heap_alloc_new w.drew _⟩,hge,hcm,?_,?_⟩⟩,⟨rfl,rfl,rfl,by simp,λ k hk _=>heap_alloc_old w.drew _ k hk⟩⟩
  ·have:=congrArg (· * i.size) (show n + b.size + (grownCap w (n + b.size) old e - (n + b.size))=grownCap w (n + b.size) old e by omega)
   simp only [Nat.add_mul] at this
   simp only [Array.size_append,List.size_toArray,size_zeroCells,hzs,hown.1,hl]
   exact this
  ·rw [<- hlen]
   simp only [Array.toList_append]
   exact List.take_left
 have hbd:b.data.map (λ b=>Value.int .u8 (b.toNat:Int))=(Lib.strCells b).toArray:=by
  apply Array.ext'
  simp [Lib.strCells]
 rcases hown.2 with ⟨rfl,rfl⟩ | ⟨g,cap,cur,rfl,⟨fz,hfz,hg⟩,hnc,hcm,hcs,htake⟩
 ·have hx:xs=[]:=List.eq_nil_of_length_eq_zero (by simpa using hown.1)
  subst hx
  by_cases hm:b.size=0
  ·have hn:Lib.strCells b=[]:=List.eq_nil_of_length_eq_zero (by rw [Lib.strCells_length];exact hm)
   rw [hm,hn]
   refine ⟨.slice none 0 0,w,e,?_,(OwnB.nil (base:=0)).1,⟨rfl,rfl,rfl,Nat.le_refl _,λ _ _ _=>rfl⟩,λ k hk=>by simp [Value.ownBlock] at hk⟩
   have hf:=Lib.run_firstCells_string (P:=P) w i.size b
   rw [hm] at hf
   simp [Builtin.append_,run_underlying ht,run_underlying hu,sizeOf,typeInfo,hi,Builtin.lenOf,hf,hm]
  ·have hr:=run_append_nil_string (P:=P) w t u ty e i z ht hu hi hz b (by omega) (by omega) (by simp only [Nat.zero_add] at hbytes;omega)
   have hgr:=grown 0 (Value.ownBlock (.slice none 0 0))
   rw [hbd] at hr
   simp only [Nat.zero_add,List.nil_append,Array.empty_append] at hgr ⊢
   exact ⟨_,_,e,hr,hgr.1,hgr.2,λ k hk=>by simp only [Value.ownBlock,Option.some.injEq] at hk;omega⟩
 ·by_cases hroom:n + b.size<=cap
  ·have hfit:n * i.size + (Lib.strCells b).length<=cur.size:=by rw [hl,hcs,<- Nat.add_mul];exact Nat.mul_le_mul_right _ hroom
   have hf:=Lib.run_firstCells_string (P:=P) w i.size b
   have hst:=jg1 P g (n * i.size) e0 fz (Lib.strCells b) 0 cur w hg hfz (by simpa using hfit) h1
   simp only [Nat.add_zero] at hst
   have hr:(Builtin.append_ #[t,u] ty #[.slice (some ⟨g,0,none⟩) n cap,.string b]).run P w =
     .ok (.slice (some ⟨g,0,none⟩) (n + b.size) cap) (w.setRow g (cur.toList.take (n * i.size) ++ Lib.strCells b ++ cur.toList.drop (n * i.size + (Lib.strCells b).length)).toArray):=by
    simp [Builtin.append_,run_underlying ht,run_underlying hu,sizeOf,typeInfo,hi,Builtin.lenOf,hroom,hf,Addr.add_lit,hst]
   refine ⟨_,_,e0,hr,⟨hlen,.inr ⟨g,cap,_,rfl,⟨fz,?_,setRow_heap w g cur _ e0 _ hg⟩,hroom,hcm,?_,?_⟩⟩,⟨rfl,rfl,rfl,by simp,λ k _ hk=>setRow_other w g k _ (λ e=>hk (by simp [Value.ownBlock,e]))⟩,λ k hk=>Or.inr hk⟩
   ·have e:(cur.toList.take (n * i.size) ++ Lib.strCells b ++ cur.toList.drop (n * i.size + (Lib.strCells b).length)).toArray.size=cur.size:=by
     simp only [List.size_toArray,List.length_append,List.length_take,List.length_drop,Array.length_toList]
     omega
    rw [e];exact hfz
   ·simp only [List.size_toArray,List.length_append,List.length_take,List.length_drop,Array.length_toList]
    omega
   ·rw [htake,<- hlen]
    exact List.take_left
  ·have holds:∀j u,xs[j]?=some u->w.cell? ((⟨g,0,none⟩:Addr).add j)=some u:=hown.cells (g:=g) rfl
   have hr:=Lib.run_append_grow_string (P:=P) w t u ty e i z ht hu hi hz ⟨g,0,none⟩ n cap xs hown.1 holds b (by omega) (by omega) (growslice_fits (by omega) hbytes)
   have hgr:=grown cap (Value.ownBlock (.slice (some ⟨g,0,none⟩) n cap))
   exact ⟨_,_,e,hr,hgr.1,hgr.2,λ k hk=>by simp only [Value.ownBlock,Option.some.injEq] at hk;omega⟩
end
theorem jd7.str {F:Nat->Prop} {w:World} (b:ByteArray):jd7 F w 1 (jx4 b) (.lst .u8 (strL b)) (Lib.strCells b):=λ i j hi hj=>by
 obtain rfl:j=0:=by omega
 have hi:i < b.data.toList.length:=by
  have:(i:Int) < (b.size:Int):=hi
  rw [Array.length_toList]
  show i < b.size
  omega
 refine ⟨.int .u8 (b.data.toList[i]).toNat,?_,?_⟩
 ·simp only [Lib.strCells,Nat.mul_one,Nat.add_zero,List.getElem?_map,List.getElem?_eq_getElem hi,Option.map_some]
 ·show Rep F w (.v (.int .u8 (bAt (strL b) i))) _
  have:bAt (strL b) (i:Int)=((b.data.toList[i]).toNat:Int):=by
   unfold bAt strL
   simp only [Int.toNat_natCast,List.getElem?_map,List.getElem?_eq_getElem hi,Option.map_some,Option.getD_some]
  rw [this]
  exact .v rfl
theorem yj2 {l:List Value} (hl:0 < l.length) {N i j:Nat} (h:i * l.length + j < N) (hj:j < l.length):(madeCells l.toArray N).toList[i * l.length + j]?=l[j]?:=by
 unfold madeCells
 rw [Array.getElem?_toList,Array.getElem?_map,Array.getElem?_range,if_pos h]
 simp only [Option.map_some,List.size_toArray]
 have:(i * l.length + j) % l.length=j:=by rw [Nat.add_comm,Nat.add_mul_mod_self_right,Nat.mod_eq_of_lt hj]
 rw [this,List.getElem?_eq_getElem hj]
 simp [hj]
theorem jd7.made {F:Nat->Prop} {w:World} {l:List Value} (hp:∀x∈l,jh6 x=true) (hl:0 < l.length) (n:Int) (N:Nat) (h:n.toNat<=N):jd7 F w l.length n (.zer l) ((madeCells l.toArray (N * l.length)).toList.take (n.toNat * l.length)):=by
 refine jd7.zer hp λ i j hi hj=>?_
 have lt:=qw9 (z:=l.length) (show i < n.toNat by omega) hj
 rw [List.getElem?_take,if_pos lt]
 refine yj2 hl ?_ hj
 have:=Nat.mul_le_mul_right l.length h
 omega
end Go.Proofs.YthkidembkknoeaaDoor.QR
namespace Go.Proofs.YthkidembkknoeaaDoor.QR
open Go.RowKit PR
set_option linter.unusedVariables false
set_option linter.unusedSimpArgs false
theorem cv_v {L:Nat->Prop} {E:Env} {w:World} {x y:Value} (h:jd6 L E w (.x (.c (.v x))) y):y=x:=by
 have h:Rep E.F w (.v x) y:=h
 cases h;rfl
theorem qc8 {L:Nat->Prop} {E:Env} {w:World} {m off:Nat} {y:Value} (h:jd6 L E w (.x (.c (.ptr m off))) y):y=.pointer (some ⟨adr E m,off,none⟩):=h.2
theorem qo1 {L:Nat->Prop} {E:Env} {w:World} {v:SV} {k:IntKind} {n:Int} {y:Value} (hv:jx9 v=some (k,n)) (h:jd6 L E w v y):y=.int k n:=by
 unfold jx9 at hv
 split at hv <;> try (simp at hv;done)
 simp only [Option.some.injEq,Prod.mk.injEq] at hv
 obtain ⟨rfl,rfl⟩:=hv
 exact cv_v h
theorem ju2 {L:Nat->Prop} {E:Env} {w:World}:∀{l:List CV} {xs ys:List Value},toVs l=some xs->Fa2 (jb9 L E w) l ys->ys=xs
 | [],xs,ys,h,hc=>by
  simp only [toVs,Option.some.injEq] at h;subst h
  cases ys with
  | nil=>rfl
  | cons=>exact hc.elim
 | c :: l,xs,ys,h,hc=>by
  unfold toVs at h
  split at h <;> try (simp at h;done)
  ·rename_i e;simp at e
  ·rename_i x l' e
   simp only [List.cons.injEq] at e
   obtain ⟨rfl,rfl⟩:=e
   split at h <;> try (simp at h;done)
   rename_i m hm
   simp only [Option.some.injEq] at h
   subst h
   cases ys with
   | nil=>exact hc.elim
   | cons y ys =>
    have h1:y=x:=cv_v (L:=L) hc.1
    rw [h1,ju2 hm hc.2]
section
variable {P:Program} {O:ja8} {base:Nat} {X F0:Nat->Prop} {B:Nat->(Nat×Value)×Bool} {E:Env} {s:PSt} {a:Act} {w:World} {o:Oper} {L:Nat->Prop}
theorem fin {K:Act->World->Prop} {Q:Exit->Act->World->Prop} {p:Prop} {li:List Tmp} {gen:Nat} (R:RelE base X F0 B E s a w) {v:SV} {y:Value} (hr:(execOp a.eval o).run P w=.ok (.value y) w) (hy:jd6 (live s) E w v y)
  (hK:∀E' a' w',RelE base X F0 B E' ⟨je6 s.tmps o.dst (gnow v),jb3 s.mem [],p,li,gen⟩ a' w'->jc4 base X F0 w w'->K a' w'):o.wp P a w K Q:=by
 unfold Oper.wp
 rw [hr]
 exact hK E _ _ (R.go o.dst _ _ p li gen (Later.refl _ _ _) (λ _ _=>rfl) (λ _ h=>h) (λ _=>hy) R.mem R.sep R.frz (Nat.le_refl _) (λ _ _ h=>h)) (jc4.refl _ _ _ _)
theorem va4 {l:List CV} {ys:List Value} {t:TypeId} {off:Nat} {v:XV} (h:qm7 P l t off=some v) (hc:Fa2 (jb9 L E w) l ys):∃y,qz4 P t ys.toArray off=some y/\ConcX L E w v y:=by
 unfold qm7 at h
 by_cases hag:jq5 P t=true
 ·rw [if_pos hag] at h
  split at h <;> try (simp at h;done)
  rename_i hb
  simp only [Option.some.injEq] at h
  subst h
  simp only [Bool.and_eq_true,Nat.ble_eq] at hb
  obtain ⟨i,hi⟩:=Option.isSome_iff_exists.1 hb.2
  have hs:jd0 P t=i.size:=by simp [jd0,hi]
  have hf:=(hc.drop off).take (jd0 P t)
  rw [hs] at hf ⊢
  have hx:(ys.toArray.extract off (off + i.size))=((ys.drop off).take i.size).toArray:=by
   apply Array.ext'
   simp [List.extract_eq_take_drop,List.take_drop]
  refine ⟨.agg ((ys.drop off).take i.size).toArray,?_,_,rfl,hf⟩
  unfold qz4
  rw [hi]
  unfold jq5 at hag
  split at hag <;> try (simp at hag;done)
  ·rename_i fs hu
   simp only [hu,hx]
  ·rename_i n e hu
   simp only [hu,hx]
 ·rw [if_neg hag] at h
  split at h <;> try (simp at h;done)
  rename_i c hc'
  split at h <;> try (simp at h;done)
  rename_i hu
  simp only [Option.some.injEq] at h
  subst h
  simp only [Bool.and_eq_true] at hu
  obtain ⟨d,hd⟩:=Option.isSome_iff_exists.1 hu.1
  obtain ⟨i,hi⟩:=Option.isSome_iff_exists.1 hu.2
  obtain ⟨y,e1,e2⟩:=hc.get hc'
  refine ⟨y,?_,e2⟩
  unfold qz4
  unfold jq5 at hag
  rw [hd] at hag
  rw [hi,hd]
  cases d <;> first | (simp at hag;done) | (simpa using e1)
theorem ju3 {b off:Nat} {arr:Array Value} {el t:TypeId} {l:List CV} {v:XV} (hg:w.heap[b]?=some (.cells arr el (0,0))) (hc:Fa2 (jb9 L E w) l arr.toList) (h:qm7 P l t off=some v) :
  ∃y,(Instr.loadAt t (.pointer (some ⟨b,off,none⟩))).run P w=.ok y w/\ConcX L E w v y:=by
 have hg':w.heap[b]?=some (.cells arr.toList.toArray el (0,0)):=by simpa using hg
 unfold qm7 at h
 by_cases hag:jq5 P t=true
 ·rw [if_pos hag] at h
  split at h <;> try (simp at h;done)
  rename_i hb
  simp only [Option.some.injEq] at h
  subst h
  simp only [Bool.and_eq_true,Nat.ble_eq] at hb
  exact ⟨_,qb5 (P:=P) b off el t arr.toList hg' hag (by rw [<- hc.len];exact hb.1) hb.2,_,rfl,(hc.drop off).take _⟩
 ·rw [if_neg hag] at h
  split at h <;> try (simp at h;done)
  rename_i c hc'
  split at h <;> try (simp at h;done)
  rename_i hu
  simp only [Option.some.injEq] at h
  subst h
  simp only [Bool.and_eq_true] at hu
  obtain ⟨y,e1,e2⟩:=hc.get hc'
  exact ⟨y,qb6 (P:=P) b off el t arr.toList y hg' (by simpa using hag) hu.1 e1,e2⟩
theorem va5 {b at' off z:Nat} {arr:Array Value} {el t:TypeId} {r:Row} {i:Int} {v:XV} {fr:Nat×Nat} (hg:w.heap[b]?=some (.cells arr el fr))
  (hc:∀j < z,∃u,arr[at' + j]?=some u/\Rep E.F w (den r i j) u) (h:yi5 P t z r i off=some v) :
  ∃y,(Instr.loadAt t (.pointer (some ⟨b,at' + off,none⟩))).run P w=.ok y w/\ConcX L E w v y:=by
 have hg':w.heap[b]?=some (.cells arr.toList.toArray el fr):=by simpa using hg
 unfold yi5 at h
 by_cases hag:jq5 P t=true
 ·rw [if_pos hag] at h
  split at h <;> try (simp at h;done)
  rename_i hb
  simp only [Option.some.injEq] at h
  subst h
  simp only [Bool.and_eq_true,Nat.ble_eq,Nat.blt_eq] at hb
  obtain ⟨⟨hb1,hb0⟩,hb2⟩:=hb
  have hle:at' + off + jd0 P t<=arr.toList.length:=by
   obtain ⟨u,e,_⟩:=hc (off + jd0 P t - 1) (by omega)
   have:=(Array.getElem?_eq_some_iff.1 e).1
   rw [Array.length_toList];omega
  refine ⟨_,qb5 (P:=P) b (at' + off) el t arr.toList hg' hag hle hb2,_,rfl,?_⟩
  refine Fa2.of (by simp only [List.length_map,List.length_range,List.length_take,List.length_drop];omega) λ k c y hk hy=>?_
  simp only [List.getElem?_map,Option.map_eq_some_iff] at hk
  obtain ⟨k',hk',rfl⟩:=hk
  have hlt:k < jd0 P t:=by
   have:=(List.getElem?_eq_some_iff.1 hk').1
   simpa using this
  rw [List.getElem?_range hlt] at hk'
  simp only [Option.some.injEq] at hk'
  subst hk'
  obtain ⟨u,e1,e2⟩:=hc (off + k) (by omega)
  rw [List.getElem?_take,if_pos hlt,List.getElem?_drop,Array.getElem?_toList,show at' + off + k=at' + (off + k) by omega,e1] at hy
  simp only [Option.some.injEq] at hy
  subst hy
  exact jb9.jq0 e2
 ·rw [if_neg hag] at h
  split at h <;> try (simp at h;done)
  rename_i hu
  simp only [Option.some.injEq] at h
  subst h
  simp only [Bool.and_eq_true,Nat.blt_eq] at hu
  obtain ⟨y,e1,e2⟩:=hc off hu.1
  exact ⟨y,qb6 (P:=P) b (at' + off) el t arr.toList y hg' (by simpa using hag) hu.2 (by rw [Array.getElem?_toList];exact e1),jb9.jq0 e2⟩
theorem va6 {x:Operand} (hp:∀c u v,o.op≠ .pick c u v) (h:jk1 s o=true) (hx:x∈o.op.operands.toList):(operand s x).k=true:=by
 have key:∀{l:List GV},allOf l=true->∀{g:GV},g∈l->g.k=true:=by
  intro l
  induction l with
  | nil=>intro _ g hg;simp at hg
  | cons x l ih =>
   intro h g hg
   simp only [allOf,Bool.and_eq_true] at h
   rcases List.mem_cons.1 hg with rfl | hg
   ·exact h.1
   ·exact ih h.2 hg
 unfold jk1 at h
 split at h
 ·rename_i c u v e;exact absurd e (hp c u v)
 ·exact key h (List.mem_map_of_mem hx)
theorem ys2 {m:Nat} (h:m < GB):adr E m=E.β m:=by unfold adr;rw [if_neg (by omega)]
theorem ju4 (R:RelE base X F0 B E s a w) {m:Nat} {l:List CV} (h:memC s m=some l) (hL:live s m):∃arr t,w.heap[adr E m]?=some (.cells arr t (0,0))/\Fa2 (jb9 (live s) E w) l arr.toList:=by
 unfold memC at h
 split at h <;> try (simp at h;done)
 ·rename_i l' hm
  simp only [Option.some.injEq] at h
  subst h
  obtain ⟨h1,_,_,arr,t,h2,h3⟩:=R.mem m _ hm
  exact ⟨arr,t,by rw [ys2 h1];exact h2,h3⟩
 ·rename_i hm
  have hGB:GB<=m:=by
   rcases hL with h' | ⟨h',_⟩
   ·rw [hm] at h';simp at h'
   ·exact h'
  obtain ⟨_,arr,t,h2,h3⟩:=R.glob m l h hGB
  exact ⟨arr,t,by rw [adr,if_pos hGB];exact h2,h3.mono λ _ _=>jb9.jq0⟩
theorem yj3 (R:RelE base X F0 B E s a w) {m z:Nat} {n:Int} {r:Row} (h:rowOf s m=some (z,n,r)) {b c ln:Nat} (hv:E.ν m=.slice (some ⟨b,0,none⟩) ln c) {i:Int} (h0:0<=i) (hi:i.toNat < ln) :
  ∃arr t fr,w.heap[b]?=some (.cells arr t fr)/\∀j < z,∃u,arr[i.toNat * z + j]?=some u/\Rep E.F w (den r i j) u:=by
 unfold rowOf at h
 split at h <;> try (simp at h;done)
 ·rename_i z' n' r' hm
  simp only [Option.some.injEq,Prod.mk.injEq] at h
  obtain ⟨rfl,rfl,rfl⟩:=h
  obtain ⟨_,k0,_,_,e,xs,ho,hr⟩:=R.mem m _ hm
  rcases ho.1.2 with ⟨hv',_⟩ | ⟨g,cap,cur,hv',⟨fz,_,hg⟩,hnc,_,hcs,htake⟩
  ·rw [hv] at hv';simp at hv'
  ·rw [hv] at hv'
   simp only [Value.slice.injEq,Option.some.injEq,Addr.mk.injEq,and_true] at hv'
   obtain ⟨rfl,hln,_⟩:=hv'
   refine ⟨cur,e,fz,hg,λ j hj=>?_⟩
   obtain ⟨u,e1,e2⟩:=hr i.toNat j (by omega) hj
   rw [<- htake,List.getElem?_take] at e1
   split at e1
   ·exact ⟨u,by simpa using e1,by rw [show ((i.toNat:Nat):Int)=i by omega] at e2;exact e2⟩
   ·simp at e1
 ·rename_i z' n' r' hm
  simp only [Option.some.injEq,Prod.mk.injEq] at h
  obtain ⟨rfl,rfl,rfl⟩:=h
  have hrep:Rep E.F w (.slc z' n' r') (E.ν m):=(R.mem m _ hm).2
  rw [hv] at hrep
  cases hrep with
  | nil=>omega
  | slc u hz hc hF hh hu hr =>
   refine ⟨_,_,_,hh,λ j hj=>⟨u i.toNat j,?_,?_⟩⟩
   ·have:=hu i.toNat j hi hj
    simpa using this
   ·have:=hr i.toNat j hi hj
    rw [show ((i.toNat:Nat):Int)=i by omega] at this;exact this
theorem qx0 {op:BinOp} {t:TypeId} {x y v:Value} {b:List Bool} (h:binV P op t x y=some (v,b)) (hb:∀c∈b,c=true) (p q:Operand) (w:World):(do eqGuard op t p q x y;binOp op t x y:Sem Value).run P w=.ok v w:=(yi2 h hb p q w).1
theorem ju5 (R:RelE base X F0 B E s a w) {cal:Callee} {f:FuncId} {caps:List (Nat×Nat)} (h:jk0 s cal=some (f,caps)) :
  ∃x cv,cal=.value x/\a.eval x=.func (.func f) #[] cv/\Fa2 (jd6 (live s) E w) (caps.map λ p=>SV.x (.c (.ptr p.1 p.2))) cv.toList:=by
 unfold jk0 at h
 split at h <;> try (simp at h;done)
 rename_i x
 refine ⟨x,?_⟩
 split at h <;> try (simp at h;done)
 ·rename_i g hg
  simp only [Option.some.injEq,Prod.mk.injEq] at h
  obtain ⟨rfl,rfl⟩:=h
  have:=R.eval x (by rw [hg])
  rw [hg] at this
  exact ⟨#[],rfl,cv_v this,trivial⟩
 ·rename_i g caps' hg
  simp only [Option.some.injEq,Prod.mk.injEq] at h
  obtain ⟨rfl,rfl⟩:=h
  have:=R.eval x (by rw [hg])
  rw [hg] at this
  obtain ⟨h1,h2⟩:=this
  refine ⟨_,rfl,h2,?_⟩
  simp only
  clear h2 hg
  induction caps' with
  | nil=>trivial
  | cons p l ih=>exact ⟨⟨h1 p (by simp),rfl⟩,ih λ q hq=>h1 q (by simp [hq])⟩
theorem ju6 (hv:∀x∈o.op.operands.toList,jd6 (live s) E w (valOf s x) (a.eval x)):∀(l:List Operand),(∀x∈l,x∈o.op.operands.toList)->Fa2 (jd6 (live s) E w) (l.map (valOf s)) (l.map a.eval)
 | [],_=>trivial
 | x :: l,h=>⟨hv x (h x (by simp)),ju6 hv l λ y hy=>h y (by simp [hy])⟩
theorem ql2 {L:Nat->Prop}:∀{args:List SV} {ys:List Value} {k j:Nat} {c:SV},Fa2 (jd6 L E w) args ys->qm9 args k j=some c->∃y,valA ys k j=some y/\jd6 L E w c y
 | [],_,_,_,_,_,h=>by simp [qm9] at h
 | _ :: _,[],_,_,_,H,_=>H.elim
 | .x v :: l,y :: ys,0,j,c,H,h=>by
  simp only [qm9] at h
  split at h <;> try (simp at h;done)
  rename_i c' hc
  simp only [Option.some.injEq] at h
  subst h
  obtain ⟨y',e1,e2⟩:=Fa2.get (ConcX.cells H.1) hc
  exact ⟨y',e1,e2⟩
 | .view m z l' n :: l,y :: ys,0,0,c,H,h=>by
  simp only [qm9,Option.some.injEq] at h
  subst h
  refine ⟨y,?_,H.1⟩
  obtain ⟨_,_,_,h⟩:=H.1
  rcases h with ⟨_,ad,c,rfl,_⟩ | ⟨_,_,_,_,_,_,_,rfl⟩ <;> rfl
 | .view m z l' n :: l,y :: ys,0,j + 1,c,H,h=>by simp [qm9] at h
 | .tup _ :: l,y :: ys,0,j,c,H,h=>by simp [qm9] at h
 | .eptr _ _ _ _ :: l,y :: ys,0,j,c,H,h=>by simp [qm9] at h
 | .fptr _ _ _ _ :: l,y :: ys,0,j,c,H,h=>by simp [qm9] at h
 | v :: l,y :: ys,k + 1,j,c,H,h=>by
  have:qm9 l k j=some c:=by cases v <;> exact h
  exact ql2 (args:=l) (ys:=ys) (k:=k) H.2 this
theorem qo2:∀{l:List CV},l.all isV=true->jb7 l=[]
 | [],_=>rfl
 | c :: l,h=>by
  simp only [List.all_cons,Bool.and_eq_true] at h
  unfold jb7
  rw [qo2 h.2]
  cases c <;> first | rfl | simp [isV] at h
theorem qo3:∀{l:List XV},allV l=true->jc3 l=[]
 | [],_=>rfl
 | x :: l,h=>by
  unfold allV at h
  simp only [List.all_cons,Bool.and_eq_true] at h
  unfold jc3
  rw [qo2 h.1,qo3 (l:=l) h.2];rfl
theorem yw0 (hO:je9 P O) {f:FuncId} {al:List AV} {ans:Ans} (hg:gives O f=none) (h:O f al=some ans) (hq:∀q∈ans.ask,q):ji5 P f al ans\/(∃v,vr8 ans.res=some v/\yu8 P f al v)\/(vs6 ans.upd=true/\ji5 P f al ⟨ans.res,jl0 al,ans.ask⟩):=by
 rcases hO f al ans h hq with ⟨k,_⟩ | ⟨_,k⟩
 ·rw [hg] at k;simp at k
 ·exact k
theorem zf1 (hO:je9 P O) {f:FuncId} {al:List AV} {ans:Ans} {mask:List Bool} (hg:gives O f=some mask) (h:O f al=some ans) (hq:∀q∈ans.ask,q):q02 P f al ans:=by
 rcases hO f al ans h hq with ⟨_,k⟩ | ⟨k,_⟩
 ·exact k
 ·rw [hg] at k;simp at k
theorem vg6 (hO:je9 P O) (R:RelE base X F0 B E s a w) (hb:base<=w.heap.size) {c:Call} (ho:o.op=.call c) (hv:∀x∈o.op.operands.toList,jd6 (live s) E w (valOf s x) (a.eval x)) {f:FuncId} {caps:List (Nat×Nat)} (hcal:jk0 s c.callee=some (f,caps))
  {name:Nat} {e:Eff} (hg:gives O f=none) (he:jw4 O name s f (c.args.toList.map (valOf s) ++ caps.map λ p=>.x (.c (.ptr p.1 p.2)))=some e) (hok:∀q∈e.ok,q) (hnw:e.nw.isSome=true->s.mem name=none/\name < PN) {p:Prop} {li:List Tmp} {gen:Nat} {K:Act->World->Prop} {Q:Exit->Act->World->Prop}
  (hK:∀E' a' w',RelE base X F0 B E' ⟨je6 s.tmps o.dst (gnow e.v),jb3 s.mem (q90 name e),p,li,gen⟩ a' w'->jc4 base X F0 w w'->K a' w'):o.wp P a w K Q:=by
 obtain ⟨x,cv,hx,hev,hcv⟩:=ju5 R hcal
 unfold jw4 at he
 split at he <;> try (simp at he;done)
 rename_i al rows refs hargs
 split at he <;> try (simp at he;done)
 rename_i hd
 split at he <;> try (simp at he;done)
 rename_i ans hans
 have hfa:Fa2 (jd6 (live s) E w) (c.args.toList.map (valOf s) ++ caps.map λ p=>SV.x (.c (.ptr p.1 p.2))) (c.args.toList.map a.eval ++ cv.toList) :=
  Fa2.app (ju6 hv _ λ y hy=>by rw [ho];simp only [Op.operands,Call.operands,Array.toList_append];exact List.mem_append_right _ hy) hcv
 obtain ⟨hA,hrefs⟩:=qn4 R (rows0:=rows) hargs (λ _ h=>h) hd hfa
 have hrun:(execOp a.eval o).run P w=(callFunc f (c.args.toList.map a.eval ++ cv.toList).toArray).run P w:=by
  simp only [execOp,ho,resolve,hx,hev,Deferred.ofValue,Sem.run_bind,Sem.run_pure,Result.andThen_ok,invoke]
  congr 2
  apply Array.ext'
  simp
 split at he
 ·
  rename_i v hvw
  unfold vf9 at he
  split at he <;> try (simp at he;done)
  rename_i hr0
  have hr0:refs=[]:=List.eq_nil_of_length_eq_zero (Nat.eq_of_beq_eq_true hr0)
  subst hr0
  have key:(∀q∈ans.ask,q)/\∀r y z w',Keep w.heap.size (λ _=>False) w w'->slcA al v.1 v.2.1=some z->valA (c.args.toList.map a.eval ++ cv.toList) v.1 v.2.1=some y->q92 z v.2.2.1 v.2.2.2 y r->K (a.put o.dst r) w':=by
   split at he <;> try (simp at he;done)
   ·rename_i z m N hz hc
    simp only [Option.some.injEq] at he
    subst he
    simp only [List.mem_cons,forall_eq_or_imp,ile,decide_eq_true_eq,addZ] at hok
    refine ⟨hok.2.2.2,λ r y z' w' hk hz' hy hs=>?_⟩
    rw [hz] at hz'
    simp only [Option.some.injEq] at hz'
    subst hz'
    obtain ⟨y',e1,e2⟩:=ql2 hfa hc
    rw [e1] at hy
    simp only [Option.some.injEq] at hy
    subst hy
    obtain ⟨R',k⟩:=R.vl5 hb hk (hs.view e2 hok.1 hok.2.1 (of_decide_eq_true hok.2.2.1)) o.dst p li gen
    exact hK E _ _ R' k
   ·rename_i z m z0 l0 N hz hc
    split at he <;> try (simp at he;done)
    rename_i hzz
    have hzz:=Nat.eq_of_beq_eq_true hzz
    subst hzz
    simp only [Option.some.injEq] at he
    subst he
    simp only [List.mem_cons,forall_eq_or_imp,ile,decide_eq_true_eq,addZ] at hok
    refine ⟨hok.2.2.2,λ r y z' w' hk hz' hy hs=>?_⟩
    rw [hz] at hz'
    simp only [Option.some.injEq] at hz'
    subst hz'
    obtain ⟨y',e1,e2⟩:=ql2 hfa hc
    rw [e1] at hy
    simp only [Option.some.injEq] at hy
    subst hy
    obtain ⟨R',k⟩:=R.vl5 hb hk (sv:=.view m z (addZ l0 v.2.2.1) v.2.2.2) ⟨e2.1,hs.part e2.2 hok.1 hok.2.1 (of_decide_eq_true hok.2.2.1)⟩ o.dst p li gen
    exact hK E _ _ R' k
   ·rename_i z z0 N r0 hz hc
    split at he <;> try (simp at he;done)
    rename_i hzz
    have hzz:=Nat.eq_of_beq_eq_true hzz
    subst hzz
    simp only [Option.some.injEq] at he
    subst he
    simp only [List.mem_cons,forall_eq_or_imp,ile,decide_eq_true_eq,addZ] at hok
    refine ⟨hok.2.2.2,λ r y z' w' hk hz' hy hs=>?_⟩
    rw [hz] at hz'
    simp only [Option.some.injEq] at hz'
    subst hz'
    obtain ⟨y',e1,e2⟩:=ql2 hfa hc
    rw [e1] at hy
    simp only [Option.some.injEq] at hy
    subst hy
    obtain ⟨R',k⟩:=R.vl5 hb hk (sv:=.x (.c (.slc z v.2.2.2 (.sub r0 v.2.2.1)))) (hs.rep e2 hok.1 hok.2.1 (of_decide_eq_true hok.2.2.1)) o.dst p li gen
    exact hK E _ _ R' k
  unfold Oper.wp
  rw [hrun]
  rcases yw0 hO hg hans key.1 with D | ⟨v',hv',D⟩ | ⟨_,D⟩
  ·rcases D w (jf0 E s rows) _ _ (jn3 R rows) (λ k hk=>jj0 R hk) hA with ⟨v,w',r,hp⟩ | ⟨r,C⟩
   ·exact (q05 hp hvw).elim
   ·rw [r]
    refine Calls.mono C ?_
    rintro e' w' ⟨v,rfl,hp⟩
    exact (q05 hp hvw).elim
  ·rw [hvw] at hv'
   simp only [Option.some.injEq] at hv'
   subst hv'
   obtain ⟨r,C⟩:=D w (jf0 E s rows) _ (jn3 R rows) (λ k hk=>jj0 R hk) hA
   rw [r]
   refine Calls.mono C ?_
   rintro e' w' ⟨r,y,z,rfl,h1,h2,h3,h4⟩
   exact key.2 r y z w' h1 h2 h3 h4
  ·rcases D w (jf0 E s rows) _ _ (jn3 R rows) (λ k hk=>jj0 R hk) hA with ⟨v,w',r,hp⟩ | ⟨r,C⟩
   ·exact (q05 (ans:=⟨ans.res,jl0 al,ans.ask⟩) hp hvw).elim
   ·rw [r]
    refine Calls.mono C ?_
    rintro e' w' ⟨v,rfl,hp⟩
    exact (q05 (ans:=⟨ans.res,jl0 al,ans.ask⟩) hp hvw).elim
 rename_i hnv
 split at he
 ·
  rename_i hku
  split at he <;> try (simp at he;done)
  rename_i hc
  simp only [Bool.and_eq_true,Nat.beq_eq] at hc
  have hr0:rows=[]:=List.eq_nil_of_length_eq_zero hc.1
  subst hr0
  simp only [Option.some.injEq] at he
  subst he
  obtain ⟨u,hu,hus⟩:=q97 hargs
  have fin:∀v w',Post (jf0 E s []) w (refs.map E.β) ⟨ans.res,jl0 al,ans.ask⟩ v w'->K (a.put o.dst v) w':=λ v w' hp=>by
   obtain ⟨⟨E',R'⟩,k⟩:=R.called hb hrefs hp (qo3 hc.2) hu o.dst p li gen
   have em:jb3 s.mem (froze s [] ++ u)=s.mem:=qn6 hus
   rw [em] at R'
   exact hK E' _ _ R' k
  unfold Oper.wp
  rw [hrun]
  rcases yw0 hO hg hans hok with D | ⟨v,e,_⟩ | ⟨_,D⟩
  ·rcases D w (jf0 E s []) _ _ (jn3 R []) (λ k hk=>jj0 R hk) hA with ⟨v,w',r,hp⟩ | ⟨r,C⟩
   ·exact (vx8 hp hku).elim
   ·rw [r]
    refine Calls.mono C ?_
    rintro e' w' ⟨v,rfl,hp⟩
    exact (vx8 hp hku).elim
  ·rw [hnv] at e;simp at e
  ·rcases D w (jf0 E s []) _ _ (jn3 R []) (λ k hk=>jj0 R hk) hA with ⟨v,w',r,hp⟩ | ⟨r,C⟩
   ·rw [r];exact fin v w' hp
   ·rw [r]
    refine Calls.mono C ?_
    rintro e' w' ⟨v,rfl,hp⟩
    exact fin v w' hp
 rename_i hku
 split at he <;> try (simp at he;done)
 rename_i u hu
 have hask:∀q∈ans.ask,q:=by
  split at he
  ·split at he <;> try (simp at he;done)
   split at he
   ·simp only [Option.some.injEq] at he;subst he;exact hok
   ·simp only [Option.some.injEq] at he;subst he;exact hok
  ·split at he <;> try (simp at he;done)
   split at he
   ·simp only [Option.some.injEq] at he;subst he;exact λ q hq=>hok q (by simp [hq])
   ·simp only [Option.some.injEq] at he;subst he;exact hok
  ·simp at he
 have fin:∀v w',Post (jf0 E s rows) w (refs.map E.β) ans v w'->K (a.put o.dst v) w':=by
  intro v w' hp
  split at he
  ·rename_i hfr
   split at he <;> try (simp at he;done)
   split at he
   ·rename_i hc
    simp only [Bool.and_eq_true,Nat.beq_eq] at hc
    simp only [Option.some.injEq] at he
    subst he
    have hr0:refs=[]:=List.eq_nil_of_length_eq_zero hc.2
    subst hr0
    obtain ⟨R',k⟩:=R.yv3 hb hp hc.1 hfr o.dst p li gen
    exact hK E _ _ R' k
   ·simp only [Option.some.injEq] at he
    subst he
    obtain ⟨⟨E',R'⟩,k⟩:=R.called hb hrefs hp hfr hu o.dst p li gen
    exact hK E' _ _ R' k
  ·rename_i z n r hfr
   split at he <;> try (simp at he;done)
   split at he
   ·rename_i hc
    simp only [Bool.and_eq_true,Nat.beq_eq] at hc
    simp only [Option.some.injEq] at he
    subst he
    have hr0:refs=[]:=List.eq_nil_of_length_eq_zero hc.1.2
    subst hr0
    obtain ⟨hn1,hn2⟩:=hnw rfl
    obtain ⟨⟨E',R'⟩,k⟩:=R.yv2 hb hp hfr (hok _ (by simp)) hc.2 hn1 hn2 o.dst p li gen
    exact hK E' _ _ R' k
   simp only [Option.some.injEq] at he
   subst he
   obtain ⟨hn1,hn2⟩:=hnw rfl
   obtain ⟨⟨E',R'⟩,k⟩:=R.yv1 hb hrefs hp hfr hu hn1 hn2 o.dst p li gen
   exact hK E' _ _ R' k
  ·simp at he
 have D:=((yw0 hO hg hans hask).resolve_right λ h=>by
  rcases h with ⟨v,e,_⟩ | ⟨e,_⟩
  ·rw [hnv] at e;simp at e
  ·exact hku e) w (jf0 E s rows) _ _ (jn3 R rows) (λ k hk=>jj0 R hk) hA
 unfold Oper.wp
 rw [hrun]
 rcases D with ⟨v,w',r,hp⟩ | ⟨r,C⟩
 ·rw [r];exact fin v w' hp
 ·rw [r]
  refine Calls.mono C ?_
  rintro e' w' ⟨v,rfl,hp⟩
  exact fin v w' hp
theorem ys3 {nm:Nat->Nat} {k:Nat} {c:CV} (h:je2 c=[]):owC nm k c=c:=by
 cases c with
 | fresh z n r=>simp [je2] at h
 | _=>rfl
theorem ys4 {nm:Nat->Nat}:∀{k:Nat} {l:List CV},jb7 l=[]->owL nm k l=l
 | _,[],_=>rfl
 | k,c :: l,h=>by
  obtain ⟨h1,h2⟩:=jl7 h
  rw [y81,ys3 h1,ys4 h2]
theorem vy4 {nm:Nat->Nat}:∀{k:Nat} {l:List XV},jc3 l=[]->owXs nm k l=l
 | _,[],_=>rfl
 | k,x :: l,h=>by
  obtain ⟨h1,h2⟩:=jl7 h
  unfold owXs
  rw [vy4 h2]
  congr 1
  cases x with
  | c c=>obtain ⟨h1,_⟩:=jl7 h1;show XV.c (owC nm k c)=_;rw [ys3 h1]
  | agg l=>show XV.agg (owL nm k l)=_;rw [ys4 (show jb7 l=[] from h1)]
theorem ys5 {nm:Nat->Nat}:∀{k:Nat} {fr:List (Nat×Int×Row)} {i:Nat},i < fr.length->∃b,(nm (k + i),b)∈js1 nm k fr
 | k,[],i,h=>by simp at h
 | k,(z,n,r) :: fr,i,h=>by
  unfold js1
  cases i with
  | zero=>exact ⟨_,by simp;exact Or.inl rfl⟩
  | succ i =>
   obtain ⟨b,hb⟩:=ys5 (nm:=nm) (k:=k + 1) (fr:=fr) (i:=i) (by simpa using h)
   exact ⟨b,by rw [show k + (i + 1)=k + 1 + i by omega];exact List.mem_cons_of_mem _ hb⟩
theorem vs9 (hO:je9 P O) (R:RelE base X F0 B E s a w) (hb:base<=w.heap.size) {c:Call} (ho:o.op=.call c) (hv:∀x∈o.op.operands.toList,jd6 (live s) E w (valOf s x) (a.eval x)) {f:FuncId} {caps:List (Nat×Nat)} (hcal:jk0 s c.callee=some (f,caps))
  {name:Nat} {e:Eff} (he:qf2 O name s f (c.args.toList.map (valOf s) ++ caps.map λ p=>.x (.c (.ptr p.1 p.2)))=some e) (hok:∀q∈e.ok,q) (hnw:e.nw.isSome=true->s.mem name=none/\name < PN) {p:Prop} {li:List Tmp} {gen:Nat} {K:Act->World->Prop} {Q:Exit->Act->World->Prop}
  (hK:∀E' a' w',RelE base X F0 B E' ⟨je6 s.tmps o.dst (gnow e.v),jb3 s.mem (q90 name e),p,li,gen⟩ a' w'->jc4 base X F0 w w'->K a' w'):o.wp P a w K Q:=by
 unfold qf2 at he
 split at he
 ·rename_i mask hg
  obtain ⟨x,cv,hx,hev,hcv⟩:=ju5 R hcal
  unfold vg0 at he
  split at he <;> try (simp at he;done)
  rename_i al rows refs gv hargs
  split at he <;> try (simp at he;done)
  rename_i hd
  simp only [Bool.and_eq_true,Bool.not_eq_true'] at hd
  split at he <;> try (simp at he;done)
  rename_i ans hans
  split at he <;> try (simp at he;done)
  rename_i u hu
  split at he <;> try (simp at he;done)
  have hgr:=va2 hd.2
  have hfa:Fa2 (jd6 (live s) E w) (c.args.toList.map (valOf s) ++ caps.map λ p=>SV.x (.c (.ptr p.1 p.2))) (c.args.toList.map a.eval ++ cv.toList) :=
   Fa2.app (ju6 hv _ λ y hy=>by rw [ho];simp only [Op.operands,Call.operands,Array.toList_append];exact List.mem_append_right _ hy) hcv
  have hrun:(execOp a.eval o).run P w=(callFunc f (c.args.toList.map a.eval ++ cv.toList).toArray).run P w:=by
   simp only [execOp,ho,resolve,hx,hev,Deferred.ofValue,Sem.run_bind,Sem.run_pure,Result.andThen_ok,invoke]
   congr 2
   apply Array.ext'
   simp
  have grow:∀(mask:List Bool) (l:List SV) (al:List AV) (rows refs gv:List Nat),qn0 s mask l=some (al,rows,refs,gv)->∀m∈gv,∃z n r,s.mem m=some (.row z n r):=by
   intro mask l
   induction l generalizing mask with
   | nil=>intro al rows refs gv h;simp only [qn0,Option.some.injEq,Prod.mk.injEq] at h;obtain ⟨_,_,_,rfl⟩:=h;simp
   | cons v l ih =>
    intro al rows refs gv h m hm
    unfold qn0 at h
    split at h <;> try (simp at h;done)
    rename_i g al' rows' refs' gv' h1 h2
    simp only [Option.some.injEq,Prod.mk.injEq] at h
    obtain ⟨_,_,_,rfl⟩:=h
    rcases List.mem_append.1 hm with hm | hm
    ·unfold argG at h1
     have go:∀{b:Bool} {l d:List CV} {rows gv:List Nat},gvOr s b l=some (d,rows,gv)->m∈gv->∃z n r,s.mem m=some (.row z n r):=λ {b l d rows gv} h hm=>by
      unfold gvOr at h
      split at h
      ·exact qn8 h m hm
      ·split at h <;> try (simp at h;done)
       simp only [Option.some.injEq,Prod.mk.injEq] at h
       obtain ⟨_,_,rfl⟩:=h
       simp at hm
     split at h1
     ·split at h1 <;> try (simp at h1;done)
      split at h1 <;> try (simp at h1;done)
      rename_i hr
      simp only [Option.some.injEq] at h1
      subst h1
      exact go hr hm
     ·split at h1 <;> try (simp at h1;done)
      rename_i hr
      simp only [Option.some.injEq] at h1
      subst h1
      exact go hr hm
     ·split at h1 <;> try (simp at h1;done)
      rename_i hr
      simp only [Option.some.injEq] at h1
      subst h1
      exact go hr hm
     ·split at h1 <;> try (simp at h1;done)
      simp only [Option.some.injEq] at h1
      subst h1
      simp at hm
     ·simp at h1
    ·exact ih _ _ _ _ _ h2 m hm
  have hrow:=grow _ _ _ _ _ _ hargs
  have hN:∀m∈gv,∀k,(E.ν m).ownBlock=some k->¬ jf0 E s rows k:=by
   intro m hm k hk
   obtain ⟨z,n,r,e1⟩:=hrow m hm
   rintro (h | ⟨m',hm',z',n',r',e2,e3⟩)
   ·exact je5 (R.mem m _ e1).2 (k:=k) hk h
   ·exact R.sep m m' _ _ e1 e2 (λ e=>hgr m hm (e▸hm')) k hk e3
  obtain ⟨hA,hrefs,_⟩:=qn9 R (rows0:=rows) hargs (λ _ h=>h) hN hd.1.1 hfa
  have hap:Apart (gv.map E.ν):=by
   refine List.pairwise_iff_getElem.2 λ i j hi hj hij k hk hk'=>?_
   simp only [List.length_map] at hi hj
   simp only [List.getElem_map] at hk hk'
   obtain ⟨z,n,r,e1⟩:=hrow gv[i] (List.getElem_mem hi)
   obtain ⟨z',n',r',e2⟩:=hrow gv[j] (List.getElem_mem hj)
   refine R.sep gv[i] gv[j] _ _ e1 e2 (λ e=>?_) k hk hk'
   have:=ju1 hd.1.2 (i:=i) (j:=j) (m:=gv[i]) (List.getElem?_eq_getElem hi) (by rw [e];exact List.getElem?_eq_getElem hj)
   omega
  have hOf:∀k,Of (gv.map E.ν) k->k ∉ refs.map E.β:=by
   rintro k ⟨y,hy,hk⟩ hin
   obtain ⟨m,hm,rfl⟩:=List.mem_map.1 hy
   obtain ⟨m',hm',e⟩:=List.mem_map.1 hin
   obtain ⟨z,n,r,e1⟩:=hrow m hm
   obtain ⟨l,e2⟩:=hrefs m' hm'
   exact R.sep m' m _ _ e2 e1 (λ e=>by subst e;rw [e2] at e1;simp at e1) k (by simp [ja9,e]) hk
  have hask:∀q∈ans.ask,q:=by
   split at he
   ·simp only [Option.some.injEq] at he;subst he;exact hok
   ·split at he <;> try (simp at he;done)
    simp only [Option.some.injEq] at he;subst he;exact hok
  have fin:∀v w',yi7 (jf0 E s rows) w (refs.map E.β) (Of (gv.map E.ν)) ans v w'->K (a.put o.dst v) w':=by
   intro v w' hp
   split at he
   ·rename_i hnil
    simp only [Option.some.injEq] at he
    subst he
    have hf:jc3 ans.res ++ jq7 ans.upd=[]:=by
     cases h:jc3 ans.res ++ jq7 ans.upd with
     | nil=>rfl
     | cons q l=>rw [h] at hnil;unfold js1 at hnil;simp at hnil
    obtain ⟨⟨E',R'⟩,k⟩:=R.vy1 hb hrefs hrow hgr hp hu (λ i hi=>by rw [hf] at hi;simp at hi) o.dst p li gen
    rw [hf,vy4 (jl7 hf).1] at R'
    exact hK E' _ _ R' k
   ·rename_i y b l hl
    split at he <;> try (simp at he;done)
    rename_i hall
    simp only [Option.some.injEq] at he
    subst he
    obtain ⟨hn1,hn2⟩:=hnw rfl
    have hy:y=name:=by
     cases h:jc3 ans.res ++ jq7 ans.upd with
     | nil=>rw [h] at hl;simp [js1] at hl
     | cons q l' =>
      obtain ⟨z,n,r⟩:=q
      rw [h] at hl
      unfold js1 at hl
      simp only [List.cons.injEq,Prod.mk.injEq] at hl
      rw [<- hl.1.1];unfold nmK;omega
    subst hy
    obtain ⟨⟨E',R'⟩,k⟩:=R.vy1 hb hrefs hrow hgr hp hu (λ i hi=>by
     obtain ⟨b',hb'⟩:=ys5 (nm:=nmK y) (k:=0) hi
     rw [Nat.zero_add,hl] at hb'
     rcases List.mem_cons.1 hb' with e | e
     ·simp only [Prod.mk.injEq] at e
      rw [e.1];exact ⟨hn1,hn2⟩
     ·have:=List.all_eq_true.1 hall _ e
      simp only [Bool.and_eq_true,Option.isNone_iff_eq_none,Nat.blt_eq] at this
      exact this) o.dst p li gen
    rw [hl] at R'
    exact hK E' _ _ R' k
  obtain ⟨r,C⟩:=zf1 hO hg hans hask w (jf0 E s rows) _ _ _ (jn3 R rows) (λ k hk=>jj0 R hk) hA hap hOf
  unfold Oper.wp
  rw [hrun,r]
  refine Calls.mono C ?_
  rintro e' w' ⟨v,rfl,hp⟩
  exact fin v w' hp
 ·rename_i hg
  exact vg6 hO R hb ho hv hcal hg he hok hnw hK
end
end Go.Proofs.YthkidembkknoeaaDoor.QR
namespace Go.Proofs.YthkidembkknoeaaDoor.QR
open Go.RowKit PR
set_option linter.unusedVariables false
set_option linter.unusedSimpArgs false
section
variable {P:Program} {O:ja8} {base:Nat} {X F0:Nat->Prop} {B:Nat->(Nat×Value)×Bool} {E:Env} {s:PSt} {a:Act} {w:World} {o:Oper}
theorem jx5 {K:Act->World->Prop} {Q:Exit->Act->World->Prop} {p:Prop} {li:List Tmp} {gen:Nat} (R:RelE base X F0 B E s a w) {x:Value} (hp:jh6 x=true) (hr:(execOp a.eval o).run P w=.ok (.value x) w)
  (hK:∀E' a' w',RelE base X F0 B E' ⟨je6 s.tmps o.dst (gnow (vS x)),jb3 s.mem [],p,li,gen⟩ a' w'->jc4 base X F0 w w'->K a' w'):o.wp P a w K Q :=
 fin (v:=vS x) R hr (Rep.v hp) hK
theorem q14 (R:RelE base X F0 B E s a w) {m z:Nat} {n:Int} {r:Row} (h:rowOf s m=some (z,n,r)) :
  (E.ν m=.slice none 0 0/\n=0)\/∃(ad:Addr) (k c:Nat) (news:List Value),E.ν m=.slice (some ad) k c/\n=k/\news.length=k * z/\(∀j u,news[j]?=some u->w.cell? (ad.add j)=some u)/\(∀u∈news,u.oneCell'=true)/\jd7 E.F w z n r news:=by
 unfold rowOf at h
 split at h <;> try (simp at h;done)
 ·rename_i z' n' r' hm
  simp only [Option.some.injEq,Prod.mk.injEq] at h
  obtain ⟨rfl,rfl,rfl⟩:=h
  obtain ⟨_,k0,hz,_,e,xs,ho,hr⟩:=R.mem m _ hm
  have hc:=λ g=>ho.1.cells (g:=g)
  have hlen:=ho.1.1
  rcases ho.1.2 with ⟨hv',h0⟩ | ⟨g,cap,cur,hv',_⟩
  ·exact Or.inl ⟨hv',by omega⟩
  ·refine Or.inr ⟨⟨g,0,none⟩,n'.toNat,cap,xs,hv',by omega,hlen,hc g (by rw [hv'];rfl),λ v hv=>?_,hr⟩
   obtain ⟨k,hk,e⟩:=List.getElem_of_mem hv
   rw [hlen] at hk
   have hq:k / z' < n'.toNat:=by rw [Nat.div_lt_iff_lt_mul hz];exact hk
   obtain ⟨u,e1,e2⟩:=hr (k / z') (k % z') (by omega) (Nat.mod_lt k hz)
   rw [show k / z' * z' + k % z'=k by rw [Nat.mul_comm,Nat.div_add_mod],List.getElem?_eq_getElem (by rw [hlen];exact hk),e] at e1
   simp only [Option.some.injEq] at e1
   rw [e1];exact e2.one
 ·rename_i z' n' r' hm
  simp only [Option.some.injEq,Prod.mk.injEq] at h
  obtain ⟨rfl,rfl,rfl⟩:=h
  have hrep:Rep E.F w (.slc z' n' r') (E.ν m):=(R.mem m _ hm).2
  exact hrep.news
theorem q15 (w:World) (dT sT ty elem:TypeId) (z g o dLen dCap:Nat) (a:Addr) (sLen sCap:Nat) (cur:Array Value) (t:TypeId) (cs:List Value)
  (hu:P.underlying dT=some (.slice elem)) (hs:(P.info? elem).map (·.size)=some z)
  {fz:Nat×Nat} (hg:w.heap[g]?=some (.cells cur t fz)) (hfz:noFz fz cur.size) (hn:cs.length=Nat.min sLen dLen * z)
  (hsrc:∀j v,cs[j]?=some v->w.cell? (a.add j)=some v) (hfit:o + cs.length<=cur.size) (h1:∀v∈cs,v.oneCell'=true) :
  (Builtin.copy_ #[dT,sT] ty #[.slice (some ⟨g,o,none⟩) dLen dCap,.slice (some a) sLen sCap]).run P w =
   .ok (goInt (Nat.min sLen dLen)) (w.setRow g (cur.toList.take o ++ cs ++ cur.toList.drop (o + cs.length)).toArray):=by
 have hl:=run_loadCells_list (P:=P) w a cs hsrc
 have hst:=jg1 P g o t fz cs 0 cur w hg hfz (by simpa using hfit) h1
 cases hq:P.info? elem with
 | none=>simp [hq] at hs
 | some i =>
  have hi:i.size=z:=by simpa [hq] using hs
  simp [Builtin.copy_,run_underlying hu,Builtin.lenOf,Builtin.firstCells,sizeOf,typeInfo,hq,hi,<- hn,hl,hst]
theorem qu9 (w:World) (dT sT ty elem:TypeId) (d a:Option Addr) (dLen dCap sLen sCap:Nat) (hu:P.underlying dT=some (.slice elem)) (hs:(P.info? elem).isSome=true) (hn:Nat.min sLen dLen=0) :
  (Builtin.copy_ #[dT,sT] ty #[.slice d dLen dCap,.slice a sLen sCap]).run P w=.ok (goInt 0) w:=by
 cases hq:P.info? elem with
 | none=>simp [hq] at hs
 | some i =>
  have hl:∀(x:Addr),(loadCells x 0).run P w=.ok #[] w:=λ x=>by simpa using run_loadCells_list (P:=P) w x [] (by simp)
  cases d <;> cases a <;> simp [Builtin.copy_,run_underlying hu,Builtin.lenOf,Builtin.firstCells,sizeOf,typeInfo,hq,hn,storeCells,hl]
theorem qk1 (w:World) (t e:TypeId) (g:Nat) (cur:Array Value) (e0:TypeId) (fz:Nat×Nat) (n c:Nat) (hg:w.heap[g]?=some (.cells cur e0 fz)) (hfz:noFz fz cur.size) (ht:P.underlying t=some (.slice e)) (he:P.underlying e=some (.int .u8)) :
  (convert t t (.slice (some ⟨g,0,none⟩) n c)).run P w=.ok (.slice (some ⟨g,0,none⟩) n c) (w.freeze ⟨g,cur.size,none⟩ 1)/\
  ∃fz',noFz fz' cur.size/\(w.freeze ⟨g,cur.size,none⟩ 1).heap[g]?=some (.cells cur e0 fz')/\∀k,k≠g->(w.freeze ⟨g,cur.size,none⟩ 1).heap[k]?=w.heap[k]?:=by
 refine ⟨?_,?_⟩
 ·have hsh:w.shape? g=some (e0,cur.size):=by unfold World.shape?;rw [hg]
  simp [convert,run_underlying ht,run_underlying he,markStringish,hsh]
 ·obtain ⟨lo,hi⟩:=fz
  unfold World.freeze
  rw [if_neg (by decide)]
  refine ⟨if lo == hi then (cur.size,cur.size + 1) else (min lo cur.size,max hi (cur.size + 1)),?_,?_,λ k hk=>?_⟩
  ·by_cases h:lo == hi
   ·rw [if_pos h];exact Or.inr (Nat.le_refl _)
   ·rw [if_neg h]
    simp only [beq_iff_eq] at h
    rcases hfz with q | q
    ·simp only [Prod.mk.injEq] at q;exact absurd (q.1.trans q.2.symm) h
    ·simp only at q;exact Or.inr (by simp only;omega)
  ·simp only [Array.getElem?_modify,hg,if_true]
   simp
  ·simp only [Array.getElem?_modify]
   rw [if_neg (λ e=>hk e.symm)]
theorem q17 {m z:Nat} {n:Int} {r:Row} (h:rowW s m=some (z,n,r)):s.mem m=some (.row z n r):=by
 unfold rowW at h
 split at h <;> try (simp at h;done)
 rename_i e
 simp only [Option.some.injEq,Prod.mk.injEq] at h
 obtain ⟨rfl,rfl,rfl⟩:=h
 exact e
theorem vy5 {d:SV} {m z:Nat} {l n N:Int} {r:Row} {y:Value} (h:dstA s d=some (m,z,l,n,N,r)) (hd:jd6 (live s) E w d y) :
  s.mem m=some (.row z N r)/\0<=l/\0<=n/\((n=0/\∃ad c,y=.slice ad 0 c)\/∃b c ln c',E.ν m=.slice (some ⟨b,0,none⟩) ln c/\l.toNat + n.toNat<=ln/\y=.slice (some ⟨b,l.toNat * z,none⟩) n.toNat c'):=by
 unfold dstA at h
 split at h
 ·split at h <;> try (simp at h;done)
  rename_i z' N' r' hro
  simp only [Option.some.injEq,Prod.mk.injEq] at h
  obtain ⟨rfl,rfl,rfl,rfl,rfl,rfl⟩:=h
  obtain ⟨_,h2,h3,h4⟩:=hd
  refine ⟨q17 hro,Int.le_refl _,h3,?_⟩
  rcases h4 with ⟨rfl,rfl⟩ | ⟨b,c,rfl⟩
  ·exact Or.inl ⟨rfl,_,_,rfl⟩
  ·exact Or.inr ⟨b,c,_,c,h2.symm,by simp,by simp⟩
 ·split at h <;> try (simp at h;done)
  rename_i z' N' r' hro
  split at h <;> try (simp at h;done)
  rename_i hz
  have hz:=Nat.eq_of_beq_eq_true hz
  subst hz
  simp only [Option.some.injEq,Prod.mk.injEq] at h
  obtain ⟨rfl,rfl,rfl,rfl,rfl,rfl⟩:=h
  obtain ⟨_,h2,h3,h4⟩:=hd
  refine ⟨q17 hro,h2,h3,?_⟩
  rcases h4 with ⟨rfl,ad,c,rfl,_⟩ | ⟨b,c,ln,c',k1,k2,_,k4⟩
  ·exact Or.inl ⟨rfl,_,_,rfl⟩
  ·exact Or.inr ⟨b,c,ln,c',k1,k2,k4⟩
 ·simp at h
theorem va7 (R:RelE base X F0 B E s a w) {c:SV} {z:Nat} {n:Int} {r:Row} {rd:List Nat} {y:Value} (h:srcV s c=some (z,n,r,rd)) (hc:jd6 (live s) E w c y) :
  0<=n/\∃(ad:Option Addr) (cc:Nat) (news:List Value),y=.slice ad n.toNat cc/\news.length=n.toNat * z/\(0 < n->∃a',ad=some a'/\∀j u,news[j]?=some u->w.cell? (a'.add j)=some u)/\(∀u∈news,u.oneCell'=true)/\jd7 E.F w z n r news:=by
 have fin:∀{z:Nat} {n:Int} {r:Row},((y=.slice none 0 0/\n=0)\/∃(ad:Addr) (k c:Nat) (news:List Value),y=.slice (some ad) k c/\n=k/\news.length=k * z/\(∀j u,news[j]?=some u->w.cell? (ad.add j)=some u)/\(∀u∈news,u.oneCell'=true)/\jd7 E.F w z n r news)->
   0<=n/\∃(ad:Option Addr) (cc:Nat) (news:List Value),y=.slice ad n.toNat cc/\news.length=n.toNat * z/\(0 < n->∃a',ad=some a'/\∀j u,news[j]?=some u->w.cell? (a'.add j)=some u)/\(∀u∈news,u.oneCell'=true)/\jd7 E.F w z n r news:=by
  rintro z n r (⟨rfl,rfl⟩ | ⟨ad,k,cc,news,rfl,rfl,h1,h2,h3,h4⟩)
  ·exact ⟨Int.le_refl _,none,0,[],rfl,by simp,λ h=>by omega,by simp,λ i j hi _=>by omega⟩
  ·exact ⟨by omega,some ad,cc,news,by simp,by simpa using h1,λ _=>⟨ad,rfl,h2⟩,h3,h4⟩
 unfold srcV at h
 split at h
 ·unfold srcA at h
  split at h
  ·split at h <;> try (simp at h;done)
   rename_i z' n' r' hro
   simp only [Option.some.injEq,Prod.mk.injEq] at h
   obtain ⟨rfl,rfl,rfl,rfl⟩:=h
   have hy:y=_:=hc.2.1
   have:=q14 R hro
   rw [<- hy] at this
   exact fin this
  ·simp only [Option.some.injEq,Prod.mk.injEq] at h
   obtain ⟨rfl,rfl,rfl,rfl⟩:=h
   have hc:Rep E.F w _ y:=hc
   exact fin hc.news
  ·simp at h
 ·rename_i m z l n'
  split at h <;> try (simp at h;done)
  rename_i z' N r' hro
  split at h <;> try (simp at h;done)
  rename_i hz
  have hz:=Nat.eq_of_beq_eq_true hz
  subst hz
  simp only [Option.some.injEq,Prod.mk.injEq] at h
  obtain ⟨rfl,rfl,rfl,rfl⟩:=h
  obtain ⟨_,h1,h2,h3⟩:=hc
  refine ⟨h2,?_⟩
  rcases h3 with ⟨rfl,ad,c,rfl,_⟩ | ⟨b,c,ln,c',hν,hle,_,rfl⟩
  ·exact ⟨ad,c,[],rfl,by simp,λ h=>by omega,by simp,λ i j hi _=>by omega⟩
  ·rcases q14 R hro with ⟨h,_⟩ | ⟨ad,k,cc,news,h,rfl,g1,g2,g3,g4⟩
   ·rw [hν] at h;simp at h
   ·rw [hν] at h
    simp only [Value.slice.injEq,Option.some.injEq] at h
    obtain ⟨rfl,rfl,rfl⟩:=h
    have hm:=Nat.mul_le_mul_right z hle
    rw [Nat.add_mul] at hm
    refine ⟨_,c',(news.drop (l.toNat * z)).take (n'.toNat * z),rfl,by rw [List.length_take,List.length_drop];omega,λ _=>⟨_,rfl,λ j u hj=>?_⟩,λ u hu=>g3 u (List.mem_of_mem_drop (List.mem_of_mem_take hu)),λ i j hi hj=>?_⟩
    ·rw [List.getElem?_take] at hj
     split at hj
     ·rw [List.getElem?_drop] at hj
      have:=g2 _ _ hj
      rw [Addr.add_lit] at this ⊢
      simpa using this
     ·simp at hj
    ·obtain ⟨u,e1,e2⟩:=g4 (i + l.toNat) j (by omega) hj
     refine ⟨u,?_,?_⟩
     ·rw [List.getElem?_take,if_pos (qw9 (by omega) hj),List.getElem?_drop,<- e1]
      congr 1
      rw [Nat.add_mul]
      omega
     ·show Rep E.F w (den r' (addZ i l) j) u
      rw [show addZ (i:Int) l=((i + l.toNat:Nat):Int) by unfold addZ;omega]
      exact e2
 ·simp at h
theorem jd7.cpy0 {F:Nat->Prop} {z:Nat} {N:Int} {r r2:Row} {xs:List Value} (l:Int) (h:jd7 F w z N r xs):jd7 F w z N (cpyR r l 0 r2) xs:=by
 intro i j hi hj
 obtain ⟨u,e1,e2⟩:=h i j hi hj
 refine ⟨u,e1,?_⟩
 show Rep F w (csel (ilt i (addZ l 0)) (csel (ilt i l) (den r i j) _) (den r (addZ (subZ i (addZ l 0)) (addZ l 0)) j)) u
 refine Rep.csel ?_
 rw [show addZ (subZ (i:Int) (addZ l 0)) (addZ l 0)=i by unfold addZ subZ;omega]
 unfold ilt addZ
 by_cases hl:(i:Int) < l
 ·rw [decide_eq_true (show (i:Int) < l + 0 by omega),decide_eq_true hl];exact Rep.yj0 e2 _
 ·rw [decide_eq_false (show ¬ (i:Int) < l + 0 by omega)];exact e2
theorem jd7.cpy {F:Nat->Prop} {z:Nat} {N n2:Int} {r r2:Row} {xs news:List Value} {l k:Int} (h:jd7 F w z N r xs) (h2:jd7 F w z n2 r2 news) (h0:0<=l) (hk0:0<=k) (hk:k<=n2) (hx:xs.length=N.toNat * z) (hn:news.length=n2.toNat * z) (hN:l + k<=N) :
  jd7 F w z N (cpyR r l k r2) (PR.splice xs (l.toNat * z) (news.take (k.toNat * z))):=by
 intro i j hi hj
 have m1:(l.toNat + k.toNat) * z<=N.toNat * z:=Nat.mul_le_mul_right z (by omega)
 have m2:k.toNat * z<=n2.toNat * z:=Nat.mul_le_mul_right z (by omega)
 rw [Nat.add_mul] at m1
 have hlen:(news.take (k.toNat * z)).length=k.toNat * z:=by rw [List.length_take];omega
 show ∃u,(PR.splice xs (l.toNat * z) (news.take (k.toNat * z)))[i * z + j]?=some u/\Rep F w (csel (ilt i (addZ l k)) (csel (ilt i l) (den r i j) (den r2 (subZ i l) j)) (den r (addZ (subZ i (addZ l k)) (addZ l k)) j)) u
 suffices H:∃u,(PR.splice xs (l.toNat * z) (news.take (k.toNat * z)))[i * z + j]?=some u/\Rep F w (bif ilt i (addZ l k) then (bif ilt i l then den r i j else den r2 (subZ i l) j) else den r i j) u by
  obtain ⟨u,e1,e2⟩:=H
  refine ⟨u,e1,Rep.csel ?_⟩
  rw [show addZ (subZ (i:Int) (addZ l k)) (addZ l k)=i by unfold addZ subZ;omega]
  cases h1:ilt i (addZ l k)
  ·rw [h1] at e2;exact e2
  ·rw [h1] at e2;exact Rep.csel e2
 unfold PR.splice
 rw [jj7 _ _ _ _ (by rw [hlen];omega),hlen]
 unfold ilt addZ subZ
 by_cases hl:(i:Int) < l
 ·have q:=qw9 (z:=z) (show i < l.toNat by omega) hj
  rw [decide_eq_true (show (i:Int) < l + k by omega),decide_eq_true hl,if_pos q]
  exact h i j hi hj
 ·have q:l.toNat * z<=i * z:=Nat.mul_le_mul_right z (by omega)
  rw [decide_eq_false hl,if_neg (by omega)]
  by_cases hlk:(i:Int) < l + k
  ·have q2:=qw9 (z:=z) (show i - l.toNat < k.toNat by omega) hj
   have q3:i * z=l.toNat * z + (i - l.toNat) * z:=by rw [<- Nat.add_mul];congr 1;omega
   rw [decide_eq_true hlk,if_pos (by omega)]
   obtain ⟨u,e1,e2⟩:=h2 (i - l.toNat) j (by omega) hj
   refine ⟨u,?_,?_⟩
   ·rw [List.getElem?_take,if_pos (by omega),<- e1];congr 1;omega
   ·rw [show (i:Int) - l=((i - l.toNat:Nat):Int) by omega];exact e2
  ·have q2:(l.toNat + k.toNat) * z<=i * z:=Nat.mul_le_mul_right z (by omega)
   rw [Nat.add_mul] at q2
   rw [decide_eq_false hlk,if_neg (by omega)]
   exact h i j hi hj
theorem va8 {n b k:Nat} (h:n * b<=k) (hb:0 < b):n<=k:=Nat.le_trans (Nat.le_mul_of_pos_right n hb) h
theorem q18 (R:RelE base X F0 B E s a w) (hb:base<=w.heap.size) {c:Call} (ho:o.op=.call c) (hv:∀x∈o.op.operands.toList,jd6 (live s) E w (valOf s x) (a.eval x)) {b:Builtin} (hcal:c.callee=.builtin b) {name:Nat}
  {e:Eff} (he:jm7 P name s b c.argTypes.toList (c.args.toList.map (valOf s))=some e) (hok:∀q∈e.ok,q) (hnw:e.nw.isSome=true->s.mem name=none/\name < PN) {p:Prop} {li:List Tmp} {gen:Nat} {K:Act->World->Prop} {Q:Exit->Act->World->Prop}
  (hK:∀E' a' w',RelE base X F0 B E' ⟨je6 s.tmps o.dst (gnow e.v),jb3 s.mem (q90 name e),p,li,gen⟩ a' w'->jc4 base X F0 w w'->K a' w'):o.wp P a w K Q:=by
 have hargs:Fa2 (jd6 (live s) E w) (c.args.toList.map (valOf s)) (c.args.toList.map a.eval) :=
  ju6 hv _ λ y hy=>by rw [ho];simp only [Op.operands,Call.operands,Array.toList_append];exact List.mem_append_right _ hy
 have hrun:∀ys:List Value,c.args.toList.map a.eval=ys->(execOp a.eval o).run P w=(builtin b c.argTypes o.type (c.args.map λ | .const _=>true | _=>false) ys.toArray).run P w:=by
  intro ys hys
  simp only [execOp,ho,resolve,hcal,Sem.run_bind,Sem.run_pure,Result.andThen_ok,invoke]
  congr 2
  apply Array.ext'
  simpa using hys
 unfold jm7 at he
 split at he
 ·
  rename_i args tys k x l y hq
  simp only [eV,Option.some.injEq] at he
  subst he
  have hq:c.args.toList.map (valOf s)=_:=hq
  rw [hq] at hargs
  generalize hys:c.args.toList.map a.eval=ys at hargs
  match ys,hargs with
  | [y1,y2],hargs =>
   obtain rfl:=cv_v hargs.1
   obtain rfl:=cv_v hargs.2.1
   refine jx5 R rfl ?_ hK
   rw [hrun _ hys]
   simp only [builtin,Sem.run_bind,Builtin.min_,List.foldlM_cons,List.foldlM_nil,Builtin.min2,jf2]
   rfl
 ·
  rename_i args tys k x l y hq
  simp only [eV,Option.some.injEq] at he
  subst he
  have hq:c.args.toList.map (valOf s)=_:=hq
  rw [hq] at hargs
  generalize hys:c.args.toList.map a.eval=ys at hargs
  match ys,hargs with
  | [y1,y2],hargs =>
   obtain rfl:=cv_v hargs.1
   obtain rfl:=cv_v hargs.2.1
   refine jx5 R rfl ?_ hK
   rw [hrun _ hys]
   simp only [builtin,Sem.run_bind,Builtin.max_,List.foldlM_cons,List.foldlM_nil,Builtin.max2,jb8]
   rfl
 ·
  rename_i args tys cv t hq htys
  have hq:c.args.toList.map (valOf s)=_:=hq
  have ht:c.argTypes=#[t]:=by apply Array.ext';simpa using htys
  rw [hq] at hargs
  generalize hys:c.args.toList.map a.eval=ys at hargs
  match ys,hargs with
  | [y1],hargs =>
   have h1:=hargs.1
   have run1:(execOp a.eval o).run P w=((Builtin.len_ #[t] o.type #[y1]).run P w).andThen λ v w'=>.ok (.value v) w':=by
    rw [hrun _ hys,ht]
    simp only [builtin,Sem.run_bind,Sem.run_pure]
   split at he <;> try (simp at he;done)
   ·rename_i b _ _ _ _
    have hu:P.underlying t=some .string:=by assumption
    simp only [eV,Option.some.injEq] at he
    subst he
    obtain rfl:=cv_v h1
    refine jx5 R rfl ?_ hK
    rw [run1,run_len_string (h:=hu)];rfl
   ·rename_i e' _ _ _ _
    have hu:=‹P.underlying t=some _›
    simp only [eV,Option.some.injEq] at he
    subst he
    obtain rfl:=cv_v h1
    refine jx5 R rfl ?_ hK
    rw [run1];simp [Builtin.len_,run_underlying hu,goInt]
   ·rename_i e' m n _ _ _
    have hu:=‹P.underlying t=some _›
    simp only [eV,Option.some.injEq] at he
    subst he
    obtain ⟨ad,cc,hy⟩:∃ad cc,y1=.slice ad n.toNat cc:=by
     obtain ⟨_,_,_,⟨h,rfl⟩ | ⟨b,c,h⟩⟩:=h1
     ·exact ⟨_,_,h⟩
     ·exact ⟨_,_,h⟩
    have h0:0<=n:=h1.2.2.1
    refine jx5 R rfl ?_ hK
    rw [run1,hy];simp [Builtin.len_,run_underlying hu,goInt];omega
   ·rename_i e' z n r _ _ _
    have hu:=‹P.underlying t=some _›
    simp only [eV,Option.some.injEq] at he
    subst he
    have h1:Rep E.F w (.slc z n r) y1:=h1
    refine jx5 R rfl ?_ hK
    rw [run1]
    rcases h1.news with ⟨rfl,rfl⟩ | ⟨ad,m,cc,news,rfl,rfl,_⟩
    ·simp [Builtin.len_,run_underlying hu,goInt]
    ·simp [Builtin.len_,run_underlying hu,goInt]
 ·
  rename_i args tys av cv t u hq htys
  have hq:c.args.toList.map (valOf s)=_:=hq
  have ht:c.argTypes=#[t,u]:=by apply Array.ext';simpa using htys
  rw [hq] at hargs
  generalize hys:c.args.toList.map a.eval=ys at hargs
  split at he <;> try (simp at he;done)
  rename_i el hu
  split at he <;> try (simp at he;done)
  rename_i zs hz
  split at he <;> try (simp at he;done)
  rename_i hc
  simp only [Bool.and_eq_true,Nat.beq_eq,Nat.blt_eq] at hc
  obtain ⟨hsz,hbz⟩:=hc
  obtain ⟨i,z,hi,hiz,hzc,hzl,hzp⟩:=jr0 hz
  have hs:jd0 P el=i.size:=by simp [jd0,hi]
  have hby:qi5 P el=i.bytes:=by simp [qi5,hi]
  rw [hs] at hsz
  rw [hby] at hbz
  have hzs:z.cells.size=i.size:=by rw [hzc];simpa using hzl
  match ys,hargs with
  | [y1,y2],hargs =>
   have h1:=hargs.1
   have h2:jb9 (live s) E w cv y2:=hargs.2.1
   have run1:(execOp a.eval o).run P w=((Builtin.append_ #[t,u] o.type #[y1,y2]).run P w).andThen λ v w'=>.ok (.value v) w':=by
    rw [hrun _ hys,ht]
    simp only [builtin,Sem.run_bind,Sem.run_pure]
   split at he <;> try (simp at he;done)
   rename_i z2 n2 r2 rd hrow
   split at he <;> try (simp at he;done)
   rename_i hz2
   have hz2:=Nat.eq_of_beq_eq_true hz2
   rw [hs] at hz2
   subst hz2
   have hnews:((y2=.slice none 0 0/\n2=0/\t=u)\/∃b,y2=.string b/\P.underlying u=some .string/\n2=jx4 b/\i.size=1/\r2=.lst .u8 (strL b))\/t=u/\∃(ad:Addr) (k c:Nat) (news:List Value),y2=.slice (some ad) k c/\n2=k/\news.length=k * i.size/\(∀j u,news[j]?=some u->w.cell? (ad.add j)=some u)/\(∀u∈news,u.oneCell'=true)/\jd7 E.F w i.size n2 r2 news:=by
    rcases qw7 hrow with ⟨rfl,hr9⟩ | ⟨b,rfl,hu',e1,rfl,rfl,rfl⟩
    ·have h3:(y2=.slice none 0 0/\n2=0)\/∃(ad:Addr) (k c:Nat) (news:List Value),y2=.slice (some ad) k c/\n2=k/\news.length=k * i.size/\(∀j u,news[j]?=some u->w.cell? (ad.add j)=some u)/\(∀u∈news,u.oneCell'=true)/\jd7 E.F w i.size n2 r2 news:=by
      unfold srcA at hr9
      split at hr9
      ·rename_i m n
       split at hr9 <;> try (simp at hr9;done)
       rename_i z' n' r' hro
       simp only [Option.some.injEq,Prod.mk.injEq] at hr9
       obtain ⟨rfl,rfl,rfl,rfl⟩:=hr9
       rw [h2.2.1]
       exact q14 R hro
      ·simp only [Option.some.injEq,Prod.mk.injEq] at hr9
       obtain ⟨rfl,rfl,rfl,rfl⟩:=hr9
       have h2:Rep E.F w _ y2:=h2
       exact h2.news
      ·simp at hr9
     rcases h3 with ⟨h3,h4⟩ | h3
     ·exact Or.inl (Or.inl ⟨h3,h4,rfl⟩)
     ·exact Or.inr ⟨rfl,h3⟩
    ·exact Or.inl (Or.inr ⟨b,cv_v (L:=live s) (E:=E) (w:=w) h2,hu',rfl,e1,rfl⟩)
   have h20:0<=n2:=by rcases hnews with (⟨_,rfl,_⟩ | ⟨b,_,_,rfl,_⟩) | ⟨_,_,k,_,_,_,rfl,_⟩ <;> first | omega | exact Int.natCast_nonneg _
   have main:∀(n1:Nat) (xs:List Value) (e0:TypeId),OwnR w e0 i.size y1 n1 xs->(n1 + n2.toNat) * i.bytes<=140737488355328->∃v' w' news e',(Builtin.append_ #[t,u] o.type #[y1,y2]).run P w=.ok v' w'/\OwnR w' e' i.size v' (n1 + n2.toNat) (xs ++ news)/\w.grownBy w' y1.ownBlock/\
     (∀k,v'.ownBlock=some k->w.heap.size<=k\/y1.ownBlock=some k)/\jd7 E.F w i.size n2 r2 news:=by
    intro n1 xs e0 hown hby
    rcases hnews with (⟨rfl,rfl,rfl⟩ | ⟨b,rfl,hu',rfl,hs1,rfl⟩) | ⟨rfl,ad,k,cc,news,rfl,rfl,g1,g2,g3,g4⟩
    ·refine ⟨y1,w,[],e0,?_,by simpa using hown,⟨rfl,rfl,rfl,Nat.le_refl _,λ _ _ _=>rfl⟩,λ k h=>Or.inr h,λ i' j h=>by omega⟩
     rcases hown.2 with ⟨rfl,rfl⟩ | ⟨g,cap,cur,rfl,_,hnc,_⟩
     ·simp [Builtin.append_,run_underlying hu,sizeOf,typeInfo,hi,Builtin.lenOf,Builtin.firstCells]
     ·simp [Builtin.append_,run_underlying hu,sizeOf,typeInfo,hi,Builtin.lenOf,Builtin.firstCells,hnc,storeCells]
    ·have hby:(n1 + b.size) * i.bytes<=140737488355328:=hby
     have hle:=va8 hby hbz
     obtain ⟨v',w',e',e1,e2,e3,e4⟩:=q09 (P:=P) w t u o.type el e0 i z hu hu' hi hiz hzs hs1 y1 n1 xs hown b (by simp only [maxLen];omega) hby
     exact ⟨v',w',_,e',e1,e2,e3,e4,by rw [hs1];exact jd7.str b⟩
    ·have hle:=va8 hby hbz
     obtain ⟨v',w',e',e1,e2,e3,e4⟩:=vy3 (P:=P) w t o.type el e0 i z hu hi hiz hzs y1 n1 xs hown ad k cc news g1 g2 g3 (by simp only [maxLen];simp at hle;omega) (by simpa using hby)
     exact ⟨v',w',news,e',e1,by simpa using e2,e3,e4,g4⟩
   split at he <;> try (simp at he;done)
   ·
    simp only [Option.some.injEq] at he
    subst he
    obtain rfl:=cv_v h1
    obtain ⟨hn1,hn2⟩:=hnw rfl
    have hask:=hok _ (List.mem_singleton.2 rfl)
    simp only [ile,decide_eq_true_eq,jd2,hby] at hask
    have hask':(0 + n2.toNat) * i.bytes<=140737488355328:=by
     have:((n2.toNat:Nat):Int)=n2:=by omega
     rw [<- this,<- Int.natCast_mul] at hask
     rw [Nat.zero_add]
     omega
    obtain ⟨v',w',news,el',e1,e2,e3,e4,e5⟩:=main 0 [] el (OwnB.nil (base:=0)).1 hask'
    rw [Nat.zero_add,List.nil_append] at e2
    have hF:∀k,E.F k->w'.heap[k]?=w.heap[k]?:=λ k hk=>e3.block k (R.frz k hk).1 (by simp [Value.ownBlock])
    obtain ⟨⟨E',R'⟩,kp⟩:=R.qf4 hb hn1 hn2 e3 (u:=[]) (Or.inl ⟨rfl,rfl⟩) (r:=r2) hsz h20 e2 (λ i' j h h'=>by obtain ⟨u,q1,q2⟩:=e5 i' j h h';exact ⟨u,q1,q2.mono (λ _ h=>h) hF⟩) (λ k hk=>e4 k hk) o.dst p li gen
    unfold Oper.wp
    rw [run1,e1]
    exact hK E' _ _ R' kp
   ·
    rename_i m nn _ _
    split at he <;> try (simp at he;done)
    rename_i z' n' r' hro
    split at he <;> try (simp at he;done)
    rename_i hz'
    have hz':=Nat.eq_of_beq_eq_true hz'
    subst hz'
    simp only [Option.some.injEq] at he
    subst he
    obtain ⟨hn1,hn2⟩:=hnw rfl
    unfold rowW at hro
    split at hro <;> try (simp at hro;done)
    rename_i z3 n3 r3 hm
    simp only [Option.some.injEq,Prod.mk.injEq] at hro
    obtain ⟨hq1,rfl,rfl⟩:=hro
    rw [hq1] at hm
    obtain ⟨_,k0,hz0,hnF,el',xs,ho',hr⟩:=R.mem m _ hm
    have hy1:y1=E.ν m:=h1.2.1
    have hask:=hok _ (List.mem_singleton.2 rfl)
    simp only [ile,decide_eq_true_eq,jd2,hby,addZ] at hask
    have hask':(n3.toNat + n2.toNat) * i.bytes<=140737488355328:=by
     have:n3 + n2=((n3.toNat + n2.toNat:Nat):Int):=by omega
     rw [this,<- Int.natCast_mul] at hask
     omega
    obtain ⟨v',w',news,el2,e1,e2,e3,e4,e5⟩:=main n3.toNat xs el' (by rw [hy1];exact ho'.1) hask'
    rw [hy1] at e3 e4
    have hF:∀k,E.F k->w'.heap[k]?=w.heap[k]?:=λ k hk=>e3.block k (R.frz k hk).1 (λ e=>hnF k e.symm hk)
    have e2':OwnR w' el2 i.size v' (addZ n3 n2).toNat (xs ++ news):=by
     rw [show (addZ n3 n2).toNat=n3.toNat + n2.toNat by unfold addZ;omega];exact e2
    have hrr:=jd7.app k0 ho'.1.1 hr e5
    obtain ⟨⟨E',R'⟩,kp⟩:=R.qf4 hb hn1 hn2 e3 (u:=[(m,.dead)]) (Or.inr ⟨m,_,_,_,hm,rfl,rfl⟩) (r:=.app r3 n3 r2) hsz (by unfold addZ;omega) e2' (λ i' j h h'=>by obtain ⟨u,q1,q2⟩:=hrr i' j h h';exact ⟨u,q1,q2.mono (λ _ h=>h) hF⟩) (λ k hk=>e4 k hk) o.dst p li gen
    unfold Oper.wp
    rw [run1,e1]
    exact hK E' _ _ R' kp
 ·
  rename_i args tys dv cv t u hq htys
  have hq:c.args.toList.map (valOf s)=_:=hq
  have ht:c.argTypes=#[t,u]:=by apply Array.ext';simpa using htys
  rw [hq] at hargs
  generalize hys:c.args.toList.map a.eval=ys at hargs
  split at he <;> try (simp at he;done)
  rename_i el hu
  split at he <;> try (simp at he;done)
  rename_i hinf
  split at he <;> try (simp at he;done)
  rename_i m z l n N r z2 n2 r2 rd hd hsrc
  split at he <;> try (simp at he;done)
  rename_i hzz
  simp only [Bool.and_eq_true,Nat.beq_eq] at hzz
  obtain ⟨hsz,rfl⟩:=hzz
  have hs:(P.info? el).map (·.size)=some z2:=by
   obtain ⟨i,hi⟩:=Option.isSome_iff_exists.1 hinf
   simp only [jd0,hi] at hsz
   rw [hi,Option.map_some,hsz]
  simp only [Option.some.injEq] at he
  subst he
  match ys,hargs with
  | [y1,y2],hargs =>
   obtain ⟨hm,l0,n0,hdst⟩:=vy5 hd hargs.1
   obtain ⟨n20,ad,cc,news,rfl,hnl,hcell,hone,hrr⟩:=va7 R hsrc hargs.2.1
   have run1:(execOp a.eval o).run P w=((Builtin.copy_ #[t,u] o.type #[y1,.slice ad n2.toNat cc]).run P w).andThen λ v w'=>.ok (.value v) w':=by
    rw [hrun _ hys,ht]
    simp only [builtin,Sem.run_bind,Sem.run_pure]
   have kmin:((Nat.min n2.toNat n.toNat:Nat):Int)=jf2 n n2:=by
    show ((min n2.toNat n.toNat:Nat):Int)=_
    unfold jf2;split <;> omega
   have hval:∀k:Nat,(k:Int)=jf2 n n2->jd6 (live s) E w (vS (.int .i64 (jf2 n n2))) (goInt k):=by
    intro k hk
    show Rep E.F w (.v (.int .i64 (jf2 n n2))) (goInt k)
    rw [<- hk]
    exact Rep.v rfl
   by_cases hk0:jf2 n n2=0
   ·
    have hmin:Nat.min n2.toNat n.toNat=0:=by omega
    obtain ⟨dp,c1,hy1⟩:∃dp c1,y1=.slice dp n.toNat c1:=by
     rcases hdst with ⟨rfl,ad',c',rfl⟩ | ⟨b,c',ln,c'',_,_,rfl⟩
     ·exact ⟨_,_,rfl⟩
     ·exact ⟨_,_,rfl⟩
    have run2:=qu9 (P:=P) w t u o.type el dp ad n.toNat c1 n2.toNat cc hu hinf hmin
    have R':=R.y78 hm (r:=cpyR r l (jf2 n n2) r2) (λ xs hx=>by rw [hk0];exact hx.cpy0 l) o.dst (gnow (vS (.int .i64 (jf2 n n2)))) (goInt 0) (λ _=>hval 0 (by rw [hk0];rfl)) p li gen
    unfold Oper.wp
    rw [run1,hy1,run2]
    exact hK E _ _ R' (jc4.refl _ _ _ _)
   ·rcases hdst with ⟨rfl,_⟩ | ⟨b,c1,ln,c',hν,hle,rfl⟩
    ·exact (hk0 (by unfold jf2;split <;> omega)).elim
    ·have hkn:jf2 n n2<=n/\jf2 n n2<=n2:=by unfold jf2;split <;> omega
     have hkp:0 < jf2 n n2:=by omega
     have hkt:(jf2 n n2).toNat=Nat.min n2.toNat n.toNat:=by omega
     obtain ⟨a',rfl,hcl⟩:=hcell (by omega)
     obtain ⟨_,k0,_,hnF,el',xs,ho',hr⟩:=R.mem m _ hm
     rcases ho'.1.2 with ⟨hv',_⟩ | ⟨g,cap,cur,hv',⟨fz,hfz,hg⟩,hnc,hcm,hcs,htake⟩
     ·rw [hν] at hv';simp at hv'
     ·have hvv:=hv'
      rw [hν] at hvv
      simp only [Value.slice.injEq,Option.some.injEq,Addr.mk.injEq,and_true] at hvv
      obtain ⟨rfl,rfl,rfl⟩:=hvv
      have hxl:=ho'.1.1
      have m1:(l.toNat + (jf2 n n2).toNat) * z2<=N.toNat * z2:=Nat.mul_le_mul_right z2 (by omega)
      have m2:(jf2 n n2).toNat * z2<=n2.toNat * z2:=Nat.mul_le_mul_right z2 (by omega)
      have m3:N.toNat * z2<=c1 * z2:=Nat.mul_le_mul_right z2 hnc
      rw [Nat.add_mul] at m1
      have hcl':(news.take ((jf2 n n2).toNat * z2)).length=(jf2 n n2).toNat * z2:=by rw [List.length_take];omega
      have hfit:l.toNat * z2 + (news.take ((jf2 n n2).toNat * z2)).length<=cur.size:=by rw [hcl',hcs];omega
      have run2:=q15 (P:=P) w t u o.type el z2 b (l.toNat * z2) n.toNat c' a' n2.toNat cc cur el' (news.take ((jf2 n n2).toNat * z2)) hu hs hg hfz (by rw [hcl',hkt]) (λ j v hj=>by
       rw [List.getElem?_take] at hj
       split at hj
       ·exact hcl j v hj
       ·simp at hj) hfit (λ v hv=>hone v (List.mem_of_mem_take hv))
      have ru:=jd7.cpy hr hrr l0 (Int.le_of_lt hkp) hkn.2 hxl hnl (by omega)
      have hlenS:(PR.splice cur.toList (l.toNat * z2) (news.take ((jf2 n n2).toNat * z2))).length=cur.size:=by
       unfold PR.splice
       rw [jq9 _ _ _ (by rw [Array.length_toList];exact hfit),Array.length_toList]
      have hown':OwnR (w.setRow b (PR.splice cur.toList (l.toNat * z2) (news.take ((jf2 n n2).toNat * z2))).toArray) el' z2 (E.ν m) N.toNat (PR.splice xs (l.toNat * z2) (news.take ((jf2 n n2).toNat * z2))):=by
       refine ⟨?_,.inr ⟨b,c1,_,hv',⟨fz,by rw [List.size_toArray,hlenS];exact hfz,setRow_heap w b cur _ el' _ hg⟩,hnc,hcm,?_,?_⟩⟩
       ·unfold PR.splice
        rw [jq9 _ _ _ (by rw [hcl',hxl];omega),hxl]
       ·rw [List.size_toArray,hlenS,hcs]
       ·rw [<- htake]
        apply List.ext_getElem?
        intro q
        unfold PR.splice
        rw [jj7 _ _ _ _ (by rw [hcl',List.length_take,Array.length_toList];omega),List.getElem?_take]
        have e2:=jj7 cur.toList (news.take ((jf2 n n2).toNat * z2)) (l.toNat * z2) q (by rw [Array.length_toList];exact hfit)
        simp only [List.getElem?_take] at *
        rw [e2,hcl']
        by_cases hq:q < N.toNat * z2
        ·simp only [hq,if_true]
        ·simp only [hq,if_false]
         rw [if_neg (by omega),if_neg (by omega)]
      obtain ⟨R',kp⟩:=R.vg2 hm (w':=w.setRow b (PR.splice cur.toList (l.toNat * z2) (news.take ((jf2 n n2).toNat * z2))).toArray) (k0:=b) (by rw [hv'];rfl) (λ k hk=>setRow_other w b k _ hk) ⟨rfl,rfl,rfl,by simp⟩ hown' ru o.dst (gnow (vS (.int .i64 (jf2 n n2)))) (goInt (Nat.min n2.toNat n.toNat)) (λ _=>hval _ kmin) p li gen
      unfold Oper.wp
      rw [run1,run2]
      exact hK E _ _ R' kp
 ·
  rename_i args tys m z l n t hq htys
  have hq:c.args.toList.map (valOf s)=_:=hq
  have ht:c.argTypes=#[t]:=by apply Array.ext';simpa using htys
  rw [hq] at hargs
  generalize hys:c.args.toList.map a.eval=ys at hargs
  match ys,hargs with
  | [y1],hargs =>
   have run1:(execOp a.eval o).run P w=((Builtin.len_ #[t] o.type #[y1]).run P w).andThen λ v w'=>.ok (.value v) w':=by
    rw [hrun _ hys,ht]
    simp only [builtin,Sem.run_bind,Sem.run_pure]
   split at he <;> try (simp at he;done)
   have hu:=‹P.underlying t=some _›
   simp only [eV,Option.some.injEq] at he
   subst he
   obtain ⟨_,_,h0,h1⟩:=hargs.1
   obtain ⟨ad,cc,hy⟩:∃ad cc,y1=.slice ad n.toNat cc:=by
    rcases h1 with ⟨rfl,ad,c,rfl,_⟩ | ⟨b,c,ln,c',_,_,_,rfl⟩
    ·exact ⟨_,_,rfl⟩
    ·exact ⟨_,_,rfl⟩
   refine jx5 R rfl ?_ hK
   rw [run1,hy];simp [Builtin.len_,run_underlying hu,goInt];omega
 ·simp at he
end
end Go.Proofs.YthkidembkknoeaaDoor.QR
namespace Go.Proofs.YthkidembkknoeaaDoor.QR
open Go.RowKit PR
set_option linter.unusedVariables false
set_option linter.unusedSimpArgs false
section
variable {P:Program} {O:ja8} {base:Nat} {X F0:Nat->Prop} {B:Nat->(Nat×Value)×Bool} {E:Env} {s:PSt} {a:Act} {w:World} {o:Oper}
theorem qi9 {K:Act->World->Prop} {Q:Exit->Act->World->Prop} {y:Value} {w':World} (h:(execOp a.eval o).run P w=.ok (.value y) w') (hK:K (a.put o.dst y) w'):o.wp P a w K Q:=by
 unfold Oper.wp;rw [h];exact hK
theorem vm0 {K:Act->World->Prop} {Q:Exit->Act->World->Prop} {w':World} (h:(execOp a.eval o).run P w=.ok .skip w') (hK:K (a.put o.dst undef) w'):o.wp P a w K Q:=by
 unfold Oper.wp;rw [h];exact hK
def jf8 (l d:Int):Option Value->Prop
 | none=>l=d
 | some v=>∃k,v=.int k l
theorem jk7 {d l:Int} {x:Option Operand} (h:jg6 s d x=some l) (hv:∀y,x=some y->jd6 (live s) E w (valOf s y) (a.eval y)):jf8 l d (x.map a.eval):=by
 cases x with
 | none=>simp only [jg6,Option.some.injEq] at h;exact h.symm
 | some y =>
  unfold jg6 at h
  simp only at h
  split at h <;> try (simp at h;done)
  rename_i k n hk
  simp only [Option.some.injEq] at h
  subst h
  exact ⟨k,qo1 hk (hv y rfl)⟩
theorem vy6 {t el:TypeId} {z:Nat} (hu:P.underlying t=some (.slice el)) (hz:(sizeOf el).run P w=.ok z w) (ad:Option Addr) (ln c:Nat) {l h:Int} {lo hi:Option Value} (h0:0<=l) (h1:l<=h) (h2:h<=c) (hl:jf8 l 0 lo) (hh:jf8 h ln hi) :
  (Instr.sliceAt t (.slice ad ln c) lo hi none).run P w=.ok (.slice (if c=l.toNat then ad else ad.map (·.add (l.toNat * z))) (h.toNat - l.toNat) (c - l.toNat)) w:=by
 have e1:0<=h:=by omega
 have e2:l<=(h.toNat:Int):=by omega
 have e3:l.toNat<=h.toNat:=by omega
 cases lo with
 | none =>
  have hl:l=0:=hl
  subst hl
  cases hi with
  | none =>
   have hh:h=ln:=hh
   subst hh
   simp [Instr.sliceAt,run_underlying hu,Instr.slice,Instr.sliceBounds,hz]
  | some v =>
   obtain ⟨k,rfl⟩:=hh
   simp [Instr.sliceAt,run_underlying hu,Instr.slice,Instr.sliceBounds,Instr.sliceBound,asIntOf,hz,e1,h2]
 | some v =>
  obtain ⟨k,rfl⟩:=hl
  cases hi with
  | none =>
   have hh:h=ln:=hh
   subst hh
   have e4:l<=(ln:Int):=h1
   simp [Instr.sliceAt,run_underlying hu,Instr.slice,Instr.sliceBounds,Instr.sliceBound,asIntOf,hz,h0,e4]
  | some v =>
   obtain ⟨k,rfl⟩:=hh
   have e6:max h 0=h:=by omega
   have e7:¬ h < l:=by omega
   simp [Instr.sliceAt,run_underlying hu,Instr.slice,Instr.sliceBounds,Instr.sliceBound,asIntOf,hz,h0,e1,h2,e6,e7]
def va9 (k c:Int):Option Value->Prop
 | none=>k=c
 | some v=>∃kd,v=.int kd k
theorem jm9 {t el:TypeId} {z:Nat} (hu:P.underlying t=some (.slice el)) (hz:(sizeOf el).run P w=.ok z w) (ad:Option Addr) (ln c:Nat) {l h k:Int} {lo hi mx:Option Value} (h0:0<=l) (h1:l<=h) (h2:h<=k) (h3:k<=c) (hl:jf8 l 0 lo) (hh:jf8 h ln hi) (hk:va9 k c mx) (hm:mx=none\/hi≠none) :
  (Instr.sliceAt t (.slice ad ln c) lo hi mx).run P w=.ok (.slice (if k.toNat=l.toNat then ad else ad.map (·.add (l.toNat * z))) (h.toNat - l.toNat) (k.toNat - l.toNat)) w:=by
 cases mx with
 | none =>
  have hk:k=c:=hk
  subst hk
  have:=vy6 (P:=P) hu hz ad ln c h0 h1 h2 hl hh
  rw [Int.toNat_natCast]
  exact this
 | some v =>
  obtain ⟨kd,rfl⟩:=hk
  have e1:0<=k:=by omega
  have e2:0<=h:=by omega
  have e3:max k 0=k:=by omega
  have e4:max h 0=h:=by omega
  have e5:h<=max k 0:=by omega
  have e6:l<=max h 0:=by omega
  have e8:h<=((k.toNat:Nat):Int):=by omega
  have e9:l<=((h.toNat:Nat):Int):=by omega
  cases hi with
  | none=>rcases hm with hm | hm <;> simp at hm
  | some v =>
   obtain ⟨k2,rfl⟩:=hh
   cases lo with
   | none =>
    have hl:l=0:=hl
    subst hl
    simp [Instr.sliceAt,run_underlying hu,Instr.slice,Instr.sliceBounds,Instr.sliceBound,asIntOf,hz,e1,e2,e3,h3,h2,e8]
   | some v =>
    obtain ⟨k3,rfl⟩:=hl
    simp [Instr.sliceAt,run_underlying hu,Instr.slice,Instr.sliceBounds,Instr.sliceBound,asIntOf,hz,h0,e1,e2,e3,e4,h1,h2,h3,e8,e9]
theorem vg7 {F:Nat->Prop} {t el:TypeId} {z:Nat} {n:Int} {r:Row} {y:Value} (hrep:Rep F w (.slc z n r) y) (hu:P.underlying t=some (.slice el)) (hz:(sizeOf el).run P w=.ok z w) {l h:Int} {lo hi mx:Option Value} (h0:0<=l) (h1:l<=h) (h2:h<=n) (hl:jf8 l 0 lo) (hh:jf8 h n hi) (hk:mx=none\/∃kd k,mx=some (.int kd k)/\h<=k/\k<=n) (hm:mx=none\/hi≠none) :
  ∃y',(Instr.sliceAt t y lo hi mx).run P w=.ok y' w/\Rep F w (.slc z (subZ h l) (.sub r l)) y':=by
 have top:∀c:Nat,n<=c->∃k:Int,va9 k c mx/\h<=k/\k<=c:=by
  intro c hc
  rcases hk with rfl | ⟨kd,k,rfl,k1,k2⟩
  ·exact ⟨c,rfl,by omega,Int.le_refl _⟩
  ·exact ⟨k,⟨kd,rfl⟩,k1,by omega⟩
 cases hrep with
 | nil hz0 hc =>
  rename_i ad c
  obtain rfl:l=0:=by omega
  obtain rfl:h=0:=by omega
  obtain ⟨k,t1,t2,t3⟩:=top c (by omega)
  refine ⟨_,jm9 hu hz ad 0 c (by omega) (by omega) t2 t3 hl hh t1 hm,?_⟩
  show Rep F w (.slc z 0 (.sub r 0)) (.slice _ (0 - 0) _)
  refine .nil hz0 λ e=>?_
  cases ad with
  | none=>have:=hc rfl;omega
  | some ad=>split at e <;> simp at e
 | slc u hz0 hcap hF hg hu' hr =>
  rename_i n b off c arr t' fr
  obtain ⟨l,rfl⟩:=Int.eq_ofNat_of_zero_le h0
  obtain ⟨h,rfl⟩:=Int.eq_ofNat_of_zero_le (show 0<=h by omega)
  obtain ⟨k,t1,t2,t3⟩:=top c (by omega)
  refine ⟨_,jm9 hu hz (some ⟨b,off,none⟩) n c (by omega) h1 t2 t3 hl hh t1 hm,?_⟩
  have e1:subZ (h:Int) (l:Int)=((h - l:Nat):Int):=by unfold subZ;omega
  rw [e1,Int.toNat_natCast,Int.toNat_natCast]
  by_cases hd:h - l=0
  ·rw [hd]
   refine .nil hz0 λ e=>?_
   split at e <;> simp at e
  ·rw [if_neg (by omega)]
   simp only [Option.map_some,Addr.add_lit]
   refine .slc (λ i j=>u (i + l) j) hz0 (by omega) hF hg (λ i j hi hj=>?_) (λ i j hi hj=>?_)
   ·have:=hu' (i + l) j (by omega) hj
    rw [Nat.add_mul] at this
    rw [<- this]
    congr 1
    omega
   ·have:=hr (i + l) j (by omega) hj
    show Rep F w (den r (addZ i l) j) _
    rw [show addZ (i:Int) (l:Int)=((i + l:Nat):Int) by unfold addZ;omega]
    exact this
theorem vt0 {t el:TypeId} {z:Nat} {l0 n:Int} {ν y:Value} (hp:qi7 ν z l0 n y) (hu:P.underlying t=some (.slice el)) (hz:(sizeOf el).run P w=.ok z w) {l h:Int} {lo hi mx:Option Value} (h0:0<=l) (h1:l<=h) (h2:h<=n) (hl:jf8 l 0 lo) (hh:jf8 h n hi) (hk:mx=none\/∃kd k,mx=some (.int kd k)/\h<=k/\k<=n) (hm:mx=none\/hi≠none) :
  ∃y',(Instr.sliceAt t y lo hi mx).run P w=.ok y' w/\qi7 ν z (addZ l0 l) (subZ h l) y':=by
 have top:∀c:Nat,n<=c->∃k:Int,va9 k c mx/\h<=k/\k<=c:=by
  intro c hc
  rcases hk with rfl | ⟨kd,k,rfl,k1,k2⟩
  ·exact ⟨c,rfl,by omega,Int.le_refl _⟩
  ·exact ⟨k,⟨kd,rfl⟩,k1,by omega⟩
 obtain ⟨g0,g1,g⟩:=hp
 rcases g with ⟨rfl,ad,c,rfl,hc⟩ | ⟨b,c0,ln,c,hν,k1,k2,rfl⟩
 ·obtain rfl:l=0:=by omega
  obtain rfl:h=0:=by omega
  obtain ⟨k,t1,t2,t3⟩:=top c (by omega)
  refine ⟨_,jm9 hu hz ad 0 c (by omega) (by omega) t2 t3 hl hh t1 hm,by unfold addZ;omega,by unfold subZ;omega,Or.inl ⟨rfl,_,_,rfl,λ e=>?_⟩⟩
  cases ad with
  | none=>have:=hc rfl;omega
  | some ad=>split at e <;> simp at e
 ·obtain ⟨k,t1,t2,t3⟩:=top c (by omega)
  have hh':jf8 h (n.toNat:Nat) hi:=by rw [Int.toNat_of_nonneg g1];exact hh
  refine ⟨_,jm9 hu hz (some ⟨b,l0.toNat * z,none⟩) n.toNat c (by omega) h1 t2 t3 hl hh' t1 hm,by unfold addZ;omega,by unfold subZ;omega,?_⟩
  by_cases hd:h=l
  ·subst hd
   refine Or.inl ⟨by unfold subZ;omega,_,_,by rw [Nat.sub_self],λ e=>?_⟩
   split at e <;> simp at e
  ·rw [if_neg (by omega)]
   refine Or.inr ⟨b,c0,ln,k.toNat - l.toNat,hν,by unfold addZ subZ;omega,by unfold subZ;omega,?_⟩
   simp only [Option.map_some,Addr.add_lit]
   rw [show (subZ h l).toNat=h.toNat - l.toNat by unfold subZ;omega,show (addZ l0 l).toNat=l0.toNat + l.toNat by unfold addZ;omega,Nat.add_mul]
theorem yw1 (R:RelE base X F0 B E s a w) {m z:Nat} {n:Int} {r:Row} (h:rowOf s m=some (z,n,r)) {ad:Option Addr} {k c:Nat} (hv:E.ν m=.slice ad k c):k<=c:=by
 unfold rowOf at h
 split at h <;> try (simp at h;done)
 ·rename_i z' n' r' hm
  obtain ⟨_,_,_,_,e,xs,ho,_⟩:=R.mem m _ hm
  rcases ho.1.2 with ⟨hv',_⟩ | ⟨g,cap,cur,hv',_,hnc,_⟩
  ·rw [hv] at hv'
   simp only [Value.slice.injEq] at hv'
   omega
  ·rw [hv] at hv'
   simp only [Value.slice.injEq] at hv'
   omega
 ·rename_i z' n' r' hm
  have hr:Rep E.F w (.slc z' n' r') (E.ν m):=(R.mem m _ hm).2
  rw [hv] at hr
  cases hr with
  | nil=>omega
  | slc u _ hc=>exact hc
theorem qj0 (hO:je9 P O) (R:RelE base X F0 B E s a w) (hb:base<=w.heap.size) {name:Nat} {e:Eff} (he:effect P O name s o=some e) (hk:jk1 s o=true) (hok:∀q∈e.ok,q) (hnw:e.nw.isSome=true->s.mem name=none/\name < PN)
  {p:Prop} {li:List Tmp} {gen:Nat} {K:Act->World->Prop} {Q:Exit->Act->World->Prop}
  (hK:∀E' a' w',RelE base X F0 B E' ⟨je6 s.tmps o.dst (gnow e.v),jb3 s.mem (q90 name e),p,li,gen⟩ a' w'->jc4 base X F0 w w'->K a' w'):o.wp P a w K Q:=by
 have kn:(∀c u v,o.op≠ .pick c u v)->∀x∈o.op.operands.toList,jd6 (live s) E w (valOf s x) (a.eval x) :=
  λ hp x hx=>R.eval x (va6 hp hk hx)
 unfold effect at he
 split at he
 ·
  rename_i x ho
  simp only [eV,Option.some.injEq] at he
  subst he
  exact fin R (by simp [execOp,ho]) (kn (by simp [ho]) x (by simp [ho,Op.operands])) hK
 ·
  rename_i x ho
  simp only [eV,Option.some.injEq] at he
  subst he
  exact fin R (by simp [execOp,ho]) (kn (by simp [ho]) x (by simp [ho,Op.operands])) hK
 ·
  rename_i x ho
  have hx:=kn (by simp [ho]) x (by simp [ho,Op.operands])
  split at he <;> try (simp at he;done)
  ·rename_i m off q
   simp only [eV,Option.some.injEq] at he
   subst he
   rw [q] at hx
   refine fin R (y:=a.eval x) ?_ hx hK
   simp only [execOp,ho,qc8 hx];rfl
  ·rename_i m z i off q
   simp only [eV,Option.some.injEq] at he
   subst he
   rw [q] at hx
   have hx':=hx
   obtain ⟨_,_,b,c,ln,_,_,hy⟩:=hx'
   refine fin R (y:=a.eval x) ?_ hx hK
   simp only [execOp,ho,hy];rfl
  ·rename_i z r i off q
   simp only [eV,Option.some.injEq] at he
   subst he
   rw [q] at hx
   have hx':=hx
   obtain ⟨_,b,o',arr,t,_,_,_,hy,_⟩:=hx'
   refine fin R (y:=a.eval x) ?_ hx hK
   simp only [execOp,ho,hy];rfl
 ·
  rename_i c x y ho
  unfold jk1 at hk
  rw [ho] at hk
  split at he <;> try (simp at he;done)
  ·rename_i q
   simp only [eV,Option.some.injEq] at he
   subst he
   simp only [q,Bool.and_eq_true] at hk
   have hc:=R.eval c hk.1
   have q':(operand s c).v=_:=q
   rw [q'] at hc
   refine fin R (y:=a.eval x) ?_ (R.eval x hk.2) hK
   simp [execOp,ho,cv_v hc,asBool]
  ·rename_i q
   simp only [eV,Option.some.injEq] at he
   subst he
   simp only [q,Bool.and_eq_true] at hk
   have hc:=R.eval c hk.1
   have q':(operand s c).v=_:=q
   rw [q'] at hc
   refine fin R (y:=a.eval y) ?_ (R.eval y hk.2) hK
   simp [execOp,ho,cv_v hc,asBool]
 ·
  rename_i t ho
  split at he <;> try (simp at he;done)
  rename_i l hz
  simp only [Option.some.injEq] at he
  subst he
  obtain ⟨hn1,hn2⟩:=hnw rfl
  obtain ⟨i,z,hi,hiz,hzc,_,hp⟩:=jr0 hz
  obtain ⟨E',R'⟩:=R.q91 hb hn1 hn2 l.toArray t (l.map .v) (qf7 hp) o.dst p li gen
  refine qi9 (y:=.pointer (some ⟨w.heap.size,0,none⟩)) (w':=w.alloc (.cells l.toArray t)) ?_ (hK E' _ _ R' ⟨⟨rfl,rfl,rfl,by simp,λ k hk _=>heap_alloc_old w _ _ (by omega)⟩,λ k hk=>heap_alloc_old w _ _ (R.frz k (R.sub k hk)).1⟩)
  simp [execOp,ho,Instr.alloc,zeroValue,typeInfo,hi,hiz,hzc,newVar,newRow]
 ·
  rename_i t x ho
  have hx:=kn (by simp [ho]) x (by simp [ho,Op.operands])
  split at he <;> try (simp at he;done)
  rename_i v q
  simp only [Option.some.injEq] at he
  subst he
  rw [q] at hx
  obtain ⟨hn1,hn2⟩:=hnw rfl
  obtain ⟨E',R'⟩:=R.q91 hb hn1 hn2 (a.eval x).cells t (cellsOf v) (ConcX.cells hx) o.dst p li gen
  refine qi9 (y:=.pointer (some ⟨w.heap.size,0,none⟩)) (w':=w.alloc (.cells (a.eval x).cells t)) ?_ (hK E' _ _ R' ⟨⟨rfl,rfl,rfl,by simp,λ k hk _=>heap_alloc_old w _ _ (by omega)⟩,λ k hk=>heap_alloc_old w _ _ (R.frz k (R.sub k hk)).1⟩)
  simp [execOp,ho,Instr.box,newVar,newRow]
 ·
  rename_i t x ho
  have hx:=kn (by simp [ho]) x (by simp [ho,Op.operands])
  split at he <;> try (simp at he;done)
  ·rename_i m off q
   rw [q] at hx
   split at he <;> try (simp at he;done)
   rename_i l hm
   split at he <;> try (simp at he;done)
   rename_i v hp
   simp only [Option.some.injEq] at he
   subst he
   obtain ⟨arr,el,h1,h2⟩:=ju4 R hm hx.1
   obtain ⟨y,e1,e2⟩:=ju3 (P:=P) h1 h2 hp
   refine fin (v:=.x v) R (y:=y) ?_ e2 hK
   simp only [execOp,ho,qc8 hx,Sem.run_bind,e1];rfl
  ·rename_i m z i off q
   rw [q] at hx
   obtain ⟨_,h0,b,c,ln,hv,hi,hy⟩:=hx
   split at he <;> try (simp at he;done)
   rename_i z' n r hm
   split at he <;> try (simp at he;done)
   rename_i hz
   have hz:=Nat.eq_of_beq_eq_true hz
   subst hz
   split at he <;> try (simp at he;done)
   rename_i v hp
   simp only [Option.some.injEq] at he
   subst he
   obtain ⟨arr,el,_,h1,h2⟩:=yj3 R hm hv h0 hi
   obtain ⟨y,e1,e2⟩:=va5 (P:=P) (L:=live s) h1 h2 hp
   refine fin (v:=.x v) R (y:=y) ?_ e2 hK
   simp only [execOp,ho,hy,Sem.run_bind,e1];rfl
  ·rename_i z r i off q
   rw [q] at hx
   obtain ⟨_,b,o',arr,el,_,_,h1,hy,h2⟩:=hx
   split at he <;> try (simp at he;done)
   rename_i v hp
   simp only [eV,Option.some.injEq] at he
   subst he
   obtain ⟨y,e1,e2⟩:=va5 (P:=P) (L:=live s) h1 h2 hp
   refine fin (v:=.x v) R (y:=y) ?_ e2 hK
   simp only [execOp,ho,hy,Sem.run_bind,e1];rfl
 ·
  rename_i t x v ho
  have hx:=kn (by simp [ho]) x (by simp [ho,Op.operands])
  have hv:=kn (by simp [ho]) v (by simp [ho,Op.operands])
  split at he <;> try (simp at he;done)
  ·rename_i m off xv q1 q2
   rw [q1] at hx
   rw [q2] at hv
   split at he <;> try (simp at he;done)
   rename_i l hm
   split at he <;> try (simp at he;done)
   rename_i hc
   simp only [Bool.and_eq_true,Nat.beq_eq,Nat.ble_eq] at hc
   obtain ⟨⟨c1,c2⟩,c3⟩:=hc
   simp only [Option.some.injEq] at he
   subst he
   obtain ⟨hlt,hX,hnF,arr,el,hg,hl⟩:=R.mem m _ hm
   have hcells:=ConcX.cells hv
   have l1:=hcells.len
   have l2:=hl.len
   simp only [Array.length_toList] at l1 l2
   have hg':w.heap[E.β m]?=some (.cells arr.toList.toArray el (0,0)):=by simpa using hg
   have hsp:=Fa2.splice off hl hcells
   have run:=qu7 (P:=P) (E.β m) off el t arr.toList (a.eval v) hg' c1 (by omega) (by rw [Array.length_toList];omega) (ConcX.ones hv)
   obtain ⟨R',kp⟩:=R.vx6 hm (PR.splice arr.toList off (a.eval v).cells.toList).toArray (by simpa using hsp) o.dst (gnow (.tup [])) undef (λ _=>⟨[],rfl,trivial⟩) p li gen
   refine vm0 ?_ (hK E _ _ R' kp)
   have hp:=qc8 hx
   rw [ys2 hlt] at hp
   simp only [execOp,ho,hp,Sem.run_bind,run];rfl
  ·rename_i m z i off xv q1 q2
   rw [q1] at hx
   rw [q2] at hv
   obtain ⟨_,h0,b,c,ln,hν,hi,hy⟩:=hx
   split at he <;> try (simp at he;done)
   rename_i z' n r hro
   split at he <;> try (simp at he;done)
   rename_i hc
   simp only [Bool.and_eq_true,Nat.beq_eq,Nat.ble_eq] at hc
   obtain ⟨⟨⟨⟨c0,c1⟩,c2⟩,c3⟩,c4⟩:=hc
   subst c0
   simp only [Option.some.injEq] at he
   subst he
   unfold rowW at hro
   split at hro <;> try (simp at hro;done)
   rename_i z3 n3 r3 hm
   simp only [Option.some.injEq,Prod.mk.injEq] at hro
   obtain ⟨rfl,rfl,rfl⟩:=hro
   obtain ⟨_,k0,hz0,hnF,el,xs,ho',hr⟩:=R.mem m _ hm
   have hcells:=ConcX.cells hv
   have l1:=hcells.len
   simp only [Array.length_toList] at l1
   obtain ⟨n,rfl⟩:=Int.eq_ofNat_of_zero_le k0
   rcases ho'.1.2 with ⟨hv',_⟩ | ⟨g,cap,cur,hv',⟨fz,hfz,hg⟩,hnc,hcm,hcs,htake⟩
   ·rw [hν] at hv';simp at hv'
   ·have hvv:=hv'
    rw [hν] at hvv
    simp only [Value.slice.injEq,Option.some.injEq,Addr.mk.injEq,and_true] at hvv
    obtain ⟨rfl,rfl,_⟩:=hvv
    have hn:((ln:Int)).toNat=ln:=by simp
    rw [hn] at hnc htake
    have hlen:xs.length=ln * z3:=by rw [ho'.1.1,hn]
    have hiz:i.toNat * z3 + z3<=ln * z3:=by
     have:(i.toNat + 1) * z3<=ln * z3:=Nat.mul_le_mul_right z3 hi
     rw [Nat.add_mul,Nat.one_mul] at this;exact this
    have hcap:ln * z3<=cap * z3:=Nat.mul_le_mul_right z3 hnc
    have hlS:(PR.splice cur.toList (i.toNat * z3 + off) (a.eval v).cells.toList).length=cur.size:=by
     unfold PR.splice
     rw [jq9 _ _ _ (by rw [Array.length_toList,Array.length_toList,hcs];omega),Array.length_toList]
    have run:=q08 (P:=P) b (i.toNat * z3 + off) el t fz cur (a.eval v) hg hfz c1 (by omega) (by rw [hcs];omega) (ConcX.ones hv)
    have ru:=jd7.upd (off:=off) hr hlen (vy2 c4 hcells) hi c3
    rw [show ((i.toNat:Nat):Int)=i by omega] at ru
    have hown':OwnR (w.setRow b (PR.splice cur.toList (i.toNat * z3 + off) (a.eval v).cells.toList).toArray) el z3 (E.ν m) ((ln:Int)).toNat (PR.splice xs (i.toNat * z3 + off) (a.eval v).cells.toList):=by
     refine ⟨by rw [hn];exact ru.2,.inr ⟨b,cap,_,hv',⟨fz,by rw [List.size_toArray,hlS];exact hfz,setRow_heap w b cur _ el _ hg⟩,by rw [hn];exact hnc,hcm,?_,?_⟩⟩
     ·unfold PR.splice
      rw [List.size_toArray,jq9 _ _ _ (by rw [Array.length_toList,Array.length_toList,hcs];omega),Array.length_toList,hcs]
     ·rw [hn,<- htake]
      apply List.ext_getElem?
      intro k
      unfold PR.splice
      rw [jj7 _ _ _ _ (by rw [List.length_take,Array.length_toList,Array.length_toList,hcs];omega),List.getElem?_take]
      have e2:=jj7 cur.toList (a.eval v).cells.toList (i.toNat * z3 + off) k (by rw [Array.length_toList,Array.length_toList,hcs];omega)
      simp only [List.getElem?_take] at *
      rw [e2]
      by_cases hk:k < ln * z3
      ·simp only [hk,if_true]
      ·simp only [hk,if_false]
       rw [if_neg (by omega),if_neg (by rw [Array.length_toList];omega)]
    have ru':jd7 E.F w z3 (ln:Int) (q88 r3 i off (cellsOf xv)) (PR.splice xs (i.toNat * z3 + off) (a.eval v).cells.toList):=ru.1
    obtain ⟨R',kp⟩:=R.vg2 hm (w':=w.setRow b (PR.splice cur.toList (i.toNat * z3 + off) (a.eval v).cells.toList).toArray) (k0:=b) (by rw [hv'];rfl) (λ k hk=>setRow_other w b k _ hk) ⟨rfl,rfl,rfl,by simp⟩ hown' ru' o.dst (gnow (.tup [])) undef (λ _=>⟨[],rfl,trivial⟩) p li gen
    refine vm0 ?_ (hK E _ _ R' kp)
    simp only [execOp,ho,hy,Sem.run_bind,run];rfl
 ·
  rename_i op t x y yt ho
  have hx:=kn (by simp [ho]) x (by simp [ho,Op.operands])
  have hy:=kn (by simp [ho]) y (by simp [ho,Op.operands])
  split at he <;> try (simp at he;done)
  ·
   rename_i sa sb q1 q2
   rw [q1] at hx
   rw [q2] at hy
   have ex:=cv_v hx
   have ey:=cv_v hy
   split at he <;> try (simp at he;done)
   rename_i v hu hv
   simp only [eV,Option.some.injEq] at he
   subst he
   unfold strV at hv
   split at hv <;> try (simp at hv;done)
   ·simp only [Option.some.injEq] at hv
    subst hv
    refine jx5 R rfl ?_ hK
    simp [execOp,ho,ex,ey,eqGuard_at_string,binOp_string_eql,ByteArray.toList_eq,seqB]
   ·simp only [Option.some.injEq] at hv
    subst hv
    refine jx5 R rfl ?_ hK
    simp [execOp,ho,ex,ey,eqGuard_at_string,binOp,Op.stringOp,ByteArray.toList_eq,seqB,bnot,bne]
  ·
   rename_i va vb _ q1 q2
   rw [q1] at hx
   rw [q2] at hy
   have ex:=cv_v hx
   have ey:=cv_v hy
   split at he <;> try (simp at he;done)
   rename_i v l hv
   split at he <;> try (simp at he;done)
   rename_i hp
   simp only [Option.some.injEq] at he
   subst he
   have hb':∀c∈l,c=true:=λ c hc=>hok (c=true) (List.mem_map.2 ⟨c,hc,rfl⟩)
   have r:=qx0 hv hb' x y w
   refine jx5 R hp ?_ hK
   simp only [execOp,ho,ex,ey]
   rw [Sem.run_bind,r];rfl
  ·
   rename_i la lb q1 q2
   rw [q1] at hx
   rw [q2] at hy
   obtain ⟨xs,ex,fx⟩:=hx
   obtain ⟨ys,ey,fy⟩:=hy
   split at he <;> try (simp at he;done)
   rename_i va vb h1 h2
   have e1:=ju2 h1 fx
   have e2:=ju2 h2 fy
   subst e1 e2
   split at he <;> try (simp at he;done)
   rename_i v l hv
   split at he <;> try (simp at he;done)
   rename_i hp
   simp only [Option.some.injEq] at he
   subst he
   have hb':∀c∈l,c=true:=λ c hc=>hok (c=true) (List.mem_map.2 ⟨c,hc,rfl⟩)
   have r:=qx0 hv hb' x y w
   refine jx5 R hp ?_ hK
   simp only [execOp,ho,ex,ey]
   rw [Sem.run_bind,r];rfl
 ·
  rename_i op t x ho
  have hx:=kn (by simp [ho]) x (by simp [ho,Op.operands])
  split at he <;> try (simp at he;done)
  rename_i va q1
  rw [q1] at hx
  have ex:=cv_v hx
  split at he <;> try (simp at he;done)
  rename_i v l hv
  split at he <;> try (simp at he;done)
  rename_i hp
  simp only [Option.some.injEq] at he
  subst he
  obtain ⟨r,_⟩:=yu6 hv w (P:=P)
  refine jx5 R hp ?_ hK
  simp only [execOp,ho,ex,Sem.run_bind,r];rfl
 ·
  rename_i src dst x ho
  have hx:=kn (by simp [ho]) x (by simp [ho,Op.operands])
  unfold qn2 at he
  split at he <;> try (simp at he;done)
  ·rename_i k n d k' q1 q2 q3
   simp only [eV,Option.some.injEq] at he
   subst he
   rw [q1] at hx
   have ex:=cv_v hx
   have hd:P.intKind dst=k':=by simp [Program.intKind,q3]
   have r:=run_convert_int (P:=P) w src dst k n (by simp [q2]) (by rw [hd];exact q3)
   rw [hd] at r
   refine jx5 R rfl ?_ hK
   simp only [execOp,ho,ex,Sem.run_bind,r];rfl
  ·rename_i k n d k' q1 q2 q3
   simp only [eV,Option.some.injEq] at he
   subst he
   rw [q1] at hx
   have ex:=cv_v hx
   have r:=run_convert_int_float (P:=P) w src dst k k' n (by simp [q2]) q3
   refine jx5 R rfl ?_ hK
   simp only [execOp,ho,ex,Sem.run_bind,r];rfl
  ·rename_i b u el q1 q2 q3
   split at he <;> try (simp at he;done)
   rename_i q4
   simp only [Option.some.injEq] at he
   subst he
   rw [q1] at hx
   have ex:=cv_v hx
   obtain ⟨hn1,hn2⟩:=hnw rfl
   have hask:jx4 b<=140737488355328:=of_decide_eq_true (hok _ (List.mem_singleton.2 rfl))
   have hask:b.size<=140737488355328:=by have:(b.size:Int)<=140737488355328:=hask;omega
   have r:=Lib.run_convert_string_bytes (P:=P) w src dst el b q2 q3 q4
   have hge:=grownCap_ge w b.size 0 el
   have hcm:=grownCap_le_maxLen w b.size 0 el (by simp only [maxLen];omega)
   have hnew:=Lib.bytesWorld_at_new w el b
   have hsz:(Lib.bytesCells w el b).size=grownCap w b.size 0 el:=by
    simp only [Lib.bytesCells,Array.size_append,Array.size_map,Array.size_replicate]
    have:b.data.size=b.size:=rfl
    omega
   have hbs:b.data.size=b.size:=rfl
   have hown:OwnR (Lib.bytesWorld w el b) el 1 (.slice (some ⟨w.heap.size,0,none⟩) b.size (grownCap w b.size 0 el)) b.size (b.data.toList.map λ c=>Value.int .u8 c.toNat):=by
    refine ⟨by simp [hbs],.inr ⟨w.heap.size,_,_,rfl,⟨_,Or.inr (Nat.le_refl _),hnew⟩,hge,hcm,by rw [hsz,Nat.mul_one],?_⟩⟩
    rw [Nat.mul_one,<- hbs]
    simp [Lib.bytesCells]
   have hrow:jd7 E.F (Lib.bytesWorld w el b) 1 (jx4 b) (strR b) (b.data.toList.map λ c=>Value.int .u8 c.toNat):=by
    intro i j hi hj
    obtain rfl:j=0:=by omega
    have hi':i < b.size:=by simp only [jx4] at hi;omega
    have hg:b.data.toList[i]?=some b.data.toList[i]:=List.getElem?_eq_getElem (by simpa [hbs] using hi')
    refine ⟨_,by rw [Nat.mul_one,Nat.add_zero,List.getElem?_map,hg];rfl,?_⟩
    have:den (strR b) (i:Int) 0=.v (.int .u8 (satI b i)):=rfl
    rw [this]
    have e:satI b (i:Int)=((b.data.toList[i]).toNat:Int):=by
     have hb:b[(i:Int).toNat]?=some (b.data.toList[i]):=by
      rw [Int.toNat_natCast,getElem?_pos b i hi']
      rfl
     unfold satI
     rw [hb]
    rw [e]
    exact .v rfl
   have hgr:w.grownBy (Lib.bytesWorld w el b) none:=⟨rfl,rfl,rfl,by rw [Lib.bytesWorld_size];omega,λ k hk _=>Lib.bytesWorld_at_old w el b k hk⟩
   obtain ⟨⟨E',R'⟩,kp⟩:=R.qf4 hb hn1 hn2 hgr (u:=[]) (Or.inl ⟨rfl,rfl⟩) (z:=1) (n:=jx4 b) (r:=strR b) (by omega) (by simp [jx4]) (by simpa [jx4] using hown) hrow
    (λ k hk=>by simp only [Value.ownBlock,Option.some.injEq] at hk;omega) o.dst p li gen
   refine qi9 ?_ (hK E' _ _ R' kp)
   simp only [execOp,ho,ex,Sem.run_bind,r];rfl
  ·rename_i el q1 q2 q3
   split at he <;> try (simp at he;done)
   rename_i q4
   simp only [eV,Option.some.injEq] at he
   subst he
   rw [q1] at hx
   have ex:=cv_v hx
   have r:(convert src dst (.slice none 0 0)).run P w=.ok (.string .empty) w:=by
    rw [run_convert_bytes_string w src dst el none 0 0 q2 q4 q3]
    rfl
   refine jx5 R rfl ?_ hK
   simp only [execOp,ho,ex,Sem.run_bind,r];rfl
  ·rename_i m n el el' q1 q2 q3
   split at he <;> try (simp at he;done)
   rename_i z N row q4 hro
   split at he <;> try (simp at he;done)
   rename_i hsd
   have hsd:=Nat.eq_of_beq_eq_true hsd
   subst hsd
   simp only [Option.some.injEq] at he
   subst he
   have hask:0 < n:=of_decide_eq_true (hok _ (List.mem_singleton.2 rfl))
   have hm:=q17 hro
   rw [q1] at hx
   have hx:jb9 (live s) E w (.own m n) (a.eval x):=hx
   obtain ⟨_,hν,_,hform⟩:=hx
   rcases hform with ⟨_,h0⟩ | ⟨b,c,hform⟩
   ·omega
   obtain ⟨_,_,_,_,e0,xs,ho',hr⟩:=R.mem m _ hm
   rcases ho'.1.2 with ⟨hv',_⟩ | ⟨g,cap,cur,hv',⟨fz,hfz,hg⟩,hnc,hcm,hcs,htake⟩
   ·rw [<- hν,hform] at hv';simp at hv'
   ·have hvv:=hv'
    rw [<- hν,hform] at hvv
    simp only [Value.slice.injEq,Option.some.injEq,Addr.mk.injEq,and_true] at hvv
    obtain ⟨rfl,hnn,rfl⟩:=hvv
    obtain ⟨r1,fz',r2,r3,r4⟩:=qk1 (P:=P) w src el b cur e0 fz n.toNat c hg hfz q2 q4
    have hown':OwnR (w.freeze ⟨b,cur.size,none⟩ 1) e0 z (E.ν m) N.toNat xs:=⟨ho'.1.1,.inr ⟨b,c,cur,hv',⟨fz',r2,r3⟩,hnc,hcm,hcs,htake⟩⟩
    obtain ⟨R',kp⟩:=R.vg2 hm (w':=w.freeze ⟨b,cur.size,none⟩ 1) (k0:=b) (by rw [hv'];rfl) r4 ⟨by unfold World.freeze;rfl,by unfold World.freeze;rfl,by unfold World.freeze;rfl,by unfold World.freeze;simp⟩ hown' hr o.dst (gnow (.x (.c (.own m n)))) (a.eval x) (λ _=>by rw [q1] at *;exact ⟨Or.inl (by rw [hm];rfl),hν,by omega,Or.inr ⟨b,c,hform⟩⟩) p li gen
    refine qi9 ?_ (hK E _ _ R' kp)
    simp only [execOp,ho,Sem.run_bind]
    rw [hform,r1];rfl
  ·rename_i v _ _ el q2 q3 _
   split at he <;> try (simp at he;done)
   rename_i z n row ms q4 hsrc
   split at he <;> try (simp at he;done)
   rename_i hz
   have hz:=Nat.eq_of_beq_eq_true hz
   subst hz
   simp only [Option.some.injEq] at he
   subst he
   have hby:isBytes n row:=hok _ (List.mem_singleton.2 rfl)
   obtain ⟨h0,ad,cc,news,hy,hl,hcell,_,hrr⟩:=va7 R hsrc hx
   have hnews:news=((List.range n.toNat).map λ i=>byC (den row (Int.ofNat i) 0)).map (Value.int .u8):=by
    apply List.ext_getElem?
    intro i
    by_cases hi:i < n.toNat
    ·obtain ⟨u,e1,e2⟩:=hrr i 0 (by omega) (by omega)
     rw [Nat.mul_one,Nat.add_zero] at e1
     have hd:=hby i (by omega)
     rw [hd] at e2
     cases e2
     rw [e1,List.getElem?_map,List.getElem?_map,List.getElem?_range hi];rfl
    ·rw [List.getElem?_eq_none (by rw [hl];omega),List.getElem?_eq_none (by simp;omega)]
   have r:(convert src dst (a.eval x)).run P w=.ok (.string (rowS n row)) w:=by
    rw [hy,run_convert_bytes_string w src dst el ad n.toNat cc q2 q4 q3]
    by_cases hp:0 < n
    ·obtain ⟨a',rfl,hc⟩:=hcell hp
     refine run_bytesToString w a' n.toNat cc _ ?_
     have hll:=run_loadCells_list (P:=P) w a' news hc
     rw [hl,Nat.mul_one] at hll
     rw [hll,hnews]
    ·obtain rfl:n=0:=by omega
     cases ad with
     | none=>rfl
     | some a'=>rfl
   refine jx5 R rfl ?_ hK
   simp only [execOp,ho,Sem.run_bind,r];rfl
 ·
  rename_i t x f ho
  have hx:=kn (by simp [ho]) x (by simp [ho,Op.operands])
  split at he <;> try (simp at he;done)
  rename_i fs q2
  split at he <;> try (simp at he;done)
  rename_i fd q3
  split at he <;> try (simp at he;done)
  rename_i q4
  simp only [beq_iff_eq] at q4
  have hz:(sizeOf fd.type).run P w=.ok (jd0 P fd.type) w:=by
   unfold jd0 at *
   cases hi:P.info? fd.type with
   | none=>simp [hi] at q4
   | some i=>simp [sizeOf,typeInfo,hi]
  have run:∀b off:Nat,a.eval x=.pointer (some ⟨b,off,none⟩)->(execOp a.eval o).run P w=.ok (.value (.pointer (some ⟨b,off + fd.offset,none⟩))) w:=by
   intro b off e1
   simp only [execOp,ho,e1,Sem.run_bind,Instr.fieldAt,run_underlying q2,Result.andThen_ok,q3,Instr.sureAddr,Sem.run_pure,fieldPlace,hz,q4,if_false,Addr.add_lit]
  split at he <;> try (simp at he;done)
  ·rename_i m off q1
   simp only [eV,Option.some.injEq] at he
   subst he
   rw [q1] at hx
   exact fin (v:=.x (.c (.ptr m (off + fd.offset)))) R (run _ _ (qc8 hx)) ⟨hx.1,rfl⟩ hK
  ·rename_i m z i off q1
   simp only [eV,Option.some.injEq] at he
   subst he
   rw [q1] at hx
   obtain ⟨h1,h0,b,c,ln,hν,hi,hy⟩:=hx
   exact fin (v:=.eptr m z i (off + fd.offset)) R (run _ _ hy) ⟨h1,h0,b,c,ln,hν,hi,by rw [Nat.add_assoc]⟩ hK
  ·rename_i z r i off q1
   simp only [eV,Option.some.injEq] at he
   subst he
   rw [q1] at hx
   obtain ⟨h0,b,o',arr,el,fr,hF,h1,hy,h2⟩:=hx
   exact fin (v:=.fptr z r i (off + fd.offset)) R (run _ _ hy) ⟨h0,b,o',arr,el,fr,hF,h1,by rw [Nat.add_assoc],h2⟩ hK
 ·
  rename_i x i ho
  have hx:=kn (by simp [ho]) x (by simp [ho,Op.operands])
  split at he <;> try (simp at he;done)
  rename_i l q1
  split at he <;> try (simp at he;done)
  rename_i v q2
  simp only [eV,Option.some.injEq] at he
  subst he
  rw [q1] at hx
  obtain ⟨ys,hy,hf⟩:=hx
  obtain ⟨y,e1,e2⟩:=hf.get q2
  refine fin (v:=.x v) R (y:=y) ?_ e2 hK
  have e1:ys.toArray[i]?=some y:=by simpa using e1
  simp only [execOp,ho,hy,Sem.run_bind,Instr.extract,e1];rfl
 ·
  rename_i c ho
  have hv:=kn (by simp [ho])
  split at he
  ·rename_i b hcal
   exact q18 R hb ho hv hcal he hok hnw hK
  ·split at he <;> try (simp at he;done)
   rename_i f caps hcal
   exact vs9 hO R hb ho hv hcal he hok hnw hK
 ·
  rename_i t parts ho
  have hv:=kn (by simp [ho])
  split at he <;> try (simp at he;done)
  rename_i l ps pl hz hps hpl
  split at he <;> try (simp at he;done)
  rename_i cells hc
  simp only [eV,Option.some.injEq] at he
  subst he
  obtain ⟨i,z,hi,hiz,hzc,_,hp⟩:=jr0 hz
  have hp1:=js2 (base:=base) (X:=X) (F0:=F0) (a:=a) (w:=w) (E:=E) (λ q hq=>hv q.2 (by simp only [ho,Op.operands];exact List.mem_map_of_mem hq)) hps
  obtain ⟨arr,f1,f2⟩:=qw8 hp1 (arr:=z.cells) (by rw [hzc];exact qf7 hp) hc
  have hbd:P.built t (parts.map λ (i,x)=>(i,a.eval x)).toList=some arr:=by
   rw [yj1 hpl hi hiz,Array.toList_map];exact f1
  refine fin (v:=.x (.agg cells)) R (y:=.agg arr) ?_ ⟨arr.toList,by simp,f2⟩ hK
  simp only [execOp,ho,Sem.run_bind,run_build (P:=P) w t _ arr hbd];rfl
 ·
  rename_i t len parts ho
  have hv:=kn (by simp [ho])
  split at he <;> try (simp at he;done)
  rename_i el hu
  split at he <;> try (simp at he;done)
  rename_i l ps hz hps
  split at he <;> try (simp at he;done)
  rename_i hc
  simp only [Bool.and_eq_true,Nat.ble_eq,Nat.blt_eq] at hc
  obtain ⟨⟨c1,c2⟩,c3⟩:=hc
  split at he <;> try (simp at he;done)
  rename_i r hr
  simp only [Option.some.injEq] at he
  subst he
  obtain ⟨hn1,hn2⟩:=hnw rfl
  obtain ⟨i,z,hi,hiz,hzc,hzl,hp⟩:=jr0 hz
  have hs:jd0 P el=i.size:=by simp [jd0,hi]
  rw [hs] at c1 c2 hr
  rw [hs] at hK
  rw [<- hzl] at c1 c2 hr hK
  have hp1:=js2 (base:=base) (X:=X) (F0:=F0) (a:=a) (w:=w) (E:=E) (λ q hq=>hv q.2 (by simp only [ho,Op.operands];exact List.mem_map_of_mem hq)) hps
  have hz0:jd7 E.F w l.length len (.zer l) (madeCells l.toArray (len * l.length)).toList:=by
   have:=jd7.made (F:=E.F) (w:=w) hp c2 (len:Int) len (by simp)
   rw [show ((len:Int)).toNat=len by simp,List.take_of_length_le (by rw [Array.length_toList,size_madeCells];omega)] at this
   exact this
  obtain ⟨arr,f1,f2,f3⟩:=qo0 (n:=len) hp1 (λ q hq=>by have:=List.all_eq_true.1 c3 q hq;simpa [Nat.blt_eq] using this) hz0 (size_madeCells _ _) hr
  have hown:=World.ownsRow_lit (w:=w) (base:=0) (e:=el) (size:=l.length) arr len (Nat.zero_le _) (by simp only [maxLen];have:=Nat.le_trans (Nat.le_mul_of_pos_right len c2) c1;omega) f3
  have T:∀k,E.F k->(w.alloc (.cells arr el)).heap[k]?=w.heap[k]?:=λ k hk=>heap_alloc_old w _ _ (R.frz k hk).1
  obtain ⟨⟨E',R'⟩,kp⟩:=R.qf4 hb hn1 hn2 (World.grownBy_alloc w (.cells arr el) none) (u:=[]) (Or.inl ⟨rfl,rfl⟩) (n:=len) (r:=r) c2 (by omega) (by simpa using OwnR.of hown) (λ i' j h h'=>by obtain ⟨u,q1,q2⟩:=f2 i' j h h';exact ⟨u,q1,q2.mono (λ _ h=>h) T⟩)
   (λ k hk=>by simp only [Value.ownBlock,Option.some.injEq] at hk;omega) o.dst p li gen
  refine qi9 ?_ (hK E' _ _ R' kp)
  have hne:¬ (16777216 < len * i.size):=by rw [<- hzl];omega
  have f1':Instr.fill (λ k=>some (k * i.size,i.size)) ((Array.range (len * i.size)).map (z.cells[· % z.cells.size]!)) (parts.map λ (i,x)=>(i,a.eval x)).toList=some arr:=by
   rw [hzc,<- hzl,Array.toList_map];exact f1
  by_cases h0:len * i.size=0
  ·have f1'':Instr.fill (λ k=>some (k * i.size,i.size)) #[] (parts.map λ (i,x)=>(i,a.eval x)).toList=some arr:=by
    rw [h0] at f1';simpa [Array.range_zero'] using f1'
   simp only [Array.toList_map] at f1''
   simp [execOp,ho,Instr.buildSlice,run_underlying hu,sizeOf,typeInfo,hi,hne,h0,f1'',newRow,Array.range_zero']
  ·simp only [Array.toList_map] at f1'
   simp [execOp,ho,Instr.buildSlice,run_underlying hu,sizeOf,typeInfo,hi,hne,h0,zeroValue,hiz,f1',newRow]
 ·
  rename_i t l c ho
  have hl:=kn (by simp [ho]) l (by simp [ho,Op.operands])
  have hc:=kn (by simp [ho]) c (by simp [ho,Op.operands])
  split at he <;> try (simp at he;done)
  rename_i el kl n kc k hu q1 q2
  split at he <;> try (simp at he;done)
  rename_i zs hz
  split at he <;> try (simp at he;done)
  rename_i hsz
  simp only [Nat.blt_eq] at hsz
  simp only [Option.some.injEq] at he
  subst he
  obtain ⟨hn1,hn2⟩:=hnw rfl
  obtain ⟨i,z,hi,hiz,hzc,hzl,hp⟩:=jr0 hz
  have hs:jd0 P el=i.size:=by simp [jd0,hi]
  have hby:qi5 P el=i.bytes:=by simp [qi5,hi]
  rw [hs] at hsz hK
  rw [<- hzl] at hsz hK
  simp only [List.mem_cons,List.not_mem_nil,or_false,forall_eq_or_imp,forall_eq,ile,decide_eq_true_eq,jd2,hby] at hok
  obtain ⟨o1,o2,o3,o4⟩:=hok
  have run:=run_make (P:=P) w t el i z hu hi hiz kl kc n k o1 o2 (by rw [Int.mul_comm];omega) (by omega)
  rw [hzc,<- hzl] at run
  have hcap:(madeCells zs.toArray (k.toNat * zs.length)).size=k.toNat * zs.length:=size_madeCells _ _
  have hown:OwnR (w.alloc (.cells (madeCells zs.toArray (k.toNat * zs.length)) el)) el zs.length (.slice (some ⟨w.heap.size,0,none⟩) n.toNat k.toNat) n.toNat ((madeCells zs.toArray (k.toNat * zs.length)).toList.take (n.toNat * zs.length)):=by
   refine ⟨?_,.inr ⟨w.heap.size,_,_,rfl,⟨(0,0),Or.inl rfl,heap_alloc_new w _⟩,by omega,by simp only [maxLen];omega,hcap,rfl⟩⟩
   have:n.toNat * zs.length<=k.toNat * zs.length:=Nat.mul_le_mul_right _ (by omega)
   have e:(madeCells zs.toArray (k.toNat * zs.length)).toList.length=k.toNat * zs.length:=hcap
   rw [List.length_take,e];omega
  obtain ⟨⟨E',R'⟩,kp⟩:=R.qf4 hb hn1 hn2 (World.grownBy_alloc w (.cells (madeCells zs.toArray (k.toNat * zs.length)) el) none) (u:=[]) (Or.inl ⟨rfl,rfl⟩) (n:=n) (r:=.zer zs) hsz o1 hown (jd7.made hp hsz n k.toNat (by omega))
   (λ k' hk=>by simp only [Value.ownBlock,Option.some.injEq] at hk;omega) o.dst p li gen
  refine qi9 ?_ (hK E' _ _ R' kp)
  simp only [execOp,ho,qo1 q1 hl,qo1 q2 hc,Sem.run_bind,run];rfl
 ·
  rename_i t x lo hh mx ho
  have hv:=kn (by simp [ho])
  have hx:=hv x (by simp [ho,Op.operands])
  split at he
  ·
   rename_i htr
   obtain ⟨_,hlo,hmx,hhs⟩:vx3 O=true/\lo.isNone=true/\mx.isNone=true/\hh.isSome=true:=by simpa [vg1] using htr
   obtain rfl:=Option.isNone_iff_eq_none.1 hlo
   obtain rfl:=Option.isNone_iff_eq_none.1 hmx
   obtain ⟨y,rfl⟩:=Option.isSome_iff_exists.1 hhs
   unfold vx4 at he
   split at he <;> try (simp at he;done)
   rename_i el m nn h hu q hh2
   split at he <;> try (simp at he;done)
   rename_i z n r hro
   split at he <;> try (simp at he;done)
   rename_i hc
   simp only [Bool.and_eq_true,Nat.beq_eq] at hc
   obtain ⟨hc,hinfo⟩:=hc
   simp only [Option.some.injEq] at he
   subst he
   obtain ⟨hn1,hn2⟩:=hnw rfl
   unfold rowW at hro
   split at hro <;> try (simp at hro;done)
   rename_i z3 n3 r3 hm
   simp only [Option.some.injEq,Prod.mk.injEq] at hro
   obtain ⟨rfl,rfl,rfl⟩:=hro
   obtain ⟨_,k0,hz0,hnF,el',xs,ho',hr⟩:=R.mem m _ hm
   simp only [List.mem_cons,List.not_mem_nil,or_false,forall_eq_or_imp,forall_eq,ile,decide_eq_true_eq] at hok
   obtain ⟨o1,o2⟩:=hok
   rw [q] at hx
   have hy:a.eval x=E.ν m:=hx.2.1
   have hhv:∀N:Int,jf8 h N (some (a.eval y)):=λ N=>jk7 (s:=s) (x:=some y) hh2 λ y' hy'=>hv y' (by obtain rfl:=Option.some.inj hy';simp [ho,Op.operands])
   obtain ⟨i,hi⟩:=Option.isSome_iff_exists.1 hinfo
   have hz:(sizeOf el).run P w=.ok z3 w:=by rw [hc];simp [sizeOf,typeInfo,jd0,hi]
   have run:∃v',(Instr.sliceAt t (E.ν m) none (some (a.eval y)) none).run P w=.ok v' w/\OwnR w el' z3 v' h.toNat (xs.take (h.toNat * z3))/\∀k,v'.ownBlock=some k->(E.ν m).ownBlock=some k:=by
    have hlen:h.toNat * z3<=n3.toNat * z3:=Nat.mul_le_mul_right _ (by omega)
    have hx1:(xs.take (h.toNat * z3)).length=h.toNat * z3:=by rw [List.length_take,ho'.1.1];omega
    rcases ho'.1.2 with ⟨hv',h0⟩ | ⟨g,cap,cur,hv',hb',hnc,hcl,hcs,htk⟩
    ·obtain rfl:h=0:=by omega
     refine ⟨.slice none 0 0,?_,⟨hx1,Or.inl ⟨rfl,rfl⟩⟩,λ k hk=>by simp [Value.ownBlock] at hk⟩
     rw [hv']
     exact jm9 (P:=P) (k:=0) hu hz none 0 0 (by omega) (by omega) (by omega) (by omega) (show jf8 0 0 none from rfl) (hhv _) (show va9 0 0 none from rfl) (Or.inl rfl)
    ·refine ⟨.slice (some ⟨g,0,none⟩) h.toNat cap,?_,⟨hx1,Or.inr ⟨g,cap,cur,rfl,hb',by omega,hcl,hcs,?_⟩⟩,λ k hk=>by rw [hv'];exact hk⟩
     ·rw [hv']
      have:=jm9 (P:=P) (k:=cap) hu hz (some ⟨g,0,none⟩) n3.toNat cap (l:=0) (by omega) o1 (by omega) (by omega) (show jf8 0 0 none from rfl) (hhv _) (show va9 cap cap none from rfl) (Or.inl rfl)
      rw [this]
      simp [Addr.add_lit]
     ·rw [<- htk,List.take_take]
      congr 1
      omega
   obtain ⟨v',run,hown,hob⟩:=run
   obtain ⟨⟨E',R'⟩,kp⟩:=R.qf4 hb hn1 hn2 (w':=w) (row:=(E.ν m).ownBlock) ⟨rfl,rfl,rfl,Nat.le_refl _,λ _ _ _=>rfl⟩ (u:=[(m,.dead)]) (Or.inr ⟨m,_,_,_,hm,rfl,rfl⟩) (n:=h) (r:=r3) hz0 o1 hown (λ i' j h1 h2=>by
    obtain ⟨u,q1,q2⟩:=hr i' j (by omega) h2
    refine ⟨u,?_,q2⟩
    rw [List.getElem?_take,if_pos,q1]
    have:(i' + 1) * z3<=h.toNat * z3:=Nat.mul_le_mul_right _ (by omega)
    rw [Nat.add_mul] at this
    omega) (λ k hk=>Or.inr (hob k hk)) o.dst p li gen
   refine qi9 ?_ (hK E' _ _ R' kp)
   simp only [execOp,ho,Sem.run_bind,hy,Option.map_some,Option.map_none,run];rfl
  split at he <;> try (simp at he;done)
  rename_i el hu hsl
  have hmh:mx.map a.eval=none\/hh.map a.eval≠none:=by
   cases mx with
   | none=>exact Or.inl rfl
   | some y=>cases hh with
    | none=>simp [slOk] at hsl
    | some y'=>exact Or.inr (by simp)
  have asks:∀{l h k n:Int},(∀q∈vx2 mx l h k n,q)->jg6 s n mx=some k->0<=l/\l<=h/\h<=n/\(mx.map a.eval=none\/∃kd k',mx.map a.eval=some (.int kd k')/\h<=k'/\k'<=n):=by
   intro l h k n hq hb
   cases mx with
   | none =>
    simp only [vx2,List.mem_cons,List.not_mem_nil,or_false,forall_eq_or_imp,forall_eq,ile,decide_eq_true_eq] at hq
    exact ⟨hq.1,hq.2.1,hq.2.2,Or.inl rfl⟩
   | some y =>
    simp only [vx2,List.mem_cons,List.not_mem_nil,or_false,forall_eq_or_imp,forall_eq,ile,decide_eq_true_eq] at hq
    obtain ⟨kd,e⟩:jf8 k n ((some y).map a.eval):=jk7 hb λ y' hy=>hv y' (by obtain rfl:=Option.some.inj hy;simp [ho,Op.operands])
    exact ⟨hq.1,hq.2.1,by omega,Or.inr ⟨kd,k,by rw [Option.map_some,e],hq.2.2.1,hq.2.2.2⟩⟩
  split at he
  ·
   rename_i m z l0 n rd hps
   split at he <;> try (simp at he;done)
   rename_i l h k hl hh' hkk
   split at he <;> try (simp at he;done)
   rename_i hc
   simp only [Bool.and_eq_true,Nat.beq_eq] at hc
   obtain ⟨hc,hinfo⟩:=hc
   simp only [Option.some.injEq] at he
   subst he
   obtain ⟨o1,o2,o3,o4⟩:=asks hok hkk
   have hpart:live s m/\qi7 (E.ν m) z l0 n (a.eval x):=by
    unfold qf3 at hps
    split at hps
    ·rename_i m' z' l' n' q
     simp only [Option.some.injEq,Prod.mk.injEq] at hps
     obtain ⟨rfl,rfl,rfl,rfl,rfl⟩:=hps
     rw [q] at hx
     exact hx
    ·rename_i m' n' q
     split at hps <;> try (simp at hps;done)
     split at hps <;> try (simp at hps;done)
     rename_i z' N r' hro
     simp only [Option.some.injEq,Prod.mk.injEq] at hps
     obtain ⟨rfl,rfl,rfl,rfl,rfl⟩:=hps
     rw [q] at hx
     obtain ⟨g1,g2,g3,g4⟩:=hx
     refine ⟨g1,Int.le_refl _,g3,?_⟩
     rcases g4 with ⟨h,rfl⟩ | ⟨b,c,h⟩
     ·exact Or.inl ⟨rfl,none,0,h,λ _=>rfl⟩
     ·exact Or.inr ⟨b,c,_,c,by rw [<- g2,h],by simp,yw1 R hro (by rw [<- g2,h]),by rw [h];simp⟩
    ·simp at hps
   obtain ⟨i,hi⟩:=Option.isSome_iff_exists.1 hinfo
   have hz:(sizeOf el).run P w=.ok z w:=by rw [hc];simp [sizeOf,typeInfo,jd0,hi]
   have hlv:jf8 l 0 (lo.map a.eval):=jk7 hl λ y hy=>hv y (by subst hy;simp [ho,Op.operands])
   have hhv:jf8 h n (hh.map a.eval):=jk7 hh' λ y hy=>hv y (by subst hy;simp [ho,Op.operands])
   obtain ⟨y,run,hy⟩:=vt0 (P:=P) hpart.2 hu hz o1 o2 o3 hlv hhv o4 hmh
   refine fin (v:=.view m z (addZ l0 l) (subZ h l)) R (y:=y) ?_ ⟨hpart.1,hy⟩ hK
   simp only [execOp,ho,Sem.run_bind,run];rfl
  split at he <;> try (simp at he;done)
  rename_i ms z n r hsrc
  split at he <;> try (simp at he;done)
  rename_i l h k hl hh' hkk
  split at he <;> try (simp at he;done)
  rename_i hc
  simp only [Bool.and_eq_true,Nat.beq_eq] at hc
  obtain ⟨hc,hinfo⟩:=hc
  simp only [Option.some.injEq] at he
  subst he
  obtain ⟨o1,o2,o3,o4⟩:=asks hok hkk
  have hrep:Rep (jf0 E s ms) w (.slc z n r) (a.eval x):=by
   unfold qb9 at hsrc
   split at hsrc <;> try (simp at hsrc;done)
   rename_i c q
   split at hsrc <;> try (simp at hsrc;done)
   rename_i z' n' r' ms' hres
   simp only [Option.some.injEq,Prod.mk.injEq] at hsrc
   obtain ⟨rfl,rfl,rfl,rfl⟩:=hsrc
   rw [q] at hx
   exact jq8 R hres (λ _ h=>h) hx
  obtain ⟨i,hi⟩:=Option.isSome_iff_exists.1 hinfo
  have hz:(sizeOf el).run P w=.ok z w:=by rw [hc];simp [sizeOf,typeInfo,jd0,hi]
  have hlv:jf8 l 0 (lo.map a.eval):=jk7 hl λ y hy=>hv y (by subst hy;simp [ho,Op.operands])
  have hhv:jf8 h n (hh.map a.eval):=jk7 hh' λ y hy=>hv y (by subst hy;simp [ho,Op.operands])
  obtain ⟨y,run,hy⟩:=vg7 (P:=P) hrep hu hz o1 o2 o3 hlv hhv o4 hmh
  obtain ⟨⟨R',_⟩,kp⟩:=R.q04 hb (refs:=[]) (rows:=ms) (by simp) (res:=[.c (.slc z (subZ h l) (.sub r l))]) (cs:=[]) (F':=jf0 E s ms) (w':=w) (v:=y) (Keep.refl _ _ _) (λ _ h=>h) (λ k hk=>⟨jj0 R hk,Or.inl hk⟩) hy trivial (u:=[]) rfl o.dst p li gen
  rw [List.append_nil] at R'
  refine qi9 ?_ (hK _ _ _ R' kp)
  simp only [execOp,ho,Sem.run_bind,run];rfl
 ·
  rename_i f first caps ho
  split at he <;> try (simp at he;done)
  rename_i hf
  have hf:first=#[]:=Array.eq_empty_of_size_eq_zero (Nat.eq_of_beq_eq_true hf)
  subst hf
  split at he <;> try (simp at he;done)
  rename_i l hl
  simp only [eV,Option.some.injEq] at he
  subst he
  have hcap:∀(cl:List Operand) (l:List (Nat×Nat)),qi6 s cl=some l->(∀q∈l,live s q.1)/\cl.map a.eval=l.map λ q=>Value.pointer (some ⟨adr E q.1,q.2,none⟩):=by
   intro cl
   induction cl with
   | nil=>intro l h;simp only [qi6,Option.some.injEq] at h;subst h;exact ⟨by simp,rfl⟩
   | cons x cl ih =>
    intro l h
    unfold qi6 at h
    split at h <;> try (simp at h;done)
    rename_i m off k h1 h2
    simp only [Option.some.injEq] at h
    subst h
    obtain ⟨i1,i2⟩:=ih k h2
    have hx:=R.eval x (by rw [h1])
    rw [h1] at hx
    refine ⟨λ q hq=>?_,?_⟩
    ·rcases List.mem_cons.1 hq with rfl | hq
     ·exact hx.1
     ·exact i1 q hq
    ·simp only [List.map_cons,i2,hx.2]
  obtain ⟨i1,i2⟩:=hcap _ _ hl
  refine fin (v:=.x (.c (.fn f l))) R (y:=.func (.func f) #[] (caps.map a.eval)) ?_ ⟨i1,?_⟩ hK
  ·simp [execOp,ho,Instr.makeFunc]
  ·have:caps.map a.eval=(l.map λ q=>Value.pointer (some ⟨adr E q.1,q.2,none⟩)).toArray:=by
    apply Array.ext';simpa using i2
   rw [this]
 ·
  rename_i t x f ho
  have hx:=kn (by simp [ho]) x (by simp [ho,Op.operands])
  split at he <;> try (simp at he;done)
  rename_i l fs q1 q2
  split at he <;> try (simp at he;done)
  rename_i fd q3
  split at he <;> try (simp at he;done)
  rename_i v q4
  simp only [eV,Option.some.injEq] at he
  subst he
  rw [q1] at hx
  obtain ⟨ys,hy,hf⟩:=hx
  obtain ⟨y,e1,e2⟩:=va4 (P:=P) q4 hf
  refine fin (v:=.x v) R (y:=y) ?_ e2 hK
  simp only [execOp,ho,hy,Sem.run_bind,Instr.field,run_underlying q2,Result.andThen_ok,q3,asAgg,Sem.run_pure,jq6 e1]
 ·
  rename_i t x i ho
  have hx:=kn (by simp [ho]) x (by simp [ho,Op.operands])
  have hi:=kn (by simp [ho]) i (by simp [ho,Op.operands])
  split at he <;> try (simp at he;done)
  ·rename_i l k m len el q1 q2 q3
   split at he <;> try (simp at he;done)
   rename_i v q4
   split at he <;> try (simp at he;done)
   rename_i q5
   simp only [Option.some.injEq] at he
   subst he
   simp only [List.mem_cons,List.not_mem_nil,or_false,forall_eq_or_imp,forall_eq,ile,ilt,decide_eq_true_eq] at hok
   rw [q1] at hx
   obtain ⟨ys,hy,hf⟩:=hx
   have ei:=qo1 q2 hi
   obtain ⟨y,e1,e2⟩:=va4 (P:=P) q4 hf
   obtain ⟨ie,q5⟩:=Option.isSome_iff_exists.1 q5
   have hz:(sizeOf el).run P w=.ok (jd0 P el) w:=by simp [sizeOf,typeInfo,jd0,q5]
   refine fin (v:=.x v) R (y:=y) ?_ e2 hK
   simp only [execOp,ho,hy,ei,Sem.run_bind,Instr.index,asIntOf,Sem.run_pure,run_underlying q3,Result.andThen_ok,hok.1,hok.2,and_self,if_true,hz,jq6 e1]
  ·rename_i b k m q1 q2 q3
   simp only [Option.some.injEq] at he
   subst he
   simp only [List.mem_cons,List.not_mem_nil,or_false,forall_eq_or_imp,forall_eq,ile,ilt,jx4,decide_eq_true_eq] at hok
   rw [q1] at hx
   have hy:=cv_v hx
   have ei:=qo1 q2 hi
   have o1:(0:Int)<=m:=hok.1
   have o2:m < (b.size:Int):=of_decide_eq_true hok.2
   have hlt:m.toNat < b.size:=by omega
   have hg:b[m.toNat]?=some b[m.toNat]:=getElem?_pos b m.toNat hlt
   refine fin (v:=vS (.int .u8 (satI b m))) R (y:=.int .u8 (satI b m)) ?_ (.v rfl) hK
   simp only [execOp,ho,hy,ei,Sem.run_bind,Instr.index,asIntOf,Sem.run_pure,run_underlying q3,Result.andThen_ok,hok.1,if_true,hg,satI]
 ·
  rename_i t x i ho
  have hx:=kn (by simp [ho]) x (by simp [ho,Op.operands])
  have hi:=kn (by simp [ho]) i (by simp [ho,Op.operands])
  split at he <;> try (simp at he;done)
  ·
   rename_i k m len el q2 q3
   split at he <;> try (simp at he;done)
   rename_i q5
   have ei:=qo1 q2 hi
   obtain ⟨ie,q5⟩:=Option.isSome_iff_exists.1 q5
   have hz:(sizeOf el).run P w=.ok (jd0 P el) w:=by simp [sizeOf,typeInfo,jd0,q5]
   have run:0<=m->m < len->∀b off:Nat,a.eval x=.pointer (some ⟨b,off,none⟩)->(execOp a.eval o).run P w=.ok (.value (.pointer (some ⟨b,off + m.toNat * jd0 P el,none⟩))) w:=by
    intro o1 o2 b off e1
    simp only [execOp,ho,e1,ei,Sem.run_bind,Instr.indexAt,asIntOf,Sem.run_pure,run_underlying q3,Result.andThen_ok,Instr.sureAddr,o1,o2,and_self,if_true,hz,Addr.add_lit]
   split at he <;> try (simp at he;done)
   ·rename_i b off q1
    simp only [Option.some.injEq] at he
    subst he
    simp only [List.mem_cons,List.not_mem_nil,or_false,forall_eq_or_imp,forall_eq,ile,ilt,decide_eq_true_eq] at hok
    rw [q1] at hx
    exact fin (v:=.x (.c (.ptr b (off + m.toNat * jd0 P el)))) R (run hok.1 hok.2 _ _ (qc8 hx)) ⟨hx.1,rfl⟩ hK
   ·rename_i b z j off q1
    simp only [Option.some.injEq] at he
    subst he
    simp only [List.mem_cons,List.not_mem_nil,or_false,forall_eq_or_imp,forall_eq,ile,ilt,decide_eq_true_eq] at hok
    rw [q1] at hx
    obtain ⟨h1,h0,b',c,ln,hν,hi',hy⟩:=hx
    exact fin (v:=.eptr b z j (off + m.toNat * jd0 P el)) R (run hok.1 hok.2 _ _ hy) ⟨h1,h0,b',c,ln,hν,hi',by rw [Nat.add_assoc]⟩ hK
   ·rename_i z r j off q1
    simp only [Option.some.injEq] at he
    subst he
    simp only [List.mem_cons,List.not_mem_nil,or_false,forall_eq_or_imp,forall_eq,ile,ilt,decide_eq_true_eq] at hok
    rw [q1] at hx
    obtain ⟨h0,b',o',arr,el',fr,hF,h1,hy,h2⟩:=hx
    exact fin (v:=.fptr z r j (off + m.toNat * jd0 P el)) R (run hok.1 hok.2 _ _ hy) ⟨h0,b',o',arr,el',fr,hF,h1,by rw [Nat.add_assoc],h2⟩ hK
  ·
   rename_i k m el q2 q3
   split at he <;> try (simp at he;done)
   rename_i q5
   have ei:=qo1 q2 hi
   obtain ⟨ie,q5⟩:=Option.isSome_iff_exists.1 q5
   have hz:(sizeOf el).run P w=.ok (jd0 P el) w:=by simp [sizeOf,typeInfo,jd0,q5]
   have run:0<=m->∀b off ln cc:Nat,m < ln->a.eval x=.slice (some ⟨b,off,none⟩) ln cc->(execOp a.eval o).run P w=.ok (.value (.pointer (some ⟨b,off + m.toNat * jd0 P el,none⟩))) w:=by
    intro o1 b off ln cc o2 e1
    simp only [execOp,ho,e1,ei,Sem.run_bind,Instr.indexAt,asIntOf,Sem.run_pure,run_underlying q3,Result.andThen_ok,o1,o2,and_self,if_true,hz,Addr.add_lit]
   split at he <;> try (simp at he;done)
   ·rename_i b n q1
    simp only [Option.some.injEq] at he
    subst he
    simp only [List.mem_cons,List.not_mem_nil,or_false,forall_eq_or_imp,forall_eq,ile,ilt,decide_eq_true_eq] at hok
    rw [q1] at hx
    obtain ⟨h1,h2,h3,h4⟩:=hx
    rcases h4 with ⟨_,rfl⟩ | ⟨g,cc,h4⟩
    ·omega
    ·exact fin (v:=.eptr b (jd0 P el) m 0) R (run hok.1 g 0 n.toNat cc (by omega) h4) ⟨h1,hok.1,g,cc,n.toNat,by rw [<- h2,h4],by omega,by simp⟩ hK
   ·rename_i z n r q1
    split at he <;> try (simp at he;done)
    rename_i hzz
    have hzz:=Nat.eq_of_beq_eq_true hzz
    subst hzz
    simp only [Option.some.injEq] at he
    subst he
    simp only [List.mem_cons,List.not_mem_nil,or_false,forall_eq_or_imp,forall_eq,ile,ilt,decide_eq_true_eq] at hok
    rw [q1] at hx
    have hx:Rep E.F w (.slc (jd0 P el) n r) (a.eval x):=hx
    generalize hav:a.eval x=av at hx
    cases hx with
    | nil=>omega
    | slc u hz' hc hF hh hu hr =>
     rename_i n' b off c arr t' fr
     refine fin (v:=.fptr (jd0 P el) r m 0) R (run hok.1 b off n' c hok.2 hav) ⟨hok.1,b,off + m.toNat * jd0 P el,arr,t',_,hF,hh,rfl,λ j hj=>⟨u m.toNat j,hu _ _ (by omega) hj,?_⟩⟩ hK
     have:=hr m.toNat j (by omega) hj
     rw [show ((m.toNat:Nat):Int)=m by omega] at this;exact this
   ·rename_i b z l n q1
    split at he <;> try (simp at he;done)
    rename_i hzz
    have hzz:=Nat.eq_of_beq_eq_true hzz
    subst hzz
    simp only [Option.some.injEq] at he
    subst he
    simp only [List.mem_cons,List.not_mem_nil,or_false,forall_eq_or_imp,forall_eq,ile,ilt,decide_eq_true_eq] at hok
    rw [q1] at hx
    obtain ⟨h1,h2,h3,h4⟩:=hx
    rcases h4 with ⟨rfl,_⟩ | ⟨g,cc,ln,c',hν,hle,_,h4⟩
    ·omega
    ·refine fin (v:=.eptr b (jd0 P el) (addZ l m) 0) R (run hok.1 g (l.toNat * jd0 P el) n.toNat c' (by omega) h4) ⟨h1,by unfold addZ;omega,g,cc,ln,hν,by unfold addZ;omega,?_⟩ hK
     rw [show (addZ l m).toNat=l.toNat + m.toNat by unfold addZ;omega,Nat.add_mul,Nat.add_zero]
 ·simp at he
end
end Go.Proofs.YthkidembkknoeaaDoor.QR
namespace Go.Proofs.YthkidembkknoeaaDoor.QR
open Go.RowKit PR
set_option linter.unusedVariables false
set_option linter.unusedSimpArgs false
def Delta.conf (d e:Delta):Bool :=
 d.up.any (λ p=>e.rd.any (Nat.beq p.1) || e.up.any λ q=>Nat.beq p.1 q.1) || e.up.any λ p=>d.rd.any (Nat.beq p.1)
def yj4 (lits:List Tmp):Operand->Bool
 | .tmp t=>lits.any (Nat.beq t)
 | .const _=>true
 | _=>false
def yw2 (s:PSt) (lits:List Tmp) (o:Oper):Bool :=
 match o.op with
 | .move x | .assign x=>yj4 lits x
 | .pick c a b=>match valOf s c with
  | .x (.c (.v (.bool true)))=>yj4 lits a
  | .x (.c (.v (.bool false)))=>yj4 lits b
  | _=>false
 | _=>false
def yj5:List CV->(List CV->Prop)->Prop
 | [],k=>k []
 | .v (.int kd n) :: l,k=>∀i:Int,i=n->yj5 l λ l'=>k (.v (.int kd i) :: l')
 | c :: l,k=>yj5 l λ l'=>k (c :: l')
def yj6:XV->(XV->Prop)->Prop
 | .c (.v (.int kd n)),k=>∀i:Int,i=n->k (.c (.v (.int kd i)))
 | .c c,k=>k (.c c)
 | .agg l,k=>bif Nat.ble 20 l.length then k (.agg l) else yj5 l λ l'=>k (.agg l')
def vm1:List XV->(List XV->Prop)->Prop
 | [],k=>k []
 | v :: l,k=>yj6 v λ v'=>vm1 l λ l'=>k (v' :: l')
def yw3:SV->(SV->Prop)->Prop
 | .x v,k=>yj6 v λ v'=>k (.x v')
 | .tup l,k=>vm1 l λ l'=>k (.tup l')
 | v,k=>k v
def ixOf (P:Program) (ops:List Oper) (s:PSt) (o:Oper):Option (IntKind×Int×Nat) :=
 bif y75 (guardOf s ops o) then match o.op with
  | .index t _ i | .indexAddr t _ i=>match jx9 (valOf s i),P.underlying t with
   | some (k,m),some (.array len _)=>bif (operand s i).k then some (k,m,len) else none
   | _,_=>none
  | _=>none
 else none
def jo5 (P:Program) (O:ja8) (ops:List Oper) (src:List Nat) (nm:Nat):Nat->List Oper->PSt->List Delta->List Tmp->(PSt->List Delta->Prop)->Prop
 | _,[],s,ds,lits,k=>k ⟨s.tmps,s.mem,s.ok,lits,s.gen⟩ ds.reverse
 | i,o :: rest,s,ds,lits,k=>match ixOf P ops s o with
  | some (kd,m,len)=>vl1 m 0 len λ j=>match stepD P O ops (nm + i) (qi3 o kd j) s with
   | none=>False
   | some d=>jo5 P O ops src nm (i + 1) rest (jh4 o.dst d s) (d :: ds) (qw1 lits o.dst false) k
  | none=>match stepD P O ops (nm + i) o s with
   | none=>False
   | some d=>if src.any (Nat.beq i) && !yw2 s lits o then
     match d.g.v with
     | .x (.c (.v (.bool x)))=>ja0 x (jo5 P O ops src nm (i + 1) rest (jh4 o.dst ⟨gnow (vS (.bool true)),d.up,d.ok,d.rd⟩ s) (⟨gnow (vS (.bool true)),d.up,d.ok,d.rd⟩ :: ds) (qw1 lits o.dst true) k)
       (jo5 P O ops src nm (i + 1) rest (jh4 o.dst ⟨gnow (vS (.bool false)),d.up,d.ok,d.rd⟩ s) (⟨gnow (vS (.bool false)),d.up,d.ok,d.rd⟩ :: ds) (qw1 lits o.dst true) k)
     | .tup _=>jo5 P O ops src nm (i + 1) rest (jh4 o.dst d s) (d :: ds) (qw1 lits o.dst false) k
     | _=>False
    else bif yr5 o then yw3 d.g.v λ v=>jo5 P O ops src nm (i + 1) rest (jh4 o.dst ⟨⟨d.g.k,v⟩,d.up,d.ok,d.rd⟩ s) (⟨⟨d.g.k,v⟩,d.up,d.ok,d.rd⟩ :: ds) (qw1 lits o.dst (yw2 s lits o)) k
    else jo5 P O ops src nm (i + 1) rest (jh4 o.dst d s) (d :: ds) (qw1 lits o.dst (yw2 s lits o)) k
structure RowO where
 dst:Option Tmp
 looks:List Tmp
 d:Delta
def rowsOf (ops:List Oper):List Oper->List Delta->List RowO
 | o :: os,d :: ds=>⟨o.dst,looks ops o,d⟩ :: rowsOf ops os ds
 | _,_=>[]
def q19 (mask:Nat) (y:RowO):Nat->List RowO->Bool
 | _,[]=>true
 | i,x :: xs=>(Nat.testBit mask i || (apart x.looks y.looks x.dst y.dst && !x.d.conf y.d)) && q19 mask y (i + 1) xs
def js3 (done:List RowO):List Nat->List RowO->Bool
 | m :: ms,y :: ys=>q19 m y 0 done && js3 (done ++ [y]) ms ys
 | _,_=>true
def force:Nat->(Nat->Prop)->Prop
 | 0,k=>k 0
 | n + 1,k=>force n λ m=>k (m + 1)
theorem force_eq:∀(n:Nat) (k:Nat->Prop),force n k=k n
 | 0,_=>rfl
 | n + 1,k=>force_eq n λ m=>k (m + 1)
def jw5 (P:Program) (O:ja8) (id:Nat) (ops:List Oper) (draw:Bool) (s:PSt) (k:PSt->Prop):Prop :=
 force s.gen λ g=>jo5 P O ops (sources ops) ((g * 4096 + id) * 1024) 0 ops s [] s.lits λ s' ds=>if draw then (if js0 0 ops && js3 [] (masks [] ops) (rowsOf ops ops ds) then k s' else False) else k s'
def ownN (s:PSt) (t:Tmp):List Nat :=
 match (s.tmps.getD t (gnow (.tup []))).v with
 | .x (.c (.own m _))=>[m]
 | _=>[]
def q20 (t:Tmp):List Oper->List Tmp
 | []=>[]
 | o :: l=>match o.dst,o.op with
  | some d,.move (.tmp b)=>if Nat.beq d t then b :: q20 t l else q20 t l
  | _,_=>q20 t l
def y84 (s:PSt):List Tmp->List Nat
 | []=>[]
 | t :: l=>ownN s t ++ y84 s l
def preF (ops:List Oper) (s:PSt):List Oper->List Nat
 | []=>[]
 | o :: l=>match o.op with
  | .slice _ (.tmp a) _ _ _=>y84 s (q20 a ops) ++ preF ops s l
  | _=>preF ops s l
def frzS (s:PSt):List Nat->PSt
 | []=>s
 | m :: l=>⟨s.tmps,jb3 s.mem (froze s (m :: l)),s.ok,s.lits,s.gen⟩
def qo4 (ops:List Oper) (draw:Bool) (s:PSt):PSt:=if draw then frzS s (preF ops s ops) else s
theorem vy7 (ops:List Oper) (draw:Bool) (s:PSt):(qo4 ops draw s).ok=s.ok:=by
 unfold qo4 frzS
 split
 ·split <;> rfl
 ·rfl
def jr1 (P:Program) (O:ja8) (id:Nat) (ops:List Oper) (draw:Bool) (s:PSt) (k:PSt->Prop):Prop :=
 jw5 P O id ops draw (qo4 ops (draw && !qn1 O) s) k
theorem qc9 {l:List Prop} {p:Prop}:qm6 l p↔(∀b∈l,b)/\p:=by
 induction l with
 | nil=>simp [qm6]
 | cons b l ih=>simp only [qm6,ih,List.forall_mem_cons,and_assoc]
section
variable {P:Program} {O:ja8} {ops:List Oper}
theorem js4 {s s':PSt} {o:Oper} (h:∀t∈looks ops o,s'.tmps[t]?=s.tmps[t]?) {x:Operand} (hx:x∈o.op.operands.toList):operand s' x=operand s x:=by
 cases x with
 | tmp t =>
  have:s'.tmps[t]?=s.tmps[t]?:=h t (by
   unfold looks
   refine List.mem_append_left _ (List.mem_filterMap.2 ⟨_,hx,rfl⟩))
  simp [operand,List.getD,this]
 | _=>rfl
theorem vg8 {s s':PSt} {o:Oper} (h:∀t∈looks ops o,s'.tmps[t]?=s.tmps[t]?):guardOf s' ops o=guardOf s ops o:=by
 unfold guardOf
 split
 ·rfl
 ·rename_i j want hg
  split
  ·rename_i d hd
   rw [h d (by unfold looks;rw [hg];simp only;rw [hd];exact List.mem_append_right _ (by simp))]
  ·rfl
theorem vg9 {s s':PSt} {o:Oper} (h:∀t∈looks ops o,s'.tmps[t]?=s.tmps[t]?):jk1 s' o=jk1 s o:=by
 have hv:∀x∈o.op.operands.toList,operand s' x=operand s x:=λ x hx=>js4 h hx
 unfold jk1
 split
 ·rename_i c a b ho
  rw [ho] at hv
  unfold valOf
  rw [hv c (by simp [Op.operands]),hv a (by simp [Op.operands]),hv b (by simp [Op.operands])]
 ·rw [List.map_congr_left hv]
theorem qf8 {s s':PSt} {c d:CV} {ms:List Nat} (h:resC s c=some (d,ms)) (hm:∀m∈ms,s'.mem m=s.mem m):resC s' c=some (d,ms):=by
 unfold resC at h ⊢
 split at h
 ·rename_i m n
  split at h <;> try (simp at h;done)
  rename_i z k r hr
  simp only [Option.some.injEq,Prod.mk.injEq] at h
  obtain ⟨rfl,rfl⟩:=h
  have:rowOf s' m=rowOf s m:=by unfold rowOf;rw [hm m (by simp)]
  simp only [this,hr]
 ·simp at h
 ·simp at h
 ·simp at h
 ·exact h
theorem jw6 {s s':PSt}:∀{l d:List CV} {ms:List Nat},resL s l=some (d,ms)->(∀m∈ms,s'.mem m=s.mem m)->resL s' l=some (d,ms)
 | [],d,ms,h,_=>h
 | c :: l,d,ms,h,hm=>by
  unfold resL at h ⊢
  split at h <;> try (simp at h;done)
  rename_i d1 a1 d2 a2 h1 h2
  simp only [Option.some.injEq,Prod.mk.injEq] at h
  obtain ⟨rfl,rfl⟩:=h
  rw [qf8 h1 λ m hh=>hm m (by simp [hh]),jw6 h2 λ m hh=>hm m (by simp [hh])]
theorem vt1 {s s':PSt} {v:SV} {g:Arg} (h:argA s v=some g) (h1:∀m∈g.rows,s'.mem m=s.mem m) (h2:∀m∈g.refs,s'.mem m=s.mem m):argA s' v=some g:=by
 unfold argA at h ⊢
 split at h
 ·rename_i m off
  split at h <;> try (simp at h;done)
  rename_i l hl
  split at h <;> try (simp at h;done)
  rename_i k a hr
  simp only [Option.some.injEq] at h
  subst h
  simp only [h2 m (by simp),hl,jw6 hr h1]
 ·split at h <;> try (simp at h;done)
  rename_i d a hr
  simp only [Option.some.injEq] at h
  subst h
  simp only [qf8 hr h1]
 ·split at h <;> try (simp at h;done)
  rename_i d a hr
  simp only [Option.some.injEq] at h
  subst h
  simp only [jw6 hr h1]
 ·rename_i m z l n
  split at h <;> try (simp at h;done)
  rename_i d a hr
  simp only [Option.some.injEq] at h
  subst h
  have hm:q00 s' m z l n=some (d,a):=by
   unfold q00 at hr ⊢
   split at hr <;> try (simp at hr;done)
   rename_i z' N r hro
   split at hr <;> try (simp at hr;done)
   rename_i hz
   simp only [Option.some.injEq,Prod.mk.injEq] at hr
   obtain ⟨rfl,rfl⟩:=hr
   have:rowOf s' m=rowOf s m:=by unfold rowOf;rw [h1 m (by simp)]
   simp only [this,hro,hz,if_true]
  simp only [hm]
 ·simp at h
theorem qo5 {s s':PSt}:∀{l:List SV} {al:List AV} {rows refs:List Nat},qm8 s l=some (al,rows,refs)->(∀m∈rows,s'.mem m=s.mem m)->(∀m∈refs,s'.mem m=s.mem m)->qm8 s' l=some (al,rows,refs)
 | [],al,rows,refs,h,_,_=>h
 | v :: l,al,rows,refs,h,h1,h2=>by
  unfold qm8 at h ⊢
  split at h <;> try (simp at h;done)
  rename_i g al' rows' refs' e1 e2
  simp only [Option.some.injEq,Prod.mk.injEq] at h
  obtain ⟨rfl,rfl,rfl⟩:=h
  rw [vt1 e1 (λ m hh=>h1 m (by simp [hh])) (λ m hh=>h2 m (by simp [hh])),qo5 e2 (λ m hh=>h1 m (by simp [hh])) (λ m hh=>h2 m (by simp [hh]))]
theorem jn5 {s s':PSt}:∀{rows:List Nat},(∀m∈rows,s'.mem m=s.mem m)->froze s' rows=froze s rows
 | [],_=>rfl
 | m :: l,h=>by
  unfold froze
  rw [h m (by simp),jn5 λ k hk=>h k (by simp [hk])]
theorem qv0 {s s':PSt} {name:Nat} {f:FuncId} {args:List SV} {e:Eff} (h:jw4 O name s f args=some e) (hm:∀m,m∈e.rd->s'.mem m=s.mem m):jw4 O name s' f args=some e:=by
 unfold jw4 at h ⊢
 split at h <;> try (simp at h;done)
 rename_i al rows refs hargs
 have key:(∀m∈rows,s'.mem m=s.mem m)/\(∀m∈refs,s'.mem m=s.mem m):=by
  split at h <;> try (simp at h;done)
  split at h <;> try (simp at h;done)
  split at h
  ·unfold vf9 at h
   split at h <;> try (simp at h;done)
   rename_i hr0
   have hr0:refs=[]:=List.eq_nil_of_length_eq_zero (Nat.eq_of_beq_eq_true hr0)
   subst hr0
   split at h <;> try (simp at h;done)
   ·simp only [Option.some.injEq] at h
    subst h
    exact ⟨λ m hh=>hm m hh,by simp⟩
   ·split at h <;> try (simp at h;done)
    simp only [Option.some.injEq] at h
    subst h
    exact ⟨λ m hh=>hm m hh,by simp⟩
   ·split at h <;> try (simp at h;done)
    simp only [Option.some.injEq] at h
    subst h
    exact ⟨λ m hh=>hm m hh,by simp⟩
  split at h
  ·split at h <;> try (simp at h;done)
   rename_i hc
   simp only [Bool.and_eq_true,Nat.beq_eq] at hc
   have hr0:rows=[]:=List.eq_nil_of_length_eq_zero hc.1
   subst hr0
   simp only [Option.some.injEq] at h
   subst h
   exact ⟨by simp,λ m hh=>hm m hh⟩
  split at h <;> try (simp at h;done)
  split at h
  ·split at h <;> try (simp at h;done)
   split at h
   ·rename_i hc
    simp only [Bool.and_eq_true,Nat.beq_eq] at hc
    simp only [Option.some.injEq] at h
    subst h
    have hr0:refs=[]:=List.eq_nil_of_length_eq_zero hc.2
    subst hr0
    exact ⟨λ m hh=>hm m hh,by simp⟩
   ·simp only [Option.some.injEq] at h
    subst h
    exact ⟨λ m hh=>hm m (by simp [hh]),λ m hh=>hm m (by simp [hh])⟩
  ·split at h <;> try (simp at h;done)
   split at h
   ·rename_i hc
    simp only [Bool.and_eq_true,Nat.beq_eq] at hc
    simp only [Option.some.injEq] at h
    subst h
    have hr0:refs=[]:=List.eq_nil_of_length_eq_zero hc.1.2
    subst hr0
    exact ⟨λ m hh=>hm m hh,by simp⟩
   simp only [Option.some.injEq] at h
   subst h
   exact ⟨λ m hh=>hm m (by simp [hh]),λ m hh=>hm m (by simp [hh])⟩
  ·simp at h
 rw [qo5 hargs key.1 key.2]
 simp only [jn5 key.1]
 exact h
theorem vy8 {s s':PSt} {c d:CV} {ms gs:List Nat} (h:gvC s c=some (d,ms,gs)) (hm:∀m∈ms,s'.mem m=s.mem m) (hg:∀m∈gs,s'.mem m=s.mem m):gvC s' c=some (d,ms,gs):=by
 unfold gvC at h ⊢
 split at h
 ·rename_i m n
  split at h <;> try (simp at h;done)
  ·rename_i z k r hr
   simp only [Option.some.injEq,Prod.mk.injEq] at h
   obtain ⟨rfl,rfl,rfl⟩:=h
   simp only [hg m (by simp),hr]
  ·rename_i z k r hr
   simp only [Option.some.injEq,Prod.mk.injEq] at h
   obtain ⟨rfl,rfl,rfl⟩:=h
   simp only [hm m (by simp),hr]
 all_goals exact h
theorem vb2 {s s':PSt}:∀{l d:List CV} {ms gs:List Nat},gvL s l=some (d,ms,gs)->(∀m∈ms,s'.mem m=s.mem m)->(∀m∈gs,s'.mem m=s.mem m)->gvL s' l=some (d,ms,gs)
 | [],d,ms,gs,h,_,_=>h
 | c :: l,d,ms,gs,h,hm,hg=>by
  unfold gvL at h ⊢
  split at h <;> try (simp at h;done)
  rename_i d1 a1 g1 d2 a2 g2 h1 h2
  simp only [Option.some.injEq,Prod.mk.injEq] at h
  obtain ⟨rfl,rfl,rfl⟩:=h
  rw [vy8 h1 (λ m hh=>hm m (by simp [hh])) (λ m hh=>hg m (by simp [hh])),vb2 h2 (λ m hh=>hm m (by simp [hh])) (λ m hh=>hg m (by simp [hh]))]
theorem qf9 {s s':PSt} {b:Bool} {l d:List CV} {ms gs:List Nat} (h:gvOr s b l=some (d,ms,gs)) (hm:∀m∈ms,s'.mem m=s.mem m) (hg:∀m∈gs,s'.mem m=s.mem m):gvOr s' b l=some (d,ms,gs):=by
 unfold gvOr at h ⊢
 split at h
 ·rename_i hb
  rw [if_pos hb]
  exact vb2 h hm hg
 ·rename_i hb
  rw [if_neg hb]
  split at h <;> try (simp at h;done)
  rename_i hr
  simp only [Option.some.injEq,Prod.mk.injEq] at h
  obtain ⟨rfl,rfl,rfl⟩:=h
  rw [jw6 hr hm]
theorem vt2 {s s':PSt} {b:Bool} {v:SV} {g:ArgG} (h:argG s b v=some g) (h1:∀m∈g.rows,s'.mem m=s.mem m) (h2:∀m∈g.refs,s'.mem m=s.mem m) (h3:∀m∈g.gv,s'.mem m=s.mem m):argG s' b v=some g:=by
 unfold argG at h ⊢
 split at h
 ·rename_i m off
  split at h <;> try (simp at h;done)
  rename_i l hl
  split at h <;> try (simp at h;done)
  rename_i k a q hr
  simp only [Option.some.injEq] at h
  subst h
  simp only [h2 m (by simp),hl,qf9 hr h1 h3]
 ·split at h <;> try (simp at h;done)
  rename_i d a q hr
  simp only [Option.some.injEq] at h
  subst h
  simp only [qf9 hr h1 h3]
 ·split at h <;> try (simp at h;done)
  rename_i d a q hr
  simp only [Option.some.injEq] at h
  subst h
  simp only [qf9 hr h1 h3]
 ·rename_i m z l n
  split at h <;> try (simp at h;done)
  rename_i d a hr
  simp only [Option.some.injEq] at h
  subst h
  have hm:q00 s' m z l n=some (d,a):=by
   unfold q00 at hr ⊢
   split at hr <;> try (simp at hr;done)
   rename_i z' N r hro
   split at hr <;> try (simp at hr;done)
   rename_i hz
   simp only [Option.some.injEq,Prod.mk.injEq] at hr
   obtain ⟨rfl,rfl⟩:=hr
   have:rowOf s' m=rowOf s m:=by unfold rowOf;rw [h1 m (by simp)]
   simp only [this,hro,hz,if_true]
  simp only [hm]
 ·simp at h
theorem jz2 {s s':PSt}:∀{mask:List Bool} {l:List SV} {al:List AV} {rows refs gv:List Nat},qn0 s mask l=some (al,rows,refs,gv)->(∀m∈rows,s'.mem m=s.mem m)->(∀m∈refs,s'.mem m=s.mem m)->(∀m∈gv,s'.mem m=s.mem m)->qn0 s' mask l=some (al,rows,refs,gv)
 | _,[],al,rows,refs,gv,h,_,_,_=>h
 | mask,v :: l,al,rows,refs,gv,h,h1,h2,h3=>by
  unfold qn0 at h ⊢
  split at h <;> try (simp at h;done)
  rename_i g al' rows' refs' gv' e1 e2
  simp only [Option.some.injEq,Prod.mk.injEq] at h
  obtain ⟨rfl,rfl,rfl,rfl⟩:=h
  rw [vt2 e1 (λ m hh=>h1 m (by simp [hh])) (λ m hh=>h2 m (by simp [hh])) (λ m hh=>h3 m (by simp [hh])),jz2 e2 (λ m hh=>h1 m (by simp [hh])) (λ m hh=>h2 m (by simp [hh])) (λ m hh=>h3 m (by simp [hh]))]
theorem q21 {s s':PSt} {name:Nat} {f:FuncId} {args:List SV} {e:Eff} (h:qf2 O name s f args=some e) (hm:∀m,m∈e.rd->s'.mem m=s.mem m):qf2 O name s' f args=some e:=by
 unfold qf2 at h ⊢
 split at h
 ·unfold vg0 at h ⊢
  split at h <;> try (simp at h;done)
  rename_i al rows refs gv hargs
  split at h <;> try (simp at h;done)
  rename_i hd
  split at h <;> try (simp at h;done)
  rename_i ans hans
  split at h <;> try (simp at h;done)
  rename_i u hu
  split at h <;> try (simp at h;done)
  rename_i hl
  split at h
  ·rename_i hn
   simp only [Option.some.injEq] at h
   subst h
   have k1:∀m∈rows,s'.mem m=s.mem m:=λ m hh=>hm m (by simp [hh])
   rw [jz2 hargs k1 (λ m hh=>hm m (by simp [hh])) (λ m hh=>hm m (by simp [hh]))]
   simp only [hd,hans,hu,hl,hn,jn5 k1,if_true]
  ·rename_i y b l hn
   split at h <;> try (simp at h;done)
   rename_i hall
   simp only [Option.some.injEq] at h
   subst h
   have k1:∀m∈rows,s'.mem m=s.mem m:=λ m hh=>hm m (by simp [hh])
   have hall':(l.all λ p=>(s'.mem p.1).isNone && Nat.blt p.1 PN)=true:=by
    refine List.all_eq_true.2 λ q hq=>?_
    have e:s'.mem q.1=s.mem q.1:=hm q.1 (List.mem_append_right _ (List.mem_append_right _ (List.mem_append_right _ (List.mem_map.2 ⟨q,hq,rfl⟩))))
    rw [e];exact List.all_eq_true.1 hall q hq
   rw [jz2 hargs k1 (λ m hh=>hm m (by simp [hh])) (λ m hh=>hm m (by simp [hh]))]
   simp only [hd,hans,hu,hl,hn,jn5 k1,if_true,hall']
 ·exact qv0 h hm
theorem qk2 {s s':PSt} {name:Nat} {b:Builtin} {tys:List TypeId} {args:List SV} {e:Eff} (h:jm7 P name s b tys args=some e) (hm:∀m,m∈e.rd->s'.mem m=s.mem m):jm7 P name s' b tys args=some e:=by
 unfold jm7 at h ⊢
 split at h
 ·exact h
 ·exact h
 ·exact h
 ·rename_i a c t u
  split at h <;> try (simp at h;done)
  rename_i el hu
  try simp only [hu]
  split at h <;> try (simp at h;done)
  rename_i zs hz
  try simp only [hz]
  split at h <;> try (simp at h;done)
  rename_i hc
  rw [if_pos hc]
  split at h <;> try (simp at h;done)
  rename_i z2 n2 r2 rd hrow
  split at h <;> try (simp at h;done)
  rename_i hz2
  have hrd:∀m∈rd,s'.mem m=s.mem m:=by
   intro m hh
   split at h <;> try (simp at h;done)
   ·simp only [Option.some.injEq] at h;subst h;exact hm m hh
   ·split at h <;> try (simp at h;done)
    split at h <;> try (simp at h;done)
    simp only [Option.some.injEq] at h;subst h;exact hm m (by simp [hh])
  have hrow':srcS P s' t u c=some (z2,n2,r2,rd):=by
   rcases qw7 hrow with ⟨rfl,hr9⟩ | ⟨b,rfl,hu',rfl,rfl,rfl,rfl⟩
   ·refine yv5 ?_
    unfold srcA at hr9 ⊢
    split at hr9
    ·rename_i m n
     split at hr9 <;> try (simp at hr9;done)
     rename_i z n r hr
     simp only [Option.some.injEq,Prod.mk.injEq] at hr9
     obtain ⟨rfl,rfl,rfl,rfl⟩:=hr9
     have:rowOf s' m=rowOf s m:=by unfold rowOf;rw [hrd m (by simp)]
     simp only [this,hr]
    ·exact hr9
    ·simp at hr9
   ·unfold srcS
    simp only [hu']
  rw [hrow']
  simp only
  rw [if_pos hz2]
  split at h <;> try (simp at h;done)
  ·exact h
  ·rename_i m n
   have:rowW s' m=rowW s m:=by
    split at h <;> try (simp at h;done)
    split at h <;> try (simp at h;done)
    simp only [Option.some.injEq] at h;subst h
    unfold rowW;rw [hm m (by simp)]
   simp only [this]
   exact h
 ·rename_i d c t u
  split at h <;> try (simp at h;done)
  rename_i el hu
  try simp only [hu]
  split at h <;> try (simp at h;done)
  rename_i hc
  rw [if_pos hc]
  split at h <;> try (simp at h;done)
  rename_i m z l n N r z2 n2 r2 rd hd hsrc
  have hall:∀k∈m :: rd,s'.mem k=s.mem k:=by
   split at h <;> try (simp at h;done)
   simp only [Option.some.injEq] at h;subst h
   exact hm
  have hro:rowW s' m=rowW s m:=by unfold rowW;rw [hall m (by simp)]
  have hd':dstA s' d=some (m,z,l,n,N,r):=by
   unfold dstA at hd ⊢
   split at hd
   ·split at hd <;> try (simp at hd;done)
    rename_i k n' _ z' N' r' hr
    simp only [Option.some.injEq,Prod.mk.injEq] at hd
    obtain ⟨rfl,rfl,rfl,rfl,rfl,rfl⟩:=hd
    simp only [hro,hr]
   ·split at hd <;> try (simp at hd;done)
    rename_i k z'' l' n' _ z' N' r' hr
    split at hd <;> try (simp at hd;done)
    rename_i hzz
    simp only [Option.some.injEq,Prod.mk.injEq] at hd
    obtain ⟨rfl,rfl,rfl,rfl,rfl,rfl⟩:=hd
    simp only [hro,hr,hzz,if_true]
   ·simp at hd
  have hsrc':srcV s' c=some (z2,n2,r2,rd):=by
   unfold srcV at hsrc ⊢
   split at hsrc
   ·unfold srcA at hsrc ⊢
    split at hsrc
    ·split at hsrc <;> try (simp at hsrc;done)
     rename_i k n _ z n' r hr
     simp only [Option.some.injEq,Prod.mk.injEq] at hsrc
     obtain ⟨rfl,rfl,rfl,rfl⟩:=hsrc
     have:rowOf s' k=rowOf s k:=by unfold rowOf;rw [hall k (by simp)]
     simp only [this,hr]
    ·exact hsrc
    ·simp at hsrc
   ·rename_i k z l n
    split at hsrc <;> try (simp at hsrc;done)
    rename_i z' n' r hr
    split at hsrc <;> try (simp at hsrc;done)
    rename_i hzz
    simp only [Option.some.injEq,Prod.mk.injEq] at hsrc
    obtain ⟨rfl,rfl,rfl,rfl⟩:=hsrc
    have:rowOf s' k=rowOf s k:=by unfold rowOf;rw [hall k (by simp)]
    simp only [this,hr,hzz,if_true]
   ·simp at hsrc
  rw [hsrc',hd']
  exact h
 ·exact h
 ·simp at h
theorem vt3 {s s':PSt} {c:SV} {z:Nat} {n:Int} {r:Row} {rd:List Nat} (hsrc:srcV s c=some (z,n,r,rd)) (hall:∀m∈rd,s'.mem m=s.mem m):srcV s' c=some (z,n,r,rd):=by
 unfold srcV at hsrc ⊢
 split at hsrc
 ·unfold srcA at hsrc ⊢
  split at hsrc
  ·split at hsrc <;> try (simp at hsrc;done)
   rename_i k n _ z n' r hr
   simp only [Option.some.injEq,Prod.mk.injEq] at hsrc
   obtain ⟨rfl,rfl,rfl,rfl⟩:=hsrc
   have:rowOf s' k=rowOf s k:=by unfold rowOf;rw [hall k (by simp)]
   simp only [this,hr]
  ·exact hsrc
  ·simp at hsrc
 ·rename_i k z l n
  split at hsrc <;> try (simp at hsrc;done)
  rename_i z' n' r hr
  split at hsrc <;> try (simp at hsrc;done)
  rename_i hzz
  simp only [Option.some.injEq,Prod.mk.injEq] at hsrc
  obtain ⟨rfl,rfl,rfl,rfl⟩:=hsrc
  have:rowOf s' k=rowOf s k:=by unfold rowOf;rw [hall k (by simp)]
  simp only [this,hr,hzz,if_true]
 ·simp at hsrc
theorem q25 {s s':PSt} {name:Nat} {src dst:TypeId} {v:SV} {e:Eff} (h:qn2 P name s src dst v=some e) (hm:∀m,m∈e.rd->s'.mem m=s.mem m):qn2 P name s' src dst v=some e:=by
 unfold qn2 at h ⊢
 split at h
 ·exact h
 ·exact h
 ·exact h
 ·exact h
 ·split at h <;> try (simp at h;done)
  rename_i z N r q4 hro
  split at h <;> try (simp at h;done)
  rename_i hsd
  simp only [Option.some.injEq] at h
  subst h
  simp only [q4,rowW,hm _ (List.mem_singleton.2 rfl)] at hro ⊢
  simp only [hro,hsd,if_true]
 ·split at h <;> try (simp at h;done)
  rename_i z n r ms q4 hsrc
  split at h <;> try (simp at h;done)
  rename_i hz
  simp only [Option.some.injEq] at h
  subst h
  simp only [q4,vt3 hsrc hm,hz,if_true]
 ·exact h
theorem js5 {s s':PSt}:∀{l:List (Nat×Operand)},(∀p∈l,valOf s' p.2=valOf s p.2)->partsOf s' l=partsOf s l
 | [],_=>rfl
 | (i,x) :: l,h=>by
  unfold partsOf
  rw [h (i,x) (by simp),js5 λ p hp=>h p (by simp [hp])]
theorem qj1 {s s':PSt}:∀{l:List Operand},(∀x∈l,operand s' x=operand s x)->qi6 s' l=qi6 s l
 | [],_=>rfl
 | x :: l,h=>by
  unfold qi6
  rw [h x (by simp),qj1 λ p hp=>h p (by simp [hp])]
theorem qj2 {s s':PSt} {o:Oper} {name:Nat} {e:Eff} (h:∀t∈looks ops o,s'.tmps[t]?=s.tmps[t]?) (he:effect P O name s o=some e) (hm:∀m,m∈e.rd->s'.mem m=s.mem m) (hu:∀p∈e.up,s'.mem p.1=s.mem p.1):effect P O name s' o=some e:=by
 have ho':∀x∈o.op.operands.toList,operand s' x=operand s x:=λ x hx=>js4 h hx
 have hv:∀x∈o.op.operands.toList,valOf s' x=valOf s x:=λ x hx=>by unfold valOf;rw [js4 h hx]
 unfold effect at he ⊢
 split at he
 all_goals first
  | (rename_i ho
     rw [ho] at hv ho'
     simp only [Op.operands] at hv ho')
  | (simp at he;done)
 ·rw [hv _ (by simp)];exact he
 ·rw [hv _ (by simp)];exact he
 ·rw [hv _ (by simp)];exact he
 ·rename_i c x y;rw [hv c (by simp),hv x (by simp),hv y (by simp)];exact he
 ·exact he
 ·rw [hv _ (by simp)];exact he
 ·
  rename_i t x
  rw [hv x (by simp)]
  split at he <;> try (simp at he;done)
  ·rename_i m off q
   have hmm:memC s' m=memC s m:=by
    have:s'.mem m=s.mem m:=by
     split at he <;> try (simp at he;done)
     split at he <;> try (simp at he;done)
     simp only [Option.some.injEq] at he;subst he
     exact hm m (by simp)
    unfold memC;rw [this]
   simp only [hmm];exact he
  ·rename_i m z i off q
   have hmm:rowOf s' m=rowOf s m:=by
    have:s'.mem m=s.mem m:=by
     split at he <;> try (simp at he;done)
     split at he <;> try (simp at he;done)
     split at he <;> try (simp at he;done)
     simp only [Option.some.injEq] at he;subst he
     exact hm m (by simp)
    unfold rowOf;rw [this]
   simp only [hmm];exact he
  ·exact he
 ·
  rename_i t x y
  rw [hv x (by simp),hv y (by simp)]
  split at he <;> try (simp at he;done)
  ·rename_i m off xv q1 q2
   have hmm:s'.mem m=s.mem m:=by
    split at he <;> try (simp at he;done)
    split at he <;> try (simp at he;done)
    simp only [Option.some.injEq] at he;subst he
    exact hu _ (List.mem_singleton.2 rfl)
   simp only [hmm];exact he
  ·rename_i m z i off xv q1 q2
   have hmm:rowW s' m=rowW s m:=by
    have:s'.mem m=s.mem m:=by
     split at he <;> try (simp at he;done)
     split at he <;> try (simp at he;done)
     simp only [Option.some.injEq] at he;subst he
     exact hu _ (List.mem_singleton.2 rfl)
    unfold rowW;rw [this]
   simp only [hmm];exact he
 ·rename_i op t x y yt;rw [hv x (by simp),hv y (by simp)];exact he
 ·rw [hv _ (by simp)];exact he
 ·rw [hv _ (by simp)];exact q25 he hm
 ·rw [hv _ (by simp)];exact he
 ·rw [hv _ (by simp)];exact he
 ·
  rename_i c
  have hw:c.args.toList.map (valOf s')=c.args.toList.map (valOf s):=List.map_congr_left λ x hx=>hv x (by
   simp only [Call.operands,Array.toList_append]
   exact List.mem_append_right _ hx)
  have hc:∀cal,c.callee=cal->jk0 s' cal=jk0 s cal:=by
   intro cal e
   subst e
   unfold jk0
   split
   ·rename_i x hx
    rw [ho' x (by simp [Call.operands,hx])]
   ·rfl
  split at he
  ·rename_i b hb
   rw [hw]
   exact qk2 he hm
  ·rw [hc _ rfl,hw]
   split at he <;> try (simp at he;done)
   exact q21 he hm
 ·
  rename_i t parts
  rw [js5 (s:=s) (s':=s') λ p hp=>hv p.2 (List.mem_map_of_mem hp)];exact he
 ·
  rename_i t len parts
  rw [js5 (s:=s) (s':=s') λ p hp=>hv p.2 (List.mem_map_of_mem hp)];exact he
 ·rename_i t l c;rw [hv l (by simp),hv c (by simp)];exact he
 ·
  rename_i t x lo hi mx
  have hx:=hv x (by simp)
  have hlo:∀d,jg6 s' d lo=jg6 s d lo:=by
   intro d;cases lo with
   | none=>rfl
   | some y=>unfold jg6;simp only;rw [hv y (by simp)]
  have hhi:∀d,jg6 s' d hi=jg6 s d hi:=by
   intro d;cases hi with
   | none=>rfl
   | some y=>unfold jg6;simp only;rw [hv y (by simp)]
  have hmx:∀d,jg6 s' d mx=jg6 s d mx:=by
   intro d;cases mx with
   | none=>rfl
   | some y=>unfold jg6;simp only;rw [hv y (by simp)]
  by_cases hit:vg1 O lo hi mx=true
  ·rw [if_pos hit] at he ⊢
   unfold vx4 at he ⊢
   rw [hx,hhi]
   split at he <;> try (simp at he;done)
   rename_i el m nn h hu q hh2
   split at he <;> try (simp at he;done)
   rename_i z n r hro
   have hro':rowW s' m=some (z,n,r):=by
    split at he <;> try (simp at he;done)
    simp only [Option.some.injEq] at he
    unfold rowW;rw [hm m (by rw [<- he];simp)];exact hro
   simp only [hu,q,hh2,hro']
   exact he
  rw [if_neg hit] at he ⊢
  rw [hx]
  split at he <;> try (simp at he;done)
  rename_i el q1 q2
  try simp only [q1,q2]
  split at he
  ·rename_i m z l0 n rd hps
   have hm':∀m∈rd,s'.mem m=s.mem m:=by
    split at he <;> try (simp at he;done)
    split at he <;> try (simp at he;done)
    simp only [Option.some.injEq] at he;subst he
    exact hm
   have hps':qf3 O s' (valOf s x)=some (m,z,l0,n,rd):=by
    unfold qf3 at hps ⊢
    split at hps
    ·exact hps
    ·rename_i k n' q
     split at hps <;> try (simp at hps;done)
     rename_i hvo
     split at hps <;> try (simp at hps;done)
     rename_i z' N r' hro
     simp only [Option.some.injEq,Prod.mk.injEq] at hps
     obtain ⟨rfl,rfl,rfl,rfl,rfl⟩:=hps
     have:rowOf s' k=rowOf s k:=by unfold rowOf;rw [hm' k (by simp)]
     simp only [hvo,if_true,this,hro]
    ·simp at hps
   simp only [hps',hlo,hhi,hmx]
   exact he
  ·rename_i hps
   have hps':qf3 O s' (valOf s x)=none:=by
    split at he <;> try (simp at he;done)
    rename_i ms z n r hsrc
    have hm':∀m∈ms,s'.mem m=s.mem m:=by
     split at he <;> try (simp at he;done)
     split at he <;> try (simp at he;done)
     simp only [Option.some.injEq] at he;subst he
     exact hm
    unfold qf3 at hps ⊢
    split at hps
    ·simp at hps
    ·rename_i k n' q
     rw [q] at hsrc
     unfold qb9 resC at hsrc
     cases hr:rowOf s k with
     | none=>simp [hr] at hsrc
     | some p =>
      obtain ⟨z',N,r'⟩:=p
      simp only [hr,Option.some.injEq,Prod.mk.injEq] at hsrc
      have:rowOf s' k=rowOf s k:=by unfold rowOf;rw [hm' k (by rw [<- hsrc.1];simp)]
      simp only [this]
      exact hps
    ·rfl
   simp only [hps']
   split at he <;> try (simp at he;done)
   rename_i ms z n r hsrc
   have hms:∀m∈ms,s'.mem m=s.mem m:=by
    split at he <;> try (simp at he;done)
    split at he <;> try (simp at he;done)
    simp only [Option.some.injEq] at he;subst he
    exact λ m hh=>hm m hh
   have hs:qb9 s' (valOf s x)=some (ms,z,n,r):=by
    unfold qb9 at hsrc ⊢
    split at hsrc <;> try (simp at hsrc;done)
    split at hsrc <;> try (simp at hsrc;done)
    rename_i hres
    simp only [Option.some.injEq,Prod.mk.injEq] at hsrc
    obtain ⟨rfl,rfl,rfl,rfl⟩:=hsrc
    rw [qf8 hres hms]
   simp only [hs,hlo,hhi,hmx,jn5 hms]
   exact he
 ·
  rename_i f first caps
  rw [qj1 (s:=s) (s':=s') λ x hx=>ho' x (by simp only [Array.toList_append];exact List.mem_append_right _ hx)];exact he
 ·rw [hv _ (by simp)];exact he
 ·rename_i t x i;rw [hv x (by simp),hv i (by simp)];exact he
 ·rename_i t x i;rw [hv x (by simp),hv i (by simp)];exact he
end
end Go.Proofs.YthkidembkknoeaaDoor.QR
