import Derived.Test.YthkidembkknoeaaDoorPk14
import Derived.Test.YthkidembkknoeaaDoorPk12
import Derived.Test.YthkidembkknoeaaDoorPk13
import Derived.Test.YthkidembkknoeaaDoorPk08
namespace Go.Proofs.YthkidembkknoeaaDoor
open Go.RowKit PR QR
set_option linter.unusedVariables false
set_option linter.unusedSimpArgs false
def pmS (g:Nat→Int) (n:Nat):Nat→List Int×List Int
  | 0=>([],(List.range n).map Int.ofNat)
  | i + 1=>((pmS g n i).1 ++ [(pmS g n i).2.getD (gmod (g i) (pmS g n i).2.length).toNat 0],(pmS g n i).2.eraseIdx (gmod (g i) (pmS g n i).2.length).toNat)
def pmA (m:Int) (l:Int→Nat→Int) (i:Nat):Int:=if (i:Int) < m then l i 0 else 0
def pmR (m:Int) (l:Int→Nat→Int) (n i a:Int):Int:=(pmS (pmA m l) n.toNat i.toNat).2.getD a.toNat 0
def pmO (m:Int) (l:Int→Nat→Int) (n i a:Int):Int:=(pmS (pmA m l) n.toNat i.toNat).1.getD a.toNat 0
def pfV (i a:Int):Int:=if a < i then a else 0
def qx4 (n i:Int):Prop:=0≤i∧i≤n
def pfMu (n i:Int):Nat:=(n - i).toNat
def pmG0 (n i:Int):Prop:=(0≤i∧i≤n)∧i=0
def pmG1 (n i:Int):Prop:=(0≤i∧i≤n)∧1≤i
def pmB (m n:Int):Bool:=decide (¬ m=0∧n≤64)
def pmN (m n:Int):Int:=if pmB m n=true then n else 0
def q69:List AV→Option QR.Ans
  | [.x (.c c),.x (.c (.v (.int .i64 n)))]=>match jf4 1 c with
    | some (m,r)=>some ⟨[.c (.fresh 1 (pmN m n) (.fn fun i j=>.v (.int .i64 (pmO m (fun i _=>intC (den r i 0)) n n i))))],[],[intRow .i64 1 m r,ile 0 m=true,ile 0 n=true]⟩
    | none=>none
  | _=>none
def vj5:QR.ja7:=QR.orc [(46,s_at),(20,QR.jx6 jj8)]
noncomputable def q70 (m:Int) (l:Int→Nat→Int) (n:Int):QR.Inv where
  ι:=Int
  good i:=qx4 n i
  slots i:=QR.slotsOf Tryd.f25.ntmps [(0,.x (.c (.slc 1 m (.fn fun a b=>.v (.int .i64 (l a b)))))),(1,.x (.c (.v (.int .i64 n)))),(5,.x (.c (.own 1000000000000000 n))),(6,.x (.c (.v (.int .i64 i))))]
  blocks i:=[(1000000000000000,.row 1 n (.fn fun a b=>.v (.int .i64 (pfV i a))))]
  μ i:=pfMu n i
noncomputable def qs2 (m:Int) (l:Int→Nat→Int) (n:Int):QR.Inv where
  ι:=Int
  good i:=pmG0 n i
  slots i:=QR.slotsOf Tryd.f25.ntmps [(0,.x (.c (.slc 1 m (.fn fun a b=>.v (.int .i64 (l a b)))))),(5,.x (.c (.own 1000000000000000 (subZ n i)))),(7,.x (.c (.v (.slice none 0 0)))),(8,.x (.c (.v (.int .i64 i))))]
  blocks i:=[(1000000000000000,.row 1 (subZ n i) (.fn fun a b=>.v (.int .i64 (pmR m l n i a))))]
  μ i:=pfMu n i
noncomputable def qs3 (m:Int) (l:Int→Nat→Int) (n:Int):QR.Inv where
  ι:=Int
  good i:=pmG1 n i
  slots i:=QR.slotsOf Tryd.f25.ntmps [(0,.x (.c (.slc 1 m (.fn fun a b=>.v (.int .i64 (l a b)))))),(5,.x (.c (.own 1000000000000000 (subZ n i)))),(7,.x (.c (.own 1000000000000001 i))),(8,.x (.c (.v (.int .i64 i))))]
  blocks i:=[(1000000000000000,.row 1 (subZ n i) (.fn fun a b=>.v (.int .i64 (pmR m l n i a)))),(1000000000000001,.row 1 i (.fn fun a b=>.v (.int .i64 (pmO m l n i a))))]
  μ i:=pfMu n i
set_option maxRecDepth 100000 in
theorem ym3 (m:Int) (l:Int→Nat→Int) (n:Int) (V:List QR.XV→List (List QR.CV)→Prop):QR.ja5 Tryd.prog (vj5) (fun k=>bif Nat.beq k 5 then some (.inv (q70 m l n)) else bif Nat.beq k 10 then some (.invs [qs2 m l n,qs3 m l n]) else none) (Tryd.f25.body.getD .skip) Tryd.f25.results.toList Tryd.f25.ntmps [.x (.c (.slc 1 m (.fn fun i j=>.v (.int .i64 (l i j))))),.x (.c (.v (.int .i64 n)))] V=(True∧∀(i:Int),i=m→ja0 (ieq i 0) (True∧True∧True∧V [XV.c (CV.v (Value.slice Option.none 0 0))] []) (True∧ja0 (igt n 64) (True∧True∧V [XV.c (CV.v (Value.slice Option.none 0 0))] []) ((ile 0 n=true∧ile n n=true∧ile (jd2 n 8) 140737488355328=true∧ile n 140737488355328=true∧True)∧True∧(∃(i:Int),qx4 n i∧True∧true=true∧((true=true∧1=1∧m=m∧True∧∀(i:Nat),ilt (Int.ofNat i) m=true→IntKind.i64=IntKind.i64∧l (Int.ofNat i) 0=l (Int.ofNat i) 0)∧(true=true∧IntKind.i64=IntKind.i64∧n=n)∧(true=true∧3073=3073∧n=n)∧(true=true∧IntKind.i64=IntKind.i64∧(0:Int)=i)∧True)∧(1=1∧n=n∧True∧∀(i_1:Nat),ilt (Int.ofNat i_1) n=true→IntKind.i64=IntKind.i64∧(0:Int)=pfV i (Int.ofNat i_1))∧True)∧∀(i:Int),qx4 n i→True∧ja0 (ilt i n) ((ile 0 i=true∧ilt i n=true∧True)∧True∧∃(j:Int),qx4 n j∧(True∧true=true∧((true=true∧1=1∧m=m∧True∧∀(i:Nat),ilt (Int.ofNat i) m=true→IntKind.i64=IntKind.i64∧l (Int.ofNat i) 0=l (Int.ofNat i) 0)∧(true=true∧IntKind.i64=IntKind.i64∧n=n)∧(true=true∧1000000000000000=1000000000000000∧n=n)∧(true=true∧IntKind.i64=IntKind.i64∧iadd IntKind.i64 i 1=j)∧True)∧(1=1∧n=n∧True∧∀(i_1:Nat),ilt (Int.ofNat i_1) n=true→IntKind.i64=IntKind.i64∧isel (ieq (Int.ofNat i_1) i) i (pfV i (Int.ofNat i_1))=pfV j (Int.ofNat i_1))∧True)∧Nat.le (Nat.succ (pfMu n j)) (pfMu n i)) (True∧True∧((∃(i_1:Int),pmG0 n i_1∧True∧true=true∧((true=true∧1=1∧m=m∧True∧∀(i:Nat),ilt (Int.ofNat i) m=true→IntKind.i64=IntKind.i64∧l (Int.ofNat i) 0=l (Int.ofNat i) 0)∧(true=true∧1000000000000000=1000000000000000∧n=subZ n i_1)∧(true=true∧Value.slice Option.none 0 0=Value.slice Option.none 0 0)∧(true=true∧IntKind.i64=IntKind.i64∧(0:Int)=i_1)∧True)∧(1=1∧n=subZ n i_1∧True∧∀(i_2:Nat),ilt (Int.ofNat i_2) n=true→IntKind.i64=IntKind.i64∧pfV i (Int.ofNat i_2)=pmR m l n i_1 (Int.ofNat i_2))∧True)∨(∃(i_1:Int),pmG1 n i_1∧True∧true=true∧((true=true∧1=1∧m=m∧True∧∀(i:Nat),ilt (Int.ofNat i) m=true→IntKind.i64=IntKind.i64∧l (Int.ofNat i) 0=l (Int.ofNat i) 0)∧(true=true∧1000000000000000=1000000000000000∧n=subZ n i_1)∧(true=true∧False)∧(true=true∧IntKind.i64=IntKind.i64∧(0:Int)=i_1)∧True)∧(1=1∧n=subZ n i_1∧True∧∀(i_2:Nat),ilt (Int.ofNat i_2) n=true→IntKind.i64=IntKind.i64∧pfV i (Int.ofNat i_2)=pmR m l n i_1 (Int.ofNat i_2))∧False∧True)∨False)∧(∀(i:Int),pmG0 n i→∀(i_1:Int),i_1=subZ n i→True∧ja0 (igt i_1 0) (∀(i_2:Int),i_2=atV m (l i 0) i→∀(i_3:Int),i_3=subZ n i→∀(i_4:Int),i_4=gmod i_2 i_3→(jb8 i_3=true∧intRow IntKind.i64 1 m (QR.Row.fn fun (a:Int) (b:Nat)=>CV.v (Value.int .i64 (l a b)))∧True)∧(true=true∧ile 0 i_4=true∧ilt i_4 (subZ n i)=true∧True)∧(ile (jd2 (addZ (subZ i_4 0) (subZ (subZ n i) (iadd IntKind.i64 i_4 1))) 8) 140737488355328=true∧ile 0 (iadd IntKind.i64 i_4 1)=true∧ile (iadd IntKind.i64 i_4 1) (subZ n i)=true∧ile (subZ n i) (subZ n i)=true∧ile (jd2 (subZ i_4 0) 8) 140737488355328=true∧true=true∧ile 0 i_4=true∧ile i_4 (subZ n i)=true∧True)∧True∧((∃(i_5:Int),pmG0 n i_5∧(True∧true=true∧((true=true∧1=1∧m=m∧True∧∀(i:Nat),ilt (Int.ofNat i) m=true→IntKind.i64=IntKind.i64∧l (Int.ofNat i) 0=l (Int.ofNat i) 0)∧(true=true∧8402952=8402952∧addZ (subZ i_4 0) (subZ (subZ n i) (iadd IntKind.i64 i_4 1))=subZ n i_5)∧(true=true∧False)∧(true=true∧IntKind.i64=IntKind.i64∧iadd IntKind.i64 i 1=i_5)∧True)∧(1=1∧addZ (subZ i_4 0) (subZ (subZ n i) (iadd IntKind.i64 i_4 1))=subZ n i_5∧True∧∀(i_6:Nat),ilt (Int.ofNat i_6) (addZ (subZ i_4 0) (subZ (subZ n i) (iadd IntKind.i64 i_4 1)))=true→IntKind.i64=IntKind.i64∧isel (ilt (Int.ofNat i_6) (subZ i_4 0)) (pmR m l n i (addZ (Int.ofNat i_6) 0)) (pmR m l n i (addZ (subZ (Int.ofNat i_6) (subZ i_4 0)) (iadd IntKind.i64 i_4 1)))=pmR m l n i_5 (Int.ofNat i_6))∧True)∧Nat.le (Nat.succ (pfMu n i_5)) (pfMu n i))∨(∃(i_5:Int),pmG1 n i_5∧(True∧true=true∧((true=true∧1=1∧m=m∧True∧∀(i:Nat),ilt (Int.ofNat i) m=true→IntKind.i64=IntKind.i64∧l (Int.ofNat i) 0=l (Int.ofNat i) 0)∧(true=true∧8402952=8402952∧addZ (subZ i_4 0) (subZ (subZ n i) (iadd IntKind.i64 i_4 1))=subZ n i_5)∧(true=true∧8401926=8401926∧1=i_5)∧(true=true∧IntKind.i64=IntKind.i64∧iadd IntKind.i64 i 1=i_5)∧True)∧(1=1∧addZ (subZ i_4 0) (subZ (subZ n i) (iadd IntKind.i64 i_4 1))=subZ n i_5∧True∧∀(i_6:Nat),ilt (Int.ofNat i_6) (addZ (subZ i_4 0) (subZ (subZ n i) (iadd IntKind.i64 i_4 1)))=true→IntKind.i64=IntKind.i64∧isel (ilt (Int.ofNat i_6) (subZ i_4 0)) (pmR m l n i (addZ (Int.ofNat i_6) 0)) (pmR m l n i (addZ (subZ (Int.ofNat i_6) (subZ i_4 0)) (iadd IntKind.i64 i_4 1)))=pmR m l n i_5 (Int.ofNat i_6))∧(1=1∧1=i_5∧True∧∀(i_6:Nat),ilt (Int.ofNat i_6) 1=true→IntKind.i64=IntKind.i64∧isel (ieq (Int.ofNat i_6) 0) (pmR m l n i i_4) 0=pmO m l n i_5 (Int.ofNat i_6))∧True)∧Nat.le (Nat.succ (pfMu n i_5)) (pfMu n i))∨False)) (True∧True∧V [XV.c (CV.v (Value.slice Option.none 0 0))] []))∧(∀(i:Int),pmG1 n i→∀(i_1:Int),i_1=subZ n i→True∧ja0 (igt i_1 0) (∀(i_2:Int),i_2=atV m (l i 0) i→∀(i_3:Int),i_3=subZ n i→∀(i_4:Int),i_4=gmod i_2 i_3→(jb8 i_3=true∧intRow IntKind.i64 1 m (QR.Row.fn fun (a:Int) (b:Nat)=>CV.v (Value.int .i64 (l a b)))∧True)∧(ile (jd2 (addZ i 1) 8) 140737488355328=true∧ile 0 i_4=true∧ilt i_4 (subZ n i)=true∧True)∧(ile (jd2 (addZ (subZ i_4 0) (subZ (subZ n i) (iadd IntKind.i64 i_4 1))) 8) 140737488355328=true∧ile 0 (iadd IntKind.i64 i_4 1)=true∧ile (iadd IntKind.i64 i_4 1) (subZ n i)=true∧ile (subZ n i) (subZ n i)=true∧ile (jd2 (subZ i_4 0) 8) 140737488355328=true∧true=true∧ile 0 i_4=true∧ile i_4 (subZ n i)=true∧True)∧True∧((∃(i_5:Int),pmG0 n i_5∧(True∧true=true∧((true=true∧1=1∧m=m∧True∧∀(i:Nat),ilt (Int.ofNat i) m=true→IntKind.i64=IntKind.i64∧l (Int.ofNat i) 0=l (Int.ofNat i) 0)∧(true=true∧8402952=8402952∧addZ (subZ i_4 0) (subZ (subZ n i) (iadd IntKind.i64 i_4 1))=subZ n i_5)∧(true=true∧False)∧(true=true∧IntKind.i64=IntKind.i64∧iadd IntKind.i64 i 1=i_5)∧True)∧(1=1∧addZ (subZ i_4 0) (subZ (subZ n i) (iadd IntKind.i64 i_4 1))=subZ n i_5∧True∧∀(i_6:Nat),ilt (Int.ofNat i_6) (addZ (subZ i_4 0) (subZ (subZ n i) (iadd IntKind.i64 i_4 1)))=true→IntKind.i64=IntKind.i64∧isel (ilt (Int.ofNat i_6) (subZ i_4 0)) (pmR m l n i (addZ (Int.ofNat i_6) 0)) (pmR m l n i (addZ (subZ (Int.ofNat i_6) (subZ i_4 0)) (iadd IntKind.i64 i_4 1)))=pmR m l n i_5 (Int.ofNat i_6))∧True)∧Nat.le (Nat.succ (pfMu n i_5)) (pfMu n i))∨(∃(i_5:Int),pmG1 n i_5∧(True∧true=true∧((true=true∧1=1∧m=m∧True∧∀(i:Nat),ilt (Int.ofNat i) m=true→IntKind.i64=IntKind.i64∧l (Int.ofNat i) 0=l (Int.ofNat i) 0)∧(true=true∧8402952=8402952∧addZ (subZ i_4 0) (subZ (subZ n i) (iadd IntKind.i64 i_4 1))=subZ n i_5)∧(true=true∧8401926=8401926∧addZ i 1=i_5)∧(true=true∧IntKind.i64=IntKind.i64∧iadd IntKind.i64 i 1=i_5)∧True)∧(1=1∧addZ (subZ i_4 0) (subZ (subZ n i) (iadd IntKind.i64 i_4 1))=subZ n i_5∧True∧∀(i_6:Nat),ilt (Int.ofNat i_6) (addZ (subZ i_4 0) (subZ (subZ n i) (iadd IntKind.i64 i_4 1)))=true→IntKind.i64=IntKind.i64∧isel (ilt (Int.ofNat i_6) (subZ i_4 0)) (pmR m l n i (addZ (Int.ofNat i_6) 0)) (pmR m l n i (addZ (subZ (Int.ofNat i_6) (subZ i_4 0)) (iadd IntKind.i64 i_4 1)))=pmR m l n i_5 (Int.ofNat i_6))∧(1=1∧addZ i 1=i_5∧True∧∀(i_6:Nat),ilt (Int.ofNat i_6) (addZ i 1)=true→IntKind.i64=IntKind.i64∧isel (ilt (Int.ofNat i_6) i) (pmO m l n i (Int.ofNat i_6)) (isel (ieq (subZ (Int.ofNat i_6) i) 0) (pmR m l n i i_4) 0)=pmO m l n i_5 (Int.ofNat i_6))∧True)∧Nat.le (Nat.succ (pfMu n i_5)) (pfMu n i))∨False)) (True∧True∧V [XV.c (CV.fresh 1 i (QR.Row.fn fun (a:Int) (b:Nat)=>CV.v (Value.int .i64 (pmO m l n i a))))] []))∧True)))):=by
  try delta vj5
  try delta q70
  try delta qs2
  try delta qs3
  try delta s_at
  try delta jj8
  generalize @atV=atV
  generalize @gmod=gmod
  generalize @intRow=intRow
  generalize @jb8=jb8
  generalize @qx4=qx4
  generalize @pfMu=pfMu
  generalize @pfV=pfV
  generalize @pmG0=pmG0
  generalize @pmG1=pmG1
  generalize @pmO=pmO
  generalize @pmR=pmR
  kernel_rfl
end Go.Proofs.YthkidembkknoeaaDoor
namespace Go.Proofs.YthkidembkknoeaaDoor
open Go.RowKit PR QR
set_option linter.unusedVariables false
set_option linter.unusedSimpArgs false
set_option maxRecDepth 20000
theorem vt1 (l:Int→Nat→Int) (i:Int):orW 0 l i=i:=by unfold orW;rw [if_pos rfl]
theorem za6 {m:Int} (h:0 < m) (l:Int→Nat→Int) (i:Int):orW m l i=l i 0:=by unfold orW;rw [if_neg (by omega)]
theorem qs1 {m:Int} {l:Int→Nat→Int} {i k:Int}:orS m l i k=true↔∃j:Int,0≤j∧j < i∧orW m l j=k:=by unfold orS;rw [@decide_eq_true_eq _ (Classical.propDecidable _)]
theorem zf3 (m:Int) (l:Int→Nat→Int) (k:Int):orS m l 0 k=false:=by
  rw [← Bool.not_eq_true,qs1]
  rintro ⟨j,h0,h1,_⟩
  omega
theorem ym2 {m:Int} {l:Int→Nat→Int} {i:Int} (h:0≤i) (k:Int):bsel (ieq k (orW m l i)) true (orS m l i k)=orS m l (i + 1) k:=by
  rw [Bool.eq_iff_iff,qs1]
  cases e:ieq k (orW m l i)
  · rw [show bsel false true (orS m l i k)=orS m l i k from rfl,qs1]
    have ne:k≠orW m l i:=by unfold ieq at e;exact of_decide_eq_false (by simpa using e)
    constructor
    · rintro ⟨j,h0,h1,h2⟩
      exact ⟨j,h0,by omega,h2⟩
    · rintro ⟨j,h0,h1,h2⟩
      refine ⟨j,h0,?_,h2⟩
      have:j≠i:=fun q=>ne (by rw [← h2,q])
      omega
  · have eq:k=orW m l i:=by unfold ieq at e;simpa using e
    rw [show bsel true true (orS m l i k)=true from rfl]
    exact ⟨fun _=>⟨i,h,by omega,eq.symm⟩,fun _=>rfl⟩
theorem y05 {m:Int} {l:Int→Nat→Int} {n i:Int} (h:orI m l n i) (lt:i < n) (k0:0≤orW m l i) (k1:orW m l i < n) (k2:orS m l i (orW m l i)=false):orI m l n (i + 1):=by
  obtain ⟨⟨i0,i1⟩,hi⟩:=h
  refine ⟨⟨by omega,by omega⟩,fun j j0 j1=>?_⟩
  by_cases e:j < i
  · exact hi j j0 e
  · obtain rfl:j=i:=by omega
    refine ⟨⟨k0,k1⟩,fun k h0 h1 e=>?_⟩
    rw [← Bool.not_eq_true,qs1] at k2
    exact k2 ⟨k,h0,h1,e⟩
theorem y06 {m:Int} {l:Int→Nat→Int} {n i:Int} (h:orI m l n n) (i0:0≤i) (lt:i < n):(0≤orW m l i∧orW m l i < n)∧orS m l i (orW m l i)=false:=by
  obtain ⟨h0,h1⟩:=h.2 i i0 lt
  refine ⟨h0,?_⟩
  rw [← Bool.not_eq_true,qs1]
  rintro ⟨j,j0,j1,e⟩
  exact h1 j j0 j1 e
theorem qg4 {m:Int} {l:Int→Nat→Int} {n:Int}:orB m l n=true↔(0≤n∧n≤16777216)∧(m=0∨m=n)∧orI m l n n:=by unfold orB;rw [@decide_eq_true_eq _ (Classical.propDecidable _)]
theorem za7 {m:Int} {l:Int→Nat→Int} {n:Int} (h:¬ ((0≤n∧n≤16777216)∧(m=0∨m=n)∧orI m l n n)):orB m l n=false:=by rw [← Bool.not_eq_true,qg4];exact h
end Go.Proofs.YthkidembkknoeaaDoor
namespace Go.Proofs.YthkidembkknoeaaDoor
open Go.RowKit PR QR
set_option linter.unusedVariables false
set_option linter.unusedSimpArgs false
set_option maxRecDepth 20000
theorem jw0:∀(l:List Int) (k:Nat) (h:k < l.length),(l[k] :: l.eraseIdx k).Perm l
  | x :: l,0,_=>List.Perm.refl _
  | x :: l,k + 1,h=>by
    have ih:=jw0 l k (by simpa using h)
    exact (List.Perm.swap _ _ _).trans (ih.cons x)
def pmK (g:Nat→Int) (n i:Nat):Nat:=(gmod (g i) (pmS g n i).2.length).toNat
theorem ve2 (g:Nat→Int) (n:Nat):∀i,i≤n→(pmS g n i).1.length=i∧(pmS g n i).2.length=n - i
  | 0,_=>by simp [pmS]
  | i + 1,h=>by
    obtain ⟨h1,h2⟩:=ve2 g n i (by omega)
    have r:=jc2 (g i) (k:=((pmS g n i).2.length:Int)) (by omega)
    have hk:(gmod (g i) (pmS g n i).2.length).toNat < (pmS g n i).2.length:=by omega
    refine ⟨by simp [pmS,h1],?_⟩
    show ((pmS g n i).2.eraseIdx _).length=_
    rw [List.length_eraseIdx_of_lt hk]
    omega
theorem pm_k (g:Nat→Int) {n i:Nat} (h:i < n):pmK g n i < (pmS g n i).2.length∧pmK g n i < n - i:=by
  have l:=ve2 g n i (by omega)
  have r:=jc2 (g i) (k:=((pmS g n i).2.length:Int)) (by omega)
  unfold pmK
  omega
theorem yd2 (g:Nat→Int) (n:Nat):∀i,i≤n→((pmS g n i).1 ++ (pmS g n i).2).Perm ((List.range n).map Int.ofNat)
  | 0,_=>by simp [pmS]
  | i + 1,h=>by
    have ih:=yd2 g n i (by omega)
    obtain ⟨hk,_⟩:=pm_k g (show i < n by omega)
    refine List.Perm.trans ?_ ih
    show (((pmS g n i).1 ++ [(pmS g n i).2.getD (pmK g n i) 0]) ++ (pmS g n i).2.eraseIdx (pmK g n i)).Perm _
    rw [List.append_assoc]
    refine List.Perm.append_left _ ?_
    have e:(pmS g n i).2.getD (pmK g n i) 0=(pmS g n i).2[pmK g n i]:=by simp [List.getD,hk]
    rw [e]
    exact jw0 _ _ hk
theorem y07 (g:Nat→Int) (n:Nat):(pmS g n n).1.length=n∧((pmS g n n).1).Perm ((List.range n).map Int.ofNat):=by
  obtain ⟨h1,h2⟩:=ve2 g n n (Nat.le_refl n)
  have h:=yd2 g n n (Nat.le_refl n)
  rw [List.eq_nil_of_length_eq_zero (show (pmS g n n).2.length=0 by omega),List.append_nil] at h
  exact ⟨h1,h⟩
theorem ve3 (n:Nat):((List.range n).map Int.ofNat).Nodup:=by
  rw [List.nodup_iff_pairwise_ne,List.pairwise_map]
  exact (List.nodup_iff_pairwise_ne.1 List.nodup_range).imp fun h e=>h (Int.ofNat.inj e)
theorem ym6 (m:Int) (l:Int→Nat→Int) {n:Int} (h0:1≤n):orI n (fun i _=>pmO m l n n i) n n:=by
  obtain ⟨hl,hp⟩:=y07 (pmA m l) n.toNat
  have hw:∀i,orW n (fun i _=>pmO m l n n i) i=pmO m l n n i:=fun i=>by unfold orW;rw [if_neg (by omega)]
  have nd:(pmS (pmA m l) n.toNat n.toNat).1.Nodup:=hp.symm.nodup (ve3 _)
  have at':∀i:Int,0≤i→i < n→∃h:i.toNat < (pmS (pmA m l) n.toNat n.toNat).1.length,pmO m l n n i=(pmS (pmA m l) n.toNat n.toNat).1[i.toNat]:=fun i i0 i1=>⟨by omega,by unfold pmO;simp [List.getD,hl,show i.toNat < n.toNat by omega]⟩
  refine ⟨⟨by omega,Int.le_refl n⟩,fun j j0 j1=>⟨?_,fun k k0 k1=>?_⟩⟩
  · rw [hw]
    obtain ⟨hj,e⟩:=at' j j0 j1
    rw [e]
    have:=hp.mem_iff.1 (List.getElem_mem hj)
    simp only [List.mem_map,List.mem_range] at this
    obtain ⟨a,ha,e2⟩:=this
    rw [← e2]
    constructor
    · exact Int.natCast_nonneg a
    · show (a:Int) < n
      omega
  · rw [hw,hw]
    obtain ⟨hj,e⟩:=at' j j0 j1
    obtain ⟨hk,e2⟩:=at' k k0 (by omega)
    rw [e,e2]
    exact fun e3=>List.pairwise_iff_getElem.1 nd k.toNat j.toNat hk hj (by omega) e3
def pmKI (m:Int) (l:Int→Nat→Int) (n i:Int):Int:=gmod (pmA m l i.toNat) (n - i)
theorem vo4 (m:Int) (l:Int→Nat→Int) {n i:Int} (h0:0≤i) (h1:i < n):(pmKI m l n i).toNat=pmK (pmA m l) n.toNat i.toNat∧0≤pmKI m l n i∧pmKI m l n i < n - i:=by
  have hl:=(ve2 (pmA m l) n.toNat i.toNat (by omega)).2
  have r:=jc2 (pmA m l i.toNat) (k:=n - i) (by omega)
  refine ⟨?_,r.1,r.2⟩
  unfold pmKI pmK
  rw [hl,show ((n.toNat - i.toNat:Nat):Int)=n - i by omega]
theorem vo5 (m:Int) (l:Int→Nat→Int) {n i a:Int} (h0:0≤i) (h1:i < n) (a0:0≤a) (a1:a < i + 1):(if a < i then pmO m l n i a else pmR m l n i (pmKI m l n i))=pmO m l n (i + 1) a:=by
  have hl:=(ve2 (pmA m l) n.toNat i.toNat (by omega)).1
  have e:(pmS (pmA m l) n.toNat (i + 1).toNat).1=(pmS (pmA m l) n.toNat i.toNat).1 ++ [(pmS (pmA m l) n.toNat i.toNat).2.getD (pmK (pmA m l) n.toNat i.toNat) 0]:=by
    rw [show (i + 1).toNat=i.toNat + 1 by omega];rfl
  unfold pmO
  rw [e]
  simp only [List.getD_eq_getElem?_getD,List.getElem?_append,hl]
  by_cases c:a < i
  · rw [if_pos c,if_pos (by omega)]
  · rw [if_neg c,if_neg (by omega),show a.toNat - i.toNat=0 by omega]
    unfold pmR
    rw [(vo4 m l h0 h1).1]
    simp [List.getD_eq_getElem?_getD]
theorem ym7 (m:Int) (l:Int→Nat→Int) {n i a:Int} (h0:0≤i) (h1:i < n) (a0:0≤a):(if a < pmKI m l n i then pmR m l n i a else pmR m l n i (a + 1))=pmR m l n (i + 1) a:=by
  have e:(pmS (pmA m l) n.toNat (i + 1).toNat).2=(pmS (pmA m l) n.toNat i.toNat).2.eraseIdx (pmK (pmA m l) n.toNat i.toNat):=by
    rw [show (i + 1).toNat=i.toNat + 1 by omega];rfl
  obtain ⟨k1,k2,k3⟩:=vo4 m l h0 h1
  unfold pmR
  rw [e]
  simp only [List.getD_eq_getElem?_getD,List.getElem?_eraseIdx,← k1]
  by_cases c:a < pmKI m l n i
  · rw [if_pos c,if_pos (by omega)]
  · rw [if_neg c,if_neg (by omega),show (a + 1).toNat=a.toNat + 1 by omega]
theorem zf4 (m:Int) (l:Int→Nat→Int) {n a:Int} (h0:0≤a) (h1:a < n):pmR m l n 0 a=a:=by
  unfold pmR
  show (((List.range n.toNat).map Int.ofNat).getD a.toNat 0)=a
  simp [List.getD_eq_getElem?_getD,show a.toNat < n.toNat by omega]
  omega
end Go.Proofs.YthkidembkknoeaaDoor
namespace Go.Proofs.YthkidembkknoeaaDoor
open Go.RowKit PR QR
set_option linter.unusedVariables false
set_option linter.unusedSimpArgs false
noncomputable def orP (m:Int) (l:Int→Nat→Int) (n:Int):Bool:=@decide (m=n∧orI m l n n) (Classical.propDecidable _)
def orA (i a:Int):Int:=isel (ilt a i) a 0
def orT (n i:Int):Prop:=0≤i∧i≤n
noncomputable def vo6:List AV→Option QR.Ans
  | [.x (.c c),.x (.c (.v (.int .i64 n)))]=>match jf4 1 c with
    | some (m,r)=>some ⟨[.c (.v (.bool (orP m (fun i _=>intC (den r i 0)) n)))],[],[intRow .i64 1 m r,ilt 0 m=true,ile 0 n=true,ile n 16777216=true]⟩
    | none=>none
  | _=>none
noncomputable def q71 (m:Int) (l:Int→Nat→Int) (n:Int):QR.Inv where
  ι:=Int
  good i:=orI m l n i
  slots i:=QR.slotsOf Tryd.f79.ntmps [(0,.x (.c (.slc 1 m (.fn fun a b=>.v (.int .i64 (l a b)))))),(1,.x (.c (.v (.int .i64 n)))),(4,.x (.c (.v (.bool false)))),(5,.x (.c (.own 1000000000000000 n))),(14,.x (.c (.slc 1 m (.fn fun a b=>.v (.int .i64 (l a b)))))),(15,.x (.c (.v (.int .i64 m)))),(16,.x (.c (.v (.int .i64 i))))]
  blocks i:=[(1000000000000000,.row 1 n (.fn fun a b=>.v (.bool (orS m l i a))))]
  μ i:=orMu n i
noncomputable def q72 (m:Int) (l:Int→Nat→Int) (n:Int):QR.Inv where
  ι:=Int
  good i:=orT n i
  slots i:=QR.slotsOf Tryd.f60.ntmps [(0,.x (.c (.slc 1 m (.fn fun a b=>.v (.int .i64 (l a b)))))),(1,.x (.c (.v (.int .i64 n)))),(4,.x (.c (.v (.slice none 0 0)))),(5,.x (.c (.v (.bool false)))),(6,.x (.c (.own 1000000000000000 n))),(33,.x (.c (.v (.int .i64 n)))),(34,.x (.c (.v (.int .i64 i))))]
  blocks i:=[(1000000000000000,.row 1 n (.fn fun a b=>.v (.int .i64 (orA i a))))]
  μ i:=orMu n i
noncomputable def q73:QR.ja7:=QR.orc [(79,vo6)]
set_option maxRecDepth 100000 in
theorem y11 (m:Int) (l:Int→Nat→Int) (n:Int) (V:List QR.XV→List (List QR.CV)→Prop):QR.ja5 Tryd.prog (QR.orc []) (fun k=>bif Nat.beq k 5 then some (.invs [q71 m l n]) else none) (Tryd.f79.body.getD .skip) Tryd.f79.results.toList Tryd.f79.ntmps [.x (.c (.slc 1 m (.fn fun i j=>.v (.int .i64 (l i j))))),.x (.c (.v (.int .i64 n)))] V=(True∧∀(i:Int),i=m→True∧ja0 (ine i n) (True∧True∧V [XV.c (CV.v (Value.bool false))] []) ((ile 0 n=true∧ile n n=true∧ile (jd2 n 1) 140737488355328=true∧ile n 140737488355328=true∧True)∧∀(i:Int),i=m→True∧((∃(i_1:Int),orI m l n i_1∧True∧true=true∧((true=true∧1=1∧m=m∧True∧∀(i:Nat),ilt (Int.ofNat i) m=true→IntKind.i64=IntKind.i64∧l (Int.ofNat i) 0=l (Int.ofNat i) 0)∧(true=true∧IntKind.i64=IntKind.i64∧n=n)∧(true=true∧false=false)∧(true=true∧3073=3073∧n=n)∧(true=true∧1=1∧m=m∧True∧∀(i:Nat),ilt (Int.ofNat i) m=true→IntKind.i64=IntKind.i64∧l (Int.ofNat i) 0=l (Int.ofNat i) 0)∧(true=true∧IntKind.i64=IntKind.i64∧i=m)∧(true=true∧IntKind.i64=IntKind.i64∧(0:Int)=i_1)∧True)∧(1=1∧n=n∧True∧∀(i:Nat),ilt (Int.ofNat i) n=true→false=orS m l i_1 (Int.ofNat i))∧True)∨False)∧(∀(i:Int),orI m l n i→True∧ja0 (ilt i m) ((ile 0 i=true∧ilt i m=true∧True)∧ja0 (ilt (l i 0) 0) (True∧True∧True∧V [XV.c (CV.v (Value.bool false))] []) (ja0 (ige (l i 0) n) (True∧True∧True∧V [XV.c (CV.v (Value.bool false))] []) ((ile 0 (l i 0)=true∧ilt (l i 0) n=true∧True)∧ja0 (orS m l i (l i 0)) (True∧True∧V [XV.c (CV.v (Value.bool false))] []) ((ile 0 (l i 0)=true∧ilt (l i 0) n=true∧True)∧True∧((∃(i_1:Int),orI m l n i_1∧(True∧true=true∧((true=true∧1=1∧m=m∧True∧∀(i:Nat),ilt (Int.ofNat i) m=true→IntKind.i64=IntKind.i64∧l (Int.ofNat i) 0=l (Int.ofNat i) 0)∧(true=true∧IntKind.i64=IntKind.i64∧n=n)∧(true=true∧false=false)∧(true=true∧1000000000000000=1000000000000000∧n=n)∧(true=true∧1=1∧m=m∧True∧∀(i:Nat),ilt (Int.ofNat i) m=true→IntKind.i64=IntKind.i64∧l (Int.ofNat i) 0=l (Int.ofNat i) 0)∧(true=true∧IntKind.i64=IntKind.i64∧m=m)∧(true=true∧IntKind.i64=IntKind.i64∧iadd IntKind.i64 i 1=i_1)∧True)∧(1=1∧n=n∧True∧∀(i_2:Nat),ilt (Int.ofNat i_2) n=true→bsel (ieq (Int.ofNat i_2) (l i 0)) true (orS m l i (Int.ofNat i_2))=orS m l i_1 (Int.ofNat i_2))∧True)∧Nat.le (Nat.succ (orMu n i_1)) (orMu n i))∨False))))) (True∧True∧V [XV.c (CV.v (Value.bool true))] []))∧True)):=by
  try delta q71
  generalize @orI=orI
  generalize @orMu=orMu
  generalize @orS=orS
  kernel_rfl
set_option maxRecDepth 100000 in
theorem yd4 (m:Int) (l:Int→Nat→Int) (n:Int) (V:List QR.XV→List (List QR.CV)→Prop):QR.ja5 Tryd.prog (q73) (fun k=>bif Nat.beq k 10 then some (.invs [q72 m l n]) else none) (Tryd.f60.body.getD .skip) Tryd.f60.results.toList Tryd.f60.ntmps [.x (.c (.slc 1 m (.fn fun i j=>.v (.int .i64 (l i j))))),.x (.c (.v (.int .i64 n)))] V=(True∧ja0 (ilt n 0) (True∧True∧True∧V [XV.c (CV.v (Value.slice Option.none 0 0)),XV.c (CV.v (Value.bool false))] []) (True∧ja0 (igt n 16777216) (True∧True∧V [XV.c (CV.v (Value.slice Option.none 0 0)),XV.c (CV.v (Value.bool false))] []) (∀(i:Int),i=m→ja0 (ine i 0) ((intRow IntKind.i64 1 m (QR.Row.fn fun (i:Int) (j:Nat)=>CV.v (Value.int .i64 (l i j)))∧ilt 0 m=true∧ile 0 n=true∧ile n 16777216=true∧True)∧ja0 (bnot (orP m (fun (i:Int) (x:Nat)=>l i 0) n)) (True∧True∧V [XV.c (CV.v (Value.slice Option.none 0 0)),XV.c (CV.v (Value.bool false))] []) ((ile 0 n=true∧ile n n=true∧ile (jd2 n 8) 140737488355328=true∧ile n 140737488355328=true∧True)∧∀(i:Int),i=m→True∧ja0 (ine i 0) (∀(i:Int),i=jf3 n m→True∧True∧True∧V [XV.c (CV.fresh 1 n (QR.Row.app (QR.Row.app (QR.Row.zer [Value.int .i64 0]) 0 (QR.Row.fn fun (i:Int) (j:Nat)=>CV.v (Value.int .i64 (l i j)))) (addZ 0 (jf3 n m)) (QR.Row.sub (QR.Row.zer [Value.int .i64 0]) (addZ 0 (jf3 n m))))),XV.c (CV.v (Value.bool true))] []) (∀(i:Int),i=n→True∧((∃(i_1:Int),orT n i_1∧True∧true=true∧((true=true∧1=1∧m=m∧True∧∀(i:Nat),ilt (Int.ofNat i) m=true→IntKind.i64=IntKind.i64∧l (Int.ofNat i) 0=l (Int.ofNat i) 0)∧(true=true∧IntKind.i64=IntKind.i64∧n=n)∧(true=true∧Value.slice Option.none 0 0=Value.slice Option.none 0 0)∧(true=true∧false=false)∧(true=true∧5121=5121∧n=n)∧(true=true∧IntKind.i64=IntKind.i64∧i=n)∧(true=true∧IntKind.i64=IntKind.i64∧(0:Int)=i_1)∧True)∧(1=1∧n=n∧True∧∀(i:Nat),ilt (Int.ofNat i) n=true→IntKind.i64=IntKind.i64∧(0:Int)=orA i_1 (Int.ofNat i))∧True)∨False)∧(∀(i:Int),orT n i→True∧ja0 (ilt i n) (True∧(ile 0 i=true∧ilt i n=true∧True)∧True∧((∃(i_1:Int),orT n i_1∧(True∧true=true∧((true=true∧1=1∧m=m∧True∧∀(i:Nat),ilt (Int.ofNat i) m=true→IntKind.i64=IntKind.i64∧l (Int.ofNat i) 0=l (Int.ofNat i) 0)∧(true=true∧IntKind.i64=IntKind.i64∧n=n)∧(true=true∧Value.slice Option.none 0 0=Value.slice Option.none 0 0)∧(true=true∧false=false)∧(true=true∧1000000000000000=1000000000000000∧n=n)∧(true=true∧IntKind.i64=IntKind.i64∧n=n)∧(true=true∧IntKind.i64=IntKind.i64∧iadd IntKind.i64 i 1=i_1)∧True)∧(1=1∧n=n∧True∧∀(i_2:Nat),ilt (Int.ofNat i_2) n=true→IntKind.i64=IntKind.i64∧isel (ieq (Int.ofNat i_2) i) i (orA i (Int.ofNat i_2))=orA i_1 (Int.ofNat i_2))∧True)∧Nat.le (Nat.succ (orMu n i_1)) (orMu n i))∨False)) (True∧True∧V [XV.c (CV.fresh 1 n (QR.Row.fn fun (a:Int) (b:Nat)=>CV.v (Value.int .i64 (orA i a)))),XV.c (CV.v (Value.bool true))] []))∧True))) (True∧(ile 0 n=true∧ile n n=true∧ile (jd2 n 8) 140737488355328=true∧ile n 140737488355328=true∧True)∧∀(i:Int),i=m→True∧ja0 (ine i 0) (∀(i:Int),i=jf3 n m→True∧True∧True∧V [XV.c (CV.fresh 1 n (QR.Row.app (QR.Row.app (QR.Row.zer [Value.int .i64 0]) 0 (QR.Row.fn fun (i:Int) (j:Nat)=>CV.v (Value.int .i64 (l i j)))) (addZ 0 (jf3 n m)) (QR.Row.sub (QR.Row.zer [Value.int .i64 0]) (addZ 0 (jf3 n m))))),XV.c (CV.v (Value.bool true))] []) (∀(i:Int),i=n→True∧((∃(i_1:Int),orT n i_1∧True∧true=true∧((true=true∧1=1∧m=m∧True∧∀(i:Nat),ilt (Int.ofNat i) m=true→IntKind.i64=IntKind.i64∧l (Int.ofNat i) 0=l (Int.ofNat i) 0)∧(true=true∧IntKind.i64=IntKind.i64∧n=n)∧(true=true∧Value.slice Option.none 0 0=Value.slice Option.none 0 0)∧(true=true∧false=false)∧(true=true∧5121=5121∧n=n)∧(true=true∧IntKind.i64=IntKind.i64∧i=n)∧(true=true∧IntKind.i64=IntKind.i64∧(0:Int)=i_1)∧True)∧(1=1∧n=n∧True∧∀(i:Nat),ilt (Int.ofNat i) n=true→IntKind.i64=IntKind.i64∧(0:Int)=orA i_1 (Int.ofNat i))∧True)∨False)∧(∀(i:Int),orT n i→True∧ja0 (ilt i n) (True∧(ile 0 i=true∧ilt i n=true∧True)∧True∧((∃(i_1:Int),orT n i_1∧(True∧true=true∧((true=true∧1=1∧m=m∧True∧∀(i:Nat),ilt (Int.ofNat i) m=true→IntKind.i64=IntKind.i64∧l (Int.ofNat i) 0=l (Int.ofNat i) 0)∧(true=true∧IntKind.i64=IntKind.i64∧n=n)∧(true=true∧Value.slice Option.none 0 0=Value.slice Option.none 0 0)∧(true=true∧false=false)∧(true=true∧1000000000000000=1000000000000000∧n=n)∧(true=true∧IntKind.i64=IntKind.i64∧n=n)∧(true=true∧IntKind.i64=IntKind.i64∧iadd IntKind.i64 i 1=i_1)∧True)∧(1=1∧n=n∧True∧∀(i_2:Nat),ilt (Int.ofNat i_2) n=true→IntKind.i64=IntKind.i64∧isel (ieq (Int.ofNat i_2) i) i (orA i (Int.ofNat i_2))=orA i_1 (Int.ofNat i_2))∧True)∧Nat.le (Nat.succ (orMu n i_1)) (orMu n i))∨False)) (True∧True∧V [XV.c (CV.fresh 1 n (QR.Row.fn fun (a:Int) (b:Nat)=>CV.v (Value.int .i64 (orA i a)))),XV.c (CV.v (Value.bool true))] []))∧True))))):=by
  try delta q73
  try delta q72
  try delta vo6
  generalize @jf3=jf3
  generalize @intRow=intRow
  generalize @orA=orA
  generalize @orMu=orMu
  generalize @orP=orP
  generalize @orT=orT
  kernel_rfl
end Go.Proofs.YthkidembkknoeaaDoor
namespace Go.Proofs.YthkidembkknoeaaDoor
open Go.RowKit PR QR
set_option linter.unusedVariables false
set_option linter.unusedSimpArgs false
set_option maxRecDepth 20000
theorem vj6 {m:Int} {l:Int→Nat→Int} {n:Int}:orP m l n=true↔m=n∧orI m l n n:=by unfold orP;rw [@decide_eq_true_eq _ (Classical.propDecidable _)]
theorem za8 {m:Int} {l:Int→Nat→Int} {n:Int} (h:¬ (m=n∧orI m l n n)):orP m l n=false:=by rw [← Bool.not_eq_true,vj6];exact h
theorem ym8 {m n:Int} (hm:0 < m) (hn:0≤n) (hn':n≤16777216) (l:Int→Nat→Int) (A:List Prop):jk0 Tryd.prog 79 [.x (.c (.slc 1 m (.fn fun i j=>.v (.int .i64 (l i j))))),.x (.c (.v (.int .i64 n)))] ⟨[.c (.v (.bool (orP m l n)))],[],A⟩:=by
  refine QR.ja2 (O:=QR.orc []) QR.jb4 mixed (fun k=>bif Nat.beq k 5 then some (.invs [q71 m l n]) else none) Tryd.func79 (by kernel_rfl) (by kernel_rfl) (by simp) ?_
  rw [y11]
  try dsimp only
  have VF:orP m l n=false→jb5 ⟨[.c (.v (.bool (orP m l n)))],[],A⟩ [.c (.v (.bool false))] []:=fun hb=>by
    simp [jb5,eqXs,eqX,eqo,eqLo,eqL,eqc,veq,eqUs,hb]
  have VT:orP m l n=true→jb5 ⟨[.c (.v (.bool (orP m l n)))],[],A⟩ [.c (.v (.bool true))] []:=fun hb=>by
    simp [jb5,eqXs,eqX,eqo,eqLo,eqL,eqc,veq,eqUs,hb]
  generalize jb5 ⟨[.c (.v (.bool (orP m l n)))],[],A⟩=V at *
  simp only [forall_eq,true_and,and_true,implies_true,reduceCtorEq,and_false,false_and,exists_false,or_false,false_or]
  rw [ja1]
  refine ⟨fun c=>VF (za8 fun k=>by rw [k.1,ze3] at c;simp at c),fun c0=>?_⟩
  obtain rfl:m=n:=Classical.byContradiction fun q=>by rw [vd7 q] at c0;simp at c0
  have w:∀i,l i 0=orW m l i:=fun i=>(za6 hm l i).symm
  simp only [w]
  have mk:ile 0 m=true∧ile m m=true∧ile (jd2 m 1) 140737488355328=true∧ile m 140737488355328=true:=⟨jb1 (by omega),jb1 (by omega),jb1 (by unfold jd2;omega),jb1 (by omega)⟩
  have ia:∀i:Int,0≤i→i < m→iadd .i64 i 1=i + 1:=fun i i0 i1=>IntWalk.i64_in _ (by omega)
  have mu:∀i:Int,i < m→Nat.le (Nat.succ (orMu m (i + 1))) (orMu m i):=fun i i1=>by show orMu m (i + 1) < orMu m i;unfold orMu;omega
  have bad:∀i,0≤i→i < m→¬ ((0≤orW m l i∧orW m l i < m)∧orS m l i (orW m l i)=false)→orP m l m=false:=fun i i0 i1 h=>za8 fun k=>h (y06 k.2 i0 i1)
  refine ⟨mk,⟨0,⟨⟨by omega,by omega⟩,fun j j0 j1=>by omega⟩,rfl,fun k _=>(zf3 _ _ _).symm⟩,fun i hi=>?_⟩
  have i0:=hi.1.1
  have iN:=hi.1.2
  rw [ja1]
  refine ⟨fun c=>?_,fun c=>?_⟩
  · have lt:=of_decide_eq_true c
    refine ⟨⟨jb1 i0,jg9 (by omega)⟩,?_⟩
    rw [ja1]
    refine ⟨fun d=>VF (bad i i0 lt fun h=>by have:=of_decide_eq_true d;have:=h.1;omega),fun d0=>?_⟩
    rw [ja1]
    refine ⟨fun d=>VF (bad i i0 lt fun h=>by have:=of_decide_eq_true d;have:=h.1;omega),fun d1=>?_⟩
    have k0:0≤orW m l i:=by have:=of_decide_eq_false d0;omega
    have k1:orW m l i < m:=by have:=of_decide_eq_false d1;omega
    have a0:ile 0 (orW m l i)=true∧ilt (orW m l i) m=true:=⟨jb1 k0,jg9 k1⟩
    refine ⟨a0,?_⟩
    rw [ja1]
    refine ⟨fun d=>VF (bad i i0 lt fun h=>by rw [d] at h;simp at h),fun k2=>?_⟩
    exact ⟨a0,i + 1,y05 hi lt k0 k1 k2,⟨ia i i0 lt,fun q _=>ym2 i0 q⟩,mu i lt⟩
  · have lt:=of_decide_eq_false c
    obtain rfl:i=m:=by omega
    exact VT (vj6.2 ⟨rfl,hi⟩)
theorem za9:ja6 79 vo6:=by
  intro al ans hh hq
  unfold vo6 at hh
  split at hh <;> try (simp at hh;done)
  rename_i c n
  cases e:jf4 1 c with
  | none=>rw [e] at hh;simp at hh
  | some p =>
    obtain ⟨m,r⟩:=p
    rw [e] at hh
    simp only [Option.some.injEq] at hh
    subst hh
    obtain ⟨hr,hm,h0,h1,_⟩:=asked hq
    refine jd4 (al':=[.x (.c (.slc 1 m (ints .i64 r))),.x (.c (.v (.int .i64 n)))]) ⟨jj4 e (by decide) hr,.v _,trivial⟩ ?_
    unfold ints
    exact ym8 (n:=n) (jh6 hm) (je6 h0) (je6 h1) (fun i j=>intC (den r i j)) _
theorem zf6 (a:Int) (h:0≤a):(0:Int)=orA 0 a:=by unfold orA;rw [jn6 h];rfl
theorem ym9 {i:Int} (a:Int):isel (ieq a i) i (orA i a)=orA (i + 1) a:=by
  unfold orA
  rcases Int.lt_trichotomy a i with h | h | h
  · rw [jg9 h,jg9 (show a < i + 1 by omega),show ieq a i=false from decide_eq_false (by omega)];rfl
  · subst h
    rw [jg9 (show a < a + 1 by omega),show ieq a a=true from decide_eq_true rfl];rfl
  · rw [jn6 (show i≤a by omega),jn6 (show i + 1≤a by omega),show ieq a i=false from decide_eq_false (by omega)];rfl
theorem vt2 {m n:Int} {l:Int→Nat→Int} (hr:intRow .i64 1 m (.fn fun i j=>.v (.int .i64 (l i j)))) (h0:ile 0 m=true) (A:List Prop):jk0 Tryd.prog 60 [.x (.c (.slc 1 m (.fn fun i j=>.v (.int .i64 (l i j))))),.x (.c (.v (.int .i64 n)))] ⟨[.c (.fresh 1 (orN m l n) (.fn fun i j=>.v (.int .i64 (orW m l i)))),.c (.v (.bool (orB m l n)))],[],A⟩:=by
  have hm:=je6 h0
  refine QR.ja2 (O:=q73) (QR.ja3 za9 QR.jb4) mixed (fun k=>bif Nat.beq k 10 then some (.invs [q72 m l n]) else none) Tryd.func60 (by kernel_rfl) (by kernel_rfl) (by simp) ?_
  rw [yd4]
  try dsimp only
  have VF:orB m l n=false→jb5 ⟨[.c (.fresh 1 (orN m l n) (.fn fun i j=>.v (.int .i64 (orW m l i)))),.c (.v (.bool (orB m l n)))],[],A⟩ [.c (.v (.slice none 0 0)),.c (.v (.bool false))] []:=fun hb=>by
    simp [jb5,eqXs,eqX,eqo,eqLo,eqL,eqc,veq,eqUs,nilC,hb,orN]
  have VT:∀r:QR.Row,orB m l n=true→(∀(i:Int) (j:Nat),0≤i→i < n→j < 1→den r i j=.v (.int .i64 (orW m l i)))→jb5 ⟨[.c (.fresh 1 (orN m l n) (.fn fun i j=>.v (.int .i64 (orW m l i)))),.c (.v (.bool (orB m l n)))],[],A⟩ [.c (.fresh 1 n r),.c (.v (.bool true))] []:=fun r hb e=>by
    simp only [jb5,eqXs,eqX,eqo,eqLo,eqL,eqc,veq,eqUs,hb,orN,if_true,true_and,and_true]
    refine .slc fun i j hi hj=>?_
    rw [e i j (Int.natCast_nonneg i) hi hj]
    exact .v _
  generalize jb5 ⟨[.c (.fresh 1 (orN m l n) (.fn fun i j=>.v (.int .i64 (orW m l i)))),.c (.v (.bool (orB m l n)))],[],A⟩=V at *
  simp only [forall_eq,true_and,and_true,implies_true,reduceCtorEq,and_false,false_and,exists_false,or_false,false_or]
  rw [ja1]
  refine ⟨fun c=>VF (za7 fun k=>by have:=of_decide_eq_true c;omega),fun c0=>?_⟩
  rw [ja1]
  refine ⟨fun c=>VF (za7 fun k=>by have:=of_decide_eq_true c;omega),fun c1=>?_⟩
  have n0:=of_decide_eq_false c0
  have n1:=of_decide_eq_false c1
  have mk:ile 0 n=true∧ile n n=true∧ile (jd2 n 8) 140737488355328=true∧ile n 140737488355328=true:=⟨jb1 (by omega),jb1 (by omega),jb1 (by unfold jd2;omega),jb1 (by omega)⟩
  have ia:∀i:Int,0≤i→i < n→iadd .i64 i 1=i + 1:=fun i i0 i1=>IntWalk.i64_in _ (by omega)
  have mu:∀i:Int,i < n→Nat.le (Nat.succ (orMu n (i + 1))) (orMu n i):=fun i i1=>by show orMu n (i + 1) < orMu n i;unfold orMu;omega
  rw [ja1]
  refine ⟨fun c2=>?_,fun c2=>?_⟩
  · have m0:m≠0:=by unfold ine at c2;simpa using c2
    refine ⟨⟨hr,jg9 (by omega),jb1 (by omega),jb1 (by omega)⟩,?_⟩
    have pe:orP m (fun i x=>l i 0) n=orB m l n:=by
      rw [Bool.eq_iff_iff,vj6,qg4]
      have:orI m (fun i x=>l i 0) n n↔orI m l n n:=by unfold orI orW;simp [m0]
      rw [this]
      exact ⟨fun k=>⟨⟨by omega,by omega⟩,Or.inr k.1,k.2⟩,fun k=>⟨k.2.1.resolve_left m0,k.2.2⟩⟩
    rw [pe,ja1]
    refine ⟨fun c3=>VF (by cases q:orB m l n <;> simp_all [bnot]),fun c3=>⟨mk,?_⟩⟩
    have hb:orB m l n=true:=by cases q:orB m l n <;> simp_all [bnot]
    obtain rfl:m=n:=(qg4.1 hb).2.1.resolve_left m0
    rw [ja1]
    refine ⟨fun _=>VT _ hb ?_,fun q=>by rw [c2] at q;simp at q⟩
    intro a b a0 a1 b0
    obtain rfl:b=0:=by omega
    rw [za6 (show 0 < m by omega)]
    have e1:addZ 0 (jf3 m m)=m:=by rw [show jf3 m m=m by unfold jf3;split <;> rfl];show 0 + m=m;omega
    rw [e1]
    have c1:ilt a m=true:=jg9 a1
    have c2:ilt a 0=false:=jn6 a0
    have c3:subZ a 0=a:=by show a - 0=a;omega
    rw [show den (.app (.app (.zer [Value.int .i64 0]) 0 (.fn fun i j=>CV.v (.int .i64 (l i j)))) m (.sub (.zer [Value.int .i64 0]) m)) a 0=csel (ilt a m) (csel (ilt a 0) (.v (.int .i64 0)) (.v (.int .i64 (l (subZ a 0) 0)))) (.v (.int .i64 0)) from rfl,c1,c2,c3]
    rfl
  · have m0:m=0:=by unfold ine at c2;simpa using c2
    refine ⟨mk,?_⟩
    rw [ja1]
    refine ⟨fun q=>by rw [c2] at q;simp at q,fun _=>?_⟩
    refine ⟨⟨0,⟨by omega,by omega⟩,rfl,fun k _=>zf6 _ (Int.natCast_nonneg k)⟩,fun i hi=>?_⟩
    rw [ja1]
    refine ⟨fun c=>?_,fun c=>?_⟩
    · have lt:=of_decide_eq_true c
      exact ⟨⟨jb1 hi.1,c⟩,i + 1,⟨by have:=hi.1;omega,by omega⟩,⟨ia i hi.1 lt,fun q _=>ym9 _⟩,mu i lt⟩
    · have lt:=of_decide_eq_false c
      have hi':=hi
      unfold orT at hi'
      obtain rfl:i=n:=by omega
      subst m0
      refine VT _ (qg4.2 ⟨⟨by omega,by omega⟩,Or.inl rfl,⟨by omega,by omega⟩,fun j j0 j1=>?_⟩) ?_
      · simp only [vt1];exact ⟨⟨j0,j1⟩,fun k k0 k1=>by omega⟩
      · intro a b a0 a1 b0
        show CV.v (.int .i64 (orA i a))=_
        rw [vt1]
        unfold orA
        rw [jg9 a1];rfl
theorem yn0:ja6 60 qk9:=by
  intro al ans hh hq
  unfold qk9 at hh
  split at hh <;> try (simp at hh;done)
  rename_i c n
  cases e:jf4 1 c with
  | none=>rw [e] at hh;simp at hh
  | some p =>
    obtain ⟨m,r⟩:=p
    rw [e] at hh
    simp only [Option.some.injEq] at hh
    subst hh
    obtain ⟨hr,hm,_⟩:=asked hq
    refine jd4 (al':=[.x (.c (.slc 1 m (ints .i64 r))),.x (.c (.v (.int .i64 n)))]) ⟨jj4 e (by decide) hr,.v _,trivial⟩ ?_
    unfold ints
    exact vt2 (n:=n) (qr2 _ _ _ _) hm _
end Go.Proofs.YthkidembkknoeaaDoor
namespace Go.Proofs.YthkidembkknoeaaDoor
open Go.RowKit PR QR
set_option linter.unusedVariables false
set_option linter.unusedSimpArgs false
def qr4 (n k:Int) (sg:Bool):Bool:=bif sg then decide (-(2 ^ (8 * k - 1).toNat)≤n∧n < 2 ^ (8 * k - 1).toNat) else decide (0≤n∧n < 2 ^ (8 * k).toNat)
end Go.Proofs.YthkidembkknoeaaDoor
namespace Go.Proofs.YthkidembkknoeaaDoor
open Go.RowKit PR QR
set_option linter.unusedVariables false
set_option linter.unusedSimpArgs false
def imsG (s:Sc):Prop:=∀i:Nat,(i:Int) < s.mn→imG (s.ml i)
def y80 (o:Ov):Bool:=qr4 o.kd 1 false && (qr4 o.im 1 false && (qr4 o.msk 1 false && (qr4 o.opr 1 false && (qr4 o.md 1 false && (qr4 o.x 4 true && (qr4 o.y 4 true && (qr4 o.mx 4 true && qr4 o.my 4 true)))))))
def je0 (n i:Int):Nat:=(n - i).toNat
end Go.Proofs.YthkidembkknoeaaDoor
namespace Go.Proofs.YthkidembkknoeaaDoor
open Go.RowKit PR QR
set_option linter.unusedVariables false
set_option linter.unusedSimpArgs false
set_option maxRecDepth 20000
theorem qr5 {l:List CV} {s:Sc} {A:List Prop} (h:ji1 l=some (s,A)) (ha:∀p∈A,p):eqCs l (ji8 s)∧0≤s.on∧0≤s.mn∧0≤s.pn:=by
  unfold ji1 at h
  split at h <;> try (simp at h;done)
  rename_i b x0 y0 x1 y1 tw th oc mc pc
  split at h <;> try (simp at h;done)
  rename_i on o mn m pn p e1 e2 e3
  simp only [Option.some.injEq,Prod.mk.injEq] at h
  obtain ⟨rfl,rfl⟩:=h
  obtain ⟨h1,h2,h3,h4,h5,h6,_⟩:=asked ha
  refine ⟨⟨.v _,.v _,.v _,.v _,.v _,.v _,.v _,qd9 e1 h1,jl1 e2 (by decide) h2,jl1 e3 (by decide) h3,trivial⟩,je6 h4,je6 h5,je6 h6⟩
end Go.Proofs.YthkidembkknoeaaDoor
namespace Go.Proofs.YthkidembkknoeaaDoor
open Go.RowKit PR QR
set_option linter.unusedVariables false
set_option linter.unusedSimpArgs false
set_option maxRecDepth 20000
theorem ji7 (k:IntKind) (n:Int) (f:Int→Int):intRow k 1 n (.fn fun i _=>.v (.int k (f i))):=fun _ _ _ _=>rfl
theorem vd9 (n:Int) (f:Int→Im):jc5 n (jg4 f):=fun i j _ hj=>by
  rw [show imAt (jg4 f)=f from rfl]
  match j,hj with
  | 0,_ | 1,_ | 2,_ | 3,_ | 4,_ | 5,_ | 6,_ | 7,_ | 8,_ | 9,_ | 10,_ | 12,_ | 13,_ | 14,_ | 16,_ | 17,_ | 18,_ | 20,_ | 21,_ | 22,_ | 24,_ | 25,_ | 26,_=>exact .v _
  | 11,_ | 15,_ | 19,_ | 23,_ | 27,_=>exact .slc fun _ _ _ _=>.v _
  | n + 28,h=>omega
theorem qg2 (n:Int) (f:Int→Ov):ja8 n (je8 f):=fun i j _ hj=>by
  rw [show ovAt (je8 f)=f from rfl]
  match j,hj with
  | 0,_ | 1,_ | 2,_ | 3,_ | 4,_ | 5,_ | 6,_ | 7,_ | 8,_ | 9,_ | 10,_ | 11,_=>exact .v _
  | n + 12,h=>omega
theorem bnf {b:Bool} (h:bnot b=true):b=false:=by cases b <;> simp [bnot] at h ⊢
theorem bnt {b:Bool} (h:bnot b=false):b=true:=by cases b <;> simp [bnot] at h ⊢
end Go.Proofs.YthkidembkknoeaaDoor
namespace Go.Proofs.YthkidembkknoeaaDoor
open Go.RowKit PR QR
set_option linter.unusedVariables false
def prB (w h s:Int):Bool:=decide (fitB w h=true∧w≤s∧s≤16777216)
def ndN (w h s:Int):Int:=(h - 1) * s + w
def yj6:List AV→Option QR.Ans
  | [.x (.c (.v (.int .i64 w))),.x (.c (.v (.int .i64 h))),.x (.c (.v (.int .i64 s)))]=>some ⟨[.c (.v (.bool (prB w h s)))],[],[in64 w=true,in64 h=true,in64 s=true]⟩
  | _=>none
def yj7:List AV→Option QR.Ans
  | [.x (.c (.v (.int .i64 w))),.x (.c (.v (.int .i64 h))),.x (.c (.v (.int .i64 s)))]=>some ⟨[.c (.v (.int .i64 (ndN w h s)))],[],[prB w h s=true]⟩
  | _=>none
def yx2:QR.ja7:=QR.orc [(85,yj6),(86,yj7)]
set_option maxRecDepth 100000 in
theorem yx3 (w h s:Int) (V:List QR.XV→List (List QR.CV)→Prop):QR.ja5 Tryd.prog (QR.orc []) (QR.ja4) (Tryd.f85.body.getD .skip) Tryd.f85.results.toList Tryd.f85.ntmps [.x (.c (.v (.int .i64 w))),.x (.c (.v (.int .i64 h))),.x (.c (.v (.int .i64 s)))] V=(True∧ja0 (ile 1 w) (ja0 (ile w s) (ja0 (ile s 16777216) (ja0 (ile 1 h) (ja0 (ile h 16777216) (True∧True∧V [XV.c (CV.v (Value.bool (ile (imul IntKind.i64 w h) 16777216)))] []) (True∧True∧V [XV.c (CV.v (Value.bool false))] [])) (True∧True∧V [XV.c (CV.v (Value.bool false))] [])) (True∧True∧V [XV.c (CV.v (Value.bool false))] [])) (True∧True∧V [XV.c (CV.v (Value.bool false))] [])) (True∧True∧V [XV.c (CV.v (Value.bool false))] [])):=by
  kernel_rfl
set_option maxRecDepth 100000 in
theorem yx4 (w h s:Int) (V:List QR.XV→List (List QR.CV)→Prop):QR.ja5 Tryd.prog (QR.orc []) (QR.ja4) (Tryd.f86.body.getD .skip) Tryd.f86.results.toList Tryd.f86.ntmps [.x (.c (.v (.int .i64 w))),.x (.c (.v (.int .i64 h))),.x (.c (.v (.int .i64 s)))] V=(True∧True∧True∧V [XV.c (CV.v (Value.int .i64 (iadd IntKind.i64 (imul IntKind.i64 (isub IntKind.i64 h 1) s) w)))] []):=by
  kernel_rfl
set_option maxRecDepth 100000 in
theorem yx5 (w h s n:Int) (l:Int→Nat→Int) (V:List QR.XV→List (List QR.CV)→Prop):QR.ja5 Tryd.prog (yx2) (QR.ja4) (Tryd.f83.body.getD .skip) Tryd.f83.results.toList Tryd.f83.ntmps [.x (.agg [.v (.int .i64 w),.v (.int .i64 h),.v (.int .i64 s),.slc 1 n (.fn fun i j=>.v (.int .u16 (l i j)))])] V=(True∧ja0 (prB w h s) (∀(i:Int),i=n→∀(i_1:Int),i_1=ndN w h s→(prB w h s=true∧in64 w=true∧in64 h=true∧in64 s=true∧True)∧True∧V [XV.c (CV.v (Value.bool (ige i i_1)))] []) ((in64 w=true∧in64 h=true∧in64 s=true∧True)∧True∧V [XV.c (CV.v (Value.bool false))] [])):=by
  try delta yx2
  try delta yj6
  try delta yj7
  generalize @in64=in64
  generalize @ndN=ndN
  generalize @prB=prB
  kernel_rfl
end Go.Proofs.YthkidembkknoeaaDoor
