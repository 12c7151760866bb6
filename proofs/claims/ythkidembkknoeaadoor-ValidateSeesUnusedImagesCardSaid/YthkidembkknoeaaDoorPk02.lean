import Derived.Test.YthkidembkknoeaaDoorProg
import Derived.ProofKit
import Derived.Below
import Derived.Orders
import Derived.Laws.Rows
import Derived.Laws.StructEq
import Derived.Laws.FloatArith
import Derived.Laws.CopyRow
import Derived.Laws.Cover2
namespace Go.Proofs.YthkidembkknoeaaDoor.PR
open Go.RowKit
set_option linter.unusedVariables false
structure GV where
  k:Bool
  v:Value
structure PSt where
  tmps:List GV
  mem:Nat→Option (List Value)
  ok:Prop
  lits:List Tmp
def gnow (v:Value):GV:=⟨true,v⟩
def gunk:GV:=⟨false,undef⟩
def vp5:List Bool→Prop→Prop
  | [],p=>p
  | b :: l,p=>b=true∧vp5 l p
def iadd (k:IntKind) (a b:Int):Int:=k.wrap (a + b)
def isub (k:IntKind) (a b:Int):Int:=k.wrap (a - b)
def imul (k:IntKind) (a b:Int):Int:=k.wrap (a * b)
def iquo (k:IntKind) (a b:Int):Int:=k.wrap (a.tdiv b)
def irem (a b:Int):Int:=a.tmod b
def iand (k:IntKind) (a b:Int):Int:=bits .and k a b
def ior (k:IntKind) (a b:Int):Int:=bits .or k a b
def ixor (k:IntKind) (a b:Int):Int:=bits .xor k a b
def y44 (k:IntKind) (a b:Int):Int:=bits .andNot k a b
def ishl (k:IntKind) (a b:Int):Int:=k.wrap (a * 2 ^ (min b.toNat k.bits))
def ishr (k:IntKind) (a b:Int):Int:=a.fdiv (2 ^ (min b.toNat k.bits))
def ji6 (k:IntKind) (a:Int):Int:=k.wrap a
def ieq (a b:Int):Bool:=a == b
def ine (a b:Int):Bool:=a != b
def ilt (a b:Int):Bool:=decide (a < b)
def ile (a b:Int):Bool:=decide (a≤b)
def igt (a b:Int):Bool:=decide (a > b)
def ige (a b:Int):Bool:=decide (a ≥ b)
def beq' (a b:Bool):Bool:=a == b
def band (a b:Bool):Bool:=a && b
def bnot (a:Bool):Bool:=!a
def jf3 (a b:Int):Int:=if b < a then b else a
def jc6 (a b:Int):Int:=if a < b then b else a
def isel (c:Bool) (a b:Int):Int:=bif c then a else b
def bsel (c:Bool) (a b:Bool):Bool:=bif c then a else b
def bor (a b:Bool):Bool:=a || b
def fop (op:BinOp) (k:FloatKind) (a b:Nat):Nat:=(floatBits op k a b).getD 0
def fok (op:BinOp) (k:FloatKind) (a b:Nat):Bool:=(floatBits op k a b).isSome
def feq (k:FloatKind) (a b:Nat):Bool:=k.format.order a b == some .eq
def fne (k:FloatKind) (a b:Nat):Bool:=k.format.order a b != some .eq
def flt (k:FloatKind) (a b:Nat):Bool:=k.format.order a b == some .lt
def fle (k:FloatKind) (a b:Nat):Bool:=k.format.order a b == some .lt || k.format.order a b == some .eq
def fgt (k:FloatKind) (a b:Nat):Bool:=k.format.order a b == some .gt
def fge (k:FloatKind) (a b:Nat):Bool:=k.format.order a b == some .gt || k.format.order a b == some .eq
def fofi (k:FloatKind) (n:Int):Nat:=floatOfInt k n
def jp8 (P:Program) (t:TypeId):Bool:=match P.underlying t with | some (.struct _) | some (.array _ _)=>true | _=>false
def jc9 (P:Program) (t:TypeId):Nat:=match P.info? t with | some i=>i.size | none=>0
def qy0 (P:Program) (t:TypeId) (cs:Array Value) (off:Nat):Option Value :=
  match P.info? t,P.underlying t with
  | some i,some d=>match d with
    | .struct _ | .array _ _=>some (.agg (cs.extract off (off + i.size)))
    | _=>cs[off]?
  | _,_=>none
def jr3 (P:Program) (f:TypeId→Value→Value→Option Bool) (xs ys:Array Value):List (TypeId×Nat)→Option Bool
  | []=>some true
  | (t,off) :: rest=>match qy0 P t xs off,qy0 P t ys off with
    | some a,some b=>match f t a b with
      | some r=>match jr3 P f xs ys rest with
        | some r'=>some (band r r')
        | none=>none
      | none=>none
    | _,_=>none
def eqV (P:Program):Nat→TypeId→Value→Value→Option Bool
  | 0,_,_,_=>none
  | d + 1,t,x,y=>match P.underlying t with
    | some .bool=>match x,y with
      | .bool a,.bool b=>some (beq' a b)
      | _,_=>none
    | some (.int _)=>match x,y with
      | .int k a,.int l b=>if k=l then some (ieq a b) else none
      | _,_=>none
    | some (.struct fs)=>match x,y with
      | .agg xs,.agg ys=>if P.stoodInHeld t then none else jr3 P (eqV P d) xs ys ((fs.toList.filter (·.name != "_")).map fun f=>(f.type,f.offset))
      | _,_=>none
    | some (.array n e)=>match x,y with
      | .agg xs,.agg ys=>if (P.info? e).isNone then none else jr3 P (eqV P d) xs ys ((List.range n).map fun i=>(e,i * jc9 P e))
      | _,_=>none
    | _=>none
def binV (P:Program) (op:BinOp) (t:TypeId):Value→Value→Option (Value×List Bool)
  | .int k a,.int l b =>
    match op with
    | .shl=>some (.int k (ishl k a b),[ige b 0])
    | .shr=>some (.int k (ishr k a b),[ige b 0])
    | _=>if k=l then
      match op with
      | .add=>some (.int k (iadd k a b),[])
      | .sub=>some (.int k (isub k a b),[])
      | .mul=>some (.int k (imul k a b),[])
      | .quo=>some (.int k (iquo k a b),[ine b 0])
      | .rem=>some (.int k (irem a b),[ine b 0])
      | .and=>some (.int k (iand k a b),[])
      | .or=>some (.int k (ior k a b),[])
      | .xor=>some (.int k (ixor k a b),[])
      | .andNot=>some (.int k (y44 k a b),[])
      | .eql=>some (.bool (ieq a b),[])
      | .neq=>some (.bool (ine a b),[])
      | .lss=>some (.bool (ilt a b),[])
      | .leq=>some (.bool (ile a b),[])
      | .gtr=>some (.bool (igt a b),[])
      | .geq=>some (.bool (ige a b),[])
      | _=>none
      else none
  | .bool a,.bool b =>
    match op,P.underlying t with
    | .eql,some .bool=>some (.bool (beq' a b),[])
    | .neq,some .bool=>some (.bool (bnot (beq' a b)),[])
    | _,_=>none
  | .float k a,.float l b=>if k=l then
      match op with
      | .add=>some (.float k (fop .add k a b),[fok .add k a b])
      | .sub=>some (.float k (fop .sub k a b),[fok .sub k a b])
      | .mul=>some (.float k (fop .mul k a b),[fok .mul k a b])
      | .quo=>some (.float k (fop .quo k a b),[fok .quo k a b])
      | .eql=>some (.bool (feq k a b),[])
      | .neq=>some (.bool (fne k a b),[])
      | .lss=>some (.bool (flt k a b),[])
      | .leq=>some (.bool (fle k a b),[])
      | .gtr=>some (.bool (fgt k a b),[])
      | .geq=>some (.bool (fge k a b),[])
      | _=>none
      else none
  | .agg xs,.agg ys =>
    if P.eqGuardType P.depth t then none else
    match op,eqV P 10000 t (.agg xs) (.agg ys) with
    | .eql,some r=>some (.bool r,[])
    | .neq,some r=>some (.bool (bnot r),[])
    | _,_=>none
  | _,_=>none
def unV (op:UnOp) (x:Value):Option (Value×List Bool) :=
  match op,x with
  | .not,.bool b=>some (.bool (bnot b),[])
  | .neg,.int k n=>some (.int k (isub k 0 n),[])
  | _,_=>none
def ql2:Value→Bool
  | .pointer (some _) | .agg _ | .tuple _=>false
  | _=>true
def qa7:Value→Bool
  | .agg cs=>cs.toList.all ql2
  | v=>ql2 v
def y45:Value→Bool
  | .tuple vs=>vs.toList.all qa7
  | v=>qa7 v
def operand (s:PSt):Operand→GV
  | .tmp t=>s.tmps.getD t (gnow undef)
  | .const v=>if ql2 v then gnow v else gunk
  | .func f=>gnow (.func (.func f) ⟨[]⟩ ⟨[]⟩)
  | _=>gunk
inductive Eff where
  | val (v:Value) (ok:List Bool) (rd:Option Nat)
  | new (t:TypeId) (cells:List Value)
  | put (n:Nat) (cells:List Value)
def splice (cells:List Value) (off:Nat) (vs:List Value):List Value:=cells.take off ++ vs ++ cells.drop (off + vs.length)
def ja7:=FuncId→List Value→Option (Value×List Bool)
def valOf (s:PSt) (x:Operand):Value:=(operand s x).v
def jj6 (s:PSt):Callee→Option FuncId
  | .value x=>match operand s x with
    | ⟨true,.func (.func f) ⟨[]⟩ ⟨[]⟩⟩=>some f
    | _=>none
  | _=>none
def effect (P:Program) (O:ja7) (s:PSt) (o:Oper):Option Eff :=
  match o.op with
  | .move x=>some (.val (valOf s x) [] none)
  | .assign x=>some (.val (valOf s x) [] none)
  | .pick c a b=>match valOf s c with
    | .bool true=>some (.val (valOf s a) [] none)
    | .bool false=>some (.val (valOf s b) [] none)
    | _=>none
  | .alloc t=>match P.info? t with
    | some i=>match i.zero with
      | some z=>if z.cells.all Value.oneCell' && z.cells.all ql2 then some (.new t z.cells.toList) else none
      | none=>none
    | none=>none
  | .box t x=>if qa7 (valOf s x) && (valOf s x).cells.all Value.oneCell' then some (.new t (valOf s x).cells.toList) else none
  | .load t a=>match valOf s a with
    | .pointer (some ⟨n,off,none⟩)=>match s.mem n with
      | some cells =>
        if jp8 P t then
          if off + jc9 P t≤cells.length && (P.info? t).isSome then some (.val (.agg ((cells.drop off).take (jc9 P t)).toArray) [] (some n)) else none
        else match cells[off]? with
          | some v=>if (P.underlying t).isSome && ql2 v then some (.val v [] (some n)) else none
          | none=>none
      | none=>none
    | _=>none
  | .store t a x=>match valOf s a with
    | .pointer (some ⟨n,off,none⟩)=>match s.mem n with
      | some cells =>
        if qa7 (valOf s x) && (P.info? t).isSome && (valOf s x).cells.size == jc9 P t && (off + (valOf s x).cells.size≤cells.length) && (valOf s x).cells.all Value.oneCell' then some (.put n (splice cells off (valOf s x).cells.toList)) else none
      | none=>none
    | _=>none
  | .binOp op t x y _=>match binV P op t (valOf s x) (valOf s y) with
    | some (v,b)=>some (.val v b none)
    | none=>none
  | .unOp op _ x=>match unV op (valOf s x) with
    | some (v,b)=>some (.val v b none)
    | none=>none
  | .convert src dst x=>match valOf s x,P.underlying src,P.underlying dst with
    | .int _ n,some _,some (.int k)=>some (.val (.int k (ji6 k n)) [] none)
    | .int _ n,some _,some (.float k)=>some (.val (.float k (fofi k n)) [] none)
    | _,_,_=>none
  | .fieldAddr t x f=>match valOf s x,P.underlying t with
    | .pointer (some ⟨n,off,none⟩),some (.struct fs)=>match fs[f]? with
      | some fd=>if jc9 P fd.type == 0 then none else some (.val (.pointer (some ⟨n,off + fd.offset,none⟩)) [] none)
      | none=>none
    | _,_=>none
  | .extract x i=>match valOf s x with
    | .tuple vs=>match vs.toList[i]? with
      | some v=>if qa7 v then some (.val v [] none) else none
      | none=>none
    | _=>none
  | .call c=>match c.callee with
    | .builtin .min=>match c.args.toList.map (valOf s) with
      | [.int k a,.int _ b]=>some (.val (.int k (jf3 a b)) [] none)
      | _=>none
    | .builtin .max=>match c.args.toList.map (valOf s) with
      | [.int k a,.int _ b]=>some (.val (.int k (jc6 a b)) [] none)
      | _=>none
    | cal=>match jj6 s cal with
      | some f=>if (c.args.toList.map (valOf s)).all qa7 then match O f (c.args.toList.map (valOf s)) with
        | some (v,b)=>if y45 v then some (.val v b none) else none
        | none=>none
        else none
      | none=>none
  | .build t parts =>
    if (parts.toList.map fun p=>valOf s p.2).all qa7 then
      match P.built t (parts.toList.map fun p=>(p.1,valOf s p.2)) with
      | some cells=>some (.val (.agg cells) [] none)
      | none=>none
    else none
  | .field t x f=>match valOf s x,P.underlying t with
    | .agg cs,some (.struct fs)=>match fs[f]? with
      | some fd=>match qy0 P fd.type cs fd.offset with
        | some v=>if qa7 v then some (.val v [] none) else none
        | none=>none
      | none=>none
    | _,_=>none
  | .index t x i=>match valOf s x,valOf s i,P.underlying t with
    | .agg cs,.int _ m,some (.array len e)=>match qy0 P e cs (m.toNat * jc9 P e) with
      | some v=>if qa7 v then some (.val v [ile 0 m,ilt m len] none) else none
      | none=>none
    | _,_,_=>none
  | .indexAddr t x i=>match valOf s x,valOf s i,P.underlying t with
    | .pointer (some ⟨n,off,none⟩),.int _ m,some (.array len e)=>if (P.info? e).isSome then some (.val (.pointer (some ⟨n,off + m.toNat * jc9 P e,none⟩)) [ile 0 m,ilt m len] none) else none
    | _,_,_=>none
  | _=>none
def guardOf (s:PSt) (ops:List Oper) (o:Oper):Option Bool :=
  match o.guard with
  | none=>some true
  | some (j,want)=>match (ops[j]?).bind (·.dst) with
    | some d=>match s.tmps[d]? with
      | some ⟨true,.bool b⟩=>some (bif want then b else !b)
      | some ⟨true,.tuple _⟩=>some false
      | _=>none
    | none=>none
def allOf:List GV→Bool
  | []=>true
  | g :: l=>g.k && allOf l
def jj7 (s:PSt) (o:Oper):Bool :=
  match o.op with
  | .pick c a b=>match valOf s c with
    | .bool true=>(operand s c).k && (operand s a).k
    | .bool false=>(operand s c).k && (operand s b).k
    | _=>false
  | .call c=>allOf (c.args.toList.map (operand s))
  | op=>allOf (op.operands.toList.map (operand s))
def je5 (l:List GV):Option Tmp→GV→List GV
  | some d,v=>l.set d v
  | none,_=>l
structure Delta where
  g:GV
  up:Option (Nat×List Value)
  ok:List Bool
  rd:Option Nat
def stepD (P:Program) (O:ja7) (ops:List Oper) (name:Nat) (o:Oper) (s:PSt):Option Delta :=
  match guardOf s ops o with
  | none=>none
  | some false=>some ⟨gnow undef,none,[],none⟩
  | some true=>if jj7 s o then match effect P O s o with
    | none=>none
    | some (.val v b rd)=>some ⟨gnow v,none,b,rd⟩
    | some (.new t cells)=>if (s.mem name).isNone then some ⟨gnow (.pointer (some ⟨name,0,none⟩)),some (name,cells),[],none⟩ else none
    | some (.put n cells)=>some ⟨gnow undef,some (n,cells),[],none⟩
    else none
def y46 (m:Nat→Option (List Value)):Option (Nat×List Value)→Nat→Option (List Value)
  | none=>m
  | some (n,x)=>fun k=>if k=n then some x else m k
def jg8 (dst:Option Tmp) (d:Delta) (s:PSt):PSt:=⟨je5 s.tmps dst d.g,y46 s.mem d.up,vp5 d.ok s.ok,s.lits⟩
def looks (ops:List Oper) (o:Oper):List Tmp :=
  (o.op.operands.toList.filterMap fun x=>match x with | .tmp t=>some t | _=>none) ++
  (match o.guard with
   | some (g,_)=>match (ops[g]?).bind (·.dst) with | some d=>[d] | none=>[]
   | none=>[])
def apart (lx ly:List Tmp) (dx dy:Option Tmp):Bool :=
  (match dx with | some d=>!(ly.any fun t=>Nat.beq t d) && (match dy with | some e=>!Nat.beq d e | none=>true) | none=>true) &&
  (match dy with | some d=>!(lx.any fun t=>Nat.beq t d) | none=>true)
def deps (o:Oper):List Nat:=o.after.toList.filterMap fun e=>if Region.binds .any e then some e.on else none
def qu5 (tab:List Nat):List Nat→Nat
  | []=>0
  | d :: ds=>(Nat.lor (Nat.lor (Nat.shiftLeft 1 d) (tab.getD d 0)) (qu5 tab ds))
def masks (tab:List Nat):List Oper→List Nat
  | []=>tab
  | o :: rest=>masks (tab ++ [qu5 tab (deps o)]) rest
def sources (ops:List Oper):List Nat:=ops.filterMap fun o=>match o.guard with | some (j,_)=>some j | none=>none
def ja0 (b:Bool) (p q:Prop):Prop:=cond b p q
def qu6 (lits:List Tmp):Option Tmp→Bool→List Tmp
  | some d,true=>d :: lits
  | some d,false=>lits.filter fun t=>!Nat.beq t d
  | none,_=>lits
def yo8 (o:Oper):Bool:=match o.op with | .call _=>true | _=>false
def y47:Option Bool→Bool | some true=>true | _=>false
def qh1 (o:Oper) (k:IntKind) (j:Nat):Oper:=match o.op with
  | .index t x _=>{ o with op:=.index t x (.const (.int k j)) }
  | .indexAddr t x _=>{ o with op:=.indexAddr t x (.const (.int k j)) }
  | _=>o
def vj9 (m:Int):Nat→Nat→(Nat→Prop)→Prop
  | _,0,_=>False
  | j,n + 1,k=>ja0 (ieq m j) (k j) (vj9 m (j + 1) n k)
structure Row where
  dst:Option Tmp
  looks:List Tmp
  d:Delta
def jr4:Nat→List Oper→Bool
  | _,[]=>true
  | i,o :: os=>(deps o).all (fun d=>Nat.blt d i) && jr4 (i + 1) os
end Go.Proofs.YthkidembkknoeaaDoor.PR
namespace Go.Proofs.YthkidembkknoeaaDoor.PR
open Go.RowKit
set_option linter.unusedVariables false
set_option linter.unusedSimpArgs false
def conc (β:Nat→Nat):Value→Value
  | .pointer (some ⟨n,off,none⟩)=>.pointer (some ⟨β n,off,none⟩)
  | v=>v
def wfV (s:PSt):Value→Prop
  | .pointer (some ⟨n,off,none⟩)=>(s.mem n).isSome=true
  | .pointer (some ⟨_,_,some _⟩)=>False
  | _=>True
structure Rel (base:Nat) (β:Nat→Nat) (s:PSt) (a:Act) (w:World):Prop where
  defers:a.defers=[]
  size:a.tmps.size=s.tmps.length
  slots:∀(t:Nat) (g:GV),s.tmps[t]?=some g→g.k=true→a.tmps[t]?=some (conc β g.v)
  wf:∀(t:Nat) (g:GV),s.tmps[t]?=some g→g.k=true→wfV s g.v
  mem:∀(n:Nat) (cells:List Value),s.mem n=some cells→base≤β n∧∃t,w.heap[β n]?=some (.cells cells.toArray t (0,0))
  inj:∀n m,(s.mem n).isSome=true→(s.mem m).isSome=true→β n=β m→n=m
def Does (P:Program) (f:FuncId) (args:Array Value) (v:Value):Prop :=
  ∀w,(∃w',(callFunc f args).run P w=.ok (.value v) w'∧Below w.heap.size w w')∨
    ((callFunc f args).run P w=.ok (.enter f args) w∧Calls P f args w fun e w'=>e=.returned v∧Below w.heap.size w w')
theorem q79 {l:List Bool} {p:Prop}:vp5 l p↔(∀b∈l,b=true)∧p:=by
  induction l with
  | nil=>simp [vp5]
  | cons b l ih=>simp [vp5,ih,and_assoc]
section
variable {P:Program} {O:ja7} {base:Nat} {β:Nat→Nat} {s:PSt} {a:Act} {w:World}
theorem Rel.put (R:Rel base β s a w) (dst:Option Tmp) (g:GV) (v:Value) (hv:g.k=true→v=conc β g.v) (hw:g.k=true→wfV s g.v) (b:Prop) :
    Rel base β ⟨je5 s.tmps dst g,s.mem,b,s.lits⟩ (a.put dst v) w:=by
  cases dst with
  | none=>exact ⟨R.defers,R.size,R.slots,R.wf,R.mem,R.inj⟩
  | some d =>
    refine ⟨R.defers,by simp [Act.put,je5,R.size],?_,?_,R.mem,R.inj⟩
    · intro t g' h hk
      simp only [je5,List.getElem?_set] at h
      simp only [Act.put,Array.getElem?_setIfInBounds]
      split at h
      · rename_i hd
        subst hd
        split at h
        · rename_i hl
          simp only [Option.some.injEq] at h
          subst h
          simp [R.size,hl,hv hk]
        · simp at h
      · rename_i hd
        simp only [hd,if_false]
        exact R.slots t g' h hk
    · intro t g' h hk
      simp only [je5,List.getElem?_set] at h
      split at h
      · split at h
        · simp only [Option.some.injEq] at h;subst h;exact hw hk
        · simp at h
      · exact R.wf t g' h hk
theorem Rel.ok (R:Rel base β s a w) (b:Prop):Rel base β { s with ok:=b } a w:=⟨R.defers,R.size,R.slots,R.wf,R.mem,R.inj⟩
theorem Rel.lt (R:Rel base β s a w) {n:Nat} (h:(s.mem n).isSome=true):β n < w.heap.size:=by
  obtain ⟨cells,hm⟩:=Option.isSome_iff_exists.1 h
  obtain ⟨_,t,ht⟩:=R.mem n cells hm
  exact (Array.getElem?_eq_some_iff.1 ht).1
theorem Rel.alloc (R:Rel base β s a w) (hb:base≤w.heap.size) (name:Nat) (hn:(s.mem name).isNone=true) (t:TypeId) (cells:List Value) :
    Rel base (fun n=>if n=name then w.heap.size else β n) ⟨s.tmps,fun n=>if n=name then some cells else s.mem n,s.ok,s.lits⟩ a (w.alloc (.cells cells.toArray t)):=by
  have cw:∀v,wfV s v→conc (fun n=>if n=name then w.heap.size else β n) v=conc β v:=by
    intro v hv
    unfold conc
    split
    · rename_i n off
      simp only [wfV] at hv
      have:n≠name:=by intro e;subst e;simp [Option.isNone_iff_eq_none] at hn;simp [hn] at hv
      simp [this]
    · rfl
  refine ⟨R.defers,R.size,?_,?_,?_,?_⟩
  · intro t g h hk
    rw [R.slots t g h hk,cw _ (R.wf t g h hk)]
  · intro t g h hk
    have:=R.wf t g h hk
    revert this
    unfold wfV
    split
    · rename_i n off he
      intro h1
      show (if n=name then some cells else s.mem n).isSome=true
      split
      · rfl
      · exact h1
    · exact id
    · exact id
  · intro n cells' h
    simp only at h ⊢
    split at h
    · rename_i e
      simp only [Option.some.injEq] at h
      subst h
      simp only [e,if_true]
      exact ⟨hb,t,heap_alloc_new w _⟩
    · rename_i e
      simp only [e,if_false]
      have:=R.mem n cells' h
      exact ⟨this.1,by rw [heap_alloc_old w _ _ (R.lt (by simp [h]))];exact this.2⟩
  · intro n m hn' hm' he
    simp only at hn' hm' he
    by_cases e1:n=name <;> by_cases e2:m=name
    · rw [e1,e2]
    · simp only [e1,e2,if_true,if_false] at hm' he
      have:=R.lt hm';omega
    · simp only [e1,e2,if_true,if_false] at hn' he
      have:=R.lt hn';omega
    · simp only [e1,e2,if_false] at hn' hm' he
      exact R.inj n m hn' hm' he
theorem Rel.store (R:Rel base β s a w) (n:Nat) (old cells:List Value) (hm:s.mem n=some old) :
    Rel base β ⟨s.tmps,fun m=>if m=n then some cells else s.mem m,s.ok,s.lits⟩ a (w.setRow (β n) cells.toArray):=by
  have dom:∀m,(if m=n then some cells else s.mem m).isSome=(s.mem m).isSome:=by
    intro m;split
    · rename_i e;subst e;simp [hm]
    · rfl
  refine ⟨R.defers,R.size,R.slots,?_,?_,?_⟩
  · intro t g h hk
    have:=R.wf t g h hk
    revert this
    unfold wfV
    split
    · intro h1
      simp only [dom]
      exact h1
    · exact id
    · exact id
  · intro m cells' h
    simp only at h
    have hmn:=R.mem n old hm
    split at h
    · rename_i e
      simp only [Option.some.injEq] at h
      subst h e
      obtain ⟨h1,t,h2⟩:=hmn
      exact ⟨h1,t,setRow_heap w _ _ _ _ _ h2⟩
    · rename_i e
      have hmm:=R.mem m cells' h
      refine ⟨hmm.1,?_⟩
      rw [setRow_other w _ _ _ (fun e'=>e (R.inj m n (by simp [h]) (by simp [hm]) e'))]
      exact hmm.2
  · intro x y hx hy
    simp only [dom] at hx hy
    exact R.inj x y hx hy
theorem jp9 {t:TypeId} {cs:Array Value} {off:Nat} {v:Value} (h:qy0 P t cs off=some v) (w:World):(part t cs off).run P w=.ok v w:=by
  unfold qy0 at h
  split at h
  · rename_i i d hi hu
    have hs:(sizeOf t).run P w=.ok i.size w:=by simp [sizeOf,typeInfo,hi]
    have hagg:(isAgg t).run P w=.ok (match d with | .struct _ | .array _ _=>true | _=>false) w:=by
      unfold isAgg
      rw [Sem.run_bind,run_underlying hu w]
      cases d <;> simp
    unfold part
    rw [Sem.run_bind,hagg]
    split at h
    · simp only [Option.some.injEq] at h;subst h;simp [hs]
    · simp only [Option.some.injEq] at h;subst h;simp [hs]
    · rename_i h1 h2
      simp only [Result.andThen_ok]
      split
      · exact absurd rfl (h1 _)
      · exact absurd rfl (h2 _ _)
      · simp [h]
  · simp at h
theorem jt5 (d:Nat) (xs ys:Array Value) (ih:∀(t:TypeId) (x y:Value) (r:Bool) (w:World),eqV P d t x y=some r→(Op.equalIn d t x y).run P w=.ok r w) :
    ∀(fs:List Field) (r:Bool) (w:World),jr3 P (eqV P d) xs ys ((fs.filter (·.name != "_")).map fun f=>(f.type,f.offset))=some r→(Op.eqFields d xs ys fs).run P w=.ok r w
  | [],r,w,h=>by simp [jr3] at h;subst h;rfl
  | f :: fs,r,w,h=>by
    unfold Op.eqFields
    by_cases hn:f.name= "_"
    · rw [if_neg (by simp [hn])]
      simp only [List.filter_cons,hn,bne_self_eq_false,Bool.false_eq_true,if_false] at h
      exact jt5 d xs ys ih fs r w h
    · rw [if_pos hn]
      have hb:(f.name != "_")=true:=by simpa using hn
      simp only [List.filter_cons,hb,if_true,List.map_cons,jr3] at h
      split at h <;> try simp at h
      rename_i a b ha hb'
      split at h <;> try simp at h
      rename_i r1 hr1
      split at h <;> try simp at h
      rename_i r2 hr2
      subst h
      simp only [Sem.run_bind,jp9 ha,jp9 hb',ih _ _ _ _ _ hr1,Result.andThen_ok]
      cases r1
      · simp [band]
      · simpa [band] using jt5 d xs ys ih fs r2 w hr2
theorem ql3 (d:Nat) (xs ys:Array Value) (e:TypeId) (z:Nat) (ih:∀(t:TypeId) (x y:Value) (r:Bool) (w:World),eqV P d t x y=some r→(Op.equalIn d t x y).run P w=.ok r w) :
    ∀(l:List Nat) (r:Bool) (w:World),jr3 P (eqV P d) xs ys (l.map fun i=>(e,i * z))=some r→
      (Sem.run P (forIn l ((none:Option Bool),()) fun i s=>(do
        let a ← part e xs (i * z)
        let b ← part e ys (i * z)
        let r ← Op.equalIn d e a b
        if (!r)=true then pure (ForInStep.done (some false,())) else pure (ForInStep.yield (none,())):Sem (ForInStep (Option Bool×Unit)))) w)=.ok (bif r then (none,()) else (some false,())) w
  | [],r,w,h=>by simp [jr3] at h;subst h;rfl
  | i :: l,r,w,h=>by
    simp only [List.map_cons,jr3] at h
    split at h <;> try (simp at h;done)
    rename_i a b ha hb'
    split at h <;> try (simp at h;done)
    rename_i r1 hr1
    split at h <;> try (simp at h;done)
    rename_i r2 hr2
    simp only [Option.some.injEq] at h
    subst h
    simp only [List.forIn_cons,Sem.run_bind,jp9 ha,jp9 hb',ih _ _ _ _ _ hr1,Result.andThen_ok]
    cases r1
    · simp [band]
    · simpa [band] using ql3 d xs ys e z ih l r2 w hr2
theorem qy1:∀(d:Nat) (t:TypeId) (x y:Value) (r:Bool) (w:World),eqV P d t x y=some r→(Op.equalIn d t x y).run P w=.ok r w
  | 0,t,x,y,r,w,h=>by simp [eqV] at h
  | d + 1,t,x,y,r,w,h=>by
    unfold eqV at h
    split at h
    · rename_i hu
      split at h <;> try simp at h
      subst h
      exact run_equalIn_bool' w d t _ _ hu
    · rename_i k hu
      split at h <;> try simp at h
      obtain ⟨rfl,rfl⟩:=h
      rw [run_equalIn_int w d t _ _ _ _ hu];rfl
    · rename_i fs hu
      split at h <;> try simp at h
      obtain ⟨hp,h⟩:=h
      have hf:P.fieldsOf t=fs:=by simp [Program.fieldsOf,hu]
      rw [run_equalIn_agg w d t _ _ (by rw [hf];exact hu) hp,hf]
      exact jt5 d _ _ (fun t x y r w h=>qy1 d t x y r w h) _ _ _ h
    · rename_i n e hu
      split at h <;> try simp at h
      rename_i xs ys
      obtain ⟨hi,h⟩:=h
      obtain ⟨i,hi⟩:∃i,P.info? e=some i:=by
        cases q:P.info? e with
        | none=>exact absurd q hi
        | some i=>exact ⟨i,rfl⟩
      have hs:∀w,(sizeOf e).run P w=.ok i.size w:=fun w=>by simp [sizeOf,typeInfo,hi]
      have hz:jc9 P e=i.size:=by simp [jc9,hi]
      rw [hz] at h
      simp only [Op.equalIn,Sem.run_bind,run_underlying hu,Result.andThen_ok,hs,Std.Legacy.Range.forIn_eq_forIn_range',Std.Legacy.Range.size,Nat.sub_zero,Nat.add_sub_cancel,Nat.div_one,← List.range_eq_range']
      rw [ql3 d xs ys e i.size (fun t x y r w h=>qy1 d t x y r w h) (List.range n) r w h]
      cases r <;> rfl
    · simp at h
theorem yf3 {op:BinOp} {x y v:Value} {b:List Bool} {t:TypeId} (h:binV P op t x y=some (v,b)) (hb:∀c∈b,c=true) (p q:Operand) (w:World) :
    (do eqGuard op t p q x y;binOp op t x y:Sem Value).run P w=.ok v w∧ql2 v=true:=by
  unfold binV at h
  split at h
  · rename_i k a l c
    split at h
    · simp only [Option.some.injEq,Prod.mk.injEq] at h
      obtain ⟨rfl,rfl⟩:=h
      have hb:=hb _ (List.mem_singleton.2 rfl)
      simp only [ige,ge_iff_le,decide_eq_true_eq] at hb
      refine ⟨?_,rfl⟩
      simp only [eqGuard_shl,pure_bind,binOp_shl,Op.shift]
      rw [if_neg (by omega)]
      rfl
    · simp only [Option.some.injEq,Prod.mk.injEq] at h
      obtain ⟨rfl,rfl⟩:=h
      have hb:=hb _ (List.mem_singleton.2 rfl)
      simp only [ige,ge_iff_le,decide_eq_true_eq] at hb
      refine ⟨?_,rfl⟩
      simp only [eqGuard_shr,pure_bind,binOp_shr,Op.shift]
      rw [if_neg (by omega)]
      rfl
    · split at h
      · rename_i hkl
        subst hkl
        split at h <;> first
          | (simp only [Option.some.injEq,Prod.mk.injEq] at h
             obtain ⟨rfl,rfl⟩:=h
             refine ⟨?_,rfl⟩
             first
               | (have hb:=hb _ (List.mem_singleton.2 rfl)
                  simp only [ine,bne_iff_ne,ne_eq] at hb
                  simp [eqGuard_at_int,binOp_quo,binOp_rem,Op.intDiv,hb,iquo,irem];done)
               | (simp [eqGuard_at_int,binOp_add,binOp_sub,binOp_mul,binOp_and,binOp_or,binOp_xor,binOp_andNot,binOp_eql,binOp_neq,binOp_lss,binOp_leq,binOp_gtr,binOp_geq,Op.intArith,intBits_and,intBits_or,intBits_xor,intBits_andNot,iadd,isub,imul,iand,ior,ixor,y44,ieq,ine,ilt,ile,igt,ige];done))
          | simp at h
      · simp at h
  · rename_i a c
    split at h <;> try (simp at h;done)
    · rename_i hu
      simp only [Option.some.injEq,Prod.mk.injEq] at h
      obtain ⟨rfl,rfl⟩:=h
      refine ⟨?_,rfl⟩
      simp only [eqGuard_at_bool,pure_bind]
      exact run_eql_bool w t a c hu
    · rename_i hu
      simp only [Option.some.injEq,Prod.mk.injEq] at h
      obtain ⟨rfl,rfl⟩:=h
      refine ⟨?_,rfl⟩
      simp only [eqGuard_at_bool,pure_bind]
      exact run_neq_bool w t a c hu
  · rename_i k a l c
    split at h
    · rename_i hkl
      subst hkl
      have arith:∀op',(op'=.add∨op'=.sub∨op'=.mul∨op'=.quo)→op=op'→fok op' k a c=true→(do eqGuard op t p q (.float k a) (.float k c);binOp op t (.float k a) (.float k c):Sem Value).run P w=.ok (.float k (fop op' k a c)) w:=by
        intro op' ho e hb
        subst e
        obtain ⟨r,hr⟩:=Option.isSome_iff_exists.1 hb
        rw [eqGuard_at_float,pure_bind,run_float_arith w op t k a c r hr]
        simp [fop,hr]
      split at h <;> first
        | (simp only [Option.some.injEq,Prod.mk.injEq] at h
           obtain ⟨rfl,rfl⟩:=h
           refine ⟨?_,rfl⟩
           first
             | (exact arith _ (by simp) rfl (hb _ (List.mem_singleton.2 rfl));done)
             | (simp [eqGuard_at_float,binOp_float_cmp_eql,binOp_float_cmp_neq,binOp_float_cmp_lss,binOp_float_cmp_leq,binOp_float_cmp_gtr,binOp_float_cmp_geq,feq,fne,flt,fle,fgt,fge];done))
        | simp at h
    · simp at h
  · rename_i xs ys
    split at h
    · simp at h
    · rename_i hg
      have hg:P.eqGuardType P.depth t=false:=by simpa using hg
      split at h <;> try (simp at h;done)
      · rename_i r hr
        simp only [Option.some.injEq,Prod.mk.injEq] at h
        obtain ⟨rfl,rfl⟩:=h
        refine ⟨?_,rfl⟩
        rw [Sem.run_bind,run_eqGuard_agg w _ _ _ _ _ _ hg]
        simp only [Result.andThen_ok]
        rw [run_eql_struct,qy1 _ _ _ _ _ _ hr]
        rfl
      · rename_i r hr
        simp only [Option.some.injEq,Prod.mk.injEq] at h
        obtain ⟨rfl,rfl⟩:=h
        refine ⟨?_,rfl⟩
        rw [Sem.run_bind,run_eqGuard_agg w _ _ _ _ _ _ hg]
        simp only [Result.andThen_ok]
        rw [run_neq_struct,qy1 _ _ _ _ _ _ hr]
        rfl
  · simp at h
theorem yr9 {op:UnOp} {x v:Value} {b:List Bool} (h:unV op x=some (v,b)) (w:World) :
    (Op.unary op x).run P w=.ok v w∧ql2 v=true:=by
  unfold unV at h
  split at h <;> first
    | (simp only [Option.some.injEq,Prod.mk.injEq] at h
       obtain ⟨rfl,rfl⟩:=h
       refine ⟨?_,rfl⟩
       simp [Op.unary,Op.intArith,isub,bnot];done)
    | simp at h
theorem qa8 {fr:Nat×Nat} (g off:Nat) (t ty:TypeId) (cells:List Value) (hg:w.heap[g]?=some (.cells cells.toArray t fr)) (ha:jp8 P ty=true)
    (hl:off + jc9 P ty≤cells.length) (hi:(P.info? ty).isSome=true) :
    (Instr.loadAt ty (.pointer (some ⟨g,off,none⟩))).run P w=.ok (.agg ((cells.drop off).take (jc9 P ty)).toArray) w:=by
  obtain ⟨i,hi⟩:=Option.isSome_iff_exists.1 hi
  have hs:jc9 P ty=i.size:=by simp [jc9,hi]
  rw [hs] at hl ⊢
  obtain ⟨d,hu⟩:∃d,P.underlying ty=some d:=by
    unfold jp8 at ha
    cases h:P.underlying ty with
    | none=>simp [h] at ha
    | some d=>exact ⟨d,rfl⟩
  have hagg:(isAgg ty).run P w=.ok true w:=by
    unfold isAgg
    rw [Sem.run_bind,run_underlying hu w]
    unfold jp8 at ha
    rw [hu] at ha
    cases d <;> simp_all
  have hc:=run_loadCells_list (P:=P) w ⟨g,off,none⟩ ((cells.drop off).take i.size) (fun j v hv=>by
    have hadd:(⟨g,off,none⟩:Addr).add j=⟨g,off + j,none⟩:=by unfold Addr.add;split <;> simp_all
    rw [hadd]
    simp only [World.cell?,hg]
    simp only [List.getElem?_take,List.getElem?_drop] at hv
    split at hv
    · simpa using hv
    · simp at hv)
  have hlen:((cells.drop off).take i.size).length=i.size:=by rw [List.length_take,List.length_drop];omega
  rw [hlen] at hc
  simp [Instr.loadAt,Instr.sureAddr,loadVar,hagg,sizeOf,typeInfo,hi,hc]
theorem qa9 {fr:Nat×Nat} (g off:Nat) (t ty:TypeId) (cells:List Value) (v:Value) (hg:w.heap[g]?=some (.cells cells.toArray t fr)) (ha:jp8 P ty=false)
    (hu:(P.underlying ty).isSome=true) (hv:cells[off]?=some v):(Instr.loadAt ty (.pointer (some ⟨g,off,none⟩))).run P w=.ok v w:=by
  obtain ⟨d,hu⟩:=Option.isSome_iff_exists.1 hu
  have hagg:(isAgg ty).run P w=.ok false w:=by
    unfold isAgg
    rw [Sem.run_bind,run_underlying hu w]
    unfold jp8 at ha
    rw [hu] at ha
    cases d <;> simp_all
  have hc:w.cell? ⟨g,off,none⟩=some v:=by simp only [World.cell?,hg];simpa using hv
  simp [Instr.loadAt,Instr.sureAddr,loadVar,hagg,hc]
theorem qt7 (g off:Nat) (t ty:TypeId) (cells:List Value) (x:Value) (hg:w.heap[g]?=some (.cells cells.toArray t (0,0))) (hi:(P.info? ty).isSome=true)
    (hs:x.cells.size=jc9 P ty) (hl:off + x.cells.size≤cells.length) (h1:x.cells.all Value.oneCell'=true) :
    (Instr.storeAt ty (.pointer (some ⟨g,off,none⟩)) x).run P w=.ok () (w.setRow g (splice cells off x.cells.toList).toArray):=by
  obtain ⟨i,hi⟩:=Option.isSome_iff_exists.1 hi
  have hs:x.cells.size=i.size:=by simpa [jc9,hi] using hs
  have:=run_storeCells_at (P:=P) g off t x.cells.toList 0 cells.toArray w hg (by simpa using hl) (fun v hv=>(Array.all_eq_true_iff_forall_mem.1 h1) v (by simpa using hv))
  simp only [Nat.add_zero] at this
  simp [Instr.storeAt,Instr.sureAddr,storeVar,sizeOf,typeInfo,hi,hs,this,splice]
end
end Go.Proofs.YthkidembkknoeaaDoor.PR
namespace Go.Proofs.YthkidembkknoeaaDoor.PR
open Go.RowKit
set_option linter.unusedVariables false
set_option linter.unusedSimpArgs false
section
variable {P:Program} {O:ja7} {base:Nat} {β:Nat→Nat} {s:PSt} {a:Act} {w:World} {o:Oper}
end
end Go.Proofs.YthkidembkknoeaaDoor.PR
namespace Go.Proofs.YthkidembkknoeaaDoor.PR
open Go.RowKit
set_option linter.unusedVariables false
set_option linter.unusedSimpArgs false
section
variable {P:Program} {O:ja7} {ops:List Oper}
def Eff.rd:Eff→Option Nat
  | .val _ _ r=>r
  | .new _ _=>none
  | .put n _=>some n
theorem apart_spec {lx ly:List Tmp} {dx dy:Option Tmp} (h:apart lx ly dx dy=true):(∀d,dx=some d→∀t∈ly,t≠d)∧(∀d e,dx=some d→dy=some e→d≠e)∧(∀d,dy=some d→∀t∈lx,t≠d):=by
  unfold apart at h
  simp only [Bool.and_eq_true] at h
  obtain ⟨h1,h2⟩:=h
  refine ⟨?_,?_,?_⟩
  · intro d e t ht
    subst e
    simp only [Bool.and_eq_true,Bool.not_eq_true',List.any_eq_false,Nat.beq_eq] at h1
    exact h1.1 t ht
  · intro d e e1 e2
    subst e1 e2
    simp only [Bool.and_eq_true,Bool.not_eq_true'] at h1
    intro hc;subst hc
    simp at h1
  · intro d e t ht
    subst e
    simp only [Bool.not_eq_true',List.any_eq_false,Nat.beq_eq] at h2
    exact h2 t ht
inductive RunL (P:Program) (O:ja7) (ops:List Oper) (nm:Nat) (D:Nat→Delta):List Nat→PSt→PSt→Prop
  | nil (s:PSt):RunL P O ops nm D [] s s
  | cons {i:Nat} {l:List Nat} {s s':PSt} {o:Oper} (ho:ops[i]?=some o) (h:stepD P O ops (nm + i) o s=some (D i)) (t:RunL P O ops nm D l (jg8 o.dst (D i) s) s'):RunL P O ops nm D (i :: l) s s'
theorem RunL.ok {nm:Nat} {D:Nat→Delta} {l:List Nat} {s s':PSt} (h:RunL P O ops nm D l s s'):s'.ok→s.ok:=by
  induction h with
  | nil=>exact id
  | cons ho h t ih=>intro hk;have:=ih hk;simp only [jg8,q79] at this;exact this.2
theorem ja1 {b:Bool} {p q:Prop}:ja0 b p q↔(b=true→p)∧(b=false→q):=by cases b <;> simp [ja0]
theorem ql4:∀(n j:Nat) (m:Int) (k:Nat→Prop),vj9 m j n k→∃i:Nat,m=i∧k i
  | 0,_,_,_,h=>h.elim
  | n + 1,j,m,k,h=>by
    unfold vj9 at h
    rw [ja1] at h
    cases e:ieq m j
    · exact ql4 n (j + 1) m k (h.2 e)
    · exact ⟨j,by simpa [ieq] using e,h.1 e⟩
end
end Go.Proofs.YthkidembkknoeaaDoor.PR
namespace Go.Proofs.YthkidembkknoeaaDoor.PR
open Go.RowKit
set_option linter.unusedVariables false
set_option linter.unusedSimpArgs false
theorem qu7 {tab:List Nat} {a:Nat}:∀{ds:List Nat},Nat.testBit (qu5 tab ds) a=true→∃d∈ds,a=d∨Nat.testBit (tab.getD d 0) a=true
  | [],h=>by simp [qu5] at h
  | d :: ds,h=>by
    unfold qu5 at h
    have h:Nat.testBit ((1 <<< d ||| tab.getD d 0) ||| qu5 tab ds) a=true:=h
    rw [Nat.testBit_or,Nat.testBit_or,Bool.or_eq_true,Bool.or_eq_true] at h
    rcases h with (h | h) | h
    · refine ⟨d,by simp,Or.inl ?_⟩
      rw [Nat.shiftLeft_eq,Nat.one_mul,Nat.testBit_two_pow] at h
      simp at h;exact h.symm
    · exact ⟨d,by simp,Or.inr h⟩
    · obtain ⟨e,he,h⟩:=qu7 h
      exact ⟨e,by simp [he],h⟩
section
variable {ops:List Oper}
theorem qu8 {L:Nat→Prop} (hc:∀(j:Nat) (o:Oper),ops[j]?=some o→L j→∀d∈deps o,L d) :
    ∀(rest:List Oper) (tab:List Nat),(∀k o,rest[k]?=some o→ops[tab.length + k]?=some o)→(tab.length + rest.length=ops.length)→
      (∀(j:Nat) (o:Oper),j < tab.length→ops[j]?=some o→(∀d∈deps o,L d)→∀a,Nat.testBit (tab.getD j 0) a=true→L a)→
      ∀(j:Nat) (o:Oper),ops[j]?=some o→(∀d∈deps o,L d)→∀a,Nat.testBit ((masks tab rest).getD j 0) a=true→L a
  | [],tab,_,hl,h,j,o,ho=>h j o (by
      have:=(List.getElem?_eq_some_iff.1 ho).1
      simp at hl;omega) ho
  | x :: rest,tab,hx,hl,h,j,o,ho=>by
    unfold masks
    refine qu8 hc rest _ (fun k o hk=>?_) (by simp at hl ⊢;omega) (fun j o hj ho hd a ha=>?_) j o ho
    · have:=hx (k + 1) o (by simpa using hk)
      rw [List.length_append,List.length_singleton,Nat.add_assoc,Nat.add_comm 1 k];exact this
    · by_cases e:j < tab.length
      · rw [List.getD_eq_getElem?_getD,List.getElem?_append_left e,← List.getD_eq_getElem?_getD] at ha
        exact h j o e ho hd a ha
      · have e:j=tab.length:=by simp at hj;omega
        subst e
        rw [List.getD_eq_getElem?_getD,List.getElem?_concat_length] at ha
        have hox:ops[tab.length]?=some x:=hx 0 x rfl
        rw [ho] at hox
        obtain rfl:o=x:=by simpa using hox
        obtain ⟨d,hdm,hd'⟩:=qu7 ha
        rcases hd' with rfl | hb
        · exact hd _ hdm
        · by_cases hlt:d < tab.length
          · obtain ⟨od,hod⟩:∃od,ops[d]?=some od:=⟨_,List.getElem?_eq_getElem (by omega)⟩
            exact h d od hlt hod (hc d od hod (hd d hdm)) a hb
          · rw [List.getD_eq_getElem?_getD,List.getElem?_eq_none (by omega)] at hb
            simp at hb
theorem qh2:∀(rest:List Oper) (tab:List Nat),(masks tab rest).length=tab.length + rest.length
  | [],tab=>rfl
  | x :: rest,tab=>by unfold masks;rw [qh2];simp;omega
theorem qb3:∀(os:List Oper) (i:Nat),jr4 i os=true→∀j o,os[j]?=some o→∀d∈deps o,d < i + j
  | [],i,_,j,o,h=>by simp at h
  | x :: os,i,h,j,o,ho=>by
    unfold jr4 at h
    simp only [Bool.and_eq_true] at h
    cases j with
    | zero =>
      simp at ho;subst ho
      intro d hd
      have:=List.all_eq_true.1 h.1 d hd
      simpa [Nat.blt_eq] using this
    | succ j =>
      intro d hd
      have:=qb3 os (i + 1) h.2 j o (by simpa using ho) d hd
      omega
end
section
variable {P:Program} {O:ja7} {base:Nat} {β:Nat→Nat} {ops:Array Oper} {Q:Exit→Act→World→Prop}
theorem gd (l:Array Bool) (i:Nat) (b:Bool) (h:i < l.size):l.getD i b=l[i]:=by simp [Array.getD,h]
theorem gs (l:Array Bool) (i j:Nat) (b:Bool) (h:j < l.size):(l.setIfInBounds i true).getD j b=if i=j then true else l[j]:=by
  rw [gd _ _ _ (by simpa using h),Array.getElem_setIfInBounds]
end
end Go.Proofs.YthkidembkknoeaaDoor.PR
namespace Go.Proofs.YthkidembkknoeaaDoor.PR
open Go.RowKit
set_option linter.unusedVariables false
set_option linter.unusedSimpArgs false
inductive Ex where
  | normal
  | exit (id:Nat)
  | ret
def exOf:Ex→Exit
  | .normal=>.normal
  | .exit id=>.exit id
  | .ret=>.ret
def jp3:List (Nat×List Value)→Nat→Option (List Value)
  | [],_=>none
  | (m,x) :: rest,n=>if n=m then some x else jp3 rest n
structure Inv where
  ι:Type
  good:ι→Prop
  slots:ι→List GV
  blocks:ι→List (Nat×List Value)
  μ:ι→Nat
def Inv.st (I:Inv) (i:I.ι):PSt:=⟨I.slots i,jp3 (I.blocks i),True,[]⟩
inductive Ann where
  | inv (I:Inv)
  | rounds (n:Nat)
  | named
def named:Nat→Option Ann:=fun n=>bif Nat.beq n 1000000 then some .named else none
def keyOf:Code→Nat
  | .region id _ _=>id
  | .seq a _=>keyOf a
  | .block _ c=>keyOf c
  | .loop c=>keyOf c
  | _=>0
theorem wp_loop' {P:Program} {c:Code} {Q:Exit→Act→World→Prop} {ι:Type} (I:ι→Act→World→Prop) (μ:ι→Nat) {a:Act} {w:World} (i0:ι) (h₀:I i0 a w)
    (round:∀i a w,I i a w→c.wp P (Exit.then (fun a' w'=>∃j,I j a' w'∧μ j < μ i) Q) a w):(Code.loop c).wp P Q a w:=by
  intro b k cs
  have key:∀n i a w,μ i=n→I i a w→
      ∃e a' w',Q e a' w'∧Arrives P (lone (b.at a (.code c :: .inLoop c :: k)) cs w) b k cs e a' w':=by
    intro n
    induction n using Nat.strongRecOn with
    | _ n ih =>
      intro i a w hn hI
      obtain ⟨e,a₁,w₁,hq,harr⟩:=round i a w hI b (.inLoop c :: k) cs
      cases e with
      | normal =>
        obtain ⟨j,hI₁,hlt⟩:=hq
        obtain ⟨e₂,a₂,w₂,hq₂,harr₂⟩:=ih (μ j) (hn▸hlt) j a₁ w₁ rfl hI₁
        exact ⟨e₂,a₂,w₂,hq₂,.of_steps (Steps.trans harr (.one step_inLoop)) harr₂⟩
      | exit id=>exact ⟨_,a₁,w₁,hq,.pass (x:=.inLoop c) rfl (fun _ _=>.inl (by simp)) harr⟩
      | goto l=>exact ⟨_,a₁,w₁,hq,.pass (x:=.inLoop c) rfl (fun _ _=>.inl (by simp)) harr⟩
      | ret=>exact ⟨_,a₁,w₁,hq,.pass (x:=.inLoop c) rfl (fun _ _=>.inl (by simp)) harr⟩
      | panic ch=>exact ⟨_,a₁,w₁,hq,.pass (x:=.inLoop c) rfl (fun _ _=>.inl (by simp)) harr⟩
      | outgrown=>exact ⟨_,a₁,w₁,hq,.pass (x:=.inLoop c) rfl (fun _ _=>.inl (by simp)) harr⟩
  obtain ⟨e,a',w',hq,harr⟩:=key _ i0 a w rfl h₀
  exact ⟨e,a',w',hq,.of_steps (.one step_loop) harr⟩
section
variable {P:Program} {O:ja7} {base:Nat}
end
end Go.Proofs.YthkidembkknoeaaDoor.PR
namespace Go.Proofs.YthkidembkknoeaaDoor.PR
open Go.RowKit
set_option linter.unusedVariables false
set_option linter.unusedSimpArgs false
section
variable {P:Program} {O:ja7} {base:Nat} {β:Nat→Nat} {s:PSt} {a:Act} {w:World}
def vk0 (P:Program) (f:Nat) (s:List Value→Option (Value×List Bool)):Prop:=∀args v bs,s args=some (v,bs)→vp5 bs True→Does P f args.toArray v
theorem jw1 {f:FuncId} {fn:Func} {c:Code} (hf:P.funcs[f]?=some fn) (hname:(fn.name == "runtime.NumGoroutine")=false) (hb:fn.body=some c) (args:Array Value) (w:World) :
    (callFunc f args).run P w=.ok (.enter f args) w:=by
  have h1:fn.name≠ "runtime.NumGoroutine":=by simpa using hname
  simp [callFunc,hf,h1,hb]
theorem qy2 {f:FuncId} {fn:Func} (hf:P.funcs[f]?=some fn) (hn:(fn.name == "runtime.NumGoroutine")=false) (hb:fn.body=some (fn.body.getD .skip)) {args:Array Value} {v:Value}
    (h:∀w,Calls P f args w fun e w'=>e=.returned v∧Below w.heap.size w w'):Does P f args v :=
  fun w=>Or.inr ⟨jw1 hf hn hb _ w,h w⟩
end
end Go.Proofs.YthkidembkknoeaaDoor.PR
