import Derived.Test.YthkidembkknoeaaDoorPm02
import Derived.Laws.MakeOwn
import Derived.Lib.AppendStr
import Derived.Laws.IdiomCopy
import Derived.Laws.BytesString
import Derived.Lib.ConvBytes
namespace Go.Proofs.YthkidembkknoeaaDoor.QR
open Go.RowKit PR
set_option linter.unusedVariables false
mutual
inductive CV where
 | v (x:Value)
 | slc (z:Nat) (n:Int) (r:Row)
 | own (m:Nat) (n:Int)
 | ptr (m off:Nat)
 | fn (f:FuncId) (caps:List (Nat×Nat))
 | fresh (z:Nat) (n:Int) (r:Row)
 | clo (f:FuncId) (l:List (List Value))
inductive Row where
 | fn (g:Int->Nat->CV)
 | zer (l:List Value)
 | col (j:Nat) (f:Int->CV) (r:Row)
 | upd (r:Row) (i:Int) (j:Nat) (c:CV)
 | app (r:Row) (n:Int) (r2:Row)
 | sub (r:Row) (l:Int)
 | sel (c:Bool) (r r2:Row)
 | lst (k:IntKind) (l:List Int)
end
inductive XV where
 | c (x:CV)
 | agg (l:List CV)
inductive SV where
 | x (v:XV)
 | tup (l:List XV)
 | eptr (m z:Nat) (i:Int) (off:Nat)
 | fptr (z:Nat) (r:Row) (i:Int) (off:Nat)
 | view (m z:Nat) (l n:Int)
inductive Blk where
 | cells (l:List CV)
 | row (z:Nat) (n:Int) (r:Row)
 | fro (z:Nat) (n:Int) (r:Row)
 | dead
def yr7:CV:=.v undef
def nilS:Value:=.slice none 0 0
def ssel (c:Bool) (a b:ByteArray):ByteArray:=bif c then a else b
def csel (c:Bool):CV->CV->CV
 | .v (.int k a),.v (.int l b)=>if k=l then .v (.int k (isel c a b)) else bif c then .v (.int k a) else .v (.int l b)
 | .v (.bool a),.v (.bool b)=>.v (.bool (bsel c a b))
 | .v (.string a),.v (.string b)=>.v (.string (ssel c a b))
 | .slc z n r,.slc y m q=>bif Nat.beq z y then .slc z (isel c n m) (.sel c r q) else bif c then .slc z n r else .slc y m q
 | .slc z n r,.v (.slice none 0 0)=>bif Nat.blt 0 z then .slc z (isel c n 0) r else bif c then .slc z n r else .v (.slice none 0 0)
 | .v (.slice none 0 0),.v (.slice none 0 0)=>.v (.slice none 0 0)
 | x,y=>bif c then x else y
def addZ (a b:Int):Int:=a + b
def subZ (a b:Int):Int:=a - b
def jd2 (a:Int) (b:Nat):Int:=a * b
def nthV:List Value->Nat->CV
 | [],_=>yr7
 | v :: _,0=>.v v
 | _ :: l,j + 1=>nthV l j
def bAt (l:List Int) (i:Int):Int:=(l[i.toNat]?).getD 0
def den:Row->Int->Nat->CV
 | .fn g,i,j=>g i j
 | .zer l,_,j=>nthV l j
 | .col k f r,i,j=>bif Nat.beq k j then f i else den r i j
 | .upd r a k c,i,j=>bif Nat.beq k j then csel (ieq i a) c (den r i j) else den r i j
 | .app r n r2,i,j=>csel (ilt i n) (den r i j) (den r2 (subZ i n) j)
 | .sub r l,i,j=>den r (addZ i l) j
 | .sel c r r2,i,j=>csel c (den r i j) (den r2 i j)
 | .lst k l,i,_=>.v (.int k (bAt l i))
structure GV where
 k:Bool
 v:SV
structure PSt where
 tmps:List GV
 mem:Nat->Option Blk
 ok:Prop
 lits:List Tmp
 gen:Nat
def vS (x:Value):SV:=.x (.c (.v x))
def gnow (v:SV):GV:=⟨true,v⟩
def gunk:GV:=⟨false,.tup []⟩
def slotsOf (n:Nat) (l:List (Nat×SV)):List GV:=(List.range n).map λ t=>match l.find? (λ p=>Nat.beq p.1 t) with | some p=>gnow p.2 | none=>gunk
def qm6:List Prop->Prop->Prop
 | [],p=>p
 | b :: l,p=>b/\qm6 l p
def jh6:Value->Bool
 | .bool _ | .int _ _ | .float _ _ | .complex _ _ _ | .string _ | .pointer none | .map none | .chan none | .nilFunc | .nilIface=>true
 | .slice none 0 0=>true
 | .func (.func _) ⟨[]⟩ ⟨[]⟩=>true
 | _=>false
def bs (l:List UInt8):ByteArray:=⟨⟨l⟩⟩
def GB:Nat:=1000000000000000000
def PN:Nat:=100000000000000000
theorem vr7:PN < GB:=by decide
def gtab:Nat->Option (List CV):=(λ m=>bif Nat.beq m (GB + 0) then some [.v (.string (bs [])),.v (.int .i64 0),.v (.int .i64 0),.v (.int .i64 0),.v (.bool false),.v (.bool false),.v (.string (bs [99,108,101,97,114])),.v (.int .i64 0),.v (.int .i64 0),.v (.int .i64 0),.v (.bool false),.v (.bool false),.v (.string (bs [115,114,99])),.v (.int .i64 1),.v (.int .i64 0),.v (.int .i64 1),.v (.bool false),.v (.bool true),.v (.string (bs [100,115,116])),.v (.int .i64 0),.v (.int .i64 1),.v (.int .i64 2),.v (.bool true),.v (.bool false),.v (.string (bs [115,114,99,45,111,118,101,114])),.v (.int .i64 1),.v (.int .i64 3),.v (.int .i64 3),.v (.bool true),.v (.bool true),.v (.string (bs [100,115,116,45,111,118,101,114])),.v (.int .i64 3),.v (.int .i64 1),.v (.int .i64 3),.v (.bool true),.v (.bool true),.v (.string (bs [115,114,99,45,105,110])),.v (.int .i64 2),.v (.int .i64 0),.v (.int .i64 4),.v (.bool false),.v (.bool false),.v (.string (bs [100,115,116,45,105,110])),.v (.int .i64 0),.v (.int .i64 2),.v (.int .i64 4),.v (.bool false),.v (.bool false),.v (.string (bs [115,114,99,45,111,117,116])),.v (.int .i64 3),.v (.int .i64 0),.v (.int .i64 1),.v (.bool false),.v (.bool true),.v (.string (bs [100,115,116,45,111,117,116])),.v (.int .i64 0),.v (.int .i64 3),.v (.int .i64 2),.v (.bool true),.v (.bool false),.v (.string (bs [115,114,99,45,97,116,111,112])),.v (.int .i64 2),.v (.int .i64 3),.v (.int .i64 2),.v (.bool true),.v (.bool false),.v (.string (bs [100,115,116,45,97,116,111,112])),.v (.int .i64 3),.v (.int .i64 2),.v (.int .i64 1),.v (.bool false),.v (.bool true),.v (.string (bs [120,111,114])),.v (.int .i64 3),.v (.int .i64 3),.v (.int .i64 3),.v (.bool true),.v (.bool true)] else bif Nat.beq m (GB + 1) then some [.v (.string (bs [])),.v (.string (bs [110,111,114,109,97,108])),.v (.string (bs [109,117,108,116,105,112,108,121])),.v (.string (bs [115,99,114,101,101,110])),.v (.string (bs [111,118,101,114,108,97,121])),.v (.string (bs [100,97,114,107,101,110])),.v (.string (bs [108,105,103,104,116,101,110])),.v (.string (bs [99,111,108,111,114,45,100,111,100,103,101])),.v (.string (bs [99,111,108,111,114,45,98,117,114,110])),.v (.string (bs [104,97,114,100,45,108,105,103,104,116])),.v (.string (bs [115,111,102,116,45,108,105,103,104,116])),.v (.string (bs [100,105,102,102,101,114,101,110,99,101])),.v (.string (bs [101,120,99,108,117,115,105,111,110]))] else none)
def operand (s:PSt):Operand->GV
 | .tmp t=>s.tmps.getD t (gnow (.tup []))
 | .const v=>if jh6 v then gnow (vS v) else gunk
 | .func f=>gnow (vS (.func (.func f) ⟨[]⟩ ⟨[]⟩))
 | .global g=>if (gtab (GB + g)).isSome then gnow (.x (.c (.ptr (GB + g) 0))) else gunk
def valOf (s:PSt) (x:Operand):SV:=(operand s x).v
def cellsOf:XV->List CV
 | .c x=>[x]
 | .agg l=>l
def toVs:List CV->Option (List Value)
 | []=>some []
 | .v x :: l=>match toVs l with | some m=>some (x :: m) | none=>none
 | _ :: _=>none
def isFz:CV->Bool
 | .v x=>jh6 x
 | .slc _ _ _=>true
 | .clo _ _=>true
 | _=>false
def qm7 (P:Program) (l:List CV) (t:TypeId) (off:Nat):Option XV :=
 if jq5 P t then (if Nat.ble (off + jd0 P t) l.length && (P.info? t).isSome then some (.agg ((l.drop off).take (jd0 P t))) else none)
 else match l[off]? with
  | some c=>if (P.underlying t).isSome && (P.info? t).isSome then some (.c c) else none
  | none=>none
def yi5 (P:Program) (t:TypeId) (z:Nat) (r:Row) (i:Int) (off:Nat):Option XV :=
 if jq5 P t then (if Nat.ble (off + jd0 P t) z && Nat.blt 0 (jd0 P t) && (P.info? t).isSome then some (.agg ((List.range (jd0 P t)).map λ k=>den r i (off + k))) else none)
 else if Nat.blt off z && (P.underlying t).isSome then some (.c (den r i off)) else none
def memC (s:PSt) (m:Nat):Option (List CV) :=
 match s.mem m with
 | some (.cells l)=>some l
 | some _=>none
 | none=>gtab m
def rowOf (s:PSt) (m:Nat):Option (Nat×Int×Row) :=
 match s.mem m with
 | some (.row z n r)=>some (z,n,r)
 | some (.fro z n r)=>some (z,n,r)
 | _=>none
def rowW (s:PSt) (m:Nat):Option (Nat×Int×Row) :=
 match s.mem m with
 | some (.row z n r)=>some (z,n,r)
 | _=>none
def qz9 (cells:List CV) (off:Nat) (vs:List CV):List CV:=cells.take off ++ vs ++ cells.drop (off + vs.length)
def q88 (r:Row) (i:Int):Nat->List CV->Row
 | _,[]=>r
 | j,c :: l=>q88 (.upd r i j c) i (j + 1) l
inductive AV where
 | x (v:XV)
 | ref (off:Nat) (cells:List CV)
structure Ans where
 res:List XV
 upd:List (List CV)
 ask:List Prop
def ja8:=FuncId->List AV->Option Ans
def orc:List (Nat×(List AV->Option Ans))->ja8
 | []=>λ _ _=>none
 | (f,g) :: rest=>λ h args=>bif Nat.beq h f then g args else orc rest h args
def resC (s:PSt):CV->Option (CV×List Nat)
 | .own m n=>match rowOf s m with
  | some (z,k,r)=>some (.slc z k r,[m])
  | none=>none
 | .ptr _ _=>none
 | .fn _ _=>none
 | .fresh _ _ _=>none
 | c=>some (c,[])
def resL (s:PSt):List CV->Option (List CV×List Nat)
 | []=>some ([],[])
 | c :: l=>match resC s c,resL s l with
  | some (d,a),some (m,b)=>some (d :: m,a ++ b)
  | _,_=>none
structure Arg where
 a:AV
 rows:List Nat
 refs:List Nat
def q00 (s:PSt) (m z:Nat) (l n:Int):Option (CV×List Nat) :=
 match rowOf s m with
 | some (z',_,r)=>if Nat.beq z z' then some (.slc z n (.sub r l),[m]) else none
 | none=>none
def argA (s:PSt):SV->Option Arg
 | .x (.c (.ptr m off))=>match s.mem m with
  | some (.cells l)=>match resL s l with
   | some (k,a)=>some ⟨.ref off k,a,[m]⟩
   | none=>none
  | _=>none
 | .x (.c c)=>match resC s c with
  | some (d,a)=>some ⟨.x (.c d),a,[]⟩
  | none=>none
 | .x (.agg l)=>match resL s l with
  | some (k,a)=>some ⟨.x (.agg k),a,[]⟩
  | none=>none
 | .view m z l n=>match q00 s m z l n with
  | some (d,a)=>some ⟨.x (.c d),a,[]⟩
  | none=>none
 | _=>none
def qm8 (s:PSt):List SV->Option (List AV×List Nat×List Nat)
 | []=>some ([],[],[])
 | v :: l=>match argA s v,qm8 s l with
  | some g,some (al,rows,refs)=>some (g.a :: al,g.rows ++ rows,g.refs ++ refs)
  | _,_=>none
def distinct:List Nat->Bool
 | []=>true
 | m :: l=>!(l.any (Nat.beq m)) && distinct l
def isV:CV->Bool
 | .v _=>true
 | _=>false
def allV (l:List XV):Bool:=l.all λ x=>(cellsOf x).all isV
def fzX (l:List XV):Bool:=l.all λ x=>(cellsOf x).all isFz
def froze (s:PSt):List Nat->List (Nat×Blk)
 | []=>[]
 | m :: l=>match s.mem m with
  | some (.row z n r)=>(m,.fro z n r) :: froze s l
  | _=>froze s l
def zipU:List Nat->List (List CV)->Option (List (Nat×Blk))
 | [],[]=>some []
 | m :: l,c :: k=>match zipU l k with | some u=>some ((m,.cells c) :: u) | none=>none
 | _,_=>none
def vl3:List AV->List (List CV)->Bool
 | [],[]=>true
 | .ref _ c :: l,d :: k=>Nat.beq c.length d.length && d.all isFz && vl3 l k
 | .x _ :: l,k=>vl3 l k
 | _,_=>false
def resS:List XV->SV
 | [v]=>.x v
 | l=>.tup l
structure Eff where
 v:SV
 ok:List Prop
 rd:List Nat
 up:List (Nat×Blk)
 nw:Option Blk
def eV (v:SV):Option Eff:=some ⟨v,[],[],[],none⟩
def jk0 (s:PSt):Callee->Option (FuncId×List (Nat×Nat))
 | .value x=>match operand s x with
  | ⟨true,.x (.c (.v (.func (.func f) ⟨[]⟩ ⟨[]⟩)))⟩=>some (f,[])
  | ⟨true,.x (.c (.fn f caps))⟩=>some (f,caps)
  | _=>none
 | _=>none
def vf8 (P:Program) (t:TypeId):Option (List Value) :=
 match P.info? t with
 | some i=>match i.zero with
  | some z=>if z.cells.toList.all jh6 && Nat.beq z.cells.size i.size then some z.cells.toList else none
  | none=>none
 | none=>none
def qi5 (P:Program) (t:TypeId):Nat:=match P.info? t with | some i=>i.bytes | none=>0
def vw8 (P:Program) (t:TypeId):Option (Nat->Option (Nat×Nat)) :=
 match P.underlying t with
 | some (.array _ e)=>match P.info? e with
  | some ie=>some λ i=>some (i * ie.size,ie.size)
  | none=>none
 | some (.struct fs)=>match fs.toList.mapM (λ f=>(P.info? f.type).map λ i=>(f.offset,i.size)) with
  | some pl=>some λ i=>pl.toArray[i]?
  | none=>none
 | _=>none
def vw9 (place:Nat->Option (Nat×Nat)) (cells:List CV):List (Nat×List CV)->Option (List CV)
 | []=>some cells
 | (i,l) :: rest=>match place i with
  | some (off,size)=>if Nat.beq l.length size && Nat.ble (off + size) cells.length then vw9 place (qz9 cells off l) rest else none
  | none=>none
def vx0 (z:Nat) (r:Row):List (Nat×List CV)->Option Row
 | []=>some r
 | (i,l) :: rest=>if Nat.beq l.length z && l.all isFz then vx0 z (q88 r (i:Int) 0 l) rest else none
def partsOf (s:PSt):List (Nat×Operand)->Option (List (Nat×List CV))
 | []=>some []
 | (i,x) :: l=>match valOf s x,partsOf s l with
  | .x v,some m=>some ((i,cellsOf v) :: m)
  | _,_=>none
def jx9:SV->Option (IntKind×Int)
 | .x (.c (.v (.int k n)))=>some (k,n)
 | _=>none
def qi6 (s:PSt):List Operand->Option (List (Nat×Nat))
 | []=>some []
 | x :: l=>match operand s x,qi6 s l with
  | ⟨true,.x (.c (.ptr m off))⟩,some k=>some ((m,off) :: k)
  | _,_=>none
def qb9 (s:PSt):SV->Option (List Nat×Nat×Int×Row)
 | .x (.c c)=>match resC s c with
  | some (.slc z n r,ms)=>some (ms,z,n,r)
  | _=>none
 | _=>none
def jg6 (s:PSt) (d:Int):Option Operand->Option Int
 | none=>some d
 | some x=>match jx9 (valOf s x) with
  | some (_,n)=>some n
  | none=>none
def seqB (a b:ByteArray):Bool:=a.data.toList == b.data.toList
def strV (op:BinOp) (a b:ByteArray):Option Value :=
 match op with
 | .eql=>some (.bool (seqB a b))
 | .neq=>some (.bool (bnot (seqB a b)))
 | _=>none
def jx4 (s:ByteArray):Int:=s.size
def satI (s:ByteArray) (i:Int):Int:=match s[i.toNat]? with | some b=>b.toNat | none=>0
def jy7:CV->Bool
 | .fresh _ _ _=>true
 | _=>false
def je2:CV->List (Nat×Int×Row)
 | .fresh z n r=>[(z,n,r)]
 | _=>[]
def jb7:List CV->List (Nat×Int×Row)
 | []=>[]
 | c :: l=>je2 c ++ jb7 l
def jc3:List XV->List (Nat×Int×Row)
 | []=>[]
 | x :: l=>jb7 (cellsOf x) ++ jc3 l
def ownC (name:Nat):CV->CV
 | .fresh _ n _=>.own name n
 | c=>c
def ownX (name:Nat):XV->XV
 | .c c=>.c (ownC name c)
 | .agg l=>.agg (l.map (ownC name))
def fzO (l:List XV):Bool:=l.all λ x=>(cellsOf x).all λ c=>isFz c || jy7 c
def vr8:List XV->Option (Nat×Nat×Int×Int)
 | [.agg [.own k l,.own j n]]=>some (k,j,l,n)
 | _=>none
def qm9:List SV->Nat->Nat->Option SV
 | .x v :: _,0,j=>match (cellsOf v)[j]? with
  | some c=>some (.x (.c c))
  | none=>none
 | .view m z l n :: _,0,0=>some (.view m z l n)
 | _ :: l,k + 1,j=>qm9 l k j
 | _,_,_=>none
def slcA:List AV->Nat->Nat->Option Nat
 | .x v :: _,0,j=>match (cellsOf v)[j]? with
  | some (.slc z _ _)=>some z
  | _=>none
 | _ :: l,k + 1,j=>slcA l k j
 | _,_,_=>none
def vf9 (args:List SV) (al:List AV) (rows refs:List Nat) (ask:List Prop) (v:Nat×Nat×Int×Int):Option Eff :=
 if Nat.beq refs.length 0 then
  match slcA al v.1 v.2.1,qm9 args v.1 v.2.1 with
  | some z,some (.x (.c (.own m N)))=>some ⟨.view m z v.2.2.1 v.2.2.2,(ile 0 v.2.2.1=true) :: (ile 0 v.2.2.2=true) :: (ile (addZ v.2.2.1 v.2.2.2) N=true) :: ask,rows,[],none⟩
  | some z,some (.view m z' l0 N)=>if Nat.beq z z' then some ⟨.view m z (addZ l0 v.2.2.1) v.2.2.2,(ile 0 v.2.2.1=true) :: (ile 0 v.2.2.2=true) :: (ile (addZ v.2.2.1 v.2.2.2) N=true) :: ask,rows,[],none⟩ else none
  | some z,some (.x (.c (.slc z' N r)))=>if Nat.beq z z' then some ⟨.x (.c (.slc z v.2.2.2 (.sub r v.2.2.1))),(ile 0 v.2.2.1=true) :: (ile 0 v.2.2.2=true) :: (ile (addZ v.2.2.1 v.2.2.2) N=true) :: ask,rows,[],none⟩ else none
  | _,_=>none
 else none
def y76 (O:ja8):Bool:=match O 1000000009 [] with | some _=>true | none=>false
def vx1 (z:Nat) (n:Int) (r:Row):Prop:=∀i j:Nat,(i:Int) < n->j < z->isV (den r i j)=true
def vr9 (l:List XV):Bool:=l.all λ x=>(cellsOf x).all λ c=>isV c || jy7 c
def vs6:List (List CV)->Bool
 | [[.own _ _]]=>true
 | _=>false
def jl0:List AV->List (List CV)
 | []=>[]
 | .ref _ c :: l=>c :: jl0 l
 | .x _ :: l=>jl0 l
def ji4:Nat:=3000000000
def y77:List XV->List Bool
 | .c (.v (.bool b)) :: l=>b :: y77 l
 | _=>[]
def gives (O:ja8) (f:FuncId):Option (List Bool):=match O (ji4 + f) [] with | some a=>some (y77 a.res) | none=>none
def jy0 (m:List Bool):List AV->Option Ans
 | _=>some ⟨m.map λ b=>.c (.v (.bool b)),[],[False]⟩
def gvC (s:PSt):CV->Option (CV×List Nat×List Nat)
 | .own m _=>match s.mem m with
  | some (.row z k r)=>some (.fresh z k r,[],[m])
  | some (.fro z k r)=>some (.slc z k r,[m],[])
  | _=>none
 | .v x=>some (.v x,[],[])
 | .slc z n r=>some (.slc z n r,[],[])
 | .clo f l=>some (.clo f l,[],[])
 | _=>none
def gvL (s:PSt):List CV->Option (List CV×List Nat×List Nat)
 | []=>some ([],[],[])
 | c :: l=>match gvC s c,gvL s l with
  | some (d,a,g),some (m,b,h)=>some (d :: m,a ++ b,g ++ h)
  | _,_=>none
def gvOr (s:PSt) (b:Bool) (l:List CV):Option (List CV×List Nat×List Nat) :=
 if b then gvL s l
 else match resL s l with
  | some (d,a)=>some (d,a,[])
  | none=>none
structure ArgG where
 a:AV
 rows:List Nat
 refs:List Nat
 gv:List Nat
def argG (s:PSt) (b:Bool):SV->Option ArgG
 | .x (.c (.ptr m off))=>match s.mem m with
  | some (.cells l)=>match gvOr s b l with
   | some (k,a,g)=>some ⟨.ref off k,a,[m],g⟩
   | none=>none
  | _=>none
 | .x (.c c)=>match gvOr s b [c] with
  | some ([d],a,g)=>some ⟨.x (.c d),a,[],g⟩
  | _=>none
 | .x (.agg l)=>match gvOr s b l with
  | some (k,a,g)=>some ⟨.x (.agg k),a,[],g⟩
  | none=>none
 | .view m z l n=>match q00 s m z l n with
  | some (d,a)=>some ⟨.x (.c d),a,[],[]⟩
  | none=>none
 | _=>none
def qn0 (s:PSt):List Bool->List SV->Option (List AV×List Nat×List Nat×List Nat)
 | _,[]=>some ([],[],[],[])
 | bs,v :: l=>match argG s (bs.headD false) v,qn0 s (bs.drop 1) l with
  | some g,some (al,rows,refs,gv)=>some (g.a :: al,g.rows ++ rows,g.refs ++ refs,g.gv ++ gv)
  | _,_=>none
def nmK (name k:Nat):Nat:=name + k * 10000000000000
def js1 (nm:Nat->Nat):Nat->List (Nat×Int×Row)->List (Nat×Blk)
 | _,[]=>[]
 | k,(z,n,r) :: l=>(nm k,.row z n r) :: js1 nm (k + 1) l
def owC (nm:Nat->Nat) (k:Nat):CV->CV
 | .fresh _ n _=>.own (nm k) n
 | c=>c
def owL (nm:Nat->Nat):Nat->List CV->List CV
 | _,[]=>[]
 | k,.fresh _ n _ :: l=>.own (nm k) n :: owL nm (k + 1) l
 | k,c :: l=>c :: owL nm k l
def owX (nm:Nat->Nat) (k:Nat):XV->XV
 | .c c=>.c (owC nm k c)
 | .agg l=>.agg (owL nm k l)
def owXs (nm:Nat->Nat):Nat->List XV->List XV
 | _,[]=>[]
 | k,x :: l=>owX nm k x :: owXs nm (k + (jb7 (cellsOf x)).length) l
def owU (nm:Nat->Nat):Nat->List (List CV)->List (List CV)
 | _,[]=>[]
 | k,c :: l=>owL nm k c :: owU nm (k + (jb7 c).length) l
def jq7:List (List CV)->List (Nat×Int×Row)
 | []=>[]
 | c :: l=>jb7 c ++ jq7 l
def yu7:List AV->List (List CV)->Bool
 | [],[]=>true
 | .ref _ c :: l,d :: k=>Nat.beq c.length d.length && (d.all λ c=>isFz c || jy7 c) && yu7 l k
 | .x _ :: l,k=>yu7 l k
 | _,_=>false
def q89:List Nat->List (Nat×Blk)
 | []=>[]
 | m :: l=>(m,.dead) :: q89 l
def meets:List Nat->List Nat->Bool
 | [],_=>false
 | m :: l,k=>k.any (Nat.beq m) || meets l k
def vg0 (O:ja8) (name:Nat) (s:PSt) (mask:List Bool) (f:FuncId) (args:List SV):Option Eff :=
 match qn0 s mask args with
 | none=>none
 | some (al,rows,refs,gv) =>
  if distinct refs && distinct gv && !meets gv rows then
   match O f al with
   | none=>none
   | some ans=>match zipU refs (owU (nmK name) (jc3 ans.res).length ans.upd) with
    | none=>none
    | some u=>if yu7 al ans.upd && fzO ans.res then
      match js1 (nmK name) 0 (jc3 ans.res ++ jq7 ans.upd) with
      | []=>some ⟨resS ans.res,ans.ask,rows ++ (refs ++ gv),q89 gv ++ (froze s rows ++ u),none⟩
      | (_,b) :: l=>if l.all λ p=>(s.mem p.1).isNone && Nat.blt p.1 PN then some ⟨resS (owXs (nmK name) 0 ans.res),ans.ask,rows ++ (refs ++ (gv ++ l.map (·.1))),l ++ (q89 gv ++ (froze s rows ++ u)),some b⟩ else none
     else none
  else none
def jw4 (O:ja8) (name:Nat) (s:PSt) (f:FuncId) (args:List SV):Option Eff :=
 match qm8 s args with
 | none=>none
 | some (al,rows,refs) =>
  if distinct refs then
   match O f al with
   | none=>none
   | some ans=>match vr8 ans.res with
    | some v=>vf9 args al rows refs ans.ask v
    | none=>if vs6 ans.upd then (if Nat.beq rows.length 0 && allV ans.res then some ⟨resS ans.res,ans.ask,refs,[],none⟩ else none) else match zipU refs ans.upd with
     | none=>none
     | some u=>match jc3 ans.res with
      | [] =>
       if vl3 al ans.upd && fzX ans.res then
        (if allV ans.res && Nat.beq refs.length 0 then some ⟨resS ans.res,ans.ask,rows,[],none⟩
         else some ⟨resS ans.res,ans.ask,rows ++ refs,froze s rows ++ u,none⟩)
       else none
      | [(z,n,r)] =>
       if vl3 al ans.upd && fzO ans.res then
        (if y76 O && Nat.beq refs.length 0 && vr9 ans.res then some ⟨resS (ans.res.map (ownX name)),vx1 z n r :: ans.ask,rows,[],some (.row z n r)⟩
         else some ⟨resS (ans.res.map (ownX name)),ans.ask,rows ++ refs,froze s rows ++ u,some (.row z n r)⟩)
       else none
      | _=>none
  else none
def qf2 (O:ja8) (name:Nat) (s:PSt) (f:FuncId) (args:List SV):Option Eff :=
 match gives O f with
 | some mask=>vg0 O name s mask f args
 | none=>jw4 O name s f args
def srcA (s:PSt):CV->Option (Nat×Int×Row×List Nat)
 | .own m _=>match rowOf s m with
  | some (z,n,r)=>some (z,n,r,[m])
  | none=>none
 | .slc z n r=>some (z,n,r,[])
 | _=>none
def dstA (s:PSt):SV->Option (Nat×Nat×Int×Int×Int×Row)
 | .x (.c (.own m n))=>match rowW s m with
  | some (z,N,r)=>some (m,z,0,n,N,r)
  | none=>none
 | .view m z l n=>match rowW s m with
  | some (z',N,r)=>if Nat.beq z z' then some (m,z,l,n,N,r) else none
  | none=>none
 | _=>none
def srcV (s:PSt):SV->Option (Nat×Int×Row×List Nat)
 | .x (.c c)=>srcA s c
 | .view m z l n=>match rowOf s m with
  | some (z',_,r)=>if Nat.beq z z' then some (z,n,.sub r l,[m]) else none
  | none=>none
 | _=>none
def strL (b:ByteArray):List Int:=b.data.toList.map λ x=>(x.toNat:Int)
def srcS (P:Program) (s:PSt) (t u:TypeId):CV->Option (Nat×Int×Row×List Nat)
 | .v (.string b)=>match P.underlying u with
  | some .string=>some (1,jx4 b,.lst .u8 (strL b),[])
  | _=>none
 | c=>bif Nat.beq t u then srcA s c else none
def cpyR (r:Row) (l k:Int) (r2:Row):Row:=.app (.app r l r2) (addZ l k) (.sub r (addZ l k))
def jm7 (P:Program) (name:Nat) (s:PSt) (b:Builtin) (tys:List TypeId) (args:List SV):Option Eff :=
 match b,args,tys with
 | .min,[.x (.c (.v (.int k a))),.x (.c (.v (.int _ b)))],_=>eV (vS (.int k (jf2 a b)))
 | .max,[.x (.c (.v (.int k a))),.x (.c (.v (.int _ b)))],_=>eV (vS (.int k (jb8 a b)))
 | .len,[.x (.c c)],[t]=>match P.underlying t,c with
  | some .string,.v (.string b)=>eV (vS (.int .i64 (jx4 b)))
  | some (.slice _),.v (.slice none 0 0)=>eV (vS (.int .i64 0))
  | some (.slice _),.own _ n=>eV (vS (.int .i64 n))
  | some (.slice _),.slc _ n _=>eV (vS (.int .i64 n))
  | _,_=>none
 | .append,[a,.x (.c c)],[t,u]=>match P.underlying t with
  | some (.slice e)=>match vf8 P e with
   | none=>none
   | some zs =>
    if Nat.blt 0 (jd0 P e) && Nat.blt 0 (qi5 P e) then
     match srcS P s t u c with
     | some (z2,n2,r2,rd) =>
      if Nat.beq z2 (jd0 P e) then
       match a with
       | .x (.c (.v (.slice none 0 0)))=>some ⟨.x (.c (.own name n2)),[ile (jd2 n2 (qi5 P e)) 140737488355328=true],rd,[],some (.row z2 n2 r2)⟩
       | .x (.c (.own m _))=>match rowW s m with
        | some (z,n,r)=>if Nat.beq z z2 then some ⟨.x (.c (.own name (addZ n n2))),[ile (jd2 (addZ n n2) (qi5 P e)) 140737488355328=true],m :: rd,[(m,.dead)],some (.row z (addZ n n2) (.app r n r2))⟩ else none
        | none=>none
       | _=>none
      else none
     | none=>none
    else none
  | _=>none
 | .copy,[d,c],[t,u]=>match P.underlying t with
  | some (.slice e)=>if (P.info? e).isSome then
    match dstA s d,srcV s c with
    | some (m,z,l,n,N,r),some (z2,n2,r2,rd)=>if Nat.beq z (jd0 P e) && Nat.beq z2 z then some ⟨vS (.int .i64 (jf2 n n2)),[],m :: rd,[(m,.row z N (cpyR r l (jf2 n n2) r2))],none⟩ else none
    | _,_=>none
   else none
  | _=>none
 | .len,[.view _ _ _ n],[t]=>match P.underlying t with
  | some (.slice _)=>eV (vS (.int .i64 n))
  | _=>none
 | _,_,_=>none
def qn1 (O:ja8):Bool:=match O 1000000007 [] with | some _=>true | none=>false
def jp8:List AV->Option Ans
 | _=>some ⟨[],[],[False]⟩
def qf3 (O:ja8) (s:PSt):SV->Option (Nat×Nat×Int×Int×List Nat)
 | .view m z l n=>some (m,z,l,n,[])
 | .x (.c (.own m n))=>if qn1 O then match rowOf s m with
   | some (z,_,_)=>some (m,z,0,n,[m])
   | none=>none
  else none
 | _=>none
def slOk:Option Operand->Option Operand->Bool
 | none,some _=>false
 | _,_=>true
def vx2 (mx:Option Operand) (l h k n:Int):List Prop :=
 match mx with
 | none=>[ile 0 l=true,ile l h=true,ile h n=true]
 | some _=>[ile 0 l=true,ile l h=true,ile h k=true,ile k n=true]
def byC:CV->Int
 | .v (.int _ a)=>a
 | _=>0
def rowS (n:Int) (r:Row):ByteArray:=((List.range n.toNat).map λ i=>byC (den r (Int.ofNat i) 0)).foldl (λ r n=>r.push (UInt8.ofNat n.toNat)) ByteArray.empty
def isBytes (n:Int) (r:Row):Prop:=∀i:Nat,(i:Int) < n->den r i 0=.v (.int .u8 (byC (den r i 0)))
def strR (b:ByteArray):Row:=.fn λ i _=>.v (.int .u8 (satI b i))
def qn2 (P:Program) (name:Nat) (s:PSt) (src dst:TypeId) (v:SV):Option Eff :=
 match v,P.underlying src,P.underlying dst with
 | .x (.c (.v (.int _ n))),some _,some (.int k)=>eV (vS (.int k (jj2 k n)))
 | .x (.c (.v (.int _ n))),some _,some (.float k)=>eV (vS (.float k (fofi k n)))
 | .x (.c (.v (.string b))),some _,some (.slice e)=>match P.underlying e with
  | some (.int .u8)=>some ⟨.x (.c (.own name (jx4 b))),[ile (jx4 b) 140737488355328=true],[],[],some (.row 1 (jx4 b) (strR b))⟩
  | _=>none
 | .x (.c (.v (.slice none 0 0))),some (.slice e),some .string=>match P.underlying e with
  | some (.int .u8)=>eV (vS (.string (bs [])))
  | _=>none
 | .x (.c (.own m n)),some (.slice e),some (.slice _)=>match P.underlying e,rowW s m with
  | some (.int .u8),some (z,N,r)=>if Nat.beq src dst then some ⟨.x (.c (.own m n)),[ilt 0 n=true],[m],[(m,.row z N r)],none⟩ else none
  | _,_=>none
 | v,some (.slice e),some .string=>match P.underlying e,srcV s v with
  | some (.int .u8),some (z,n,r,ms)=>if Nat.beq z 1 then some ⟨vS (.string (rowS n r)),[isBytes n r],ms,[],none⟩ else none
  | _,_=>none
 | _,_,_=>none
def vx3 (O:ja8):Bool:=match O 1000000011 [] with | some _=>true | none=>false
def vg1 (O:ja8) (lo hi mx:Option Operand):Bool:=vx3 O && (lo.isNone && (mx.isNone && hi.isSome))
def vx4 (P:Program) (name:Nat) (s:PSt) (t:TypeId) (x:Operand) (hi:Option Operand):Option Eff :=
 match P.underlying t,valOf s x,jg6 s 0 hi with
 | some (.slice e),.x (.c (.own m _)),some h=>match rowW s m with
  | some (z,n,r)=>if Nat.beq z (jd0 P e) && (P.info? e).isSome then some ⟨.x (.c (.own name h)),[ile 0 h=true,ile h n=true],[m],[(m,.dead)],some (.row z h r)⟩ else none
  | none=>none
 | _,_,_=>none
def effect (P:Program) (O:ja8) (name:Nat) (s:PSt) (o:Oper):Option Eff :=
 match o.op with
 | .move x=>eV (valOf s x)
 | .assign x=>eV (valOf s x)
 | .nilCheck x=>match valOf s x with
  | .x (.c (.ptr m off))=>eV (.x (.c (.ptr m off)))
  | .eptr m z i off=>eV (.eptr m z i off)
  | .fptr z r i off=>eV (.fptr z r i off)
  | _=>none
 | .pick c a b=>match valOf s c with
  | .x (.c (.v (.bool true)))=>eV (valOf s a)
  | .x (.c (.v (.bool false)))=>eV (valOf s b)
  | _=>none
 | .alloc t=>match vf8 P t with
  | some l=>some ⟨.x (.c (.ptr name 0)),[],[],[],some (.cells (l.map .v))⟩
  | none=>none
 | .box t x=>match valOf s x with
  | .x v=>some ⟨.x (.c (.ptr name 0)),[],[],[],some (.cells (cellsOf v))⟩
  | _=>none
 | .load t a=>match valOf s a with
  | .x (.c (.ptr m off))=>match memC s m with
   | some l=>match qm7 P l t off with
    | some v=>some ⟨.x v,[],[m],[],none⟩
    | none=>none
   | none=>none
  | .eptr m z i off=>match rowOf s m with
   | some (z',n,r)=>if Nat.beq z z' then match yi5 P t z r i off with
     | some v=>some ⟨.x v,[],[m],[],none⟩
     | none=>none
    else none
   | none=>none
  | .fptr z r i off=>match yi5 P t z r i off with
   | some v=>eV (.x v)
   | none=>none
  | _=>none
 | .store t a x=>match valOf s a,valOf s x with
  | .x (.c (.ptr m off)),.x v=>match s.mem m with
   | some (.cells l)=>if (P.info? t).isSome && Nat.beq (cellsOf v).length (jd0 P t) && Nat.ble (off + (cellsOf v).length) l.length then some ⟨.tup [],[],[],[(m,.cells (qz9 l off (cellsOf v)))],none⟩ else none
   | _=>none
  | .eptr m z i off,.x v=>match rowW s m with
   | some (z',n,r)=>if Nat.beq z z' && (P.info? t).isSome && Nat.beq (cellsOf v).length (jd0 P t) && Nat.ble (off + (cellsOf v).length) z && (cellsOf v).all isFz then some ⟨.tup [],[],[],[(m,.row z n (q88 r i off (cellsOf v)))],none⟩ else none
   | none=>none
  | _,_=>none
 | .binOp op t x y _=>match valOf s x,valOf s y with
  | .x (.c (.v (.string a))),.x (.c (.v (.string b)))=>match P.underlying t,strV op a b with
   | some .string,some v=>eV (vS v)
   | _,_=>none
  | .x (.c (.v a)),.x (.c (.v b))=>match binV P op t a b with
   | some (v,l)=>if jh6 v then some ⟨vS v,l.map (·=true),[],[],none⟩ else none
   | none=>none
  | .x (.agg a),.x (.agg b)=>match toVs a,toVs b with
   | some a,some b=>match binV P op t (.agg a.toArray) (.agg b.toArray) with
    | some (v,l)=>if jh6 v then some ⟨vS v,l.map (·=true),[],[],none⟩ else none
    | none=>none
   | _,_=>none
  | _,_=>none
 | .unOp op _ x=>match valOf s x with
  | .x (.c (.v a))=>match unV op a with
   | some (v,l)=>if jh6 v then some ⟨vS v,l.map (·=true),[],[],none⟩ else none
   | none=>none
  | _=>none
 | .convert src dst x=>qn2 P name s src dst (valOf s x)
 | .fieldAddr t x f=>match P.underlying t with
  | some (.struct fs)=>match fs[f]? with
   | some fd=>if jd0 P fd.type == 0 then none else match valOf s x with
    | .x (.c (.ptr m off))=>eV (.x (.c (.ptr m (off + fd.offset))))
    | .eptr m z i off=>eV (.eptr m z i (off + fd.offset))
    | .fptr z r i off=>eV (.fptr z r i (off + fd.offset))
    | _=>none
   | none=>none
  | _=>none
 | .extract x i=>match valOf s x with
  | .tup l=>match l[i]? with
   | some v=>eV (.x v)
   | none=>none
  | _=>none
 | .call c=>match c.callee with
  | .builtin b=>jm7 P name s b c.argTypes.toList (c.args.toList.map (valOf s))
  | cal=>match jk0 s cal with
   | some (f,caps)=>qf2 O name s f (c.args.toList.map (valOf s) ++ caps.map λ p=>.x (.c (.ptr p.1 p.2)))
   | none=>none
 | .build t parts=>match vf8 P t,partsOf s parts.toList,vw8 P t with
  | some l,some ps,some pl=>match vw9 pl (l.map .v) ps with
   | some cells=>eV (.x (.agg cells))
   | none=>none
  | _,_,_=>none
 | .buildSlice t len parts=>match P.underlying t with
  | some (.slice e)=>match vf8 P e,partsOf s parts.toList with
   | some l,some ps=>if Nat.ble (len * jd0 P e) 16777216 && Nat.blt 0 (jd0 P e) && ps.all (λ p=>Nat.blt p.1 len) then match vx0 (jd0 P e) (.zer l) ps with
     | some r=>some ⟨.x (.c (.own name len)),[],[],[],some (.row (jd0 P e) len r)⟩
     | none=>none
    else none
   | _,_=>none
  | _=>none
 | .makeSlice t l c=>match P.underlying t,jx9 (valOf s l),jx9 (valOf s c) with
  | some (.slice e),some (_,n),some (_,k)=>match vf8 P e with
   | some zs=>if Nat.blt 0 (jd0 P e) then some ⟨.x (.c (.own name n)),[ile 0 n=true,ile n k=true,ile (jd2 k (qi5 P e)) 140737488355328=true,ile k 140737488355328=true],[],[],some (.row (jd0 P e) n (.zer zs))⟩ else none
   | none=>none
  | _,_,_=>none
 | .slice t x lo hi mx=>if vg1 O lo hi mx then vx4 P name s t x hi else match P.underlying t,slOk hi mx with
   | some (.slice e),true=>match qf3 O s (valOf s x) with
    | some (m,z,l0,n,rd)=>match jg6 s 0 lo,jg6 s n hi,jg6 s n mx with
     | some l,some h,some k=>if Nat.beq z (jd0 P e) && (P.info? e).isSome then some ⟨.view m z (addZ l0 l) (subZ h l),vx2 mx l h k n,rd,[],none⟩ else none
     | _,_,_=>none
    | none=>match qb9 s (valOf s x) with
     | some (ms,z,n,r)=>match jg6 s 0 lo,jg6 s n hi,jg6 s n mx with
      | some l,some h,some k=>if Nat.beq z (jd0 P e) && (P.info? e).isSome then some ⟨.x (.c (.slc z (subZ h l) (.sub r l))),vx2 mx l h k n,ms,froze s ms,none⟩ else none
      | _,_,_=>none
     | none=>none
   | _,_=>none
 | .makeFunc (.func f) first caps=>if Nat.beq first.size 0 then
   match qi6 s caps.toList with
   | some l=>eV (.x (.c (.fn f l)))
   | none=>none
  else none
 | .field t x f=>match valOf s x,P.underlying t with
  | .x (.agg l),some (.struct fs)=>match fs[f]? with
   | some fd=>match qm7 P l fd.type fd.offset with
    | some v=>eV (.x v)
    | none=>none
   | none=>none
  | _,_=>none
 | .index t x i=>match valOf s x,jx9 (valOf s i),P.underlying t with
  | .x (.agg l),some (_,m),some (.array len e)=>match qm7 P l e (m.toNat * jd0 P e) with
   | some v=>if (P.info? e).isSome then some ⟨.x v,[ile 0 m=true,ilt m len=true],[],[],none⟩ else none
   | none=>none
  | .x (.c (.v (.string b))),some (_,m),some .string=>some ⟨vS (.int .u8 (satI b m)),[ile 0 m=true,ilt m (jx4 b)=true],[],[],none⟩
  | _,_,_=>none
 | .indexAddr t x i=>match jx9 (valOf s i),P.underlying t with
  | some (_,m),some (.array len e)=>if (P.info? e).isSome then match valOf s x with
    | .x (.c (.ptr b off))=>some ⟨.x (.c (.ptr b (off + m.toNat * jd0 P e))),[ile 0 m=true,ilt m len=true],[],[],none⟩
    | .eptr b z k off=>some ⟨.eptr b z k (off + m.toNat * jd0 P e),[ile 0 m=true,ilt m len=true],[],[],none⟩
    | .fptr z r k off=>some ⟨.fptr z r k (off + m.toNat * jd0 P e),[ile 0 m=true,ilt m len=true],[],[],none⟩
    | _=>none
   else none
  | some (_,m),some (.slice e)=>if (P.info? e).isSome then match valOf s x with
    | .x (.c (.own b n))=>some ⟨.eptr b (jd0 P e) m 0,[ile 0 m=true,ilt m n=true],[],[],none⟩
    | .x (.c (.slc z n r))=>if Nat.beq z (jd0 P e) then some ⟨.fptr z r m 0,[ile 0 m=true,ilt m n=true],[],[],none⟩ else none
    | .view b z l n=>if Nat.beq z (jd0 P e) then some ⟨.eptr b (jd0 P e) (addZ l m) 0,[ile 0 m=true,ilt m n=true],[],[],none⟩ else none
    | _=>none
   else none
  | _,_=>none
 | _=>none
def guardOf (s:PSt) (ops:List Oper) (o:Oper):Option Bool :=
 match o.guard with
 | none=>some true
 | some (j,want)=>match (ops[j]?).bind (·.dst) with
  | some d=>match s.tmps[d]? with
   | some ⟨true,.x (.c (.v (.bool b)))⟩=>some (bif want then b else !b)
   | some ⟨true,.tup _⟩=>some false
   | _=>none
  | none=>none
def allOf:List GV->Bool
 | []=>true
 | g :: l=>g.k && allOf l
def jk1 (s:PSt) (o:Oper):Bool :=
 match o.op with
 | .pick c a b=>match valOf s c with
  | .x (.c (.v (.bool true)))=>(operand s c).k && (operand s a).k
  | .x (.c (.v (.bool false)))=>(operand s c).k && (operand s b).k
  | _=>false
 | op=>allOf (op.operands.toList.map (operand s))
def je6 (l:List GV):Option Tmp->GV->List GV
 | some d,v=>l.set d v
 | none,_=>l
def jb3 (m:Nat->Option Blk):List (Nat×Blk)->Nat->Option Blk
 | []=>m
 | (n,b) :: l=>λ k=>bif Nat.beq k n then some b else jb3 m l k
structure Delta where
 g:GV
 up:List (Nat×Blk)
 ok:List Prop
 rd:List Nat
def q90 (name:Nat) (e:Eff):List (Nat×Blk):=match e.nw with | some b=>(name,b) :: e.up | none=>e.up
def stepD (P:Program) (O:ja8) (ops:List Oper) (name:Nat) (o:Oper) (s:PSt):Option Delta :=
 match guardOf s ops o with
 | none=>none
 | some false=>some ⟨gnow (.tup []),[],[],[]⟩
 | some true=>if jk1 s o then match effect P O name s o with
  | none=>none
  | some e=>match e.nw with
   | none=>some ⟨gnow e.v,e.up,e.ok,e.rd⟩
   | some b=>if (s.mem name).isNone && Nat.blt name PN then some ⟨gnow e.v,(name,b) :: e.up,e.ok,e.rd⟩ else none
  else none
def jh4 (dst:Option Tmp) (d:Delta) (s:PSt):PSt:=⟨je6 s.tmps dst d.g,jb3 s.mem d.up,qm6 d.ok s.ok,s.lits,s.gen⟩
end Go.Proofs.YthkidembkknoeaaDoor.QR
namespace Go.Proofs.YthkidembkknoeaaDoor.QR
open Go.RowKit PR
set_option linter.unusedVariables false
set_option linter.unusedSimpArgs false
def Fa2 {α β:Type} (R:α->β->Prop):List α->List β->Prop
 | [],[]=>True
 | a :: l,b :: m=>R a b/\Fa2 R l m
 | _,_=>False
section
variable {α β:Type} {R S:α->β->Prop}
theorem Fa2.mono (h:∀a b,R a b->S a b):∀{l:List α} {m:List β},Fa2 R l m->Fa2 S l m
 | [],[],_=>trivial
 | a :: l,b :: m,H=>⟨h _ _ H.1,Fa2.mono h H.2⟩
 | [],_ :: _,H=>H.elim
 | _ :: _,[],H=>H.elim
theorem Fa2.vx5:∀{l:List α} {m:List β},(∀a∈l,∀b,R a b->S a b)->Fa2 R l m->Fa2 S l m
 | [],[],_,_=>trivial
 | a :: l,b :: m,h,H=>⟨h a (by simp) _ H.1,Fa2.vx5 (λ x hx=>h x (by simp [hx])) H.2⟩
 | [],_ :: _,_,H=>H.elim
 | _ :: _,[],_,H=>H.elim
theorem Fa2.len:∀{l:List α} {m:List β},Fa2 R l m->l.length=m.length
 | [],[],_=>rfl
 | a :: l,b :: m,H=>by simp [Fa2.len H.2]
 | [],_ :: _,H=>H.elim
 | _ :: _,[],H=>H.elim
theorem Fa2.get:∀{l:List α} {m:List β} {i:Nat} {a:α},Fa2 R l m->l[i]?=some a->∃b,m[i]?=some b/\R a b
 | [],[],i,a,_,h=>by simp at h
 | x :: l,y :: m,0,a,H,h=>by simp at h;subst h;exact ⟨y,rfl,H.1⟩
 | x :: l,y :: m,i + 1,a,H,h=>by
  obtain ⟨b,e,r⟩:=Fa2.get (i:=i) H.2 (by simpa using h)
  exact ⟨b,by simpa using e,r⟩
 | [],_ :: _,_,_,H,_=>H.elim
 | _ :: _,[],_,_,H,_=>H.elim
theorem Fa2.of:∀{l:List α} {m:List β},l.length=m.length->(∀(i:Nat) (a:α) (b:β),l[i]?=some a->m[i]?=some b->R a b)->Fa2 R l m
 | [],[],_,_=>trivial
 | a :: l,b :: m,h,H=>⟨H 0 a b rfl rfl,Fa2.of (by simpa using h) λ i x y hx hy=>H (i + 1) x y (by simpa using hx) (by simpa using hy)⟩
 | [],_ :: _,h,_=>by simp at h
 | _ :: _,[],h,_=>by simp at h
theorem Fa2.app:∀{l l':List α} {m m':List β},Fa2 R l m->Fa2 R l' m'->Fa2 R (l ++ l') (m ++ m')
 | [],_,[],_,_,K=>K
 | a :: l,_,b :: m,_,H,K=>⟨H.1,Fa2.app H.2 K⟩
 | [],_,_ :: _,_,H,_=>H.elim
 | _ :: _,_,[],_,H,_=>H.elim
theorem Fa2.take:∀(k:Nat) {l:List α} {m:List β},Fa2 R l m->Fa2 R (l.take k) (m.take k)
 | 0,_,_,_=>by simp [Fa2]
 | k + 1,[],[],_=>trivial
 | k + 1,a :: l,b :: m,H=>⟨H.1,Fa2.take k H.2⟩
 | _ + 1,[],_ :: _,H=>H.elim
 | _ + 1,_ :: _,[],H=>H.elim
theorem Fa2.drop:∀(k:Nat) {l:List α} {m:List β},Fa2 R l m->Fa2 R (l.drop k) (m.drop k)
 | 0,_,_,h=>h
 | k + 1,[],[],_=>trivial
 | k + 1,a :: l,b :: m,H=>Fa2.drop k H.2
 | _ + 1,[],_ :: _,H=>H.elim
 | _ + 1,_ :: _,[],H=>H.elim
theorem Fa2.splice {l l':List CV} {m m':List Value} {R:CV->Value->Prop} (off:Nat) (H:Fa2 R l m) (K:Fa2 R l' m'):Fa2 R (qz9 l off l') (splice m off m'):=by
 unfold qz9 PR.splice
 rw [<- K.len]
 exact ((H.take off).app K).app (H.drop _)
end
inductive Rep (F:Nat->Prop) (w:World):CV->Value->Prop
 | v {x:Value}:jh6 x=true->Rep F w (.v x) x
 | nil {z:Nat} {r:Row} {a:Option Addr} {c:Nat}:0 < z->(a=none->c=0)->Rep F w (.slc z 0 r) (.slice a 0 c)
 | slc {z n:Nat} {r:Row} {b off c:Nat} {arr:Array Value} {t:TypeId} {fr:Nat×Nat} (u:Nat->Nat->Value):0 < z->n<=c->F b->w.heap[b]?=some (.cells arr t fr)->
   (∀i j:Nat,i < n->j < z->arr[off + i * z + j]?=some (u i j))->(∀i j:Nat,i < n->j < z->Rep F w (den r i j) (u i j))->Rep F w (.slc z n r) (.slice (some ⟨b,off,none⟩) n c)
 | clo {f:FuncId} {l:List (List Value)} (bs:List Nat):Fa2 (λ (c:List Value) (b:Nat)=>F b/\∃t,w.heap[b]?=some (.cells c.toArray t (0,0))) l bs->Rep F w (.clo f l) (.func (.func f) #[] (bs.map λ b=>Value.pointer (some ⟨b,0,none⟩)).toArray)
theorem Rep.mono {F F':Nat->Prop} {w w':World} (hF:∀k,F k->F' k) (hw:∀k,F k->w'.heap[k]?=w.heap[k]?) {c:CV} {y:Value} (h:Rep F w c y):Rep F' w' c y:=by
 induction h with
 | v h=>exact .v h
 | nil h h'=>exact .nil h h'
 | slc u h1 hc h2 h3 h4 _ ih=>exact .slc u h1 hc (hF _ h2) (by rw [hw _ h2];exact h3) h4 ih
 | clo bs h=>exact .clo bs (h.mono λ c b ⟨h1,t,h2⟩=>⟨hF _ h1,t,by rw [hw _ h1];exact h2⟩)
structure Env where
 F:Nat->Prop
 β:Nat->Nat
 ν:Nat->Value
def adr (E:Env) (m:Nat):Nat:=if GB<=m then m - GB else E.β m
def jb9 (L:Nat->Prop) (E:Env) (w:World):CV->Value->Prop
 | .own m n,y=>L m/\y=E.ν m/\0<=n/\((y=.slice none 0 0/\n=0)\/∃b c,y=.slice (some ⟨b,0,none⟩) n.toNat c)
 | .ptr m off,y=>L m/\y=.pointer (some ⟨adr E m,off,none⟩)
 | .fn f caps,y=>(∀p∈caps,L p.1)/\y=.func (.func f) #[] (caps.map λ p=>Value.pointer (some ⟨adr E p.1,p.2,none⟩)).toArray
 | .v x,y=>Rep E.F w (.v x) y
 | .slc z n r,y=>Rep E.F w (.slc z n r) y
 | .fresh _ _ _,_=>False
 | .clo f l,y=>Rep E.F w (.clo f l) y
def ConcX (L:Nat->Prop) (E:Env) (w:World):XV->Value->Prop
 | .c x,y=>jb9 L E w x y
 | .agg l,y=>∃ys:List Value,y=.agg ys.toArray/\Fa2 (jb9 L E w) l ys
def qi7 (ν:Value) (z:Nat) (l n:Int) (y:Value):Prop :=
 0<=l/\0<=n/\((n=0/\∃ad c,y=.slice ad 0 c/\(ad=none->c=0))\/∃b c ln c',ν=.slice (some ⟨b,0,none⟩) ln c/\l.toNat + n.toNat<=ln/\n.toNat<=c'/\y=.slice (some ⟨b,l.toNat * z,none⟩) n.toNat c')
def jd6 (L:Nat->Prop) (E:Env) (w:World):SV->Value->Prop
 | .x v,y=>ConcX L E w v y
 | .tup l,y=>∃ys:List Value,y=.tuple ys.toArray/\Fa2 (ConcX L E w) l ys
 | .eptr m z i off,y=>L m/\0<=i/\∃b c ln,E.ν m=.slice (some ⟨b,0,none⟩) ln c/\i.toNat < ln/\y=.pointer (some ⟨b,i.toNat * z + off,none⟩)
 | .fptr z r i off,y=>0<=i/\∃b o arr t fr,E.F b/\w.heap[b]?=some (.cells arr t fr)/\y=.pointer (some ⟨b,o + off,none⟩)/\∀j < z,∃u,arr[o + j]?=some u/\Rep E.F w (den r i j) u
 | .view m z l n,y=>L m/\qi7 (E.ν m) z l n y
structure Later (L:Nat->Prop) (E E':Env) (w w':World):Prop where
 F:∀k,E.F k->E'.F k
 heap:∀k,E.F k->w'.heap[k]?=w.heap[k]?
 β:∀m,L m->m < GB->E'.β m=E.β m
 ν:∀m,L m->m < GB->E'.ν m=E.ν m
theorem Later.refl (L:Nat->Prop) (E:Env) (w:World):Later L E E w w:=⟨λ _ h=>h,λ _ _=>rfl,λ _ _ _=>rfl,λ _ _ _=>rfl⟩
section
variable {L L':Nat->Prop} {E E':Env} {w w':World}
theorem Later.adr (T:Later L E E' w w') {m:Nat} (h:L m):adr E' m=adr E m:=by
 unfold QR.adr
 split
 ·rfl
 ·rename_i hm;exact T.β m h (by omega)
theorem Later.nu (T:Later L E E' w w') (G:∀m,GB<=m->E'.ν m=E.ν m) {m:Nat} (h:L m):E'.ν m=E.ν m:=by
 by_cases hm:GB<=m
 ·exact G m hm
 ·exact T.ν m h (by omega)
theorem Rep.later (T:Later L E E' w w') {c:CV} {y:Value} (h:Rep E.F w c y):Rep E'.F w' c y:=h.mono T.F T.heap
theorem jb9.later (T:Later L E E' w w') (G:∀m,GB<=m->E'.ν m=E.ν m) (hL:∀m,L m->L' m) {c:CV} {y:Value} (h:jb9 L E w c y):jb9 L' E' w' c y:=by
 cases c with
 | v x=>exact Rep.later T h
 | slc z n r=>exact Rep.later T h
 | own m n=>exact ⟨hL m h.1,by rw [T.nu G h.1];exact h.2.1,h.2.2⟩
 | ptr m off=>exact ⟨hL m h.1,by rw [T.adr h.1];exact h.2⟩
 | fn f caps =>
  refine ⟨λ p hp=>hL _ (h.1 p hp),?_⟩
  have:(caps.map λ p=>Value.pointer (some ⟨QR.adr E' p.1,p.2,none⟩))=caps.map λ p=>Value.pointer (some ⟨QR.adr E p.1,p.2,none⟩):=List.map_congr_left λ p hp=>by rw [T.adr (h.1 p hp)]
  rw [this];exact h.2
 | fresh z n r=>exact h.elim
 | clo f l=>exact Rep.later T h
theorem ConcX.later (T:Later L E E' w w') (G:∀m,GB<=m->E'.ν m=E.ν m) (hL:∀m,L m->L' m) {c:XV} {y:Value} (h:ConcX L E w c y):ConcX L' E' w' c y:=by
 cases c with
 | c x=>exact jb9.later T G hL h
 | agg l=>obtain ⟨ys,e,h⟩:=h;exact ⟨ys,e,h.mono λ _ _=>jb9.later T G hL⟩
theorem jd6.later (T:Later L E E' w w') (G:∀m,GB<=m->E'.ν m=E.ν m) (hL:∀m,L m->L' m) {c:SV} {y:Value} (h:jd6 L E w c y):jd6 L' E' w' c y:=by
 cases c with
 | x v=>exact ConcX.later T G hL h
 | tup l=>obtain ⟨ys,e,h⟩:=h;exact ⟨ys,e,h.mono λ _ _=>ConcX.later T G hL⟩
 | eptr m z i off=>exact ⟨hL m h.1,h.2.1,by rw [T.nu G h.1];exact h.2.2⟩
 | view m z l n=>exact ⟨hL m h.1,by rw [T.nu G h.1];exact h.2⟩
 | fptr z r i off =>
  obtain ⟨h0,b,o,arr,t,fr,h1,h2,h3,h4⟩:=h
  refine ⟨h0,b,o,arr,t,fr,T.F b h1,by rw [T.heap b h1];exact h2,h3,λ j hj=>?_⟩
  obtain ⟨u,e,k⟩:=h4 j hj
  exact ⟨u,e,k.later T⟩
end
def jd7 (F:Nat->Prop) (w:World) (z:Nat) (n:Int) (r:Row) (xs:List Value):Prop :=
 ∀i j:Nat,(i:Int) < n->j < z->∃u,xs[i * z + j]?=some u/\Rep F w (den r i j) u
def live (s:PSt) (m:Nat):Prop:=(s.mem m).isSome=true\/(GB<=m/\(gtab m).isSome=true)
def ja9 (E:Env) (m:Nat):Blk->Option Nat
 | .cells _=>some (E.β m)
 | .row _ _ _=>(E.ν m).ownBlock
 | _=>none
def noFz (fz:Nat×Nat) (n:Nat):Prop:=fz=(0,0)\/n<=fz.1
def OwnR (w:World) (e:TypeId) (z:Nat) (v:Value) (n:Nat) (xs:List Value):Prop :=
 xs.length=n * z/\((v=.slice none 0 0/\n=0)\/
  ∃g cap cur,v=.slice (some ⟨g,0,none⟩) n cap/\(∃fz,noFz fz cur.size/\w.heap[g]?=some (.cells cur e fz))/\n<=cap/\cap<=maxLen/\cur.size=cap * z/\cur.toList.take (n * z)=xs)
section
variable {w:World} {e:TypeId} {z:Nat} {v:Value} {n:Nat} {xs:List Value}
theorem OwnR.of {base:Nat} (h:w.ownsRow base e z v n xs):OwnR w e z v n xs:=by
 refine ⟨h.1,?_⟩
 rcases h.2 with hn | ⟨g,cap,cur,rfl,hb,hg,rest⟩
 ·exact .inl hn
 ·exact .inr ⟨g,cap,cur,rfl,⟨(0,0),Or.inl rfl,hg⟩,rest⟩
theorem OwnR.lt (h:OwnR w e z v n xs):∀k,v.ownBlock=some k->k < w.heap.size:=by
 intro k hk
 rcases h.2 with ⟨rfl,_⟩ | ⟨g,cap,cur,rfl,⟨fz,_,hg⟩,_⟩
 ·simp [Value.ownBlock] at hk
 ·simp [Value.ownBlock] at hk
  subst hk
  exact (Array.getElem?_eq_some_iff.1 hg).1
theorem OwnR.cells (h:OwnR w e z v n xs) {g:Nat} (hg:v.ownBlock=some g):∀j u,xs[j]?=some u->w.cell? ((⟨g,0,none⟩:Addr).add j)=some u:=by
 intro j u hu
 rcases h.2 with ⟨rfl,_⟩ | ⟨g',cap,cur,rfl,⟨fz,_,hgg⟩,_,_,_,htake⟩
 ·simp [Value.ownBlock] at hg
 ·simp [Value.ownBlock] at hg
  subst hg
  have hadd:(⟨g',0,none⟩:Addr).add j=⟨g',j,none⟩:=by unfold Addr.add;split <;> simp_all
  rw [hadd,cell_of_row w g' j cur e fz hgg]
  rw [<- htake,List.getElem?_take] at hu
  split at hu
  ·simpa using hu
  ·cases hu
theorem OwnR.heap {w':World} (h:OwnR w e z v n xs) (hw:∀k,v.ownBlock=some k->w'.heap[k]?=w.heap[k]?):OwnR w' e z v n xs:=by
 refine ⟨h.1,?_⟩
 rcases h.2 with hn | ⟨g,cap,cur,rfl,⟨fz,hf,hg⟩,rest⟩
 ·exact .inl hn
 ·exact .inr ⟨g,cap,cur,rfl,⟨fz,hf,by rw [hw g rfl];exact hg⟩,rest⟩
def OwnB (base:Nat) (w:World) (e:TypeId) (z:Nat) (v:Value) (n:Nat) (xs:List Value):Prop:=OwnR w e z v n xs/\∀k,v.ownBlock=some k->base<=k
theorem OwnB.lt {base:Nat} (h:OwnB base w e z v n xs):∀k,v.ownBlock=some k->base<=k/\k < w.heap.size:=λ k hk=>⟨h.2 k hk,h.1.lt k hk⟩
theorem OwnB.nil {base:Nat}:OwnB base w e z (.slice none 0 0) 0 []:=⟨⟨by simp,.inl ⟨rfl,rfl⟩⟩,λ k hk=>by simp [Value.ownBlock] at hk⟩
def yi6 (base:Nat) (X:Nat->Prop) (w:World) (e:TypeId) (z:Nat) (v:Value) (n:Nat) (xs:List Value):Prop :=
 OwnR w e z v n xs/\∀k,v.ownBlock=some k->base<=k\/X k
theorem yi6.lt {base:Nat} {X:Nat->Prop} (h:yi6 base X w e z v n xs):∀k,v.ownBlock=some k->(base<=k\/X k)/\k < w.heap.size:=λ k hk=>⟨h.2 k hk,h.1.lt k hk⟩
end
def jh2 (base:Nat) (X:Nat->Prop) (L:Nat->Prop) (E:Env) (w:World) (m:Nat):Blk->Prop
 | .cells l=>(base<=E.β m\/X (E.β m))/\¬ E.F (E.β m)/\∃arr t,w.heap[E.β m]?=some (.cells arr t (0,0))/\Fa2 (jb9 L E w) l arr.toList
 | .row z n r=>0<=n/\0 < z/\(∀k,(E.ν m).ownBlock=some k->¬ E.F k)/\∃e xs,yi6 base X w e z (E.ν m) n.toNat xs/\jd7 E.F w z n r xs
 | .fro z n r=>Rep E.F w (.slc z n r) (E.ν m)
 | .dead=>True
def Laid (F:Nat->Prop) (w:World):Prop:=∀m l,gtab m=some l->GB<=m->F (m - GB)/\∃arr t,w.heap[m - GB]?=some (.cells arr t (0,0))/\Fa2 (Rep F w) l arr.toList
theorem Laid.later {L:Nat->Prop} {E E':Env} {w w':World} (T:Later L E E' w w') (h:Laid E.F w):Laid E'.F w':=by
 intro m l e hm
 obtain ⟨h1,arr,t,h2,h3⟩:=h m l e hm
 exact ⟨T.F _ h1,arr,t,by rw [T.heap _ h1];exact h2,h3.mono λ _ _=>Rep.later T⟩
def dfOK (base:Nat) (F0 F:Nat->Prop) (w:World):List Deferred->Prop
 | []=>True
 | d :: l=>(∃D,d={ target:=.collected D,args:=#[] }/\F D/\(base<=D/\¬ F0 D)/\w.heap[D]?=some (.deferred (some []))/\∀d'∈l,d'≠d)/\dfOK base F0 F w l
theorem dfOK.later {base:Nat} {F0 F F':Nat->Prop} {w w':World} (hF:∀k,F k->F' k) (hw:∀k,F k->w'.heap[k]?=w.heap[k]?):∀{l:List Deferred},dfOK base F0 F w l->dfOK base F0 F' w' l
 | [],_=>trivial
 | _ :: _,⟨⟨D,e,h1,h2,h3,h4⟩,h⟩=>⟨⟨D,e,hF D h1,h2,by rw [hw D h1];exact h3,h4⟩,dfOK.later hF hw h⟩
structure RelE (base:Nat) (X F0:Nat->Prop) (B:Nat->(Nat×Value)×Bool) (E:Env) (s:PSt) (a:Act) (w:World):Prop where
 defers:dfOK base F0 E.F w a.defers
 size:a.tmps.size=s.tmps.length
 slots:∀(t:Nat) (g:GV),s.tmps[t]?=some g->g.k=true->∃y,a.tmps[t]?=some y/\jd6 (live s) E w g.v y
 mem:∀m b,s.mem m=some b->m < GB/\jh2 base X (live s) E w m b
 sep:∀m m' b b',s.mem m=some b->s.mem m'=some b'->m≠m'->∀k,ja9 E m b=some k->ja9 E m' b'≠some k
 frz:∀k,E.F k->k < w.heap.size/\(F0 k\/base<=k\/X k)
 sub:∀k,F0 k->E.F k
 glob:Laid E.F w
 old:∀k,X k->k < w.heap.size
 pin:∀m,PN<=m\/(B m).2=true->(s.mem m).isSome=true->E.β m=(B m).1.1/\E.ν m=(B m).1.2
 pinL:∀m,(B m).2=true->(s.mem m).isSome=true
structure Keep (base:Nat) (X:Nat->Prop) (w w':World):Prop where
 os:w'.os=w.os
 tape:w'.tape=w.tape
 output:w'.output=w.output
 size:w.heap.size<=w'.heap.size
 block:∀k,k < base->¬ X k->w'.heap[k]?=w.heap[k]?
theorem Keep.refl (base:Nat) (X:Nat->Prop) (w:World):Keep base X w w:=⟨rfl,rfl,rfl,Nat.le_refl _,λ _ _ _=>rfl⟩
theorem Keep.trans {base:Nat} {X:Nat->Prop} {a b c:World} (h:Keep base X a b) (k:Keep base X b c):Keep base X a c :=
 ⟨k.os.trans h.os,k.tape.trans h.tape,k.output.trans h.output,Nat.le_trans h.size k.size,λ i hi hx=>(k.block i hi hx).trans (h.block i hi hx)⟩
structure jc4 (base:Nat) (X F0:Nat->Prop) (w w':World):Prop extends Keep base X w w' where
 fro:∀k,F0 k->w'.heap[k]?=w.heap[k]?
theorem jc4.refl (base:Nat) (X F0:Nat->Prop) (w:World):jc4 base X F0 w w:=⟨Keep.refl _ _ _,λ _ _=>rfl⟩
theorem jc4.trans {base:Nat} {X F0:Nat->Prop} {a b c:World} (h:jc4 base X F0 a b) (k:jc4 base X F0 b c):jc4 base X F0 a c :=
 ⟨h.toKeep.trans k.toKeep,λ i hi=>(k.fro i hi).trans (h.fro i hi)⟩
theorem jh2.later {base:Nat} {X L L':Nat->Prop} {E E':Env} {w w':World} (T:Later L E E' w w') (G:∀m,GB<=m->E'.ν m=E.ν m) (hL:∀m,L m->L' m) {m:Nat} {b:Blk} (hm:L m) (hlt:m < GB)
  (h:jh2 base X L E w m b) (hw:∀k,ja9 E m b=some k->w'.heap[k]?=w.heap[k]?/\¬ E'.F k):jh2 base X L' E' w' m b:=by
 cases b with
 | cells l =>
  obtain ⟨h1,h2,arr,t,h3,h4⟩:=h
  have eb:=T.β m hm hlt
  obtain ⟨k1,k2⟩:=hw _ rfl
  unfold jh2
  rw [eb]
  exact ⟨h1,k2,arr,t,by rw [k1];exact h3,h4.mono λ _ _=>jb9.later T G hL⟩
 | row z n r =>
  obtain ⟨h0,h1,h2,e,xs,h3,h4⟩:=h
  have ev:=T.ν m hm hlt
  unfold jh2
  rw [ev]
  refine ⟨h0,h1,λ k hk=>(hw k hk).2,e,xs,⟨h3.1.heap λ k hk=>(hw k hk).1,h3.2⟩,λ i j hi hj=>?_⟩
  obtain ⟨u,e1,e2⟩:=h4 i j hi hj
  exact ⟨u,e1,e2.later T⟩
 | fro z n r =>
  have ev:=T.ν m hm hlt
  unfold jh2 at h ⊢
  rw [ev];exact Rep.later T h
 | dead=>trivial
section
variable {base:Nat} {X F0:Nat->Prop} {B:Nat->(Nat×Value)×Bool} {E:Env} {s:PSt} {a:Act} {w:World}
theorem RelE.eval (R:RelE base X F0 B E s a w) (x:Operand) (hk:(operand s x).k=true):jd6 (live s) E w (operand s x).v (a.eval x):=by
 cases x with
 | tmp t =>
  simp only [operand,Act.eval] at *
  cases h:s.tmps[t]? with
  | none =>
   have h1:s.tmps.length<=t:=by simpa using h
   have h2:a.tmps[t]?=none:=by simp [R.size];exact h1
   have e:s.tmps.getD t (gnow (.tup []))=gnow (.tup []):=by simp [List.getD,h]
   have e2:a.tmps.getD t undef=undef:=by simp [h2]
   rw [e,e2]
   exact ⟨[],rfl,trivial⟩
  | some g =>
   have e:s.tmps.getD t (gnow (.tup []))=g:=by simp [List.getD,h]
   rw [e] at hk ⊢
   obtain ⟨y,h1,h2⟩:=R.slots t g h hk
   have e2:a.tmps.getD t undef=y:=by simp [h1]
   rw [e2];exact h2
 | const v =>
  simp only [operand] at *
  split at hk
  ·rename_i hp
   rw [if_pos hp]
   exact Rep.v hp
  ·simp [gunk] at hk
 | global g =>
  simp only [operand] at *
  split at hk
  ·rename_i hp
   rw [if_pos hp]
   refine ⟨Or.inr ⟨Nat.le_add_right _ _,hp⟩,?_⟩
   simp [Act.eval,adr,Nat.le_add_right]
  ·simp [gunk] at hk
 | func f=>exact Rep.v rfl
theorem RelE.go (R:RelE base X F0 B E s a w) {E':Env} {w':World} {mem':Nat->Option Blk} (dst:Option Tmp) (g:GV) (y:Value) (p:Prop) (l:List Tmp) (gen:Nat)
  (T:Later (live s) E E' w w') (G:∀m,GB<=m->E'.ν m=E.ν m) (hL:∀m,(s.mem m).isSome=true->(mem' m).isSome=true)
  (hy:g.k=true->jd6 (live ⟨s.tmps,mem',p,l,gen⟩) E' w' g.v y)
  (hmem:∀m b,mem' m=some b->m < GB/\jh2 base X (live ⟨s.tmps,mem',p,l,gen⟩) E' w' m b)
  (hsep:∀m m' b b',mem' m=some b->mem' m'=some b'->m≠m'->∀k,ja9 E' m b=some k->ja9 E' m' b'≠some k)
  (hfrz:∀k,E'.F k->k < w'.heap.size/\(F0 k\/base<=k\/X k)) (hsz:w.heap.size<=w'.heap.size) (hpin:∀m,PN<=m->(mem' m).isSome=true->(s.mem m).isSome=true) :
  RelE base X F0 B E' ⟨je6 s.tmps dst g,mem',p,l,gen⟩ (a.put dst y) w':=by
 have hLL:∀m,live s m->live ⟨s.tmps,mem',p,l,gen⟩ m:=λ m hm=>hm.elim (λ h=>Or.inl (hL m h)) Or.inr
 have hslot:∀(t:Nat) (h:GV),s.tmps[t]?=some h->h.k=true->∃y,a.tmps[t]?=some y/\jd6 (live ⟨s.tmps,mem',p,l,gen⟩) E' w' h.v y:=by
  intro t h e hk
  obtain ⟨y,h1,h2⟩:=R.slots t h e hk
  exact ⟨y,h1,jd6.later T G hLL h2⟩
 refine ⟨?_,?_,?_,hmem,hsep,hfrz,λ k hk=>T.F k (R.sub k hk),Laid.later T R.glob,λ k hk=>Nat.lt_of_lt_of_le (R.old k hk) hsz,λ m hm h=>?_,λ m h=>hL m (R.pinL m h)⟩
 ·have:(a.put dst y).defers=a.defers:=by cases dst <;> rfl
  rw [this]
  exact R.defers.later T.F T.heap
 ·cases dst with
  | none=>exact R.size
  | some d=>simp [Act.put,je6,R.size]
 ·cases dst with
  | none=>exact hslot
  | some d =>
   intro t h e hk
   simp only [je6,List.getElem?_set] at e
   simp only [Act.put,Array.getElem?_setIfInBounds]
   split at e
   ·rename_i hd
    subst hd
    split at e
    ·rename_i hl
     simp only [Option.some.injEq] at e
     subst e
     exact ⟨y,by simp [R.size,hl],hy hk⟩
    ·simp at e
   ·rename_i hd
    simp only [hd,if_false]
    exact hslot t h e hk
 ·have h0:(s.mem m).isSome=true:=hm.elim (λ q=>hpin m q h) (λ q=>R.pinL m q)
  obtain ⟨b,hb⟩:=Option.isSome_iff_exists.1 h0
  rw [T.β m (Or.inl h0) (R.mem m b hb).1,T.ν m (Or.inl h0) (R.mem m b hb).1]
  exact R.pin m hm h0
theorem je8 {L:Nat->Prop} {m:Nat} {b:Blk} (h:jh2 base X L E w m b) {k:Nat} (hk:ja9 E m b=some k):k < w.heap.size:=by
 cases b with
 | cells l =>
  obtain ⟨_,_,arr,t,h3,_⟩:=h
  simp only [ja9,Option.some.injEq] at hk
  subst hk
  exact (Array.getElem?_eq_some_iff.1 h3).1
 | row z n r =>
  obtain ⟨_,_,_,e,xs,h3,_⟩:=h
  exact (h3.lt k hk).2
 | fro _ _ _=>simp [ja9] at hk
 | dead=>simp [ja9] at hk
theorem je5 {L:Nat->Prop} {m:Nat} {b:Blk} (h:jh2 base X L E w m b) {k:Nat} (hk:ja9 E m b=some k):¬ E.F k:=by
 cases b with
 | cells l=>simp only [ja9,Option.some.injEq] at hk;subst hk;exact h.2.1
 | row z n r=>exact h.2.2.1 k hk
 | fro _ _ _=>simp [ja9] at hk
 | dead=>simp [ja9] at hk
theorem qc0 {a b:Nat} (h:a≠b):Nat.beq a b=false:=by
 cases e:Nat.beq a b
 ·rfl
 ·exact absurd (Nat.eq_of_beq_eq_true e) h
theorem jb0 {m:Nat->Option Blk} {n:Nat} {b:Blk} {l:List (Nat×Blk)}:jb3 m ((n,b) :: l) n=some b:=by simp [jb3,Nat.beq_refl]
theorem jb6 {m:Nat->Option Blk} {n k:Nat} {b:Blk} {l:List (Nat×Blk)} (h:k≠n):jb3 m ((n,b) :: l) k=jb3 m l k:=by simp [jb3,qc0 h]
theorem jc8 {m:Nat->Option Blk}:∀{l:List (Nat×Blk)} {k:Nat},(m k).isSome=true->(jb3 m l k).isSome=true
 | [],_,h=>h
 | (n,b) :: l,k,h=>by
  by_cases e:k=n
  ·subst e;rw [jb0];rfl
  ·rw [jb6 e];exact jc8 h
theorem jj6 {m:Nat->Option Blk}:∀{l:List (Nat×Blk)} {k:Nat},(∀p∈l,p.1 < PN\/(m p.1).isSome=true)->PN<=k->(jb3 m l k).isSome=true->(m k).isSome=true
 | [],_,_,_,h=>h
 | (n,b) :: l,k,hl,hk,h=>by
  by_cases e:k=n
  ·subst e
   rcases hl (k,b) (by simp) with h1 | h1
   ·exact absurd h1 (by simp only;omega)
   ·exact h1
  ·rw [jb6 e] at h
   exact jj6 (λ p hp=>hl p (by simp [hp])) hk h
theorem RelE.q91 (R:RelE base X F0 B E s a w) (hb:base<=w.heap.size) {name:Nat} (hn:s.mem name=none) (hltP:name < PN) (arr:Array Value) (t:TypeId) (l:List CV) (hl:Fa2 (jb9 (live s) E w) l arr.toList)
  (dst:Option Tmp) (p:Prop) (li:List Tmp) (gen:Nat) :
  ∃E',RelE base X F0 B E' ⟨je6 s.tmps dst (gnow (.x (.c (.ptr name 0)))),jb3 s.mem [(name,.cells l)],p,li,gen⟩ (a.put dst (.pointer (some ⟨w.heap.size,0,none⟩))) (w.alloc (.cells arr t)):=by
 have hlt:name < GB:=Nat.lt_trans hltP vr7
 have hnl:¬ live s name:=λ h=>h.elim (λ h=>by rw [hn] at h;simp at h) (λ h=>by omega)
 let E':Env:=⟨E.F,λ m=>if m=name then w.heap.size else E.β m,E.ν⟩
 have T:Later (live s) E E' w (w.alloc (.cells arr t)):=by
  refine ⟨λ _ h=>h,λ k hk=>heap_alloc_old w _ _ (R.frz k hk).1,λ m hm _=>?_,λ _ _ _=>rfl⟩
  show (if m=name then w.heap.size else E.β m)=E.β m
  rw [if_neg (λ (e:m=name)=>hnl (e▸hm))]
 have hLL:∀m,live s m->live ⟨s.tmps,jb3 s.mem [(name,.cells l)],p,li,gen⟩ m:=λ m hm=>hm.elim (λ h=>Or.inl (jc8 h)) Or.inr
 have eβ:E'.β name=w.heap.size:=by show (if name=name then w.heap.size else E.β name)=_;rw [if_pos rfl]
 have bo:∀m b,m≠name->ja9 E' m b=ja9 E m b:=by
  intro m b hm
  cases b with
  | cells l =>
   show some (if m=name then w.heap.size else E.β m)=some (E.β m)
   rw [if_neg hm]
  | _=>rfl
 refine ⟨E',R.go dst _ _ p li gen T (λ _ _=>rfl) (λ m h=>jc8 h) (λ _=>?_) ?_ ?_ ?_ (by simp) (λ m hm h=>jj6 (by simp [hltP]) hm h)⟩
 ·refine ⟨Or.inl (by simp only [jb0];rfl),?_⟩
  rw [adr,if_neg (by omega),eβ]
 ·intro m b hm
  by_cases e:m=name
  ·subst e
   rw [jb0] at hm
   simp only [Option.some.injEq] at hm
   subst hm
   refine ⟨hlt,?_⟩
   unfold jh2
   rw [eβ]
   exact ⟨Or.inl hb,λ h=>by have:=(R.frz _ h).1;omega,arr,t,heap_alloc_new w _,hl.mono λ _ _=>jb9.later T (λ _ _=>rfl) hLL⟩
  ·rw [jb6 e] at hm
   have hm:s.mem m=some b:=hm
   obtain ⟨h1,h2⟩:=R.mem m b hm
   refine ⟨h1,jh2.later T (λ _ _=>rfl) hLL (Or.inl (by rw [hm];rfl)) h1 h2 λ k hk=>⟨heap_alloc_old w _ _ (je8 h2 hk),je5 h2 hk⟩⟩
 ·intro m m' b b' hm hm' hne k hk hk'
  by_cases e:m=name
  ·subst e
   have e':m'≠m:=λ h=>hne h.symm
   rw [jb0] at hm
   rw [jb6 e'] at hm'
   simp only [Option.some.injEq] at hm
   subst hm
   rw [bo _ _ e'] at hk'
   have:=je8 (R.mem m' b' hm').2 hk'
   simp only [ja9,Option.some.injEq,eβ] at hk
   omega
  ·rw [jb6 e] at hm
   rw [bo _ _ e] at hk
   by_cases e':m'=name
   ·subst e'
    rw [jb0] at hm'
    simp only [Option.some.injEq] at hm'
    subst hm'
    have:=je8 (R.mem m b hm).2 hk
    simp only [ja9,Option.some.injEq,eβ] at hk'
    omega
   ·rw [jb6 e'] at hm'
    rw [bo _ _ e'] at hk'
    exact R.sep m m' b b' hm hm' hne k hk hk'
 ·intro k hk
  have:=R.frz k hk
  exact ⟨by simp;omega,this.2⟩
theorem RelE.vx6 (R:RelE base X F0 B E s a w) {m:Nat} {l0 l:List CV} (hm0:s.mem m=some (.cells l0)) (arr:Array Value) (hl:Fa2 (jb9 (live s) E w) l arr.toList)
  (dst:Option Tmp) (g:GV) (y:Value) (hg:g.k=true->jd6 (live s) E w g.v y) (p:Prop) (li:List Tmp) (gen:Nat) :
  RelE base X F0 B E ⟨je6 s.tmps dst g,jb3 s.mem [(m,.cells l)],p,li,gen⟩ (a.put dst y) (w.setRow (E.β m) arr)/\jc4 base X F0 w (w.setRow (E.β m) arr):=by
 obtain ⟨hlt,hX,hnF,arr0,t,hh,_⟩:=R.mem m _ hm0
 have T:Later (live s) E E w (w.setRow (E.β m) arr):=⟨λ _ h=>h,λ k hk=>setRow_other w _ _ _ (λ e=>hnF (e▸hk)),λ _ _ _=>rfl,λ _ _ _=>rfl⟩
 have hLL:∀k,live s k->live ⟨s.tmps,jb3 s.mem [(m,.cells l)],p,li,gen⟩ k:=λ m hm=>hm.elim (λ h=>Or.inl (jc8 h)) Or.inr
 have bo:∀k (b:Blk) (b':Blk),s.mem k=some b->jb3 s.mem [(m,.cells l)] k=some b'->ja9 E k b'=ja9 E k b:=by
  intro k b b' h h'
  by_cases e:k=m
  ·subst e;rw [jb0] at h';rw [hm0] at h;simp only [Option.some.injEq] at h h';subst h h';rfl
  ·rw [jb6 e] at h';rw [show jb3 s.mem [] k=s.mem k from rfl,h] at h';simp only [Option.some.injEq] at h';subst h';rfl
 have bk:∀k (b':Blk),jb3 s.mem [(m,.cells l)] k=some b'->∃b,s.mem k=some b:=by
  intro k b' h'
  by_cases e:k=m
  ·subst e;exact ⟨_,hm0⟩
  ·rw [jb6 e] at h';exact ⟨_,h'⟩
 refine ⟨R.go dst g y p li gen T (λ _ _=>rfl) (λ m h=>jc8 h) (λ hk=>jd6.later T (λ _ _=>rfl) hLL (hg hk)) ?_ ?_ (λ k hk=>?_) (by simp [World.setRow]) (λ m' hm h=>jj6 (by simp [hm0]) hm h),⟨⟨rfl,rfl,rfl,by simp [World.setRow],λ k hk hx=>setRow_other w _ _ _ (λ e=>?_)⟩,λ k hk=>T.heap k (R.sub k hk)⟩⟩
 ·intro k b hk
  by_cases e:k=m
  ·subst e
   rw [jb0] at hk
   simp only [Option.some.injEq] at hk
   subst hk
   exact ⟨hlt,hX,hnF,arr,t,setRow_heap w _ _ _ _ _ hh,hl.mono λ _ _=>jb9.later T (λ _ _=>rfl) hLL⟩
  ·rw [jb6 e] at hk
   have hk:s.mem k=some b:=hk
   obtain ⟨h1,h2⟩:=R.mem k b hk
   refine ⟨h1,jh2.later T (λ _ _=>rfl) hLL (Or.inl (by rw [hk];rfl)) h1 h2 λ j hj=>⟨setRow_other w _ _ _ (λ e'=>?_),je5 h2 hj⟩⟩
   exact R.sep k m b _ hk hm0 e j hj (by simp [ja9,e'])
 ·intro k k' b b' hk hk' hne j hj hj'
  obtain ⟨c,hc⟩:=bk k b hk
  obtain ⟨c',hc'⟩:=bk k' b' hk'
  rw [bo k c b hc hk] at hj
  rw [bo k' c' b' hc' hk'] at hj'
  exact R.sep k k' c c' hc hc' hne j hj hj'
 ·have:=R.frz k hk
  exact ⟨by simp [World.setRow];exact this.1,this.2⟩
 ·rcases hX with h | h
  ·omega
  ·exact hx (e▸h)
theorem RelE.vg2 (R:RelE base X F0 B E s a w) {m z:Nat} {n:Int} {r0 r:Row} (hm0:s.mem m=some (.row z n r0)) {w':World} {k0:Nat} (hk0:(E.ν m).ownBlock=some k0) (hw:∀k,k≠k0->w'.heap[k]?=w.heap[k]?)
  (hos:w'.os=w.os/\w'.tape=w.tape/\w'.output=w.output/\w'.heap.size=w.heap.size) {e:TypeId} {xs:List Value} (ho:OwnR w' e z (E.ν m) n.toNat xs) (hr:jd7 E.F w z n r xs)
  (dst:Option Tmp) (g:GV) (y:Value) (hg:g.k=true->jd6 (live s) E w g.v y) (p:Prop) (li:List Tmp) (gen:Nat) :
  RelE base X F0 B E ⟨je6 s.tmps dst g,jb3 s.mem [(m,.row z n r)],p,li,gen⟩ (a.put dst y) w'/\jc4 base X F0 w w':=by
 obtain ⟨hlt,hn0,hz,hnF,e0,xs0,hown,_⟩:=R.mem m _ hm0
 have hbk:=(hown.lt k0 hk0).1
 have T:Later (live s) E E w w':=⟨λ _ h=>h,λ k hk=>hw k (λ e=>hnF k0 hk0 (e▸hk)),λ _ _ _=>rfl,λ _ _ _=>rfl⟩
 have hLL:∀k,live s k->live ⟨s.tmps,jb3 s.mem [(m,.row z n r)],p,li,gen⟩ k:=λ m hm=>hm.elim (λ h=>Or.inl (jc8 h)) Or.inr
 have bo:∀k (b:Blk) (b':Blk),s.mem k=some b->jb3 s.mem [(m,.row z n r)] k=some b'->ja9 E k b'=ja9 E k b:=by
  intro k b b' h h'
  by_cases e:k=m
  ·subst e;rw [jb0] at h';rw [hm0] at h;simp only [Option.some.injEq] at h h';subst h h';rfl
  ·rw [jb6 e] at h';rw [show jb3 s.mem [] k=s.mem k from rfl,h] at h';simp only [Option.some.injEq] at h';subst h';rfl
 have bk:∀k (b':Blk),jb3 s.mem [(m,.row z n r)] k=some b'->∃b,s.mem k=some b:=by
  intro k b' h'
  by_cases e:k=m
  ·subst e;exact ⟨_,hm0⟩
  ·rw [jb6 e] at h';exact ⟨_,h'⟩
 refine ⟨R.go dst g y p li gen T (λ _ _=>rfl) (λ m h=>jc8 h) (λ hk=>jd6.later T (λ _ _=>rfl) hLL (hg hk)) ?_ ?_ (λ k hk=>?_) (by omega) (λ m' hm h=>jj6 (by simp [hm0]) hm h),⟨⟨hos.1,hos.2.1,hos.2.2.1,by omega,λ k hk hx=>hw k (λ e=>by subst e;exact hbk.elim (λ h=>by omega) hx)⟩,λ k hk=>T.heap k (R.sub k hk)⟩⟩
 ·intro k b hk
  by_cases e:k=m
  ·subst e
   rw [jb0] at hk
   simp only [Option.some.injEq] at hk
   subst hk
   refine ⟨hlt,hn0,hz,hnF,_,xs,⟨ho,hown.2⟩,λ i j hi hj=>?_⟩
   obtain ⟨u,e1,e2⟩:=hr i j hi hj
   exact ⟨u,e1,e2.later T⟩
  ·rw [jb6 e] at hk
   have hk:s.mem k=some b:=hk
   obtain ⟨h1,h2⟩:=R.mem k b hk
   refine ⟨h1,jh2.later T (λ _ _=>rfl) hLL (Or.inl (by rw [hk];rfl)) h1 h2 λ j hj=>⟨hw j (λ e'=>?_),je5 h2 hj⟩⟩
   exact R.sep k m b _ hk hm0 e j hj (by simp only [ja9];rw [e'];exact hk0)
 ·intro k k' b b' hk hk' hne j hj hj'
  obtain ⟨c,hc⟩:=bk k b hk
  obtain ⟨c',hc'⟩:=bk k' b' hk'
  rw [bo k c b hc hk] at hj
  rw [bo k' c' b' hc' hk'] at hj'
  exact R.sep k k' c c' hc hc' hne j hj hj'
 ·have:=R.frz k hk
  exact ⟨by omega,this.2⟩
theorem RelE.y78 (R:RelE base X F0 B E s a w) {m z:Nat} {n:Int} {r0 r:Row} (hm0:s.mem m=some (.row z n r0)) (hr:∀xs,jd7 E.F w z n r0 xs->jd7 E.F w z n r xs)
  (dst:Option Tmp) (g:GV) (y:Value) (hg:g.k=true->jd6 (live s) E w g.v y) (p:Prop) (li:List Tmp) (gen:Nat) :
  RelE base X F0 B E ⟨je6 s.tmps dst g,jb3 s.mem [(m,.row z n r)],p,li,gen⟩ (a.put dst y) w:=by
 obtain ⟨hlt,hn0,hz,hnF,e0,xs0,hown,hr0⟩:=R.mem m _ hm0
 have T:Later (live s) E E w w:=Later.refl _ _ _
 have hLL:∀k,live s k->live ⟨s.tmps,jb3 s.mem [(m,.row z n r)],p,li,gen⟩ k:=λ m hm=>hm.elim (λ h=>Or.inl (jc8 h)) Or.inr
 have bo:∀k (b:Blk) (b':Blk),s.mem k=some b->jb3 s.mem [(m,.row z n r)] k=some b'->ja9 E k b'=ja9 E k b:=by
  intro k b b' h h'
  by_cases e:k=m
  ·subst e;rw [jb0] at h';rw [hm0] at h;simp only [Option.some.injEq] at h h';subst h h';rfl
  ·rw [jb6 e] at h';rw [show jb3 s.mem [] k=s.mem k from rfl,h] at h';simp only [Option.some.injEq] at h';subst h';rfl
 have bk:∀k (b':Blk),jb3 s.mem [(m,.row z n r)] k=some b'->∃b,s.mem k=some b:=by
  intro k b' h'
  by_cases e:k=m
  ·subst e;exact ⟨_,hm0⟩
  ·rw [jb6 e] at h';exact ⟨_,h'⟩
 refine R.go dst g y p li gen T (λ _ _=>rfl) (λ m h=>jc8 h) (λ hk=>jd6.later T (λ _ _=>rfl) hLL (hg hk)) ?_ ?_ (λ k hk=>R.frz k hk) (Nat.le_refl _) (λ m' hm h=>jj6 (by simp [hm0]) hm h)
 ·intro k b hk
  by_cases e:k=m
  ·subst e
   rw [jb0] at hk
   simp only [Option.some.injEq] at hk
   subst hk
   exact ⟨hlt,hn0,hz,hnF,_,xs0,hown,hr _ hr0⟩
  ·rw [jb6 e] at hk
   have hk:s.mem k=some b:=hk
   obtain ⟨h1,h2⟩:=R.mem k b hk
   exact ⟨h1,jh2.later T (λ _ _=>rfl) hLL (Or.inl (by rw [hk];rfl)) h1 h2 λ j hj=>⟨rfl,je5 h2 hj⟩⟩
 ·intro k k' b b' hk hk' hne j hj hj'
  obtain ⟨c,hc⟩:=bk k b hk
  obtain ⟨c',hc'⟩:=bk k' b' hk'
  rw [bo k c b hc hk] at hj
  rw [bo k' c' b' hc' hk'] at hj'
  exact R.sep k k' c c' hc hc' hne j hj hj'
theorem RelE.qf4 (R:RelE base X F0 B E s a w) (hb:base<=w.heap.size) {name:Nat} (hn:s.mem name=none) (hltP:name < PN) {w':World} {v:Value} {row:Option Nat} (hg:w.grownBy w' row)
  {u:List (Nat×Blk)} (hu:(u=[]/\row=none)\/∃m z0 n0 r0,s.mem m=some (.row z0 n0 r0)/\row=(E.ν m).ownBlock/\u=[(m,.dead)])
  {z:Nat} {n:Int} {r:Row} {e:TypeId} {xs:List Value} (hz:0 < z) (h0:0<=n) (ho:OwnR w' e z v n.toNat xs) (hr:jd7 E.F w' z n r xs) (hfresh:∀k,v.ownBlock=some k->w.heap.size<=k\/row=some k)
  (dst:Option Tmp) (p:Prop) (li:List Tmp) (gen:Nat) :
  (∃E',RelE base X F0 B E' ⟨je6 s.tmps dst (gnow (.x (.c (.own name n)))),jb3 s.mem ((name,.row z n r) :: u),p,li,gen⟩ (a.put dst v) w')/\jc4 base X F0 w w':=by
 have hlt:name < GB:=Nat.lt_trans hltP vr7
 have hnl:¬ live s name:=λ h=>h.elim (λ h=>by rw [hn] at h;simp at h) (λ h=>by omega)
 have hrowF:∀k,row=some k->¬ E.F k/\(base<=k\/X k):=by
  intro k hk
  rcases hu with ⟨_,rfl⟩ | ⟨m,z0,n0,r0,hm,rfl,_⟩
  ·simp at hk
  ·obtain ⟨_,_,_,h3,e0,xs0,h4,_⟩:=R.mem m _ hm
   exact ⟨h3 k hk,(h4.lt k hk).1⟩
 let E':Env:=⟨E.F,E.β,λ m=>if m=name then v else E.ν m⟩
 have T:Later (live s) E E' w w':=by
  refine ⟨λ _ h=>h,λ k hk=>hg.block k (R.frz k hk).1 (λ e=>(hrowF k e.symm).1 hk),λ _ _ _=>rfl,λ m hm _=>?_⟩
  show (if m=name then v else E.ν m)=E.ν m
  rw [if_neg (λ (e:m=name)=>hnl (e▸hm))]
 have GG:∀m,GB<=m->E'.ν m=E.ν m:=λ m hm=>by show (if m=name then v else E.ν m)=E.ν m;rw [if_neg (by omega)]
 have hLL:∀m,live s m->live ⟨s.tmps,jb3 s.mem ((name,.row z n r) :: u),p,li,gen⟩ m:=λ m hm=>hm.elim (λ h=>Or.inl (jc8 h)) Or.inr
 have eν:E'.ν name=v:=by show (if name=name then v else E.ν name)=_;rw [if_pos rfl]
 have bo:∀m b,m≠name->ja9 E' m b=ja9 E m b:=by
  intro m b hm
  cases b with
  | row z n r =>
   show (if m=name then v else E.ν m).ownBlock=_
   rw [if_neg hm];rfl
  | _=>rfl
 have other:∀m b,m≠name->jb3 s.mem ((name,.row z n r) :: u) m=some b->(∃b0,s.mem m=some b0/\(b=.dead\/(b=b0/\∀k,ja9 E m b0=some k->row≠some k))):=by
  intro m b hm h
  rw [jb6 hm] at h
  rcases hu with ⟨rfl,rfl⟩ | ⟨m0,z0,n0,r0,h0,rfl,rfl⟩
  ·exact ⟨b,h,Or.inr ⟨rfl,λ k _=>by simp⟩⟩
  ·by_cases e:m=m0
   ·subst e
    rw [jb0] at h
    simp only [Option.some.injEq] at h
    exact ⟨_,h0,Or.inl h.symm⟩
   ·rw [jb6 e] at h
    exact ⟨b,h,Or.inr ⟨rfl,λ k hk hr=>R.sep m m0 b _ h h0 e k hk (by simpa [ja9] using hr)⟩⟩
 refine ⟨⟨E',R.go dst _ _ p li gen T GG (λ m h=>jc8 h) (λ _=>?_) ?_ ?_ (λ k hk=>?_) hg.size (λ m hm h=>jj6 (λ q hq=>?_) hm h)⟩,⟨⟨hg.os,hg.tape,hg.output,hg.size,λ k hk hx=>hg.block k (by omega) (λ e=>(hrowF k e.symm).2.elim (λ h=>by omega) hx)⟩,λ k hk=>T.heap k (R.sub k hk)⟩⟩
 ·refine ⟨Or.inl (by simp only [jb0];rfl),eν.symm,h0,?_⟩
  rcases ho.2 with ⟨rfl,hz⟩ | ⟨g,cap,cur,rfl,_⟩
  ·exact Or.inl ⟨rfl,by omega⟩
  ·exact Or.inr ⟨_,_,rfl⟩
 ·intro m b hm
  by_cases e:m=name
  ·subst e
   rw [jb0] at hm
   simp only [Option.some.injEq] at hm
   subst hm
   refine ⟨hlt,?_⟩
   unfold jh2
   rw [eν]
   refine ⟨h0,hz,λ k hk hF=>?_,_,xs,⟨ho,λ k hk=>(hfresh k hk).elim (λ h=>Or.inl (by omega)) (λ h=>(hrowF k h).2)⟩,λ i j hi hj=>?_⟩
   ·rcases hfresh k hk with h | h
    ·have:=(R.frz k hF).1;omega
    ·exact (hrowF k h).1 hF
   ·exact hr i j hi hj
  ·obtain ⟨b0,h1,h2⟩:=other m b e hm
   obtain ⟨k1,k2⟩:=R.mem m b0 h1
   refine ⟨k1,?_⟩
   rcases h2 with rfl | ⟨rfl,h2⟩
   ·trivial
   ·exact jh2.later T GG hLL (Or.inl (by rw [h1];rfl)) k1 k2 λ k hk=>⟨hg.block k (je8 k2 hk) (λ e=>h2 k hk e.symm),je5 k2 hk⟩
 ·intro m m' b b' hm hm' hne k hk hk'
  have one:∀m b,m≠name->jb3 s.mem ((name,.row z n r) :: u) m=some b->∀k,ja9 E' m b=some k->v.ownBlock≠some k:=by
   intro m b e hm k hk hv
   obtain ⟨b0,h1,h2⟩:=other m b e hm
   rcases h2 with rfl | ⟨rfl,h2⟩
   ·simp [ja9] at hk
   ·rw [bo _ _ e] at hk
    rcases hfresh k hv with h | h
    ·have:=je8 (R.mem m b h1).2 hk;omega
    ·exact h2 k hk h
  by_cases e:m=name
  ·subst e
   rw [jb0] at hm
   simp only [Option.some.injEq] at hm
   subst hm
   simp only [ja9,eν] at hk
   exact one m' b' (λ h=>hne h.symm) hm' k hk' hk
  ·by_cases e':m'=name
   ·subst e'
    rw [jb0] at hm'
    simp only [Option.some.injEq] at hm'
    subst hm'
    simp only [ja9,eν] at hk'
    exact one m b e hm k hk hk'
   ·obtain ⟨b0,h1,h2⟩:=other m b e hm
    obtain ⟨b1,h3,h4⟩:=other m' b' e' hm'
    rcases h2 with rfl | ⟨rfl,h2⟩
    ·simp [ja9] at hk
    rcases h4 with rfl | ⟨rfl,h4⟩
    ·simp [ja9] at hk'
    rw [bo _ _ e] at hk
    rw [bo _ _ e'] at hk'
    exact R.sep m m' b b' h1 h3 hne k hk hk'
 ·have:=R.frz k hk
  exact ⟨Nat.lt_of_lt_of_le this.1 hg.size,this.2⟩
 ·rcases List.mem_cons.1 hq with rfl | hq
  ·exact Or.inl hltP
  ·rcases hu with ⟨rfl,_⟩ | ⟨m0,z0,n0,r0,h0,_,rfl⟩
   ·simp at hq
   ·simp only [List.mem_singleton] at hq
    subst hq
    exact Or.inr (by simp [h0])
end
end Go.Proofs.YthkidembkknoeaaDoor.QR
namespace Go.Proofs.YthkidembkknoeaaDoor.QR
open Go.RowKit PR
set_option linter.unusedVariables false
set_option linter.unusedSimpArgs false
def jl6 (F:Nat->Prop) (w:World):XV->Value->Prop
 | .c x,y=>Rep F w x y
 | .agg l,y=>∃ys:List Value,y=.agg ys.toArray/\Fa2 (Rep F w) l ys
def qn3 (F:Nat->Prop) (w:World) (b:Nat) (l:List CV):Prop:=∃arr t,w.heap[b]?=some (.cells arr t (0,0))/\Fa2 (Rep F w) l arr.toList
def je7 (F:Nat->Prop) (w:World):List AV->List Value->List Nat->Prop
 | [],[],bs=>bs=[]
 | .x v :: l,y :: ys,bs=>jl6 F w v y/\je7 F w l ys bs
 | .ref off c :: l,y :: ys,b :: bs=>y=.pointer (some ⟨b,off,none⟩)/\¬ F b/\b ∉ bs/\qn3 F w b c/\je7 F w l ys bs
 | _,_,_=>False
def jp9 (F:Nat->Prop) (w:World):List XV->Value->Prop
 | [v],y=>jl6 F w v y
 | l,y=>∃ys:List Value,y=.tuple ys.toArray/\Fa2 (jl6 F w) l ys
def jk6 (base:Nat) (F:Nat->Prop) (w:World) (z:Nat) (n:Int) (r:Row) (y:Value):Prop :=
 0<=n/\0 < z/\(∀k,y.ownBlock=some k->¬ F k)/\∃e xs,OwnB base w e z y n.toNat xs/\jd7 F w z n r xs
def RepO (base:Nat) (F:Nat->Prop) (f:Option Value) (w:World):CV->Value->Prop
 | .fresh z n r,y=>f=some y/\jk6 base F w z n r y
 | c,y=>Rep F w c y
def jk2 (base:Nat) (F:Nat->Prop) (f:Option Value) (w:World):XV->Value->Prop
 | .c x,y=>RepO base F f w x y
 | .agg l,y=>∃ys:List Value,y=.agg ys.toArray/\Fa2 (RepO base F f w) l ys
def jh7 (base:Nat) (F:Nat->Prop) (f:Option Value) (w:World):List XV->Value->Prop
 | [v],y=>jk2 base F f w v y
 | l,y=>∃ys:List Value,y=.tuple ys.toArray/\Fa2 (jk2 base F f w) l ys
def Refs (F:Nat->Prop) (w:World):List Nat->List (List CV)->Prop
 | [],[]=>True
 | b :: bs,c :: cs=>qn3 F w b c/\Refs F w bs cs
 | _,_=>False
def Post (F:Nat->Prop) (w:World) (bs:List Nat) (ans:Ans) (v:Value) (w':World):Prop :=
 Keep w.heap.size (·∈bs) w w'/\∃(F':Nat->Prop) (f:Option Value),(∀k,F k->F' k)/\(∀k,F' k->k < w'.heap.size/\(F k\/w.heap.size<=k))/\jh7 w.heap.size F' f w' ans.res v/\Refs F' w' bs ans.upd
def ji5 (P:Program) (f:FuncId) (al:List AV) (ans:Ans):Prop :=
 ∀(w:World) (F:Nat->Prop) (ys:List Value) (bs:List Nat),Laid F w->(∀k,F k->k < w.heap.size)->je7 F w al ys bs->
  (∃v w',(callFunc f ys.toArray).run P w=.ok (.value v) w'/\Post F w bs ans v w')\/
  ((callFunc f ys.toArray).run P w=.ok (.enter f ys.toArray) w/\Calls P f ys.toArray w λ e w'=>∃v,e=.returned v/\Post F w bs ans v w')
def q92 (z:Nat) (l n:Int) (y v:Value):Prop :=
 (n=0/\∃ad c,v=.slice ad 0 c/\(ad=none->c=0))\/∃b off N c c',y=.slice (some ⟨b,off,none⟩) N c/\v=.slice (some ⟨b,off + l.toNat * z,none⟩) n.toNat c'/\n.toNat<=c'
def valA:List Value->Nat->Nat->Option Value
 | y :: _,0,j=>y.cells.toList[j]?
 | _ :: l,k + 1,j=>valA l k j
 | [],_,_=>none
def yu8 (P:Program) (f:FuncId) (al:List AV) (v:Nat×Nat×Int×Int):Prop :=
 ∀(w:World) (F:Nat->Prop) (ys:List Value),Laid F w->(∀k,F k->k < w.heap.size)->je7 F w al ys []->
  (callFunc f ys.toArray).run P w=.ok (.enter f ys.toArray) w/\Calls P f ys.toArray w λ e w'=>∃r y z,e=.returned r/\Keep w.heap.size (λ _=>False) w w'/\slcA al v.1 v.2.1=some z/\valA ys v.1 v.2.1=some y/\q92 z v.2.2.1 v.2.2.2 y r
def OwnC (F:Nat->Prop) (w:World):CV->Value->List Value->Prop
 | .fresh z n r,y,g=>g=[y]/\jk6 0 F w z n r y
 | c,y,g=>g=[]/\Rep F w c y
def OwnL (F:Nat->Prop) (w:World):List CV->List Value->List Value->Prop
 | [],[],g=>g=[]
 | c :: l,y :: ys,g=>∃g1 g2,g=g1 ++ g2/\OwnC F w c y g1/\OwnL F w l ys g2
 | _,_,_=>False
def OwnX (F:Nat->Prop) (w:World):XV->Value->List Value->Prop
 | .c c,y,g=>OwnC F w c y g
 | .agg l,y,g=>∃ys:List Value,y=.agg ys.toArray/\OwnL F w l ys g
def jy8 (F:Nat->Prop) (w:World):List XV->List Value->List Value->Prop
 | [],[],g=>g=[]
 | x :: l,y :: ys,g=>∃g1 g2,g=g1 ++ g2/\OwnX F w x y g1/\jy8 F w l ys g2
 | _,_,_=>False
def jy1 (F:Nat->Prop) (w:World):List XV->Value->List Value->Prop
 | [v],y,g=>OwnX F w v y g
 | l,y,g=>∃ys:List Value,y=.tuple ys.toArray/\jy8 F w l ys g
def yr8 (F:Nat->Prop) (w:World) (b:Nat) (l:List CV) (g:List Value):Prop:=∃arr t,w.heap[b]?=some (.cells arr t (0,0))/\OwnL F w l arr.toList g
def qf5 (F:Nat->Prop) (w:World):List Nat->List (List CV)->List Value->Prop
 | [],[],g=>g=[]
 | b :: bs,c :: cs,g=>∃g1 g2,g=g1 ++ g2/\yr8 F w b c g1/\qf5 F w bs cs g2
 | _,_,_=>False
def jy9 (F:Nat->Prop) (w:World):List AV->List Value->List Nat->List Value->Prop
 | [],[],bs,g=>bs=[]/\g=[]
 | .x v :: l,y :: ys,bs,g=>∃g1 g2,g=g1 ++ g2/\OwnX F w v y g1/\jy9 F w l ys bs g2
 | .ref off c :: l,y :: ys,b :: bs,g=>y=.pointer (some ⟨b,off,none⟩)/\¬ F b/\b ∉ bs/\∃g1 g2,g=g1 ++ g2/\yr8 F w b c g1/\jy9 F w l ys bs g2
 | _,_,_,_=>False
def Apart (g:List Value):Prop:=g.Pairwise λ a b=>∀k,a.ownBlock=some k->b.ownBlock≠some k
def Of (g:List Value) (k:Nat):Prop:=∃y∈g,y.ownBlock=some k
def yi7 (F:Nat->Prop) (w:World) (bs:List Nat) (G:Nat->Prop) (ans:Ans) (v:Value) (w':World):Prop :=
 Keep w.heap.size (λ k=>k∈bs\/G k) w w'/\∃(F':Nat->Prop) (g1 g2:List Value),(∀k,F k->F' k)/\(∀k,F' k->k < w'.heap.size/\(F k\/w.heap.size<=k\/G k))/\jy1 F' w' ans.res v g1/\qf5 F' w' bs ans.upd g2/\Apart (g1 ++ g2)/\∀k,Of (g1 ++ g2) k->w.heap.size<=k\/G k
def q02 (P:Program) (f:FuncId) (al:List AV) (ans:Ans):Prop :=
 ∀(w:World) (F:Nat->Prop) (ys:List Value) (bs:List Nat) (g:List Value),Laid F w->(∀k,F k->k < w.heap.size)->jy9 F w al ys bs g->Apart g->(∀k,Of g k->k ∉ bs)->
  (callFunc f ys.toArray).run P w=.ok (.enter f ys.toArray) w/\Calls P f ys.toArray w λ e w'=>∃v,e=.returned v/\yi7 F w bs (Of g) ans v w'
def je9 (P:Program) (O:ja8):Prop:=∀f al ans,O f al=some ans->(∀p∈ans.ask,p)->((gives O f).isSome=true/\q02 P f al ans)\/(gives O f=none/\(ji5 P f al ans\/(∃v,vr8 ans.res=some v/\yu8 P f al v)\/(vs6 ans.upd=true/\ji5 P f al ⟨ans.res,jl0 al,ans.ask⟩)))
theorem jl6.mono {F F':Nat->Prop} {w w':World} (hF:∀k,F k->F' k) (hw:∀k,F k->w'.heap[k]?=w.heap[k]?) {x:XV} {y:Value} (h:jl6 F w x y):jl6 F' w' x y:=by
 cases x with
 | c x=>exact Rep.mono hF hw h
 | agg l=>obtain ⟨ys,e,h⟩:=h;exact ⟨ys,e,h.mono λ _ _=>Rep.mono hF hw⟩
theorem jb9.jq0 {L:Nat->Prop} {E:Env} {w:World} {c:CV} {y:Value} (h:Rep E.F w c y):jb9 L E w c y:=by
 cases c with
 | v x=>exact h
 | slc z n r=>exact h
 | own m n=>cases h
 | ptr m off=>cases h
 | fn f caps=>cases h
 | fresh z n r=>cases h
 | clo f l=>exact h
theorem ConcX.jq0 {L:Nat->Prop} {E:Env} {w:World} {c:XV} {y:Value} (h:jl6 E.F w c y):ConcX L E w c y:=by
 cases c with
 | c x=>exact jb9.jq0 h
 | agg l=>obtain ⟨ys,e,h⟩:=h;exact ⟨ys,e,h.mono λ _ _=>jb9.jq0⟩
theorem jd6.yr9 {L:Nat->Prop} {E:Env} {w:World} {l:List XV} {y:Value} (h:jp9 E.F w l y):jd6 L E w (resS l) y:=by
 match l,h with
 | [v],h=>exact ConcX.jq0 h
 | [],⟨ys,e,h⟩=>exact ⟨ys,e,h.mono λ _ _=>ConcX.jq0⟩
 | _ :: _ :: _,⟨ys,e,h⟩=>exact ⟨ys,e,h.mono λ _ _=>ConcX.jq0⟩
theorem RepO.of {base:Nat} {F:Nat->Prop} {f:Option Value} {w:World} {c:CV} {y:Value} (h:Rep F w c y):RepO base F f w c y:=by
 cases c with
 | fresh z n r=>cases h
 | _=>exact h
theorem jk2.of {base:Nat} {F:Nat->Prop} {f:Option Value} {w:World} {c:XV} {y:Value} (h:jl6 F w c y):jk2 base F f w c y:=by
 cases c with
 | c x=>exact RepO.of h
 | agg l=>obtain ⟨ys,e,h⟩:=h;exact ⟨ys,e,h.mono λ _ _=>RepO.of⟩
theorem jh7.of {base:Nat} {F:Nat->Prop} {f:Option Value} {w:World} {l:List XV} {y:Value} (h:jp9 F w l y):jh7 base F f w l y:=by
 match l,h with
 | [v],h=>exact jk2.of h
 | [],⟨ys,e,h⟩=>exact ⟨ys,e,h.mono λ _ _=>jk2.of⟩
 | _ :: _ :: _,⟨ys,e,h⟩=>exact ⟨ys,e,h.mono λ _ _=>jk2.of⟩
theorem jl7 {α:Type} {l m:List α} (h:l ++ m=[]):l=[]/\m=[]:=List.append_eq_nil_iff.1 h
theorem RepO.plain {base:Nat} {F:Nat->Prop} {f:Option Value} {w:World} {c:CV} {y:Value} (hc:je2 c=[]) (h:RepO base F f w c y):Rep F w c y:=by
 cases c with
 | fresh z n r=>simp [je2] at hc
 | _=>exact h
theorem RepO.qw4 {base:Nat} {F:Nat->Prop} {f:Option Value} {w:World}:∀{l:List CV} {ys:List Value},jb7 l=[]->Fa2 (RepO base F f w) l ys->Fa2 (Rep F w) l ys
 | [],[],_,_=>trivial
 | [],_ :: _,_,h=>h.elim
 | _ :: _,[],_,h=>h.elim
 | c :: l,y :: ys,e,h=>by
  obtain ⟨e1,e2⟩:=jl7 e
  exact ⟨h.1.plain e1,RepO.qw4 e2 h.2⟩
theorem jk2.plain {base:Nat} {F:Nat->Prop} {f:Option Value} {w:World} {c:XV} {y:Value} (hc:jb7 (cellsOf c)=[]) (h:jk2 base F f w c y):jl6 F w c y:=by
 cases c with
 | c x=>exact RepO.plain (jl7 hc).1 h
 | agg l=>obtain ⟨ys,e,h⟩:=h;exact ⟨ys,e,RepO.qw4 hc h⟩
theorem jk2.qw4 {base:Nat} {F:Nat->Prop} {f:Option Value} {w:World}:∀{l:List XV} {ys:List Value},jc3 l=[]->Fa2 (jk2 base F f w) l ys->Fa2 (jl6 F w) l ys
 | [],[],_,_=>trivial
 | [],_ :: _,_,h=>h.elim
 | _ :: _,[],_,h=>h.elim
 | c :: l,y :: ys,e,h=>by
  obtain ⟨e1,e2⟩:=jl7 e
  exact ⟨h.1.plain e1,jk2.qw4 e2 h.2⟩
theorem jh7.plain {base:Nat} {F:Nat->Prop} {f:Option Value} {w:World} {l:List XV} {y:Value} (hl:jc3 l=[]) (h:jh7 base F f w l y):jp9 F w l y:=by
 match l,h with
 | [v],h=>exact jk2.plain (jl7 hl).1 h
 | [],⟨ys,e,h⟩=>exact ⟨ys,e,jk2.qw4 hl h⟩
 | _ :: _ :: _,⟨ys,e,h⟩=>exact ⟨ys,e,jk2.qw4 hl h⟩
theorem Rep.flat {F F':Nat->Prop} {w w':World} {c:CV} {y:Value} (hc:isV c=true) (h:Rep F w c y):Rep F' w' c y:=by
 cases h with
 | v h=>exact .v h
 | nil _ _=>simp [isV] at hc
 | slc _ _ _ _ _ _ _=>simp [isV] at hc
 | clo _ _=>simp [isV] at hc
theorem jl6.flat {F F':Nat->Prop} {w w':World} {x:XV} {y:Value} (hx:(cellsOf x).all isV=true) (h:jl6 F w x y):jl6 F' w' x y:=by
 cases x with
 | c x=>simp only [cellsOf,List.all_cons,List.all_nil,Bool.and_true] at hx;exact Rep.flat hx h
 | agg l =>
  obtain ⟨ys,e,h⟩:=h
  exact ⟨ys,e,Fa2.vx5 (λ c hc y=>Rep.flat (List.all_eq_true.1 hx c hc)) h⟩
theorem jp9.flat {F F':Nat->Prop} {w w':World} {l:List XV} {y:Value} (hx:allV l=true) (h:jp9 F w l y):jp9 F' w' l y:=by
 have hx:∀x∈l,(cellsOf x).all isV=true:=List.all_eq_true.1 hx
 match l,h with
 | [v],h=>exact jl6.flat (hx v (by simp)) h
 | [],⟨ys,e,h⟩=>exact ⟨ys,e,Fa2.vx5 (λ c hc y=>jl6.flat (hx c hc)) h⟩
 | _ :: _ :: _,⟨ys,e,h⟩=>exact ⟨ys,e,Fa2.vx5 (λ c hc y=>jl6.flat (hx c hc)) h⟩
section
variable {P:Program} {O:ja8} {base:Nat} {X F0:Nat->Prop} {B:Nat->(Nat×Value)×Bool} {E:Env} {s:PSt} {a:Act} {w:World}
theorem q03 {m z:Nat} {n:Int} {r:Row} (h:jh2 base X (live s) E w m (.row z n r)) {F':Nat->Prop} (hF:∀k,E.F k->F' k) (hk:∀k,(E.ν m).ownBlock=some k->F' k):Rep F' w (.slc z n r) (E.ν m):=by
 obtain ⟨h0,hz,_,e,xs,ho,hr⟩:=h
 obtain ⟨k,rfl⟩:=Int.eq_ofNat_of_zero_le h0
 rcases ho.1.2 with ⟨hv,hn⟩ | ⟨g,cap,cur,hv,⟨fz,_,hg⟩,hnc,_,hcs,htake⟩
 ·have:k=0:=by simpa using hn
  subst this
  rw [hv];exact .nil hz (λ _=>rfl)
 ·have hv':E.ν m=.slice (some ⟨g,0,none⟩) k cap:=by rw [hv];simp
  rw [hv']
  have hgF:F' g:=hk g (by rw [hv];rfl)
  refine .slc (λ i j=>(xs[i * z + j]?).getD undef) hz (by simpa using hnc) hgF hg (λ i j hi hj=>?_) (λ i j hi hj=>?_)
  ·obtain ⟨u,e1,_⟩:=hr i j (by omega) hj
   rw [e1,Option.getD_some,Nat.zero_add,<- Array.getElem?_toList]
   rw [<- htake,List.getElem?_take] at e1
   split at e1
   ·exact e1
   ·simp at e1
  ·obtain ⟨u,e1,e2⟩:=hr i j (by omega) hj
   rw [e1,Option.getD_some]
   exact e2.mono hF (λ _ _=>rfl)
def jf0 (E:Env) (s:PSt) (rows:List Nat) (k:Nat):Prop:=E.F k\/∃m∈rows,∃z n r,s.mem m=some (.row z n r)/\(E.ν m).ownBlock=some k
theorem jq8 (R:RelE base X F0 B E s a w) {c d:CV} {ms rows:List Nat} {y:Value} (h:resC s c=some (d,ms)) (hm:∀m∈ms,m∈rows) (hc:jb9 (live s) E w c y):Rep (jf0 E s rows) w d y:=by
 unfold resC at h
 split at h
 ·rename_i m n
  split at h <;> try (simp at h;done)
  rename_i z k r hrow
  simp only [Option.some.injEq,Prod.mk.injEq] at h
  obtain ⟨rfl,rfl⟩:=h
  rw [hc.2.1]
  unfold rowOf at hrow
  split at hrow <;> try (simp at hrow;done)
  ·rename_i z' n' r' hmem
   simp only [Option.some.injEq,Prod.mk.injEq] at hrow
   obtain ⟨rfl,rfl,rfl⟩:=hrow
   exact q03 (R.mem m _ hmem).2 (λ k hk=>Or.inl hk) λ k hk=>Or.inr ⟨m,hm m (by simp),_,_,_,hmem,hk⟩
  ·rename_i z' n' r' hmem
   simp only [Option.some.injEq,Prod.mk.injEq] at hrow
   obtain ⟨rfl,rfl,rfl⟩:=hrow
   have:=(R.mem m _ hmem).2
   exact Rep.mono (λ k hk=>Or.inl hk) (λ _ _=>rfl) this
 ·simp at h
 ·simp at h
 ·simp at h
 ·simp only [Option.some.injEq,Prod.mk.injEq] at h
  obtain ⟨rfl,rfl⟩:=h
  cases c with
  | v x=>exact Rep.mono (λ k hk=>Or.inl hk) (λ _ _=>rfl) hc
  | slc z n r=>exact Rep.mono (λ k hk=>Or.inl hk) (λ _ _=>rfl) hc
  | own m n=>simp_all
  | ptr m off=>simp_all
  | fn f caps=>simp_all
  | fresh z n r=>exact hc.elim
  | clo f l=>exact Rep.mono (λ k hk=>Or.inl hk) (λ _ _=>rfl) hc
theorem yu9 (R:RelE base X F0 B E s a w) {m z:Nat} {n:Int} {r:Row} {rows:List Nat} (hrow:rowOf s m=some (z,n,r)) (hm:m∈rows):Rep (jf0 E s rows) w (.slc z n r) (E.ν m):=by
 unfold rowOf at hrow
 split at hrow <;> try (simp at hrow;done)
 ·rename_i z' n' r' hmem
  simp only [Option.some.injEq,Prod.mk.injEq] at hrow
  obtain ⟨rfl,rfl,rfl⟩:=hrow
  exact q03 (R.mem m _ hmem).2 (λ k hk=>Or.inl hk) λ k hk=>Or.inr ⟨m,hm,_,_,_,hmem,hk⟩
 ·rename_i z' n' r' hmem
  simp only [Option.some.injEq,Prod.mk.injEq] at hrow
  obtain ⟨rfl,rfl,rfl⟩:=hrow
  have:=(R.mem m _ hmem).2
  exact Rep.mono (λ k hk=>Or.inl hk) (λ _ _=>rfl) this
theorem qi7.rep {F:Nat->Prop} {w:World} {z:Nat} {l n N:Int} {r:Row} {ν y:Value} (h:qi7 ν z l n y) (hy:Rep F w (.slc z N r) ν):Rep F w (.slc z n (.sub r l)) y:=by
 have hz:0 < z:=by cases hy <;> assumption
 obtain ⟨h0,h1,h⟩:=h
 rcases h with ⟨rfl,ad,c,rfl,h⟩ | ⟨b,c,ln,c',rfl,h2,h3,rfl⟩
 ·exact .nil hz h
 ·obtain ⟨n,rfl⟩:=Int.eq_ofNat_of_zero_le h1
  obtain ⟨l,rfl⟩:=Int.eq_ofNat_of_zero_le h0
  simp only [Int.toNat_natCast] at h2 h3 ⊢
  cases hy with
  | nil _ _ =>
   obtain rfl:n=0:=by omega
   exact .nil hz (by simp)
  | slc u hz hc hF hg hu hr =>
   refine .slc (λ i j=>u (i + l) j) hz h3 hF hg (λ i j hi hj=>?_) (λ i j hi hj=>?_)
   ·have:=hu (i + l) j (by omega) hj
    rw [Nat.add_mul] at this
    rw [<- this]
    congr 1
    omega
   ·have:=hr (i + l) j (by omega) hj
    show Rep F w (den r (addZ i l) j) _
    rw [show addZ (i:Int) (l:Int)=((i + l:Nat):Int) by unfold addZ;omega]
    exact this
theorem jz0 (R:RelE base X F0 B E s a w) {m z:Nat} {l n:Int} {d:CV} {ms rows:List Nat} {y:Value} (h:q00 s m z l n=some (d,ms)) (hm:∀k∈ms,k∈rows) (hc:jd6 (live s) E w (.view m z l n) y):Rep (jf0 E s rows) w d y:=by
 unfold q00 at h
 split at h <;> try (simp at h;done)
 rename_i z' N r hrow
 split at h <;> try (simp at h;done)
 rename_i hz
 have hz:=Nat.eq_of_beq_eq_true hz
 subst hz
 simp only [Option.some.injEq,Prod.mk.injEq] at h
 obtain ⟨rfl,rfl⟩:=h
 exact hc.2.rep (yu9 R hrow (hm m (by simp)))
theorem jm8 (R:RelE base X F0 B E s a w) {rows:List Nat}:∀{l d:List CV} {ms:List Nat} {ys:List Value},resL s l=some (d,ms)->(∀m∈ms,m∈rows)->Fa2 (jb9 (live s) E w) l ys->Fa2 (Rep (jf0 E s rows) w) d ys
 | [],d,ms,ys,h,_,hc=>by
  simp only [resL,Option.some.injEq,Prod.mk.injEq] at h
  obtain ⟨rfl,rfl⟩:=h
  cases ys with
  | nil=>trivial
  | cons=>exact hc.elim
 | c :: l,d,ms,ys,h,hm,hc=>by
  unfold resL at h
  split at h <;> try (simp at h;done)
  rename_i d1 a1 d2 a2 h1 h2
  simp only [Option.some.injEq,Prod.mk.injEq] at h
  obtain ⟨rfl,rfl⟩:=h
  cases ys with
  | nil=>exact hc.elim
  | cons y ys=>exact ⟨jq8 R h1 (λ m hh=>hm m (by simp [hh])) hc.1,jm8 R h2 (λ m hh=>hm m (by simp [hh])) hc.2⟩
theorem qn4 (R:RelE base X F0 B E s a w) {rows0:List Nat}:∀{l:List SV} {al:List AV} {rows refs:List Nat} {ys:List Value},qm8 s l=some (al,rows,refs)->(∀m∈rows,m∈rows0)->distinct refs=true->Fa2 (jd6 (live s) E w) l ys->
  je7 (jf0 E s rows0) w al ys (refs.map E.β)/\∀m∈refs,∃l,s.mem m=some (.cells l)
 | [],al,rows,refs,ys,h,_,_,hc=>by
  simp only [qm8,Option.some.injEq,Prod.mk.injEq] at h
  obtain ⟨rfl,rfl,rfl⟩:=h
  cases ys with
  | nil=>exact ⟨rfl,by simp⟩
  | cons=>exact hc.elim
 | v :: l,al,rows,refs,ys,h,hm,hd,hc=>by
  unfold qm8 at h
  split at h <;> try (simp at h;done)
  rename_i g al' rows' refs' h1 h2
  simp only [Option.some.injEq,Prod.mk.injEq] at h
  obtain ⟨rfl,rfl,rfl⟩:=h
  cases ys with
  | nil=>exact hc.elim
  | cons y ys =>
  obtain ⟨c1,c2⟩:=hc
  have hd2:distinct refs'=true:=by
   clear h1
   generalize g.refs=q at hd
   induction q with
   | nil=>simpa using hd
   | cons x q ih =>
    simp only [List.cons_append,distinct,Bool.and_eq_true] at hd
    exact ih hd.2
  obtain ⟨i1,i2⟩:=qn4 R h2 (λ m hh=>hm m (by simp [hh])) hd2 c2
  have hmg:∀m∈g.rows,m∈rows0:=λ m hh=>hm m (by simp [hh])
  unfold argA at h1
  split at h1
  ·
   rename_i m off
   split at h1 <;> try (simp at h1;done)
   rename_i lc hmem
   split at h1 <;> try (simp at h1;done)
   rename_i k aa hres
   simp only [Option.some.injEq] at h1
   subst h1
   obtain ⟨b1,b2,b3,arr,t,b4,b5⟩:=R.mem m _ hmem
   have hy:y=.pointer (some ⟨E.β m,off,none⟩):=by
    have:=c1.2
    rw [adr,if_neg (by omega)] at this
    exact this
   simp only [List.cons_append,List.nil_append,distinct,Bool.and_eq_true,Bool.not_eq_true',List.any_eq_false] at hd
   refine ⟨⟨hy,?_,?_,⟨arr,t,b4,jm8 R hres hmg b5⟩,i1⟩,?_⟩
   ·rintro (hF | ⟨m',hm',z,n,r,e1,e2⟩)
    ·exact b3 hF
    ·exact R.sep m m' _ _ hmem e1 (λ e=>by subst e;rw [hmem] at e1;simp at e1) _ rfl e2
   ·intro hin
    obtain ⟨m',hm',e⟩:=List.mem_map.1 hin
    obtain ⟨l',hl'⟩:=i2 m' hm'
    have hne:m≠m':=λ e=>by
     have:=hd.1 m' hm'
     rw [e,Nat.beq_refl] at this;simp at this
    exact R.sep m m' _ _ hmem hl' hne _ rfl (by simp [ja9,e])
   ·intro m' hm'
    rcases List.mem_cons.1 hm' with rfl | hm'
    ·exact ⟨_,hmem⟩
    ·exact i2 m' hm'
  ·
   rename_i c hnp
   split at h1 <;> try (simp at h1;done)
   rename_i d aa hres
   simp only [Option.some.injEq] at h1
   subst h1
   exact ⟨⟨jq8 R hres hmg c1,i1⟩,i2⟩
  ·
   rename_i lc
   split at h1 <;> try (simp at h1;done)
   rename_i d aa hres
   simp only [Option.some.injEq] at h1
   subst h1
   obtain ⟨zs,e,hz⟩:=c1
   exact ⟨⟨⟨zs,e,jm8 R hres hmg hz⟩,i1⟩,i2⟩
  ·
   rename_i m z l n
   split at h1 <;> try (simp at h1;done)
   rename_i d aa hres
   simp only [Option.some.injEq] at h1
   subst h1
   exact ⟨⟨jz0 R hres hmg c1,i1⟩,i2⟩
  ·simp at h1
theorem qw5 {rows:List Nat} {u:List (Nat×Blk)}:∀{m:Nat} {b:Blk},jb3 s.mem (froze s rows ++ u) m=some b->
  (∃z n r,s.mem m=some (.row z n r)/\m∈rows/\b=.fro z n r)\/(jb3 s.mem u m=some b/\∀z n r,s.mem m=some (.row z n r)->m ∉ rows):=by
 induction rows with
 | nil=>intro m b h;exact Or.inr ⟨h,by simp⟩
 | cons x rows ih =>
  intro m b h
  unfold froze at h
  split at h
  ·rename_i z n r hx
   by_cases e:m=x
   ·subst e
    rw [List.cons_append,jb0] at h
    simp only [Option.some.injEq] at h
    exact Or.inl ⟨z,n,r,hx,by simp,h.symm⟩
   ·rw [List.cons_append,jb6 e] at h
    rcases ih h with ⟨z',n',r',h1,h2,h3⟩ | ⟨h1,h2⟩
    ·exact Or.inl ⟨z',n',r',h1,by simp [h2],h3⟩
    ·exact Or.inr ⟨h1,λ z' n' r' h3 h4=>by
      rcases List.mem_cons.1 h4 with h4 | h4
      ·exact e h4
      ·exact h2 z' n' r' h3 h4⟩
  ·rename_i hx
   rcases ih h with ⟨z',n',r',h1,h2,h3⟩ | ⟨h1,h2⟩
   ·exact Or.inl ⟨z',n',r',h1,by simp [h2],h3⟩
   ·exact Or.inr ⟨h1,λ z' n' r' h3 h4=>by
     rcases List.mem_cons.1 h4 with h4 | h4
     ·subst h4;exact hx _ _ _ h3
     ·exact h2 z' n' r' h3 h4⟩
theorem q93 {F':Nat->Prop} {w':World}:∀{refs:List Nat} {cs:List (List CV)} {u:List (Nat×Blk)} {m:Nat} {b:Blk},zipU refs cs=some u->Refs F' w' (refs.map E.β) cs->jb3 s.mem u m=some b->
  (m∈refs/\∃c,b=.cells c/\qn3 F' w' (E.β m) c)\/(s.mem m=some b/\m ∉ refs)
 | [],[],u,m,b,h,_,hm=>by
  simp only [zipU,Option.some.injEq] at h
  subst h
  exact Or.inr ⟨hm,by simp⟩
 | x :: refs,c :: cs,u,m,b,h,hr,hm=>by
  unfold zipU at h
  split at h <;> try (simp at h;done)
  rename_i u' h1
  simp only [Option.some.injEq] at h
  subst h
  by_cases e:m=x
  ·subst e
   rw [jb0] at hm
   simp only [Option.some.injEq] at hm
   exact Or.inl ⟨by simp,c,hm.symm,hr.1⟩
  ·rw [jb6 e] at hm
   rcases q93 h1 hr.2 hm with ⟨h2,h3⟩ | ⟨h2,h3⟩
   ·exact Or.inl ⟨by simp [h2],h3⟩
   ·exact Or.inr ⟨h2,by simp [e,h3]⟩
 | [],_ :: _,u,m,b,h,_,_=>by simp [zipU] at h
 | _ :: _,[],u,m,b,h,_,_=>by simp [zipU] at h
theorem jn3 (R:RelE base X F0 B E s a w) (rows:List Nat):Laid (jf0 E s rows) w:=by
 intro m l e hm
 obtain ⟨h1,arr,t,h2,h3⟩:=R.glob m l e hm
 exact ⟨Or.inl h1,arr,t,h2,h3.mono λ _ _=>Rep.mono (λ k hk=>Or.inl hk) (λ _ _=>rfl)⟩
theorem jj0 (R:RelE base X F0 B E s a w) {rows:List Nat} {k:Nat} (h:jf0 E s rows k):k < w.heap.size:=by
 rcases h with h | ⟨m,_,z,n,r,h1,h2⟩
 ·exact (R.frz k h).1
 ·exact je8 (R.mem m _ h1).2 h2
theorem RelE.q04 (R:RelE base X F0 B E s a w) (hb:base<=w.heap.size) {rows refs:List Nat} (hrefs:∀m∈refs,∃l,s.mem m=some (.cells l)) {res:List XV} {cs:List (List CV)} {v:Value} {w':World} {F':Nat->Prop}
  (hk:Keep w.heap.size (·∈refs.map E.β) w w') (hF1:∀k,jf0 E s rows k->F' k) (hF2:∀k,F' k->k < w'.heap.size/\(jf0 E s rows k\/w.heap.size<=k)) (hres:jp9 F' w' res v) (hups:Refs F' w' (refs.map E.β) cs)
  {u:List (Nat×Blk)} (hu:zipU refs cs=some u) (dst:Option Tmp) (p:Prop) (li:List Tmp) (gen:Nat) :
  (RelE base X F0 B ⟨F',E.β,E.ν⟩ ⟨je6 s.tmps dst (gnow (resS res)),jb3 s.mem (froze s rows ++ u),p,li,gen⟩ (a.put dst v) w'/\∀m b,jb3 s.mem (froze s rows ++ u) m=some b->∃b0,s.mem m=some b0/\∀k,ja9 ⟨F',E.β,E.ν⟩ m b=some k->ja9 E m b0=some k)/\jc4 base X F0 w w':=by
 have refX:∀k∈refs.map E.β,(base<=k\/X k)/\¬ jf0 E s rows k:=by
  intro k hk
  obtain ⟨m,hm,rfl⟩:=List.mem_map.1 hk
  obtain ⟨l,hl⟩:=hrefs m hm
  obtain ⟨_,h1,h2,_⟩:=R.mem m _ hl
  refine ⟨h1,?_⟩
  rintro (h | ⟨m',hm',z,n,r,e1,e2⟩)
  ·exact h2 h
  ·exact R.sep m m' _ _ hl e1 (λ e=>by subst e;rw [hl] at e1;simp at e1) _ rfl e2
 have same:∀k,jf0 E s rows k->w'.heap[k]?=w.heap[k]?:=λ k h=>hk.block k (jj0 R h) (λ hin=>(refX k hin).2 h)
 let E':Env:=⟨F',E.β,E.ν⟩
 have T:Later (live s) E E' w w':=⟨λ k h=>hF1 k (Or.inl h),λ k h=>same k (Or.inl h),λ _ _ _=>rfl,λ _ _ _=>rfl⟩
 have hLL:∀m,live s m->live ⟨s.tmps,jb3 s.mem (froze s rows ++ u),p,li,gen⟩ m:=λ m hm=>hm.elim (λ h=>Or.inl (jc8 h)) Or.inr
 have what:∀m b,jb3 s.mem (froze s rows ++ u) m=some b->(∃z n r,s.mem m=some (.row z n r)/\m∈rows/\b=.fro z n r)\/(∃l c,s.mem m=some (.cells l)/\b=.cells c/\qn3 F' w' (E.β m) c)\/(s.mem m=some b/\m ∉ refs/\∀z n r,s.mem m=some (.row z n r)->m ∉ rows):=by
  intro m b h
  rcases qw5 h with h | ⟨h,h'⟩
  ·exact Or.inl h
  ·rcases q93 hu hups h with ⟨h1,c,h2,h3⟩ | ⟨h1,h2⟩
   ·obtain ⟨l,hl⟩:=hrefs m h1
    exact Or.inr (Or.inl ⟨l,c,hl,h2,h3⟩)
   ·exact Or.inr (Or.inr ⟨h1,h2,h'⟩)
 have bo:∀m b,jb3 s.mem (froze s rows ++ u) m=some b->∃b0,s.mem m=some b0/\∀k,ja9 E' m b=some k->ja9 E m b0=some k:=by
  intro m b h
  rcases what m b h with ⟨z,n,r,h1,_,rfl⟩ | ⟨l,c,h1,rfl,_⟩ | ⟨h1,_,_⟩
  ·exact ⟨_,h1,λ k hk=>by simp [ja9] at hk⟩
  ·exact ⟨_,h1,λ k hk=>hk⟩
  ·exact ⟨_,h1,λ k hk=>by cases b <;> exact hk⟩
 refine ⟨⟨R.go (E':=E') dst _ _ p li gen T (λ _ _=>rfl) (λ m h=>jc8 h) (λ _=>jd6.yr9 hres) ?_ ?_ (λ k h=>?_) hk.size (λ m hm h=>by obtain ⟨b,hb⟩:=Option.isSome_iff_exists.1 h;obtain ⟨b0,e0,_⟩:=bo m b hb;rw [e0];rfl),bo⟩,⟨⟨hk.os,hk.tape,hk.output,hk.size,λ k h hx=>hk.block k (by omega) λ hin=>?_⟩,λ k h=>same k (Or.inl (R.sub k h))⟩⟩
 ·intro m b h
  rcases what m b h with ⟨z,n,r,h1,h2,rfl⟩ | ⟨l,c,h1,rfl,h3⟩ | ⟨h1,h2,h3⟩
  ·obtain ⟨k1,k2⟩:=R.mem m _ h1
   refine ⟨k1,?_⟩
   have:=q03 k2 (F':=jf0 E s rows) (λ k hk=>Or.inl hk) λ k hk=>Or.inr ⟨m,h2,z,n,r,h1,hk⟩
   exact Rep.mono hF1 same this
  ·obtain ⟨k1,k2,k3,arr,t,k4,k5⟩:=R.mem m _ h1
   obtain ⟨arr',t',h4,h5⟩:=h3
   refine ⟨k1,k2,λ hF=>?_,arr',t',h4,h5.mono λ _ _=>jb9.jq0⟩
   have lt:E.β m < w.heap.size:=(Array.getElem?_eq_some_iff.1 k4).1
   rcases (hF2 _ hF).2 with (h | ⟨m',hm',z,n,r,e1,e2⟩) | h
   ·exact k3 h
   ·exact R.sep m m' _ _ h1 e1 (λ e=>by subst e;rw [h1] at e1;simp at e1) _ rfl e2
   ·have:E'.β m=E.β m:=rfl
    omega
  ·obtain ⟨k1,k2⟩:=R.mem m b h1
   refine ⟨k1,jh2.later T (λ _ _=>rfl) hLL (Or.inl (by rw [h1];rfl)) k1 k2 λ k hk'=>⟨hk.block k (je8 k2 hk') λ hin=>?_,λ hF=>?_⟩⟩
   ·obtain ⟨m',hm',e⟩:=List.mem_map.1 hin
    obtain ⟨l',hl'⟩:=hrefs m' hm'
    exact R.sep m m' _ _ h1 hl' (λ e=>h2 (e▸hm')) k hk' (by simp [ja9,e])
   ·have lt:=je8 k2 hk'
    rcases (hF2 _ hF).2 with (h | ⟨m',hm',z,n,r,e1,e2⟩) | h
    ·exact je5 k2 hk' h
    ·by_cases e:m=m'
     ·subst e;exact h3 _ _ _ e1 hm'
     ·exact R.sep m m' _ _ h1 e1 e k hk' e2
    ·omega
 ·intro m m' b b' h h' hne k hk1 hk2
  obtain ⟨b0,e0,f0⟩:=bo m b h
  obtain ⟨b1,e1,f1⟩:=bo m' b' h'
  exact R.sep m m' b0 b1 e0 e1 hne k (f0 k hk1) (f1 k hk2)
 ·have:=hF2 k h
  refine ⟨this.1,?_⟩
  rcases this.2 with (h | ⟨m',hm',z,n,r,e1,e2⟩) | h
  ·exact (R.frz k h).2
  ·obtain ⟨_,_,_,_,e0,xs0,h4,_⟩:=R.mem m' _ e1
   exact Or.inr (h4.lt k e2).1
  ·exact Or.inr (Or.inl (by omega))
 ·rcases (refX k hin).1 with h1 | h1
  ·omega
  ·exact hx h1
theorem RelE.called (R:RelE base X F0 B E s a w) (hb:base<=w.heap.size) {rows refs:List Nat} (hrefs:∀m∈refs,∃l,s.mem m=some (.cells l)) {ans:Ans} {v:Value} {w':World} (hp:Post (jf0 E s rows) w (refs.map E.β) ans v w') (hf:jc3 ans.res=[])
  {u:List (Nat×Blk)} (hu:zipU refs ans.upd=some u) (dst:Option Tmp) (p:Prop) (li:List Tmp) (gen:Nat) :
  (∃E',RelE base X F0 B E' ⟨je6 s.tmps dst (gnow (resS ans.res)),jb3 s.mem (froze s rows ++ u),p,li,gen⟩ (a.put dst v) w')/\jc4 base X F0 w w':=by
 obtain ⟨hk,F',f,hF1,hF2,hres,hups⟩:=hp
 obtain ⟨⟨h1,_⟩,h2⟩:=R.q04 hb hrefs hk hF1 hF2 (hres.plain hf) hups hu dst p li gen
 exact ⟨⟨_,h1⟩,h2⟩
theorem RelE.y79 (R:RelE base X F0 B E s a w) {name:Nat} (hn:s.mem name=none) (hltP:name < PN) {z:Nat} {n:Int} {r:Row} {v:Value} (hbase:base<=w.heap.size) {base':Nat} (hb':base<=base') (hv:jk6 base' E.F w z n r v)
  (hsep:∀k,v.ownBlock=some k->∀m b,s.mem m=some b->ja9 E m b≠some k) (dst:Option Tmp) (g:GV) (y:Value) (p:Prop) (li:List Tmp) (gen:Nat)
  (hy:g.k=true->jd6 (live ⟨s.tmps,jb3 s.mem [(name,.row z n r)],p,li,gen⟩) ⟨E.F,E.β,λ m=>if m=name then v else E.ν m⟩ w g.v y) :
  RelE base X F0 B ⟨E.F,E.β,λ m=>if m=name then v else E.ν m⟩ ⟨je6 s.tmps dst g,jb3 s.mem [(name,.row z n r)],p,li,gen⟩ (a.put dst y) w:=by
 have hlt:name < GB:=Nat.lt_trans hltP vr7
 have hnl:¬ live s name:=λ h=>h.elim (λ h=>by rw [hn] at h;simp at h) (λ h=>by omega)
 let E':Env:=⟨E.F,E.β,λ m=>if m=name then v else E.ν m⟩
 have T:Later (live s) E E' w w:=⟨λ _ h=>h,λ _ _=>rfl,λ _ _ _=>rfl,λ m hm _=>by
  show (if m=name then v else E.ν m)=E.ν m
  rw [if_neg (λ (e:m=name)=>hnl (e▸hm))]⟩
 have GG:∀m,GB<=m->E'.ν m=E.ν m:=λ m hm=>by show (if m=name then v else E.ν m)=E.ν m;rw [if_neg (by omega)]
 have hLL:∀m,live s m->live ⟨s.tmps,jb3 s.mem [(name,.row z n r)],p,li,gen⟩ m:=λ m hm=>hm.elim (λ h=>Or.inl (jc8 h)) Or.inr
 have eν:E'.ν name=v:=by show (if name=name then v else E.ν name)=_;rw [if_pos rfl]
 have bo:∀m b,m≠name->ja9 E' m b=ja9 E m b:=by
  intro m b hm
  cases b with
  | row z n r =>
   show (if m=name then v else E.ν m).ownBlock=_
   rw [if_neg hm];rfl
  | _=>rfl
 obtain ⟨h0,hz,hnF,e,xs,ho,hr⟩:=hv
 have ho':yi6 base X w e z v n.toNat xs:=⟨ho.1,λ k hk=>Or.inl (Nat.le_trans hb' (ho.lt k hk).1)⟩
 refine R.go (E':=E') dst g y p li gen T GG (λ m h=>jc8 h) hy ?_ ?_ R.frz (Nat.le_refl _) (λ m hm h=>jj6 (λ q hq=>?_) hm h)
 ·intro m b hm
  by_cases q:m=name
  ·subst q
   rw [jb0] at hm
   simp only [Option.some.injEq] at hm
   subst hm
   refine ⟨hlt,?_⟩
   unfold jh2
   rw [eν]
   exact ⟨h0,hz,hnF,e,xs,ho',hr⟩
  ·rw [jb6 q] at hm
   have hm:s.mem m=some b:=hm
   obtain ⟨k1,k2⟩:=R.mem m b hm
   exact ⟨k1,jh2.later T GG hLL (Or.inl (by rw [hm];rfl)) k1 k2 λ k hk=>⟨rfl,je5 k2 hk⟩⟩
 ·intro m m' b b' hm hm' hne k hk hk'
  by_cases q:m=name
  ·subst q
   rw [jb0] at hm
   simp only [Option.some.injEq] at hm
   subst hm
   simp only [ja9,eν] at hk
   have q':m'≠m:=λ h=>hne h.symm
   rw [jb6 q'] at hm'
   rw [bo _ _ q'] at hk'
   exact hsep k hk m' b' hm' hk'
  ·by_cases q':m'=name
   ·subst q'
    rw [jb0] at hm'
    simp only [Option.some.injEq] at hm'
    subst hm'
    simp only [ja9,eν] at hk'
    rw [jb6 q] at hm
    rw [bo _ _ q] at hk
    exact hsep k hk' m b hm hk
   ·rw [jb6 q] at hm
    rw [jb6 q'] at hm'
    rw [bo _ _ q] at hk
    rw [bo _ _ q'] at hk'
    exact R.sep m m' b b' hm hm' hne k hk hk'
 ·simp only [List.mem_singleton] at hq
  subst hq
  exact Or.inl hltP
theorem qn5 {base:Nat} {F:Nat->Prop} {f:Option Value} {w:World} {z:Nat} {n:Int} {r:Row}:∀{l:List CV} {ys:List Value},(z,n,r)∈jb7 l->Fa2 (RepO base F f w) l ys->∃y,f=some y/\jk6 base F w z n r y
 | [],ys,h,_=>by simp [jb7] at h
 | c :: l,[],_,k=>k.elim
 | c :: l,y :: ys,h,k=>by
  simp only [jb7,List.mem_append] at h
  rcases h with h | h
  ·cases c with
   | fresh z' n' r' =>
    simp only [je2,List.mem_singleton,Prod.mk.injEq] at h
    obtain ⟨rfl,rfl,rfl⟩:=h
    exact ⟨y,k.1⟩
   | _=>simp [je2] at h
  ·exact qn5 h k.2
theorem vs7 {base:Nat} {F:Nat->Prop} {f:Option Value} {w:World} {z:Nat} {n:Int} {r:Row} {x:XV} {y:Value} (h:(z,n,r)∈jb7 (cellsOf x)) (k:jk2 base F f w x y):∃y,f=some y/\jk6 base F w z n r y:=by
 cases x with
 | c x=>exact qn5 (ys:=[y]) h ⟨k,trivial⟩
 | agg l=>obtain ⟨ys,_,k⟩:=k;exact qn5 h k
theorem jn4 {base:Nat} {F:Nat->Prop} {f:Option Value} {w:World} {z:Nat} {n:Int} {r:Row}:∀{l:List XV} {ys:List Value},(z,n,r)∈jc3 l->Fa2 (jk2 base F f w) l ys->∃y,f=some y/\jk6 base F w z n r y
 | [],ys,h,_=>by simp [jc3] at h
 | c :: l,[],_,k=>k.elim
 | c :: l,y :: ys,h,k=>by
  simp only [jc3,List.mem_append] at h
  rcases h with h | h
  ·exact vs7 h k.1
  ·exact jn4 h k.2
theorem qi8 {base:Nat} {F:Nat->Prop} {f:Option Value} {w:World} {z:Nat} {n:Int} {r:Row} {l:List XV} {v:Value} (h:(z,n,r)∈jc3 l) (k:jh7 base F f w l v):∃y,f=some y/\jk6 base F w z n r y:=by
 match l,k with
 | [x],k=>exact jn4 (ys:=[v]) h ⟨k,trivial⟩
 | [],⟨ys,_,k⟩=>exact jn4 h k
 | _ :: _ :: _,⟨ys,_,k⟩=>exact jn4 h k
section
variable {L:Nat->Prop} {E2:Env} {name:Nat}
theorem vl4 {base':Nat} {F:Nat->Prop} {f:Value} {w:World} (hL:L name) (hν:E2.ν name=f) (hF:E2.F=F) {c:CV} {y:Value} (h:RepO base' F (some f) w c y):jb9 L E2 w (ownC name c) y:=by
 cases c with
 | fresh z n r =>
  obtain ⟨e,h0,hz,_,el,xs,ho,_⟩:=h
  simp only [Option.some.injEq] at e
  subst e
  refine ⟨hL,hν.symm,h0,?_⟩
  rcases ho.1.2 with ⟨h1,h2⟩ | ⟨g,cap,cur,h1,_⟩
  ·exact Or.inl ⟨h1,by omega⟩
  ·exact Or.inr ⟨g,cap,h1⟩
 | v x=>subst hF;exact jb9.jq0 (c:=.v x) h
 | slc z n r=>subst hF;exact jb9.jq0 (c:=.slc z n r) h
 | own m n=>cases h
 | ptr m off=>cases h
 | fn g caps=>cases h
 | clo f l=>subst hF;exact jb9.jq0 (c:=.clo f l) h
theorem q94 {base':Nat} {F:Nat->Prop} {f:Value} {w:World} (hL:L name) (hν:E2.ν name=f) (hF:E2.F=F):∀{l:List CV} {ys:List Value},Fa2 (RepO base' F (some f) w) l ys->Fa2 (jb9 L E2 w) (l.map (ownC name)) ys
 | [],[],_=>trivial
 | [],_ :: _,h=>h.elim
 | _ :: _,[],h=>h.elim
 | c :: l,y :: ys,h=>⟨vl4 hL hν hF h.1,q94 hL hν hF h.2⟩
theorem y80 {base':Nat} {F:Nat->Prop} {f:Value} {w:World} (hL:L name) (hν:E2.ν name=f) (hF:E2.F=F) {c:XV} {y:Value} (h:jk2 base' F (some f) w c y):ConcX L E2 w (ownX name c) y:=by
 cases c with
 | c x=>exact vl4 hL hν hF h
 | agg l=>obtain ⟨ys,e,h⟩:=h;exact ⟨ys,e,q94 hL hν hF h⟩
theorem vx7 {base':Nat} {F:Nat->Prop} {f:Value} {w:World} (hL:L name) (hν:E2.ν name=f) (hF:E2.F=F):∀{l:List XV} {ys:List Value},Fa2 (jk2 base' F (some f) w) l ys->Fa2 (ConcX L E2 w) (l.map (ownX name)) ys
 | [],[],_=>trivial
 | [],_ :: _,h=>h.elim
 | _ :: _,[],h=>h.elim
 | c :: l,y :: ys,h=>⟨y80 hL hν hF h.1,vx7 hL hν hF h.2⟩
theorem yv0 {base':Nat} {F:Nat->Prop} {f:Value} {w:World} (hL:L name) (hν:E2.ν name=f) (hF:E2.F=F) {l:List XV} {v:Value} (h:jh7 base' F (some f) w l v):jd6 L E2 w (resS (l.map (ownX name))) v:=by
 match l,h with
 | [x],h=>exact y80 hL hν hF h
 | [],⟨ys,e,h⟩=>exact ⟨ys,e,vx7 hL hν hF h⟩
 | x :: x' :: l,⟨ys,e,h⟩=>exact ⟨ys,e,vx7 hL hν hF h⟩
end
theorem RelE.vl5 (R:RelE base X F0 B E s a w) (hb:base<=w.heap.size) {v:Value} {w':World} (hk:Keep w.heap.size (λ _=>False) w w') {sv:SV} (hv:jd6 (live s) E w sv v) (dst:Option Tmp) (p:Prop) (li:List Tmp) (gen:Nat) :
  RelE base X F0 B E ⟨je6 s.tmps dst (gnow sv),jb3 s.mem [],p,li,gen⟩ (a.put dst v) w'/\jc4 base X F0 w w':=by
 have same:∀k,k < w.heap.size->w'.heap[k]?=w.heap[k]?:=λ k h=>hk.block k h (by simp)
 have T:Later (live s) E E w w':=⟨λ _ h=>h,λ k h=>same k (R.frz k h).1,λ _ _ _=>rfl,λ _ _ _=>rfl⟩
 refine ⟨R.go dst _ _ p li gen T (λ _ _=>rfl) (λ _ h=>h) (λ _=>jd6.later T (λ _ _=>rfl) (λ _ h=>h) hv) (λ m b h=>?_) R.sep (λ k h=>?_) hk.size (λ _ _ h=>h),⟨⟨hk.os,hk.tape,hk.output,hk.size,λ k h _=>same k (by omega)⟩,λ k h=>T.heap k (R.sub k h)⟩⟩
 ·obtain ⟨k1,k2⟩:=R.mem m b h
  have h:s.mem m=some b:=h
  exact ⟨k1,jh2.later T (λ _ _=>rfl) (λ _ h=>h) (Or.inl (by rw [h];rfl)) k1 k2 λ k hk'=>⟨same k (je8 k2 hk'),je5 k2 hk'⟩⟩
 ·have:=R.frz k h
  exact ⟨Nat.lt_of_lt_of_le this.1 hk.size,this.2⟩
theorem RelE.yv1 (R:RelE base X F0 B E s a w) (hb:base<=w.heap.size) {rows refs:List Nat} (hrefs:∀m∈refs,∃l,s.mem m=some (.cells l)) {ans:Ans} {v:Value} {w':World} (hp:Post (jf0 E s rows) w (refs.map E.β) ans v w') {z:Nat} {n:Int} {r:Row} (hf:jc3 ans.res=[(z,n,r)])
  {u:List (Nat×Blk)} (hu:zipU refs ans.upd=some u) {name:Nat} (hn:s.mem name=none) (hltP:name < PN) (dst:Option Tmp) (p:Prop) (li:List Tmp) (gen:Nat) :
  (∃E',RelE base X F0 B E' ⟨je6 s.tmps dst (gnow (resS (ans.res.map (ownX name)))),jb3 s.mem ((name,.row z n r) :: (froze s rows ++ u)),p,li,gen⟩ (a.put dst v) w')/\jc4 base X F0 w w':=by
 obtain ⟨hk,F',f,hF1,hF2,hres,hups⟩:=hp
 obtain ⟨⟨R1,bo⟩,k2⟩:=R.q04 hb hrefs hk hF1 hF2 (res:=[]) (v:=.tuple #[]) ⟨[],rfl,trivial⟩ hups hu none p li gen
 obtain ⟨y,rfl,hy⟩:=qi8 (z:=z) (n:=n) (r:=r) (by rw [hf];simp) hres
 have hn1:jb3 s.mem (froze s rows ++ u) name=none:=by
  cases h:jb3 s.mem (froze s rows ++ u) name with
  | none=>rfl
  | some b=>obtain ⟨b0,e,_⟩:=bo name b h;rw [hn] at e;simp at e
 have hblk:∀k,y.ownBlock=some k->w.heap.size<=k:=by
  obtain ⟨_,_,_,e,xs,ho,_⟩:=hy
  exact λ k hk=>(ho.lt k hk).1
 refine ⟨⟨_,RelE.y79 (s:=⟨s.tmps,jb3 s.mem (froze s rows ++ u),p,li,gen⟩) (a:=a) R1 hn1 hltP (Nat.le_trans hb hk.size) hb hy (λ k hk' m b hm hbl=>?_) dst _ v p li gen (λ _=>yv0 (F:=F') (Or.inl (by simp only [jb0];rfl)) (by simp) rfl hres)⟩,k2⟩
 obtain ⟨b0,e0,h0⟩:=bo m b hm
 have:=je8 (R.mem m b0 e0).2 (h0 k hbl)
 have:=hblk k hk'
 omega
section
variable {E2:Env} {L:Nat->Prop} {w:World} {name:Nat} {base':Nat} {F:Nat->Prop} {f:Value}
theorem q95 (hL:L name) (hν:E2.ν name=f) {c:CV} {y:Value} (hc:(isV c || jy7 c)=true) (h:RepO base' F (some f) w c y):jb9 L E2 w (ownC name c) y:=by
 cases c with
 | fresh z n r =>
  obtain ⟨e,h0,hz,_,el,xs,ho,_⟩:=h
  simp only [Option.some.injEq] at e
  subst e
  refine ⟨hL,hν.symm,h0,?_⟩
  rcases ho.1.2 with ⟨h1,h2⟩ | ⟨g,cap,cur,h1,_⟩
  ·exact Or.inl ⟨h1,by omega⟩
  ·exact Or.inr ⟨g,cap,h1⟩
 | v x=>exact jb9.jq0 (c:=.v x) (Rep.flat rfl (show Rep F w (.v x) y from h))
 | _=>simp [isV,jy7] at hc
theorem qw6 (hL:L name) (hν:E2.ν name=f):∀{l:List CV} {ys:List Value},(l.all λ c=>isV c || jy7 c)=true->Fa2 (RepO base' F (some f) w) l ys->Fa2 (jb9 L E2 w) (l.map (ownC name)) ys
 | [],[],_,_=>trivial
 | [],_ :: _,_,h=>h.elim
 | _ :: _,[],_,h=>h.elim
 | c :: l,y :: ys,hc,h=>by
  simp only [List.all_cons,Bool.and_eq_true] at hc
  exact ⟨q95 hL hν hc.1 h.1,qw6 hL hν hc.2 h.2⟩
theorem ys1 (hL:L name) (hν:E2.ν name=f) {c:XV} {y:Value} (hc:((cellsOf c).all λ c=>isV c || jy7 c)=true) (h:jk2 base' F (some f) w c y):ConcX L E2 w (ownX name c) y:=by
 cases c with
 | c x=>simp only [cellsOf,List.all_cons,List.all_nil,Bool.and_true] at hc;exact q95 hL hν hc h
 | agg l=>obtain ⟨ys,e,h⟩:=h;exact ⟨ys,e,qw6 hL hν hc h⟩
theorem vg3 (hL:L name) (hν:E2.ν name=f):∀{l:List XV} {ys:List Value},vr9 l=true->Fa2 (jk2 base' F (some f) w) l ys->Fa2 (ConcX L E2 w) (l.map (ownX name)) ys
 | [],[],_,_=>trivial
 | [],_ :: _,_,h=>h.elim
 | _ :: _,[],_,h=>h.elim
 | c :: l,y :: ys,hc,h=>by
  unfold vr9 at hc
  simp only [List.all_cons,Bool.and_eq_true] at hc
  exact ⟨ys1 hL hν hc.1 h.1,vg3 hL hν hc.2 h.2⟩
theorem yi8 (hL:L name) (hν:E2.ν name=f) {l:List XV} {v:Value} (hc:vr9 l=true) (h:jh7 base' F (some f) w l v):jd6 L E2 w (resS (l.map (ownX name))) v:=by
 match l,h with
 | [x],h=>unfold vr9 at hc;simp only [List.all_cons,List.all_nil,Bool.and_true] at hc;exact ys1 hL hν hc h
 | [],⟨ys,e,h⟩=>exact ⟨ys,e,vg3 hL hν hc h⟩
 | x :: x' :: l,⟨ys,e,h⟩=>exact ⟨ys,e,vg3 hL hν hc h⟩
end
theorem RelE.yv2 (R:RelE base X F0 B E s a w) (hb:base<=w.heap.size) {rows:List Nat} {ans:Ans} {v:Value} {w':World} (hp:Post (jf0 E s rows) w [] ans v w') {z:Nat} {n:Int} {r:Row} (hf:jc3 ans.res=[(z,n,r)]) (hr:vx1 z n r) (hv:vr9 ans.res=true)
  {name:Nat} (hn:s.mem name=none) (hltP:name < PN) (dst:Option Tmp) (p:Prop) (li:List Tmp) (gen:Nat) :
  (∃E',RelE base X F0 B E' ⟨je6 s.tmps dst (gnow (resS (ans.res.map (ownX name)))),jb3 s.mem [(name,.row z n r)],p,li,gen⟩ (a.put dst v) w')/\jc4 base X F0 w w':=by
 obtain ⟨hk,F',f,hF1,hF2,hres,hups⟩:=hp
 have hk':Keep w.heap.size (λ _=>False) w w':=⟨hk.os,hk.tape,hk.output,hk.size,λ k h _=>hk.block k h (by simp)⟩
 obtain ⟨R1,k2⟩:=R.vl5 hb hk' (sv:=.tup []) (v:=.tuple #[]) ⟨[],rfl,trivial⟩ none p li gen
 obtain ⟨y,rfl,hy⟩:=qi8 (z:=z) (n:=n) (r:=r) (by rw [hf];simp) hres
 have hy':jk6 w.heap.size E.F w' z n r y:=by
  obtain ⟨h0,hz,hnF,e,xs,ho,hrr⟩:=hy
  refine ⟨h0,hz,λ k hk hF=>hnF k hk (hF1 k (Or.inl hF)),e,xs,ho,λ i j hi hj=>?_⟩
  obtain ⟨u,e1,e2⟩:=hrr i j hi hj
  exact ⟨u,e1,Rep.flat (hr i j hi hj) e2⟩
 have hblk:∀k,y.ownBlock=some k->w.heap.size<=k:=by
  obtain ⟨_,_,_,e,xs,ho,_⟩:=hy
  exact λ k hk=>(ho.lt k hk).1
 refine ⟨⟨_,RelE.y79 (s:=⟨s.tmps,s.mem,p,li,gen⟩) (a:=a) R1 hn hltP (Nat.le_trans hb hk.size) hb hy' (λ k hk' m b hm hbl=>?_) dst _ v p li gen (λ _=>yi8 (Or.inl (by simp only [jb0];rfl)) (by simp) hv hres)⟩,k2⟩
 have:=je8 (R.mem m b hm).2 hbl
 have:=hblk k hk'
 omega
theorem RelE.yv3 (R:RelE base X F0 B E s a w) (hb:base<=w.heap.size) {ans:Ans} {v:Value} {w':World} {F:Nat->Prop} (hp:Post F w [] ans v w') (hv:allV ans.res=true) (hf:jc3 ans.res=[]) (dst:Option Tmp) (p:Prop) (li:List Tmp) (gen:Nat) :
  RelE base X F0 B E ⟨je6 s.tmps dst (gnow (resS ans.res)),jb3 s.mem [],p,li,gen⟩ (a.put dst v) w'/\jc4 base X F0 w w':=by
 obtain ⟨hk,F',f,hF1,hF2,hres,_⟩:=hp
 replace hres:=hres.plain hf
 have same:∀k,k < w.heap.size->w'.heap[k]?=w.heap[k]?:=λ k h=>hk.block k h (by simp)
 have T:Later (live s) E E w w':=⟨λ _ h=>h,λ k h=>same k (R.frz k h).1,λ _ _ _=>rfl,λ _ _ _=>rfl⟩
 refine ⟨R.go dst _ _ p li gen T (λ _ _=>rfl) (λ _ h=>h) (λ _=>jd6.yr9 (jp9.flat hv hres)) (λ m b h=>?_) R.sep (λ k h=>?_) hk.size (λ _ _ h=>h),⟨⟨hk.os,hk.tape,hk.output,hk.size,λ k h _=>same k (by omega)⟩,λ k h=>T.heap k (R.sub k h)⟩⟩
 ·obtain ⟨k1,k2⟩:=R.mem m b h
  have h:s.mem m=some b:=h
  exact ⟨k1,jh2.later T (λ _ _=>rfl) (λ _ h=>h) (Or.inl (by rw [h];rfl)) k1 k2 λ k hk'=>⟨same k (je8 k2 hk'),je5 k2 hk'⟩⟩
 ·have:=R.frz k h
  exact ⟨Nat.lt_of_lt_of_le this.1 hk.size,this.2⟩
theorem q96 {s:PSt}:∀{l k:List CV},resL s l=some (k,[])->k=l
 | [],k,h=>by simp only [resL,Option.some.injEq,Prod.mk.injEq] at h;exact h.1.symm
 | c :: l,k,h=>by
  unfold resL at h
  split at h <;> try (simp at h;done)
  rename_i d a m b h1 h2
  simp only [Option.some.injEq,Prod.mk.injEq,List.append_eq_nil_iff] at h
  obtain ⟨rfl,rfl,rfl⟩:=h
  rw [q96 h2]
  congr 1
  cases c with
  | own m n =>
   simp only [resC] at h1
   split at h1 <;> simp at h1
  | ptr m off=>simp [resC] at h1
  | fn f l=>simp [resC] at h1
  | fresh z n r=>simp [resC] at h1
  | v x=>simp only [resC,Option.some.injEq,Prod.mk.injEq,and_true] at h1;exact h1.symm
  | slc z n r=>simp only [resC,Option.some.injEq,Prod.mk.injEq,and_true] at h1;exact h1.symm
  | clo f l=>simp only [resC,Option.some.injEq,Prod.mk.injEq,and_true] at h1;exact h1.symm
theorem q97 {s:PSt}:∀{l:List SV} {al:List AV} {refs:List Nat},qm8 s l=some (al,[],refs)->∃u,zipU refs (jl0 al)=some u/\∀p∈u,s.mem p.1=some p.2
 | [],al,refs,h=>by
  simp only [qm8,Option.some.injEq,Prod.mk.injEq,true_and] at h
  obtain ⟨rfl,rfl⟩:=h
  exact ⟨[],rfl,by simp⟩
 | v :: l,al,refs,h=>by
  unfold qm8 at h
  split at h <;> try (simp at h;done)
  rename_i g al' rows' refs' h1 h2
  simp only [Option.some.injEq,Prod.mk.injEq,List.append_eq_nil_iff] at h
  obtain ⟨rfl,⟨hr,rfl⟩,rfl⟩:=h
  obtain ⟨u,e,hu⟩:=q97 h2
  unfold argA at h1
  split at h1
  ·rename_i m off
   split at h1 <;> try (simp at h1;done)
   rename_i c hm
   split at h1 <;> try (simp at h1;done)
   rename_i k a hk
   simp only [Option.some.injEq] at h1
   subst h1
   simp only at hr
   subst hr
   obtain rfl:=q96 hk
   refine ⟨(m,.cells k) :: u,?_,λ p hp=>?_⟩
   ·show zipU (m :: refs') (k :: jl0 al')=_
    unfold zipU
    rw [e]
   ·rcases List.mem_cons.1 hp with rfl | hp
    ·exact hm
    ·exact hu p hp
  ·split at h1 <;> try (simp at h1;done)
   simp only [Option.some.injEq] at h1
   subst h1
   exact ⟨u,e,hu⟩
  ·split at h1 <;> try (simp at h1;done)
   simp only [Option.some.injEq] at h1
   subst h1
   exact ⟨u,e,hu⟩
  ·split at h1 <;> try (simp at h1;done)
   simp only [Option.some.injEq] at h1
   subst h1
   exact ⟨u,e,hu⟩
  ·simp at h1
theorem qn6 {m:Nat->Option Blk}:∀{u:List (Nat×Blk)},(∀p∈u,m p.1=some p.2)->jb3 m u=m
 | [],_=>rfl
 | (n,b) :: l,h=>by
  have ih:=qn6 (m:=m) (u:=l) λ p hp=>h p (by simp [hp])
  funext k
  unfold jb3
  rw [ih]
  cases e:Nat.beq k n
  ·rfl
  ·rw [cond_true,Nat.eq_of_beq_eq_true e];exact (h (n,b) (by simp)).symm
theorem vx8 {F:Nat->Prop} {w:World} {bs:List Nat} {ans:Ans} {v:Value} {w':World} (h:Post F w bs ans v w') (hv:vs6 ans.upd=true):False:=by
 obtain ⟨_,F',f,_,_,_,h⟩:=h
 unfold vs6 at hv
 split at hv <;> try (simp at hv;done)
 rename_i m n e
 rw [e] at h
 match bs,h with
 | [b],⟨⟨arr,t,_,h⟩,_⟩ =>
  cases ha:arr.toList with
  | nil=>rw [ha] at h;exact h
  | cons y ys =>
   rw [ha] at h
   have h1:Rep F' w' (.own m n) y:=h.1
   cases h1
theorem q05 {F:Nat->Prop} {w:World} {bs:List Nat} {ans:Ans} {v:Value} {w':World} {q:Nat×Nat×Int×Int} (h:Post F w bs ans v w') (hv:vr8 ans.res=some q):False:=by
 obtain ⟨_,F',f,_,_,h,_⟩:=h
 unfold vr8 at hv
 split at hv <;> try (simp at hv;done)
 rename_i e
 rw [e] at h
 obtain ⟨ys,_,h⟩:∃ys:List Value,v=.agg ys.toArray/\Fa2 (RepO w.heap.size F' f w') _ ys:=h
 match ys,h with
 | y :: ys,h =>
  have h1:Rep F' w' (.own _ _) y:=h.1
  cases h1
theorem q92.view {L:Nat->Prop} {E:Env} {w:World} {z m:Nat} {l n N:Int} {y v:Value} (h:q92 z l n y v) (hy:jb9 L E w (.own m N) y) (h0:0<=l) (h1:0<=n) (h2:l + n<=N):jd6 L E w (.view m z l n) v:=by
 obtain ⟨g1,g2,g3,g4⟩:=hy
 refine ⟨g1,h0,h1,?_⟩
 rcases h with ⟨rfl,ad,c,rfl,h⟩ | ⟨b,off,N',c,c',rfl,rfl,h⟩
 ·exact Or.inl ⟨rfl,ad,c,rfl,h⟩
 ·rcases g4 with ⟨h,_⟩ | ⟨b',c2,h⟩
  ·simp at h
  ·simp only [Value.slice.injEq,Option.some.injEq,Addr.mk.injEq,and_true] at h
   obtain ⟨⟨rfl,rfl⟩,rfl,rfl⟩:=h
   exact Or.inr ⟨b,c,N.toNat,c',g2.symm,by omega,by assumption,by rw [Nat.zero_add]⟩
theorem q92.part {ν:Value} {z:Nat} {l0 l n N:Int} {y v:Value} (h:q92 z l n y v) (hy:qi7 ν z l0 N y) (h0:0<=l) (h1:0<=n) (h2:l + n<=N):qi7 ν z (l0 + l) n v:=by
 obtain ⟨g1,g2,g3⟩:=hy
 refine ⟨by omega,h1,?_⟩
 rcases h with ⟨rfl,ad,c,rfl,h⟩ | ⟨b,off,N',c,c',rfl,rfl,h⟩
 ·exact Or.inl ⟨rfl,ad,c,rfl,h⟩
 ·rcases g3 with ⟨rfl,_⟩ | ⟨b',c2,ln,c3,hν,k1,k2,k3⟩
  ·obtain rfl:n=0:=by omega
   exact Or.inl ⟨rfl,_,c',rfl,by simp⟩
  ·simp only [Value.slice.injEq,Option.some.injEq,Addr.mk.injEq,and_true] at k3
   obtain ⟨⟨rfl,rfl⟩,rfl,rfl⟩:=k3
   exact Or.inr ⟨b,c2,ln,c',hν,by omega,h,by rw [show (l0 + l).toNat=l0.toNat + l.toNat by omega,Nat.add_mul]⟩
theorem q92.rep {F:Nat->Prop} {w:World} {z:Nat} {l n N:Int} {r:Row} {y v:Value} (h:q92 z l n y v) (hy:Rep F w (.slc z N r) y) (h0:0<=l) (h1:0<=n) (h2:l + n<=N):Rep F w (.slc z n (.sub r l)) v:=by
 have hz:0 < z:=by cases hy <;> assumption
 rcases h with ⟨rfl,ad,c,rfl,h⟩ | ⟨b,off,N',c,c',rfl,rfl,h⟩
 ·exact .nil hz h
 ·obtain ⟨n,rfl⟩:=Int.eq_ofNat_of_zero_le h1
  obtain ⟨l,rfl⟩:=Int.eq_ofNat_of_zero_le h0
  simp only [Int.toNat_natCast] at h ⊢
  cases hy with
  | nil _ _ =>
   obtain rfl:n=0:=by omega
   exact .nil hz (by simp)
  | slc u hz hc hF hg hu hr =>
   refine .slc (λ i j=>u (i + l) j) hz h hF hg (λ i j hi hj=>?_) (λ i j hi hj=>?_)
   ·have:=hu (i + l) j (by omega) hj
    rw [Nat.add_mul] at this
    rw [<- this]
    congr 1
    omega
   ·have:=hr (i + l) j (by omega) hj
    show Rep F w (den r (addZ i l) j) _
    rw [show addZ (i:Int) (l:Int)=((i + l:Nat):Int) by unfold addZ;omega]
    exact this
end
end Go.Proofs.YthkidembkknoeaaDoor.QR
namespace Go.Proofs.YthkidembkknoeaaDoor.QR
open Go.RowKit PR
set_option linter.unusedVariables false
set_option linter.unusedSimpArgs false
theorem OwnC.plain {F:Nat->Prop} {w:World} {c:CV} {y:Value} (hc:je2 c=[]) (h:Rep F w c y):OwnC F w c y []:=by
 cases c with
 | fresh z n r=>simp [je2] at hc
 | _=>exact ⟨rfl,h⟩
theorem OwnC.of {F:Nat->Prop} {w:World} {c:CV} {y:Value} (h:Rep F w c y):OwnC F w c y []:=by
 cases c with
 | fresh z n r=>cases h
 | _=>exact ⟨rfl,h⟩
theorem OwnC.len {F:Nat->Prop} {w:World} {c:CV} {y:Value} {g:List Value} (h:OwnC F w c y g):g.length=(je2 c).length:=by
 cases c with
 | fresh z n r=>rw [h.1];rfl
 | _=>rw [h.1];rfl
theorem OwnL.len {F:Nat->Prop} {w:World}:∀{l:List CV} {ys g:List Value},OwnL F w l ys g->g.length=(jb7 l).length
 | [],[],g,h=>by have h:g=[]:=h;subst h;rfl
 | c :: l,y :: ys,g,⟨g1,g2,e,h1,h2⟩=>by subst e;simp [jb7,h1.len,h2.len]
 | [],_ :: _,_,h=>h.elim
 | _ :: _,[],_,h=>h.elim
theorem OwnX.len {F:Nat->Prop} {w:World} {x:XV} {y:Value} {g:List Value} (h:OwnX F w x y g):g.length=(jb7 (cellsOf x)).length:=by
 cases x with
 | c c=>have:=OwnC.len h;simp [cellsOf,jb7,this]
 | agg l=>obtain ⟨ys,_,h⟩:=h;exact h.len
theorem jy8.len {F:Nat->Prop} {w:World}:∀{l:List XV} {ys g:List Value},jy8 F w l ys g->g.length=(jc3 l).length
 | [],[],g,h=>by have h:g=[]:=h;subst h;rfl
 | c :: l,y :: ys,g,⟨g1,g2,e,h1,h2⟩=>by subst e;simp [jc3,h1.len,h2.len]
 | [],_ :: _,_,h=>h.elim
 | _ :: _,[],_,h=>h.elim
theorem jy1.len {F:Nat->Prop} {w:World} {l:List XV} {y:Value} {g:List Value} (h:jy1 F w l y g):g.length=(jc3 l).length:=by
 match l,h with
 | [v],h=>have:=OwnX.len h;simp [jc3,this]
 | [],⟨ys,_,h⟩=>exact jy8.len h
 | _ :: _ :: _,⟨ys,_,h⟩=>exact jy8.len h
theorem qf5.len {F:Nat->Prop} {w:World}:∀{bs:List Nat} {cs:List (List CV)} {g:List Value},qf5 F w bs cs g->g.length=(jq7 cs).length
 | [],[],g,h=>by have h:g=[]:=h;subst h;rfl
 | b :: bs,c :: cs,g,⟨g1,g2,e,⟨arr,t,_,h1⟩,h2⟩=>by subst e;simp [jq7,h1.len,qf5.len h2]
 | [],_ :: _,_,h=>h.elim
 | _ :: _,[],_,h=>h.elim
def Frs (F:Nat->Prop) (w:World):List (Nat×Int×Row)->List Value->Prop:=Fa2 λ p y=>jk6 0 F w p.1 p.2.1 p.2.2 y
theorem OwnC.frs {F:Nat->Prop} {w:World} {c:CV} {y:Value} {g:List Value} (h:OwnC F w c y g):Frs F w (je2 c) g:=by
 cases c with
 | fresh z n r=>rw [h.1];exact ⟨h.2,trivial⟩
 | _=>rw [h.1];trivial
theorem OwnL.frs {F:Nat->Prop} {w:World}:∀{l:List CV} {ys g:List Value},OwnL F w l ys g->Frs F w (jb7 l) g
 | [],[],g,h=>by have h:g=[]:=h;subst h;trivial
 | c :: l,y :: ys,g,⟨g1,g2,e,h1,h2⟩=>by subst e;exact Fa2.app h1.frs h2.frs
 | [],_ :: _,_,h=>h.elim
 | _ :: _,[],_,h=>h.elim
theorem OwnX.frs {F:Nat->Prop} {w:World} {x:XV} {y:Value} {g:List Value} (h:OwnX F w x y g):Frs F w (jb7 (cellsOf x)) g:=by
 cases x with
 | c c=>have:=OwnC.frs h;simpa [cellsOf,jb7] using this
 | agg l=>obtain ⟨ys,_,h⟩:=h;exact h.frs
theorem jy8.frs {F:Nat->Prop} {w:World}:∀{l:List XV} {ys g:List Value},jy8 F w l ys g->Frs F w (jc3 l) g
 | [],[],g,h=>by have h:g=[]:=h;subst h;trivial
 | c :: l,y :: ys,g,⟨g1,g2,e,h1,h2⟩=>by subst e;exact Fa2.app h1.frs h2.frs
 | [],_ :: _,_,h=>h.elim
 | _ :: _,[],_,h=>h.elim
theorem jy1.frs {F:Nat->Prop} {w:World} {l:List XV} {y:Value} {g:List Value} (h:jy1 F w l y g):Frs F w (jc3 l) g:=by
 match l,h with
 | [v],h=>have:=OwnX.frs h;simpa [jc3] using this
 | [],⟨ys,_,h⟩=>exact jy8.frs h
 | _ :: _ :: _,⟨ys,_,h⟩=>exact jy8.frs h
theorem qf5.frs {F:Nat->Prop} {w:World}:∀{bs:List Nat} {cs:List (List CV)} {g:List Value},qf5 F w bs cs g->Frs F w (jq7 cs) g
 | [],[],g,h=>by have h:g=[]:=h;subst h;trivial
 | b :: bs,c :: cs,g,⟨g1,g2,e,⟨arr,t,_,h1⟩,h2⟩=>by subst e;exact Fa2.app h1.frs (qf5.frs h2)
 | [],_ :: _,_,h=>h.elim
 | _ :: _,[],_,h=>h.elim
section
variable {L:Nat->Prop} {E2:Env} {nm:Nat->Nat} {F:Nat->Prop} {w:World}
def Named (L:Nat->Prop) (E:Env) (nm:Nat->Nat) (k:Nat) (g:List Value):Prop:=∀(i:Nat) (y:Value),g[i]?=some y->L (nm (k + i))/\E.ν (nm (k + i))=y
theorem Named.left {k:Nat} {g1 g2:List Value} (h:Named L E2 nm k (g1 ++ g2)):Named L E2 nm k g1:=λ i y e=>h i y (by rw [List.getElem?_append_left (List.getElem?_eq_some_iff.1 e).1];exact e)
theorem Named.right {k:Nat} {g1 g2:List Value} (h:Named L E2 nm k (g1 ++ g2)):Named L E2 nm (k + g1.length) g2:=λ i y e=>by
 have:=h (g1.length + i) y (by rw [List.getElem?_append_right (by omega),show g1.length + i - g1.length=i by omega];exact e)
 rw [Nat.add_assoc];exact this
theorem vs8 {m z:Nat} {n:Int} {r:Row} {y:Value} (hL:L m) (hν:E2.ν m=y) (h:jk6 0 F w z n r y):jb9 L E2 w (.own m n) y:=by
 obtain ⟨h0,hz,_,el,xs,ho,_⟩:=h
 refine ⟨hL,hν.symm,h0,?_⟩
 rcases ho.1.2 with ⟨h1,h2⟩ | ⟨g,cap,cur,h1,_⟩
 ·exact Or.inl ⟨h1,by omega⟩
 ·exact Or.inr ⟨g,cap,h1⟩
theorem vl6 (hF:E2.F=F) {k:Nat} {c:CV} {y:Value} {g:List Value} (h:OwnC F w c y g) (hn:Named L E2 nm k g):jb9 L E2 w (owC nm k c) y:=by
 cases c with
 | fresh z n r =>
  obtain ⟨e,hf⟩:=h
  subst e
  obtain ⟨h1,h2⟩:=hn 0 y rfl
  exact vs8 h1 h2 hf
 | own m n=>cases h.2
 | ptr m off=>cases h.2
 | fn f c=>cases h.2
 | v x=>subst hF;exact jb9.jq0 (c:=.v x) h.2
 | slc z n r=>subst hF;exact jb9.jq0 (c:=.slc z n r) h.2
 | clo f l=>subst hF;exact jb9.jq0 (c:=.clo f l) h.2
theorem y81 (nm:Nat->Nat) (k:Nat) (c:CV) (l:List CV):owL nm k (c :: l)=owC nm k c :: owL nm (k + (je2 c).length) l:=by cases c <;> rfl
theorem qk9 (hF:E2.F=F):∀{k:Nat} {l:List CV} {ys g:List Value},OwnL F w l ys g->Named L E2 nm k g->Fa2 (jb9 L E2 w) (owL nm k l) ys
 | _,[],[],_,_,_=>trivial
 | k,c :: l,y :: ys,g,⟨g1,g2,e,h1,h2⟩,hn=>by
  subst e
  rw [y81]
  refine ⟨vl6 hF h1 hn.left,qk9 hF h2 ?_⟩
  rw [<- h1.len];exact hn.right
 | _,[],_ :: _,_,h,_=>h.elim
 | _,_ :: _,[],_,h,_=>h.elim
theorem q06 (hF:E2.F=F) {k:Nat} {x:XV} {y:Value} {g:List Value} (h:OwnX F w x y g) (hn:Named L E2 nm k g):ConcX L E2 w (owX nm k x) y:=by
 cases x with
 | c c=>exact vl6 hF h hn
 | agg l=>obtain ⟨ys,e,h⟩:=h;exact ⟨ys,e,qk9 hF h hn⟩
theorem qn7 (hF:E2.F=F):∀{k:Nat} {l:List XV} {ys g:List Value},jy8 F w l ys g->Named L E2 nm k g->Fa2 (ConcX L E2 w) (owXs nm k l) ys
 | _,[],[],_,_,_=>trivial
 | k,c :: l,y :: ys,g,⟨g1,g2,e,h1,h2⟩,hn=>by
  subst e
  refine ⟨q06 hF h1 hn.left,qn7 hF h2 ?_⟩
  rw [<- h1.len];exact hn.right
 | _,[],_ :: _,_,h,_=>h.elim
 | _,_ :: _,[],_,h,_=>h.elim
theorem yi9 (hF:E2.F=F) {l:List XV} {y:Value} {g:List Value} (h:jy1 F w l y g) (hn:Named L E2 nm 0 g):jd6 L E2 w (resS (owXs nm 0 l)) y:=by
 match l,h with
 | [v],h=>exact q06 hF h hn
 | [],⟨ys,e,h⟩=>exact ⟨ys,e,qn7 hF h hn⟩
 | a :: b :: l,⟨ys,e,h⟩=>exact ⟨ys,e,qn7 hF h hn⟩
def zf0 (L:Nat->Prop) (E:Env) (w:World):List Nat->List (List CV)->Prop:=Fa2 λ b c=>∃arr t,w.heap[b]?=some (.cells arr t (0,0))/\Fa2 (jb9 L E w) c arr.toList
theorem vl7 (hF:E2.F=F):∀{k:Nat} {bs:List Nat} {cs:List (List CV)} {g:List Value},qf5 F w bs cs g->Named L E2 nm k g->zf0 L E2 w bs (owU nm k cs)
 | _,[],[],_,_,_=>trivial
 | k,b :: bs,c :: cs,g,⟨g1,g2,e,⟨arr,t,h0,h1⟩,h2⟩,hn=>by
  subst e
  refine ⟨⟨arr,t,h0,qk9 hF h1 hn.left⟩,vl7 hF h2 ?_⟩
  rw [<- h1.len];exact hn.right
 | _,[],_ :: _,_,h,_=>h.elim
 | _,_ :: _,[],_,h,_=>h.elim
end
section
variable {P:Program} {O:ja8} {base:Nat} {X F0:Nat->Prop} {B:Nat->(Nat×Value)×Bool} {E:Env} {s:PSt} {a:Act} {w:World}
theorem q98 (R:RelE base X F0 B E s a w) {c d:CV} {ms gs:List Nat} {y:Value} {F':Nat->Prop} (h:gvC s c=some (d,ms,gs)) (hF:∀k,E.F k->F' k) (hN:∀m∈gs,∀k,(E.ν m).ownBlock=some k->¬ F' k) (hc:jb9 (live s) E w c y):OwnC F' w d y (gs.map E.ν):=by
 unfold gvC at h
 split at h
 ·rename_i m n
  split at h <;> try (simp at h;done)
  ·rename_i z k r hmem
   simp only [Option.some.injEq,Prod.mk.injEq] at h
   obtain ⟨rfl,rfl,rfl⟩:=h
   obtain ⟨_,h0,hz,_,e,xs,ho,hr⟩:=R.mem m _ hmem
   rw [hc.2.1]
   refine ⟨rfl,h0,hz,hN m (by simp),e,xs,⟨ho.1,λ _ _=>Nat.zero_le _⟩,λ i j hi hj=>?_⟩
   obtain ⟨u,e1,e2⟩:=hr i j hi hj
   exact ⟨u,e1,e2.mono hF (λ _ _=>rfl)⟩
  ·rename_i z k r hmem
   simp only [Option.some.injEq,Prod.mk.injEq] at h
   obtain ⟨rfl,rfl,rfl⟩:=h
   rw [hc.2.1]
   exact ⟨rfl,Rep.mono hF (λ _ _=>rfl) (R.mem m _ hmem).2⟩
 ·simp only [Option.some.injEq,Prod.mk.injEq] at h
  obtain ⟨rfl,rfl,rfl⟩:=h
  exact ⟨rfl,Rep.mono hF (λ _ _=>rfl) hc⟩
 ·simp only [Option.some.injEq,Prod.mk.injEq] at h
  obtain ⟨rfl,rfl,rfl⟩:=h
  exact ⟨rfl,Rep.mono hF (λ _ _=>rfl) hc⟩
 ·simp only [Option.some.injEq,Prod.mk.injEq] at h
  obtain ⟨rfl,rfl,rfl⟩:=h
  exact ⟨rfl,Rep.mono hF (λ _ _=>rfl) hc⟩
 ·simp at h
theorem vx9 {c d:CV} {ms gs:List Nat} (h:gvC s c=some (d,ms,gs)):∀m∈gs,∃z n r,s.mem m=some (.row z n r):=by
 unfold gvC at h
 split at h
 ·split at h <;> try (simp at h;done)
  ·rename_i z k r hmem
   simp only [Option.some.injEq,Prod.mk.injEq] at h
   obtain ⟨_,_,rfl⟩:=h
   intro m' hm'
   simp only [List.mem_singleton] at hm'
   subst hm'
   exact ⟨_,_,_,hmem⟩
  ·simp only [Option.some.injEq,Prod.mk.injEq] at h
   obtain ⟨_,_,rfl⟩:=h
   simp
 all_goals first
  | (simp only [Option.some.injEq,Prod.mk.injEq] at h;obtain ⟨_,_,rfl⟩:=h;simp;done)
  | simp at h
theorem qc7 (R:RelE base X F0 B E s a w) {F':Nat->Prop} (hF:∀k,E.F k->F' k):∀{l d:List CV} {ms gs:List Nat} {ys:List Value},gvL s l=some (d,ms,gs)->(∀m∈gs,∀k,(E.ν m).ownBlock=some k->¬ F' k)->Fa2 (jb9 (live s) E w) l ys->OwnL F' w d ys (gs.map E.ν)
 | [],d,ms,gs,ys,h,_,hc=>by
  simp only [gvL,Option.some.injEq,Prod.mk.injEq] at h
  obtain ⟨rfl,rfl,rfl⟩:=h
  cases ys with
  | nil=>rfl
  | cons=>exact hc.elim
 | c :: l,d,ms,gs,ys,h,hN,hc=>by
  unfold gvL at h
  split at h <;> try (simp at h;done)
  rename_i d1 a1 g1 d2 a2 g2 h1 h2
  simp only [Option.some.injEq,Prod.mk.injEq] at h
  obtain ⟨rfl,rfl,rfl⟩:=h
  cases ys with
  | nil=>exact hc.elim
  | cons y ys=>exact ⟨_,_,by rw [List.map_append],q98 R h1 hF (λ m hh=>hN m (by simp [hh])) hc.1,qc7 R hF h2 (λ m hh=>hN m (by simp [hh])) hc.2⟩
theorem qn8:∀{l d:List CV} {ms gs:List Nat},gvL s l=some (d,ms,gs)->∀m∈gs,∃z n r,s.mem m=some (.row z n r)
 | [],d,ms,gs,h=>by
  simp only [gvL,Option.some.injEq,Prod.mk.injEq] at h
  obtain ⟨_,_,rfl⟩:=h
  simp
 | c :: l,d,ms,gs,h=>by
  unfold gvL at h
  split at h <;> try (simp at h;done)
  rename_i d1 a1 g1 d2 a2 g2 h1 h2
  simp only [Option.some.injEq,Prod.mk.injEq] at h
  obtain ⟨_,_,rfl⟩:=h
  intro m hm
  rcases List.mem_append.1 hm with hm | hm
  ·exact vx9 h1 m hm
  ·exact qn8 h2 m hm
theorem OwnL.of {F:Nat->Prop}:∀{l:List CV} {ys:List Value},Fa2 (Rep F w) l ys->OwnL F w l ys []
 | [],[],_=>rfl
 | c :: l,y :: ys,h=>⟨[],[],rfl,OwnC.of h.1,OwnL.of h.2⟩
 | [],_ :: _,h=>h.elim
 | _ :: _,[],h=>h.elim
theorem qf6 (R:RelE base X F0 B E s a w) {rows0:List Nat} {b:Bool} {l d:List CV} {rows gv:List Nat} {ys:List Value} (h:gvOr s b l=some (d,rows,gv)) (hm:∀m∈rows,m∈rows0) (hN:∀m∈gv,∀k,(E.ν m).ownBlock=some k->¬ jf0 E s rows0 k) (hc:Fa2 (jb9 (live s) E w) l ys) :
  OwnL (jf0 E s rows0) w d ys (gv.map E.ν)/\∀m∈gv,∃z n r,s.mem m=some (.row z n r):=by
 unfold gvOr at h
 split at h
 ·exact ⟨qc7 R (λ k hk=>Or.inl hk) h hN hc,qn8 h⟩
 ·split at h <;> try (simp at h;done)
  rename_i h1
  simp only [Option.some.injEq,Prod.mk.injEq] at h
  obtain ⟨rfl,rfl,rfl⟩:=h
  exact ⟨OwnL.of (jm8 R h1 hm hc),by simp⟩
theorem OwnL.one {F:Nat->Prop} {c:CV} {y:Value} {g:List Value} (h:OwnL F w [c] [y] g):OwnC F w c y g:=by
 obtain ⟨g1,g2,e,h1,h2⟩:=h
 have h2:g2=[]:=h2
 subst h2
 rw [List.append_nil] at e
 subst e;exact h1
theorem OwnX.of {F:Nat->Prop} {x:XV} {y:Value} (h:jl6 F w x y):OwnX F w x y []:=by
 cases x with
 | c c=>exact OwnC.of h
 | agg l=>obtain ⟨ys,e,h⟩:=h;exact ⟨ys,e,OwnL.of h⟩
theorem qn9 (R:RelE base X F0 B E s a w) {rows0:List Nat}:∀{mask:List Bool} {l:List SV} {al:List AV} {rows refs gv:List Nat} {ys:List Value},qn0 s mask l=some (al,rows,refs,gv)->(∀m∈rows,m∈rows0)->(∀m∈gv,∀k,(E.ν m).ownBlock=some k->¬ jf0 E s rows0 k)->distinct refs=true->Fa2 (jd6 (live s) E w) l ys->
  jy9 (jf0 E s rows0) w al ys (refs.map E.β) (gv.map E.ν)/\(∀m∈refs,∃l,s.mem m=some (.cells l))/\∀m∈gv,∃z n r,s.mem m=some (.row z n r)
 | _,[],al,rows,refs,gv,ys,h,_,_,_,hc=>by
  simp only [qn0,Option.some.injEq,Prod.mk.injEq] at h
  obtain ⟨rfl,rfl,rfl,rfl⟩:=h
  cases ys with
  | nil=>exact ⟨⟨rfl,rfl⟩,by simp,by simp⟩
  | cons=>exact hc.elim
 | mask,v :: l,al,rows,refs,gv,ys,h,hm,hN,hd,hc=>by
  unfold qn0 at h
  split at h <;> try (simp at h;done)
  rename_i g al' rows' refs' gv' h1 h2
  simp only [Option.some.injEq,Prod.mk.injEq] at h
  obtain ⟨rfl,rfl,rfl,rfl⟩:=h
  cases ys with
  | nil=>exact hc.elim
  | cons y ys =>
  obtain ⟨c1,c2⟩:=hc
  have hd2:distinct refs'=true:=by
   clear h1
   generalize g.refs=q at hd
   induction q with
   | nil=>simpa using hd
   | cons x q ih =>
    simp only [List.cons_append,distinct,Bool.and_eq_true] at hd
    exact ih hd.2
  obtain ⟨i1,i2,i3⟩:=qn9 R h2 (λ m hh=>hm m (by simp [hh])) (λ m hh=>hN m (by simp [hh])) hd2 c2
  have hmg:∀m∈g.rows,m∈rows0:=λ m hh=>hm m (by simp [hh])
  have hNg:∀m∈g.gv,∀k,(E.ν m).ownBlock=some k->¬ jf0 E s rows0 k:=λ m hh=>hN m (by simp [hh])
  unfold argG at h1
  split at h1
  ·
   rename_i m off
   split at h1 <;> try (simp at h1;done)
   rename_i lc hmem
   split at h1 <;> try (simp at h1;done)
   rename_i k aa ag hres
   simp only [Option.some.injEq] at h1
   subst h1
   obtain ⟨b1,b2,b3,arr,t,b4,b5⟩:=R.mem m _ hmem
   have hy:y=.pointer (some ⟨E.β m,off,none⟩):=by
    have:=c1.2
    rw [adr,if_neg (by omega)] at this
    exact this
   simp only [List.cons_append,List.nil_append,distinct,Bool.and_eq_true,Bool.not_eq_true',List.any_eq_false] at hd
   obtain ⟨j1,j2⟩:=qf6 R hres hmg hNg b5
   refine ⟨⟨hy,?_,?_,_,_,by rw [List.map_append],⟨arr,t,b4,j1⟩,i1⟩,?_,?_⟩
   ·rintro (hF | ⟨m',hm',z,n,r,e1,e2⟩)
    ·exact b3 hF
    ·exact R.sep m m' _ _ hmem e1 (λ e=>by subst e;rw [hmem] at e1;simp at e1) _ rfl e2
   ·intro hin
    obtain ⟨m',hm',e⟩:=List.mem_map.1 hin
    obtain ⟨l',hl'⟩:=i2 m' hm'
    have hne:m≠m':=λ e=>by
     have:=hd.1 m' hm'
     rw [e,Nat.beq_refl] at this;simp at this
    exact R.sep m m' _ _ hmem hl' hne _ rfl (by simp [ja9,e])
   ·intro m' hm'
    rcases List.mem_cons.1 hm' with rfl | hm'
    ·exact ⟨_,hmem⟩
    ·exact i2 m' hm'
   ·intro m' hm'
    rcases List.mem_append.1 hm' with hm' | hm'
    ·exact j2 m' hm'
    ·exact i3 m' hm'
  ·
   rename_i c hnp
   split at h1 <;> try (simp at h1;done)
   rename_i d aa ag hres
   simp only [Option.some.injEq] at h1
   subst h1
   obtain ⟨j1,j2⟩:=qf6 R hres hmg hNg (ys:=[y]) ⟨c1,trivial⟩
   refine ⟨⟨_,_,by rw [List.map_append],j1.one,i1⟩,i2,λ m' hm'=>?_⟩
   rcases List.mem_append.1 hm' with hm' | hm'
   ·exact j2 m' hm'
   ·exact i3 m' hm'
  ·
   rename_i lc
   split at h1 <;> try (simp at h1;done)
   rename_i d aa ag hres
   simp only [Option.some.injEq] at h1
   subst h1
   obtain ⟨zs,e,hz⟩:=c1
   obtain ⟨j1,j2⟩:=qf6 R hres hmg hNg hz
   refine ⟨⟨_,_,by rw [List.map_append],⟨zs,e,j1⟩,i1⟩,i2,λ m' hm'=>?_⟩
   rcases List.mem_append.1 hm' with hm' | hm'
   ·exact j2 m' hm'
   ·exact i3 m' hm'
  ·
   rename_i m z l n
   split at h1 <;> try (simp at h1;done)
   rename_i d aa hres
   simp only [Option.some.injEq] at h1
   subst h1
   exact ⟨⟨[],_,rfl,OwnC.of (jz0 R hres hmg c1),i1⟩,i2,i3⟩
  ·simp at h1
theorem yv4 {name i j:Nat} (h:nmK name i=nmK name j):i=j:=by unfold nmK at h;omega
theorem ql0 {mm:Nat->Option Blk} {nm:Nat->Nat} {rest:List (Nat×Blk)} {m:Nat} {b:Blk}:∀{k:Nat} {fr:List (Nat×Int×Row)},jb3 mm (js1 nm k fr ++ rest) m=some b->
  (∃i z n r,fr[i]?=some (z,n,r)/\m=nm (k + i)/\b=.row z n r)\/((∀i,i < fr.length->m≠nm (k + i))/\jb3 mm rest m=some b)
 | k,[],h=>Or.inr ⟨λ i hi=>by simp at hi,h⟩
 | k,(z,n,r) :: fr,h=>by
  unfold js1 at h
  rw [List.cons_append] at h
  by_cases e:m=nm k
  ·rw [e,jb0] at h
   simp only [Option.some.injEq] at h
   exact Or.inl ⟨0,z,n,r,rfl,e,h.symm⟩
  ·rw [jb6 e] at h
   rcases ql0 h with ⟨i,z',n',r',h1,h2,h3⟩ | ⟨h1,h2⟩
   ·exact Or.inl ⟨i + 1,z',n',r',by simpa using h1,by rw [h2];congr 1;omega,h3⟩
   ·refine Or.inr ⟨λ i hi=>?_,h2⟩
    cases i with
    | zero=>exact e
    | succ i=>have:=h1 i (by simpa using hi);rw [show k + (i + 1)=k + 1 + i by omega];exact this
theorem ql1 {mm:Nat->Option Blk} {nm:Nat->Nat} (inj:∀i j,nm i=nm j->i=j) {rest:List (Nat×Blk)}:∀{k:Nat} {fr:List (Nat×Int×Row)} {i:Nat},i < fr.length->(jb3 mm (js1 nm k fr ++ rest) (nm (k + i))).isSome=true
 | k,[],i,h=>by simp at h
 | k,(z,n,r) :: fr,i,h=>by
  unfold js1
  rw [List.cons_append]
  cases i with
  | zero=>show (jb3 mm _ (nm k)).isSome=true;rw [jb0];rfl
  | succ i =>
   rw [jb6 (λ e=>by have:=inj _ _ e;omega),show k + (i + 1)=k + 1 + i by omega]
   exact ql1 inj (by simpa using h)
theorem q99 {mm:Nat->Option Blk} {rest:List (Nat×Blk)} {m:Nat} {b:Blk}:∀{gv:List Nat},jb3 mm (q89 gv ++ rest) m=some b->(m∈gv/\b=.dead)\/(m ∉ gv/\jb3 mm rest m=some b)
 | [],h=>Or.inr ⟨by simp,h⟩
 | x :: gv,h=>by
  unfold q89 at h
  rw [List.cons_append] at h
  by_cases e:m=x
  ·rw [e,jb0] at h
   simp only [Option.some.injEq] at h
   exact Or.inl ⟨by simp [e],h.symm⟩
  ·rw [jb6 e] at h
   rcases q99 h with ⟨h1,h2⟩ | ⟨h1,h2⟩
   ·exact Or.inl ⟨by simp [h1],h2⟩
   ·exact Or.inr ⟨by simp [e,h1],h2⟩
theorem va0 {mm:Nat->Option Blk} {m:Nat} {b:Blk}:∀{refs:List Nat} {cs:List (List CV)} {u:List (Nat×Blk)},zipU refs cs=some u->jb3 mm u m=some b->
  (∃(i:Nat) (c:List CV),refs[i]?=some m/\cs[i]?=some c/\b=.cells c)\/(mm m=some b/\m ∉ refs)
 | [],[],u,h,hm=>by
  simp only [zipU,Option.some.injEq] at h
  subst h
  exact Or.inr ⟨hm,by simp⟩
 | x :: refs,c :: cs,u,h,hm=>by
  unfold zipU at h
  split at h <;> try (simp at h;done)
  rename_i u' h1
  simp only [Option.some.injEq] at h
  subst h
  by_cases e:m=x
  ·subst e
   rw [jb0] at hm
   simp only [Option.some.injEq] at hm
   exact Or.inl ⟨0,c,rfl,rfl,hm.symm⟩
  ·rw [jb6 e] at hm
   rcases va0 h1 hm with ⟨i,c',h2,h3,h4⟩ | ⟨h2,h3⟩
   ·exact Or.inl ⟨i + 1,c',by simpa using h2,by simpa using h3,h4⟩
   ·exact Or.inr ⟨h2,by simp [e,h3]⟩
 | [],_ :: _,u,h,_=>by simp [zipU] at h
 | _ :: _,[],u,h,_=>by simp [zipU] at h
def nuG (ν:Nat->Value) (name:Nat) (g:List Value) (m:Nat):Value :=
 if name<=m/\(m - name) % 10000000000000=0 then (match g[(m - name) / 10000000000000]? with | some y=>y | none=>ν m) else ν m
theorem va1 {ν:Nat->Value} {name:Nat} {g:List Value} {i:Nat} {y:Value} (h:g[i]?=some y):nuG ν name g (nmK name i)=y:=by
 unfold nuG nmK
 have e:name + i * 10000000000000 - name=i * 10000000000000:=by omega
 rw [e,if_pos ⟨by omega,by omega⟩,show i * 10000000000000 / 10000000000000=i by omega,h]
theorem vy0 {ν:Nat->Value} {name:Nat} {g:List Value} {m:Nat} (h:∀i,i < g.length->m≠nmK name i):nuG ν name g m=ν m:=by
 unfold nuG
 split
 ·rename_i hc
  split
  ·rename_i y hy
   have hi:=(List.getElem?_eq_some_iff.1 hy).1
   refine absurd ?_ (h _ hi)
   unfold nmK
   omega
  ·rfl
 ·rfl
theorem ju1:∀{l:List Nat},distinct l=true->∀{i j m:Nat},l[i]?=some m->l[j]?=some m->i=j
 | [],_,i,j,m,h,_=>by simp at h
 | x :: l,hd,i,j,m,h,k=>by
  simp only [distinct,Bool.and_eq_true,Bool.not_eq_true',List.any_eq_false] at hd
  cases i with
  | zero =>
   cases j with
   | zero=>rfl
   | succ j =>
    simp only [List.getElem?_cons_zero,Option.some.injEq] at h
    subst h
    have:=hd.1 x (List.mem_of_getElem? (by simpa using k))
    rw [Nat.beq_refl] at this;simp at this
  | succ i =>
   cases j with
   | zero =>
    simp only [List.getElem?_cons_zero,Option.some.injEq] at k
    subst k
    have:=hd.1 x (List.mem_of_getElem? (by simpa using h))
    rw [Nat.beq_refl] at this;simp at this
   | succ j=>rw [ju1 hd.2 (i:=i) (j:=j) (by simpa using h) (by simpa using k)]
theorem va2:∀{l k:List Nat},meets l k=false->∀m∈l,m ∉ k
 | [],_,_,m,h,_=>by simp at h
 | x :: l,k,h,m,hm,hk=>by
  simp only [meets,Bool.or_eq_false_iff,List.any_eq_false] at h
  rcases List.mem_cons.1 hm with rfl | hm
  ·have:=h.1 m hk;rw [Nat.beq_refl] at this;simp at this
  ·exact va2 h.2 m hm hk
theorem Apart.get {g:List Value} (h:Apart g) {i j:Nat} (hij:i≠j) {y y':Value} (hi:g[i]?=some y) (hj:g[j]?=some y') {k:Nat} (hk:y.ownBlock=some k):y'.ownBlock≠some k:=by
 have hp:=List.pairwise_iff_getElem.1 h
 obtain ⟨li,ei⟩:=List.getElem?_eq_some_iff.1 hi
 obtain ⟨lj,ej⟩:=List.getElem?_eq_some_iff.1 hj
 rcases Nat.lt_or_gt_of_ne hij with q | q
 ·have:=hp i j li lj q k
  rw [ei,ej] at this
  exact this hk
 ·intro hk'
  have:=hp j i lj li q k
  rw [ei,ej] at this
  exact this hk' hk
theorem RelE.vy1 (R:RelE base X F0 B E s a w) (hb:base<=w.heap.size) {rows refs gv:List Nat} (hrefs:∀m∈refs,∃l,s.mem m=some (.cells l)) (hgv:∀m∈gv,∃z n r,s.mem m=some (.row z n r)) (hgr:∀m∈gv,m ∉ rows)
  {ans:Ans} {v:Value} {w':World} (hp:yi7 (jf0 E s rows) w (refs.map E.β) (Of (gv.map E.ν)) ans v w') {name:Nat} {u:List (Nat×Blk)} (hu:zipU refs (owU (nmK name) (jc3 ans.res).length ans.upd)=some u)
  (hnm:∀i,i < (jc3 ans.res ++ jq7 ans.upd).length->s.mem (nmK name i)=none/\nmK name i < PN) (dst:Option Tmp) (p:Prop) (li:List Tmp) (gen:Nat) :
  (∃E',RelE base X F0 B E' ⟨je6 s.tmps dst (gnow (resS (owXs (nmK name) 0 ans.res))),jb3 s.mem (js1 (nmK name) 0 (jc3 ans.res ++ jq7 ans.upd) ++ (q89 gv ++ (froze s rows ++ u))),p,li,gen⟩ (a.put dst v) w')/\jc4 base X F0 w w':=by
 obtain ⟨hk,F',g1,g2,hF1,hF2,hres,hups,hap,hnew⟩:=hp
 have hlen:(g1 ++ g2).length=(jc3 ans.res ++ jq7 ans.upd).length:=by simp [hres.len,hups.len]
 have hfrs:Frs F' w' (jc3 ans.res ++ jq7 ans.upd) (g1 ++ g2):=Fa2.app hres.frs hups.frs
 generalize hfr:jc3 ans.res ++ jq7 ans.upd=fr at *
 have blk:∀{m:Nat} {b:Blk} {k:Nat},s.mem m=some b->ja9 E m b=some k->k < w.heap.size/\¬ E.F k/\(base<=k\/X k):=by
  intro m b k hm hk
  have h2:=(R.mem m b hm).2
  refine ⟨je8 h2 hk,je5 h2 hk,?_⟩
  cases b with
  | cells l=>simp only [ja9,Option.some.injEq] at hk;subst hk;exact h2.1
  | row z n r=>obtain ⟨_,_,_,e,xs,h3,_⟩:=h2;exact (h3.lt k hk).1
  | fro _ _ _=>simp [ja9] at hk
  | dead=>simp [ja9] at hk
 have giv:∀k,Of (gv.map E.ν) k->∃m∈gv,∃z n r,s.mem m=some (.row z n r)/\(E.ν m).ownBlock=some k:=by
  rintro k ⟨y,hy,e⟩
  obtain ⟨m,hm,rfl⟩:=List.mem_map.1 hy
  obtain ⟨z,n,r,h⟩:=hgv m hm
  exact ⟨m,hm,z,n,r,h,e⟩
 have nCall:∀k,(k∈refs.map E.β\/Of (gv.map E.ν) k)->(base<=k\/X k)/\¬ jf0 E s rows k:=by
  rintro k (h | h)
  ·obtain ⟨m,hm,rfl⟩:=List.mem_map.1 h
   obtain ⟨l,hl⟩:=hrefs m hm
   obtain ⟨q1,q2,q3⟩:=blk hl rfl
   refine ⟨q3,?_⟩
   rintro (h | ⟨m',_,z,n,r,e1,e2⟩)
   ·exact q2 h
   ·exact R.sep m m' _ _ hl e1 (λ e=>by subst e;rw [hl] at e1;simp at e1) _ rfl e2
  ·obtain ⟨m,hm,z,n,r,hm',e⟩:=giv k h
   obtain ⟨q1,q2,q3⟩:=blk (k:=k) hm' e
   refine ⟨q3,?_⟩
   rintro (h | ⟨m',hr',z',n',r',e1,e2⟩)
   ·exact q2 h
   ·exact R.sep m m' _ _ hm' e1 (λ e=>hgr m hm (e▸hr')) k e e2
 have same:∀k,jf0 E s rows k->w'.heap[k]?=w.heap[k]?:=λ k h=>hk.block k (jj0 R h) (λ hin=>(nCall k hin).2 h)
 have noName:∀m,(s.mem m).isSome=true->∀i,i < fr.length->m≠nmK name i:=λ m hm i hi e=>by rw [e,(hnm i hi).1] at hm;simp at hm
 let E':Env:=⟨F',E.β,nuG E.ν name (g1 ++ g2)⟩
 let mem':Nat->Option Blk:=jb3 s.mem (js1 (nmK name) 0 fr ++ (q89 gv ++ (froze s rows ++ u)))
 have hLL:∀m,live s m->live ⟨s.tmps,mem',p,li,gen⟩ m:=λ m hm=>hm.elim (λ h=>Or.inl (jc8 h)) Or.inr
 have νo:∀m,(s.mem m).isSome=true\/GB<=m->E'.ν m=E.ν m:=λ m hm=>vy0 λ i hi e=>by
  rw [hlen] at hi
  rcases hm with hm | hm
  ·exact noName m hm i hi e
  ·have:=(hnm i hi).2;rw [<- e] at this;have:=vr7;omega
 have T:Later (live s) E E' w w':=⟨λ k h=>hF1 k (Or.inl h),λ k h=>same k (Or.inl h),λ _ _ _=>rfl,λ m hm hlt=>νo m (hm.elim Or.inl λ h=>Or.inr h.1)⟩
 have GG:∀m,GB<=m->E'.ν m=E.ν m:=λ m hm=>νo m (Or.inr hm)
 have named:Named (live ⟨s.tmps,mem',p,li,gen⟩) E' (nmK name) 0 (g1 ++ g2):=λ i y e=>by
  rw [Nat.zero_add]
  have hi:i < fr.length:=by rw [<- hlen];exact (List.getElem?_eq_some_iff.1 e).1
  have:=ql1 (λ _ _=>yv4) (mm:=s.mem) (nm:=nmK name) (rest:=q89 gv ++ (froze s rows ++ u)) (k:=0) hi
  rw [Nat.zero_add] at this
  exact ⟨Or.inl this,va1 e⟩
 have cells:=vl7 (L:=live ⟨s.tmps,mem',p,li,gen⟩) (E2:=E') (nm:=nmK name) rfl hups (k:=g1.length) (by have:=named.right;rwa [Nat.zero_add] at this)
 rw [hres.len] at cells
 have what:∀m b,mem' m=some b->(∃i z n r y,fr[i]?=some (z,n,r)/\(g1 ++ g2)[i]?=some y/\m=nmK name i/\b=.row z n r)\/((s.mem m).isSome=true/\((m∈gv/\b=.dead)\/(∃z n r,s.mem m=some (.row z n r)/\m∈rows/\b=.fro z n r)\/
   (∃l c,s.mem m=some (.cells l)/\b=.cells c/\∃arr t,w'.heap[E.β m]?=some (.cells arr t (0,0))/\Fa2 (jb9 (live ⟨s.tmps,mem',p,li,gen⟩) E' w') c arr.toList)\/(s.mem m=some b/\m ∉ gv/\m ∉ refs/\∀z n r,s.mem m=some (.row z n r)->m ∉ rows))):=by
  intro m b h
  rcases ql0 h with ⟨i,z,n,r,h1,h2,h3⟩ | ⟨h1,h2⟩
  ·have hi:i < (g1 ++ g2).length:=by rw [hlen];exact (List.getElem?_eq_some_iff.1 h1).1
   exact Or.inl ⟨i,z,n,r,_,h1,List.getElem?_eq_getElem hi,by rw [h2,Nat.zero_add],h3⟩
  ·rcases q99 h2 with ⟨h3,rfl⟩ | ⟨h3,h4⟩
   ·obtain ⟨z,n,r,e⟩:=hgv m h3
    exact Or.inr ⟨by rw [e];rfl,Or.inl ⟨h3,rfl⟩⟩
   ·rcases qw5 h4 with ⟨z,n,r,e,h5,h6⟩ | ⟨h5,h6⟩
    ·exact Or.inr ⟨by rw [e];rfl,Or.inr (Or.inl ⟨z,n,r,e,h5,h6⟩)⟩
    ·rcases va0 hu h5 with ⟨i,c,h7,h8,h9⟩ | ⟨h7,h8⟩
     ·obtain ⟨l,hl⟩:=hrefs m (List.mem_of_getElem? h7)
      obtain ⟨c',e1,e2⟩:=cells.get (i:=i) (a:=E.β m) (by rw [List.getElem?_map,h7];rfl)
      rw [h8] at e1
      simp only [Option.some.injEq] at e1
      subst e1
      exact Or.inr ⟨by rw [hl];rfl,Or.inr (Or.inr (Or.inl ⟨l,c,hl,h9,e2⟩))⟩
     ·exact Or.inr ⟨by rw [h7];rfl,Or.inr (Or.inr (Or.inr ⟨h7,h3,h8,h6⟩))⟩
 have nF':∀k,k < w.heap.size->¬ jf0 E s rows k->¬ Of (gv.map E.ν) k->¬ F' k:=by
  intro k h1 h2 h3 h4
  rcases (hF2 k h4).2 with h | h | h
  ·exact h2 h
  ·omega
  ·exact h3 h
 have old:∀m b k,mem' m=some b->(s.mem m).isSome=true->ja9 E' m b=some k->∃b0,s.mem m=some b0/\ja9 E m b0=some k/\m ∉ gv:=by
  intro m b k h hs hk
  rcases what m b h with ⟨i,z,n,r,y,h1,_,h2,_⟩ | ⟨_,⟨_,rfl⟩ | ⟨z,n,r,h1,_,rfl⟩ | ⟨l,c,h1,rfl,_⟩ | ⟨h1,h2,_⟩⟩
  ·exact absurd h2 (noName m hs i (List.getElem?_eq_some_iff.1 h1).1)
  ·simp [ja9] at hk
  ·simp [ja9] at hk
  ·refine ⟨_,h1,hk,λ hg=>?_⟩
   obtain ⟨z,n,r,e⟩:=hgv m hg
   rw [e] at h1;simp at h1
  ·refine ⟨b,h1,?_,h2⟩
   cases b with
   | row z n r=>show (E.ν m).ownBlock=some k;rw [<- νo m (Or.inl hs)];exact hk
   | _=>exact hk
 refine ⟨⟨E',R.go (E':=E') (mem':=mem') dst _ _ p li gen T GG (λ m h=>jc8 h) (λ _=>yi9 rfl hres named.left) ?_ ?_ (λ k h=>?_) hk.size (λ m hm h=>?_)⟩,⟨⟨hk.os,hk.tape,hk.output,hk.size,λ k h hx=>hk.block k (by omega) λ hin=>?_⟩,λ k h=>same k (Or.inl (R.sub k h))⟩⟩
 ·intro m b h
  rcases what m b h with ⟨i,z,n,r,y,h1,h2,rfl,rfl⟩ | ⟨hs,⟨_,rfl⟩ | ⟨z,n,r,h1,h2,rfl⟩ | ⟨l,c,h1,rfl,arr,t,h2,h3⟩ | ⟨h1,h2,h3,h4⟩⟩
  ·have hi:=(List.getElem?_eq_some_iff.1 h1).1
   refine ⟨Nat.lt_trans (hnm i hi).2 vr7,?_⟩
   obtain ⟨y',e1,f0,fz,fF,e,xs,fo,fr'⟩:=hfrs.get h1
   rw [h2] at e1
   simp only [Option.some.injEq] at e1
   subst e1
   unfold jh2
   rw [show E'.ν (nmK name i)=y from va1 h2]
   refine ⟨f0,fz,fF,e,xs,⟨fo.1,λ k hk=>?_⟩,fr'⟩
   rcases hnew k ⟨y,List.mem_of_getElem? h2,hk⟩ with q | q
   ·exact Or.inl (by omega)
   ·exact (nCall k (Or.inr q)).1
  ·obtain ⟨b0,e⟩:=Option.isSome_iff_exists.1 hs
   exact ⟨(R.mem m b0 e).1,trivial⟩
  ·obtain ⟨k1,k2⟩:=R.mem m _ h1
   refine ⟨k1,?_⟩
   have:=q03 k2 (F':=jf0 E s rows) (λ k hk=>Or.inl hk) λ k hk=>Or.inr ⟨m,h2,z,n,r,h1,hk⟩
   unfold jh2
   rw [νo m (Or.inl hs)]
   exact Rep.mono hF1 same this
  ·obtain ⟨k1,k2,k3,_⟩:=R.mem m _ h1
   have hlt:=(blk h1 rfl).1
   refine ⟨k1,k2,nF' _ hlt ?_ ?_,arr,t,h2,h3⟩
   ·rintro (q | ⟨m',_,z,n,r,e1,e2⟩)
    ·exact k3 q
    ·exact R.sep m m' _ _ h1 e1 (λ e=>by subst e;rw [h1] at e1;simp at e1) _ rfl e2
   ·intro q
    obtain ⟨m',hm',z,n,r,e1,e2⟩:=giv _ q
    exact R.sep m m' _ _ h1 e1 (λ e=>by subst e;rw [h1] at e1;simp at e1) _ rfl e2
  ·obtain ⟨k1,k2⟩:=R.mem m b h1
   refine ⟨k1,jh2.later T GG hLL (Or.inl hs) k1 k2 λ k hk'=>?_⟩
   have hlt:=je8 k2 hk'
   have n1:¬ Of (gv.map E.ν) k:=λ q=>by
    obtain ⟨m',hm',z,n,r,e1,e2⟩:=giv _ q
    exact R.sep m m' _ _ h1 e1 (λ e=>h2 (e▸hm')) k hk' e2
   refine ⟨hk.block k hlt ?_,nF' k hlt ?_ n1⟩
   ·rintro (hin | q)
    ·obtain ⟨m',hm',e⟩:=List.mem_map.1 hin
     obtain ⟨l',hl'⟩:=hrefs m' hm'
     exact R.sep m m' _ _ h1 hl' (λ e=>h3 (e▸hm')) k hk' (by simp [ja9,e])
    ·exact n1 q
   ·rintro (q | ⟨m',hm',z,n,r,e1,e2⟩)
    ·exact je5 k2 hk' q
    ·by_cases e:m=m'
     ·subst e;exact h4 _ _ _ e1 hm'
     ·exact R.sep m m' _ _ h1 e1 e k hk' e2
 ·intro m m' b b' h h' hne k hk1 hk2
  have one:∀(i:Nat) (y:Value) (m':Nat) (b':Blk),(g1 ++ g2)[i]?=some y->y.ownBlock=some k->mem' m'=some b'->(s.mem m').isSome=true->ja9 E' m' b'≠some k:=by
   intro i y m' b' hi hy h' hs hk2
   obtain ⟨b0,e0,e1,e2⟩:=old m' b' k h' hs hk2
   rcases hnew k ⟨y,List.mem_of_getElem? hi,hy⟩ with q | q
   ·have:=(blk e0 e1).1;omega
   ·obtain ⟨m1,hm1,z,n,r,e3,e4⟩:=giv _ q
    exact R.sep m' m1 _ _ e0 e3 (λ e=>e2 (e▸hm1)) k e1 e4
  rcases what m b h with ⟨i,z,n,r,y,h1,h2,rfl,rfl⟩ | ⟨hs,_⟩
  ·have hk1:y.ownBlock=some k:=by
    have:(E'.ν (nmK name i)).ownBlock=some k:=hk1
    rwa [show E'.ν (nmK name i)=y from va1 h2] at this
   rcases what m' b' h' with ⟨j,z',n',r',y',h1',h2',rfl,rfl⟩ | ⟨hs',_⟩
   ·have hk2:y'.ownBlock=some k:=by
     have:(E'.ν (nmK name j)).ownBlock=some k:=hk2
     rwa [show E'.ν (nmK name j)=y' from va1 h2'] at this
    exact hap.get (λ e=>hne (by rw [e])) h2 h2' hk1 hk2
   ·exact one i y m' b' h2 hk1 h' hs' hk2
  ·obtain ⟨b0,e0,e1,e2⟩:=old m b k h hs hk1
   rcases what m' b' h' with ⟨j,z',n',r',y',h1',h2',rfl,rfl⟩ | ⟨hs',_⟩
   ·have hk2:y'.ownBlock=some k:=by
     have:(E'.ν (nmK name j)).ownBlock=some k:=hk2
     rwa [show E'.ν (nmK name j)=y' from va1 h2'] at this
    exact one j y' m b h2' hk2 h hs hk1
   ·obtain ⟨b1,e0',e1',e2'⟩:=old m' b' k h' hs' hk2
    exact R.sep m m' b0 b1 e0 e0' hne k e1 e1'
 ·have:=hF2 k h
  refine ⟨this.1,?_⟩
  rcases this.2 with (q | ⟨m',hm',z,n,r,e1,e2⟩) | q | q
  ·exact (R.frz k q).2
  ·exact Or.inr (blk (k:=k) e1 e2).2.2
  ·exact Or.inr (Or.inl (by omega))
  ·exact Or.inr (nCall k (Or.inr q)).1
 ·obtain ⟨b,hb⟩:=Option.isSome_iff_exists.1 h
  rcases what m b hb with ⟨i,z,n,r,y,h1,_,e,_⟩ | ⟨hs,_⟩
  ·have:=(hnm i (List.getElem?_eq_some_iff.1 h1).1).2
   omega
  ·exact hs
 ·rcases (nCall k hin).1 with h1 | h1
  ·omega
  ·exact hx h1
end
end Go.Proofs.YthkidembkknoeaaDoor.QR
