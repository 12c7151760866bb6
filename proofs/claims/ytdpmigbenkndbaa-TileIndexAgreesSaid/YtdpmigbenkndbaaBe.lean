import Derived.Test.YtdpmigbenkndbaaBc
import Derived.Laws.MakeOwn
import Derived.Laws.IdiomCopy
namespace Go.Proofs.Ytdpmigbenkndbaa.QR
open Go.RowKit PR
set_option linter.unusedVariables false
mutual
inductive CV where
  | v (x : Value)
  | slc (z : Nat) (n : Int) (r : Row)
  | own (m : Nat) (n : Int)
  | ptr (m off : Nat)
  | fn (f : FuncId) (caps : List (Nat × Nat))
  | fresh (z : Nat) (n : Int) (r : Row)
  | clo (f : FuncId) (l : List (List Value))
inductive Row where
  | fn (g : Int → Nat → CV)
  | zer (l : List Value)
  | col (j : Nat) (f : Int → CV) (r : Row)
  | upd (r : Row) (i : Int) (j : Nat) (c : CV)
  | app (r : Row) (n : Int) (r2 : Row)
  | sub (r : Row) (l : Int)
end
inductive XV where
  | c (x : CV)
  | agg (l : List CV)
inductive SV where
  | x (v : XV)
  | tup (l : List XV)
  | eptr (m z : Nat) (i : Int) (off : Nat)
  | fptr (z : Nat) (r : Row) (i : Int) (off : Nat)
  | view (m z : Nat) (l n : Int)
inductive Blk where
  | cells (l : List CV)
  | row (z : Nat) (n : Int) (r : Row)
  | fro (z : Nat) (n : Int) (r : Row)
  | dead
def undefC : CV := .v undef
def nilS : Value := .slice none 0 0
def ssel (c : Bool) (a b : ByteArray) : ByteArray := bif c then a else b
def csel (c : Bool) : CV → CV → CV
  | .v (.int k a), .v (.int l b) => if k = l then .v (.int k (isel c a b)) else bif c then .v (.int k a) else .v (.int l b)
  | .v (.bool a), .v (.bool b) => .v (.bool (bsel c a b))
  | .v (.string a), .v (.string b) => .v (.string (ssel c a b))
  | x, y => bif c then x else y
def addZ (a b : Int) : Int := a + b
def subZ (a b : Int) : Int := a - b
def imulZ (a : Int) (b : Nat) : Int := a * b
def nthV : List Value → Nat → CV
  | [], _ => undefC
  | v :: _, 0 => .v v
  | _ :: l, j + 1 => nthV l j
def den : Row → Int → Nat → CV
  | .fn g, i, j => g i j
  | .zer l, _, j => nthV l j
  | .col k f r, i, j => bif Nat.beq k j then f i else den r i j
  | .upd r a k c, i, j => bif Nat.beq k j then csel (ieq i a) c (den r i j) else den r i j
  | .app r n r2, i, j => csel (ilt i n) (den r i j) (den r2 (subZ i n) j)
  | .sub r l, i, j => den r (addZ i l) j
structure GV where
  k : Bool
  v : SV
structure PSt where
  tmps : List GV
  mem : Nat → Option Blk
  ok : Prop
  lits : List Tmp
  gen : Nat
def vS (x : Value) : SV := .x (.c (.v x))
def gnow (v : SV) : GV := ⟨true, v⟩
def gunk : GV := ⟨false, .tup []⟩
def slotsOf (n : Nat) (l : List (Nat × SV)) : List GV := (List.range n).map fun t => match l.find? (fun p => Nat.beq p.1 t) with | some p => gnow p.2 | none => gunk
def conjP : List Prop → Prop → Prop
  | [], p => p
  | b :: l, p => b ∧ conjP l p
def plainB : Value → Bool
  | .bool _ | .int _ _ | .float _ _ | .complex _ _ _ | .string _ | .pointer none | .map none | .chan none | .nilFunc | .nilIface => true
  | .slice none 0 0 => true
  | .func (.func _) ⟨[]⟩ ⟨[]⟩ => true
  | _ => false
def bs (l : List UInt8) : ByteArray := ⟨⟨l⟩⟩
def GB : Nat := 1000000000000000000
def PN : Nat := 100000000000000000
theorem PN_lt : PN < GB := by decide
def gtab : Nat → Option (List CV) := (fun _ => none)
def operand (s : PSt) : Operand → GV
  | .tmp t => s.tmps.getD t (gnow (.tup []))
  | .const v => if plainB v then gnow (vS v) else gunk
  | .func f => gnow (vS (.func (.func f) ⟨[]⟩ ⟨[]⟩))
  | .global g => if (gtab (GB + g)).isSome then gnow (.x (.c (.ptr (GB + g) 0))) else gunk
def valOf (s : PSt) (x : Operand) : SV := (operand s x).v
def cellsOf : XV → List CV
  | .c x => [x]
  | .agg l => l
def toVs : List CV → Option (List Value)
  | [] => some []
  | .v x :: l => match toVs l with | some m => some (x :: m) | none => none
  | _ :: _ => none
def isFz : CV → Bool
  | .v x => plainB x
  | .slc _ _ _ => true
  | .clo _ _ => true
  | _ => false
def partX (P : Program) (l : List CV) (t : TypeId) (off : Nat) : Option XV :=
  if isAggT P t then (if Nat.ble (off + sizeT P t) l.length && (P.info? t).isSome then some (.agg ((l.drop off).take (sizeT P t))) else none)
  else match l[off]? with
    | some c => if (P.underlying t).isSome && (P.info? t).isSome then some (.c c) else none
    | none => none
def elemX (P : Program) (t : TypeId) (z : Nat) (r : Row) (i : Int) (off : Nat) : Option XV :=
  if isAggT P t then (if Nat.ble (off + sizeT P t) z && Nat.blt 0 (sizeT P t) && (P.info? t).isSome then some (.agg ((List.range (sizeT P t)).map fun k => den r i (off + k))) else none)
  else if Nat.blt off z && (P.underlying t).isSome then some (.c (den r i off)) else none
def memC (s : PSt) (m : Nat) : Option (List CV) :=
  match s.mem m with
  | some (.cells l) => some l
  | some _ => none
  | none => gtab m
def rowOf (s : PSt) (m : Nat) : Option (Nat × Int × Row) :=
  match s.mem m with
  | some (.row z n r) => some (z, n, r)
  | some (.fro z n r) => some (z, n, r)
  | _ => none
def rowW (s : PSt) (m : Nat) : Option (Nat × Int × Row) :=
  match s.mem m with
  | some (.row z n r) => some (z, n, r)
  | _ => none
def spliceC (cells : List CV) (off : Nat) (vs : List CV) : List CV := cells.take off ++ vs ++ cells.drop (off + vs.length)
def updsR (r : Row) (i : Int) : Nat → List CV → Row
  | _, [] => r
  | j, c :: l => updsR (.upd r i j c) i (j + 1) l
inductive AV where
  | x (v : XV)
  | ref (off : Nat) (cells : List CV)
structure Ans where
  res : List XV
  upd : List (List CV)
  ask : List Prop
def Oracle := FuncId → List AV → Option Ans
def orc : List (Nat × (List AV → Option Ans)) → Oracle
  | [] => fun _ _ => none
  | (f, g) :: rest => fun h args => bif Nat.beq h f then g args else orc rest h args
def resC (s : PSt) : CV → Option (CV × List Nat)
  | .own m n => match rowOf s m with
    | some (z, k, r) => some (.slc z k r, [m])
    | none => none
  | .ptr _ _ => none
  | .fn _ _ => none
  | .fresh _ _ _ => none
  | c => some (c, [])
def resL (s : PSt) : List CV → Option (List CV × List Nat)
  | [] => some ([], [])
  | c :: l => match resC s c, resL s l with
    | some (d, a), some (m, b) => some (d :: m, a ++ b)
    | _, _ => none
structure Arg where
  a : AV
  rows : List Nat
  refs : List Nat
def viewR (s : PSt) (m z : Nat) (l n : Int) : Option (CV × List Nat) :=
  match rowOf s m with
  | some (z', _, r) => if Nat.beq z z' then some (.slc z n (.sub r l), [m]) else none
  | none => none
def argA (s : PSt) : SV → Option Arg
  | .x (.c (.ptr m off)) => match s.mem m with
    | some (.cells l) => match resL s l with
      | some (k, a) => some ⟨.ref off k, a, [m]⟩
      | none => none
    | _ => none
  | .x (.c c) => match resC s c with
    | some (d, a) => some ⟨.x (.c d), a, []⟩
    | none => none
  | .x (.agg l) => match resL s l with
    | some (k, a) => some ⟨.x (.agg k), a, []⟩
    | none => none
  | .view m z l n => match viewR s m z l n with
    | some (d, a) => some ⟨.x (.c d), a, []⟩
    | none => none
  | _ => none
def argsA (s : PSt) : List SV → Option (List AV × List Nat × List Nat)
  | [] => some ([], [], [])
  | v :: l => match argA s v, argsA s l with
    | some g, some (al, rows, refs) => some (g.a :: al, g.rows ++ rows, g.refs ++ refs)
    | _, _ => none
def distinct : List Nat → Bool
  | [] => true
  | m :: l => !(l.any (Nat.beq m)) && distinct l
def isV : CV → Bool
  | .v _ => true
  | _ => false
def allV (l : List XV) : Bool := l.all fun x => (cellsOf x).all isV
def fzX (l : List XV) : Bool := l.all fun x => (cellsOf x).all isFz
def froze (s : PSt) : List Nat → List (Nat × Blk)
  | [] => []
  | m :: l => match s.mem m with
    | some (.row z n r) => (m, .fro z n r) :: froze s l
    | _ => froze s l
def zipU : List Nat → List (List CV) → Option (List (Nat × Blk))
  | [], [] => some []
  | m :: l, c :: k => match zipU l k with | some u => some ((m, .cells c) :: u) | none => none
  | _, _ => none
def lensOk : List AV → List (List CV) → Bool
  | [], [] => true
  | .ref _ c :: l, d :: k => Nat.beq c.length d.length && d.all isFz && lensOk l k
  | .x _ :: l, k => lensOk l k
  | _, _ => false
def resS : List XV → SV
  | [v] => .x v
  | l => .tup l
structure Eff where
  v : SV
  ok : List Prop
  rd : List Nat
  up : List (Nat × Blk)
  nw : Option Blk
def eV (v : SV) : Option Eff := some ⟨v, [], [], [], none⟩
def calleeOf (s : PSt) : Callee → Option (FuncId × List (Nat × Nat))
  | .value x => match operand s x with
    | ⟨true, .x (.c (.v (.func (.func f) ⟨[]⟩ ⟨[]⟩)))⟩ => some (f, [])
    | ⟨true, .x (.c (.fn f caps))⟩ => some (f, caps)
    | _ => none
  | _ => none
def zeroL (P : Program) (t : TypeId) : Option (List Value) :=
  match P.info? t with
  | some i => match i.zero with
    | some z => if z.cells.toList.all plainB && Nat.beq z.cells.size i.size then some z.cells.toList else none
    | none => none
  | none => none
def bytesT (P : Program) (t : TypeId) : Nat := match P.info? t with | some i => i.bytes | none => 0
def placeB (P : Program) (t : TypeId) : Option (Nat → Option (Nat × Nat)) :=
  match P.underlying t with
  | some (.array _ e) => match P.info? e with
    | some ie => some fun i => some (i * ie.size, ie.size)
    | none => none
  | some (.struct fs) => match fs.toList.mapM (fun f => (P.info? f.type).map fun i => (f.offset, i.size)) with
    | some pl => some fun i => pl.toArray[i]?
    | none => none
  | _ => none
def fillC (place : Nat → Option (Nat × Nat)) (cells : List CV) : List (Nat × List CV) → Option (List CV)
  | [] => some cells
  | (i, l) :: rest => match place i with
    | some (off, size) => if Nat.beq l.length size && Nat.ble (off + size) cells.length then fillC place (spliceC cells off l) rest else none
    | none => none
def fillR (z : Nat) (r : Row) : List (Nat × List CV) → Option Row
  | [] => some r
  | (i, l) :: rest => if Nat.beq l.length z && l.all isFz then fillR z (updsR r (i : Int) 0 l) rest else none
def partsOf (s : PSt) : List (Nat × Operand) → Option (List (Nat × List CV))
  | [] => some []
  | (i, x) :: l => match valOf s x, partsOf s l with
    | .x v, some m => some ((i, cellsOf v) :: m)
    | _, _ => none
def asInt' : SV → Option (IntKind × Int)
  | .x (.c (.v (.int k n))) => some (k, n)
  | _ => none
def capsOf (s : PSt) : List Operand → Option (List (Nat × Nat))
  | [] => some []
  | x :: l => match operand s x, capsOf s l with
    | ⟨true, .x (.c (.ptr m off))⟩, some k => some ((m, off) :: k)
    | _, _ => none
def sliceSrc (s : PSt) : SV → Option (List Nat × Nat × Int × Row)
  | .x (.c c) => match resC s c with
    | some (.slc z n r, ms) => some (ms, z, n, r)
    | _ => none
  | _ => none
def boundOf (s : PSt) (d : Int) : Option Operand → Option Int
  | none => some d
  | some x => match asInt' (valOf s x) with
    | some (_, n) => some n
    | none => none
def seqB (a b : ByteArray) : Bool := a.data.toList == b.data.toList
def strV (op : BinOp) (a b : ByteArray) : Option Value :=
  match op with
  | .eql => some (.bool (seqB a b))
  | .neq => some (.bool (bnot (seqB a b)))
  | _ => none
def slenI (s : ByteArray) : Int := s.size
def satI (s : ByteArray) (i : Int) : Int := match s[i.toNat]? with | some b => b.toNat | none => 0
def isFresh : CV → Bool
  | .fresh _ _ _ => true
  | _ => false
def freshC : CV → List (Nat × Int × Row)
  | .fresh z n r => [(z, n, r)]
  | _ => []
def freshL : List CV → List (Nat × Int × Row)
  | [] => []
  | c :: l => freshC c ++ freshL l
def freshs : List XV → List (Nat × Int × Row)
  | [] => []
  | x :: l => freshL (cellsOf x) ++ freshs l
def ownC (name : Nat) : CV → CV
  | .fresh _ n _ => .own name n
  | c => c
def ownX (name : Nat) : XV → XV
  | .c c => .c (ownC name c)
  | .agg l => .agg (l.map (ownC name))
def fzO (l : List XV) : Bool := l.all fun x => (cellsOf x).all fun c => isFz c || isFresh c
def viewA : List XV → Option (Nat × Nat × Int × Int)
  | [.agg [.own k l, .own j n]] => some (k, j, l, n)
  | _ => none
def cellA : List SV → Nat → Nat → Option SV
  | .x v :: _, 0, j => match (cellsOf v)[j]? with
    | some c => some (.x (.c c))
    | none => none
  | .view m z l n :: _, 0, 0 => some (.view m z l n)
  | _ :: l, k + 1, j => cellA l k j
  | _, _, _ => none
def slcA : List AV → Nat → Nat → Option Nat
  | .x v :: _, 0, j => match (cellsOf v)[j]? with
    | some (.slc z _ _) => some z
    | _ => none
  | _ :: l, k + 1, j => slcA l k j
  | _, _, _ => none
def effView (args : List SV) (al : List AV) (rows refs : List Nat) (ask : List Prop) (v : Nat × Nat × Int × Int) : Option Eff :=
  if Nat.beq refs.length 0 then
    match slcA al v.1 v.2.1, cellA args v.1 v.2.1 with
    | some z, some (.x (.c (.own m N))) => some ⟨.view m z v.2.2.1 v.2.2.2, (ile 0 v.2.2.1 = true) :: (ile 0 v.2.2.2 = true) :: (ile (addZ v.2.2.1 v.2.2.2) N = true) :: ask, rows, [], none⟩
    | some z, some (.view m z' l0 N) => if Nat.beq z z' then some ⟨.view m z (addZ l0 v.2.2.1) v.2.2.2, (ile 0 v.2.2.1 = true) :: (ile 0 v.2.2.2 = true) :: (ile (addZ v.2.2.1 v.2.2.2) N = true) :: ask, rows, [], none⟩ else none
    | some z, some (.x (.c (.slc z' N r))) => if Nat.beq z z' then some ⟨.x (.c (.slc z v.2.2.2 (.sub r v.2.2.1))), (ile 0 v.2.2.1 = true) :: (ile 0 v.2.2.2 = true) :: (ile (addZ v.2.2.1 v.2.2.2) N = true) :: ask, rows, [], none⟩ else none
    | _, _ => none
  else none
def flatOn (O : Oracle) : Bool := match O 1000000009 [] with | some _ => true | none => false
def flatRow (z : Nat) (n : Int) (r : Row) : Prop := ∀ i j : Nat, (i : Int) < n → j < z → isV (den r i j) = true
def allVO (l : List XV) : Bool := l.all fun x => (cellsOf x).all fun c => isV c || isFresh c
def keepU : List (List CV) → Bool
  | [[.own _ _]] => true
  | _ => false
def refCells : List AV → List (List CV)
  | [] => []
  | .ref _ c :: l => c :: refCells l
  | .x _ :: l => refCells l
def effCall (O : Oracle) (name : Nat) (s : PSt) (f : FuncId) (args : List SV) : Option Eff :=
  match argsA s args with
  | none => none
  | some (al, rows, refs) =>
    if distinct refs then
      match O f al with
      | none => none
      | some ans => match viewA ans.res with
        | some v => effView args al rows refs ans.ask v
        | none => if keepU ans.upd then (if Nat.beq rows.length 0 && allV ans.res then some ⟨resS ans.res, ans.ask, refs, [], none⟩ else none) else match zipU refs ans.upd with
          | none => none
          | some u => match freshs ans.res with
            | [] =>
              if lensOk al ans.upd && fzX ans.res then
                (if allV ans.res && Nat.beq refs.length 0 then some ⟨resS ans.res, ans.ask, rows, [], none⟩
                 else some ⟨resS ans.res, ans.ask, rows ++ refs, froze s rows ++ u, none⟩)
              else none
            | [(z, n, r)] =>
              if lensOk al ans.upd && fzO ans.res then
                (if flatOn O && Nat.beq refs.length 0 && allVO ans.res then some ⟨resS (ans.res.map (ownX name)), flatRow z n r :: ans.ask, rows, [], some (.row z n r)⟩
                 else some ⟨resS (ans.res.map (ownX name)), ans.ask, rows ++ refs, froze s rows ++ u, some (.row z n r)⟩)
              else none
            | _ => none
    else none
def srcA (s : PSt) : CV → Option (Nat × Int × Row × List Nat)
  | .own m _ => match rowOf s m with
    | some (z, n, r) => some (z, n, r, [m])
    | none => none
  | .slc z n r => some (z, n, r, [])
  | _ => none
def dstA (s : PSt) : SV → Option (Nat × Nat × Int × Int × Int × Row)
  | .x (.c (.own m n)) => match rowW s m with
    | some (z, N, r) => some (m, z, 0, n, N, r)
    | none => none
  | .view m z l n => match rowW s m with
    | some (z', N, r) => if Nat.beq z z' then some (m, z, l, n, N, r) else none
    | none => none
  | _ => none
def srcV (s : PSt) : SV → Option (Nat × Int × Row × List Nat)
  | .x (.c c) => srcA s c
  | .view m z l n => match rowOf s m with
    | some (z', _, r) => if Nat.beq z z' then some (z, n, .sub r l, [m]) else none
    | none => none
  | _ => none
def cpyR (r : Row) (l k : Int) (r2 : Row) : Row := .app (.app r l r2) (addZ l k) (.sub r (addZ l k))
def effBuiltin (P : Program) (name : Nat) (s : PSt) (b : Builtin) (tys : List TypeId) (args : List SV) : Option Eff :=
  match b, args, tys with
  | .min, [.x (.c (.v (.int k a))), .x (.c (.v (.int _ b)))], _ => eV (vS (.int k (iimin a b)))
  | .max, [.x (.c (.v (.int k a))), .x (.c (.v (.int _ b)))], _ => eV (vS (.int k (iimax a b)))
  | .len, [.x (.c c)], [t] => match P.underlying t, c with
    | some .string, .v (.string b) => eV (vS (.int .i64 (slenI b)))
    | some (.slice _), .v (.slice none 0 0) => eV (vS (.int .i64 0))
    | some (.slice _), .own _ n => eV (vS (.int .i64 n))
    | some (.slice _), .slc _ n _ => eV (vS (.int .i64 n))
    | _, _ => none
  | .append, [a, .x (.c c)], [t, u] => match P.underlying t with
    | some (.slice e) => match zeroL P e with
      | none => none
      | some zs =>
        if Nat.beq t u && Nat.blt 0 (sizeT P e) && Nat.blt 0 (bytesT P e) then
          match srcA s c with
          | some (z2, n2, r2, rd) =>
            if Nat.beq z2 (sizeT P e) then
              match a with
              | .x (.c (.v (.slice none 0 0))) => some ⟨.x (.c (.own name n2)), [ile (imulZ n2 (bytesT P e)) 140737488355328 = true], rd, [], some (.row z2 n2 r2)⟩
              | .x (.c (.own m _)) => match rowW s m with
                | some (z, n, r) => if Nat.beq z z2 then some ⟨.x (.c (.own name (addZ n n2))), [ile (imulZ (addZ n n2) (bytesT P e)) 140737488355328 = true], m :: rd, [(m, .dead)], some (.row z (addZ n n2) (.app r n r2))⟩ else none
                | none => none
              | _ => none
            else none
          | none => none
        else none
    | _ => none
  | .copy, [d, c], [t, u] => match P.underlying t with
    | some (.slice e) => if (P.info? e).isSome then
        match dstA s d, srcV s c with
        | some (m, z, l, n, N, r), some (z2, n2, r2, rd) => if Nat.beq z (sizeT P e) && Nat.beq z2 z then some ⟨vS (.int .i64 (iimin n n2)), [], m :: rd, [(m, .row z N (cpyR r l (iimin n n2) r2))], none⟩ else none
        | _, _ => none
      else none
    | _ => none
  | .len, [.view _ _ _ n], [t] => match P.underlying t with
    | some (.slice _) => eV (vS (.int .i64 n))
    | _ => none
  | _, _, _ => none
def viewsOn (O : Oracle) : Bool := match O 1000000007 [] with | some _ => true | none => false
def s_views : List AV → Option Ans
  | _ => some ⟨[], [], [False]⟩
def partSrc (O : Oracle) (s : PSt) : SV → Option (Nat × Nat × Int × Int × List Nat)
  | .view m z l n => some (m, z, l, n, [])
  | .x (.c (.own m n)) => if viewsOn O then match rowOf s m with
      | some (z, _, _) => some (m, z, 0, n, [m])
      | none => none
    else none
  | _ => none
def slOk : Option Operand → Option Operand → Bool
  | none, some _ => false
  | _, _ => true
def slAsk (mx : Option Operand) (l h k n : Int) : List Prop :=
  match mx with
  | none => [ile 0 l = true, ile l h = true, ile h n = true]
  | some _ => [ile 0 l = true, ile l h = true, ile h k = true, ile k n = true]
def effect (P : Program) (O : Oracle) (name : Nat) (s : PSt) (o : Oper) : Option Eff :=
  match o.op with
  | .move x => eV (valOf s x)
  | .assign x => eV (valOf s x)
  | .nilCheck x => match valOf s x with
    | .x (.c (.ptr m off)) => eV (.x (.c (.ptr m off)))
    | .eptr m z i off => eV (.eptr m z i off)
    | .fptr z r i off => eV (.fptr z r i off)
    | _ => none
  | .pick c a b => match valOf s c with
    | .x (.c (.v (.bool true))) => eV (valOf s a)
    | .x (.c (.v (.bool false))) => eV (valOf s b)
    | _ => none
  | .alloc t => match zeroL P t with
    | some l => some ⟨.x (.c (.ptr name 0)), [], [], [], some (.cells (l.map .v))⟩
    | none => none
  | .box t x => match valOf s x with
    | .x v => some ⟨.x (.c (.ptr name 0)), [], [], [], some (.cells (cellsOf v))⟩
    | _ => none
  | .load t a => match valOf s a with
    | .x (.c (.ptr m off)) => match memC s m with
      | some l => match partX P l t off with
        | some v => some ⟨.x v, [], [m], [], none⟩
        | none => none
      | none => none
    | .eptr m z i off => match rowOf s m with
      | some (z', n, r) => if Nat.beq z z' then match elemX P t z r i off with
          | some v => some ⟨.x v, [], [m], [], none⟩
          | none => none
        else none
      | none => none
    | .fptr z r i off => match elemX P t z r i off with
      | some v => eV (.x v)
      | none => none
    | _ => none
  | .store t a x => match valOf s a, valOf s x with
    | .x (.c (.ptr m off)), .x v => match s.mem m with
      | some (.cells l) => if (P.info? t).isSome && Nat.beq (cellsOf v).length (sizeT P t) && Nat.ble (off + (cellsOf v).length) l.length then some ⟨.tup [], [], [], [(m, .cells (spliceC l off (cellsOf v)))], none⟩ else none
      | _ => none
    | .eptr m z i off, .x v => match rowW s m with
      | some (z', n, r) => if Nat.beq z z' && (P.info? t).isSome && Nat.beq (cellsOf v).length (sizeT P t) && Nat.ble (off + (cellsOf v).length) z && (cellsOf v).all isFz then some ⟨.tup [], [], [], [(m, .row z n (updsR r i off (cellsOf v)))], none⟩ else none
      | none => none
    | _, _ => none
  | .binOp op t x y _ => match valOf s x, valOf s y with
    | .x (.c (.v (.string a))), .x (.c (.v (.string b))) => match P.underlying t, strV op a b with
      | some .string, some v => eV (vS v)
      | _, _ => none
    | .x (.c (.v a)), .x (.c (.v b)) => match binV P op t a b with
      | some (v, l) => if plainB v then some ⟨vS v, l.map (· = true), [], [], none⟩ else none
      | none => none
    | .x (.agg a), .x (.agg b) => match toVs a, toVs b with
      | some a, some b => match binV P op t (.agg a.toArray) (.agg b.toArray) with
        | some (v, l) => if plainB v then some ⟨vS v, l.map (· = true), [], [], none⟩ else none
        | none => none
      | _, _ => none
    | _, _ => none
  | .unOp op _ x => match valOf s x with
    | .x (.c (.v a)) => match unV op a with
      | some (v, l) => if plainB v then some ⟨vS v, l.map (· = true), [], [], none⟩ else none
      | none => none
    | _ => none
  | .convert src dst x => match valOf s x, P.underlying src, P.underlying dst with
    | .x (.c (.v (.int _ n))), some _, some (.int k) => eV (vS (.int k (iconv k n)))
    | .x (.c (.v (.int _ n))), some _, some (.float k) => eV (vS (.float k (fofi k n)))
    | _, _, _ => none
  | .fieldAddr t x f => match P.underlying t with
    | some (.struct fs) => match fs[f]? with
      | some fd => if sizeT P fd.type == 0 then none else match valOf s x with
        | .x (.c (.ptr m off)) => eV (.x (.c (.ptr m (off + fd.offset))))
        | .eptr m z i off => eV (.eptr m z i (off + fd.offset))
        | .fptr z r i off => eV (.fptr z r i (off + fd.offset))
        | _ => none
      | none => none
    | _ => none
  | .extract x i => match valOf s x with
    | .tup l => match l[i]? with
      | some v => eV (.x v)
      | none => none
    | _ => none
  | .call c => match c.callee with
    | .builtin b => effBuiltin P name s b c.argTypes.toList (c.args.toList.map (valOf s))
    | cal => match calleeOf s cal with
      | some (f, caps) => effCall O name s f (c.args.toList.map (valOf s) ++ caps.map fun p => .x (.c (.ptr p.1 p.2)))
      | none => none
  | .build t parts => match zeroL P t, partsOf s parts.toList, placeB P t with
    | some l, some ps, some pl => match fillC pl (l.map .v) ps with
      | some cells => eV (.x (.agg cells))
      | none => none
    | _, _, _ => none
  | .buildSlice t len parts => match P.underlying t with
    | some (.slice e) => match zeroL P e, partsOf s parts.toList with
      | some l, some ps => if Nat.ble (len * sizeT P e) 16777216 && Nat.blt 0 (sizeT P e) && ps.all (fun p => Nat.blt p.1 len) then match fillR (sizeT P e) (.zer l) ps with
          | some r => some ⟨.x (.c (.own name len)), [], [], [], some (.row (sizeT P e) len r)⟩
          | none => none
        else none
      | _, _ => none
    | _ => none
  | .makeSlice t l c => match P.underlying t, asInt' (valOf s l), asInt' (valOf s c) with
    | some (.slice e), some (_, n), some (_, k) => match zeroL P e with
      | some zs => if Nat.blt 0 (sizeT P e) then some ⟨.x (.c (.own name n)), [ile 0 n = true, ile n k = true, ile (imulZ k (bytesT P e)) 140737488355328 = true, ile k 140737488355328 = true], [], [], some (.row (sizeT P e) n (.zer zs))⟩ else none
      | none => none
    | _, _, _ => none
  | .slice t x lo hi mx => match P.underlying t, slOk hi mx with
    | some (.slice e), true => match partSrc O s (valOf s x) with
      | some (m, z, l0, n, rd) => match boundOf s 0 lo, boundOf s n hi, boundOf s n mx with
        | some l, some h, some k => if Nat.beq z (sizeT P e) && (P.info? e).isSome then some ⟨.view m z (addZ l0 l) (subZ h l), slAsk mx l h k n, rd, [], none⟩ else none
        | _, _, _ => none
      | none => match sliceSrc s (valOf s x) with
        | some (ms, z, n, r) => match boundOf s 0 lo, boundOf s n hi, boundOf s n mx with
          | some l, some h, some k => if Nat.beq z (sizeT P e) && (P.info? e).isSome then some ⟨.x (.c (.slc z (subZ h l) (.sub r l))), slAsk mx l h k n, ms, froze s ms, none⟩ else none
          | _, _, _ => none
        | none => none
    | _, _ => none
  | .makeFunc (.func f) first caps => if Nat.beq first.size 0 then
      match capsOf s caps.toList with
      | some l => eV (.x (.c (.fn f l)))
      | none => none
    else none
  | .field t x f => match valOf s x, P.underlying t with
    | .x (.agg l), some (.struct fs) => match fs[f]? with
      | some fd => match partX P l fd.type fd.offset with
        | some v => eV (.x v)
        | none => none
      | none => none
    | _, _ => none
  | .index t x i => match valOf s x, asInt' (valOf s i), P.underlying t with
    | .x (.agg l), some (_, m), some (.array len e) => match partX P l e (m.toNat * sizeT P e) with
      | some v => if (P.info? e).isSome then some ⟨.x v, [ile 0 m = true, ilt m len = true], [], [], none⟩ else none
      | none => none
    | .x (.c (.v (.string b))), some (_, m), some .string => some ⟨vS (.int .u8 (satI b m)), [ile 0 m = true, ilt m (slenI b) = true], [], [], none⟩
    | _, _, _ => none
  | .indexAddr t x i => match asInt' (valOf s i), P.underlying t with
    | some (_, m), some (.array len e) => if (P.info? e).isSome then match valOf s x with
        | .x (.c (.ptr b off)) => some ⟨.x (.c (.ptr b (off + m.toNat * sizeT P e))), [ile 0 m = true, ilt m len = true], [], [], none⟩
        | .eptr b z k off => some ⟨.eptr b z k (off + m.toNat * sizeT P e), [ile 0 m = true, ilt m len = true], [], [], none⟩
        | .fptr z r k off => some ⟨.fptr z r k (off + m.toNat * sizeT P e), [ile 0 m = true, ilt m len = true], [], [], none⟩
        | _ => none
      else none
    | some (_, m), some (.slice e) => if (P.info? e).isSome then match valOf s x with
        | .x (.c (.own b n)) => some ⟨.eptr b (sizeT P e) m 0, [ile 0 m = true, ilt m n = true], [], [], none⟩
        | .x (.c (.slc z n r)) => if Nat.beq z (sizeT P e) then some ⟨.fptr z r m 0, [ile 0 m = true, ilt m n = true], [], [], none⟩ else none
        | .view b z l n => if Nat.beq z (sizeT P e) then some ⟨.eptr b (sizeT P e) (addZ l m) 0, [ile 0 m = true, ilt m n = true], [], [], none⟩ else none
        | _ => none
      else none
    | _, _ => none
  | _ => none
def guardOf (s : PSt) (ops : List Oper) (o : Oper) : Option Bool :=
  match o.guard with
  | none => some true
  | some (j, want) => match (ops[j]?).bind (·.dst) with
    | some d => match s.tmps[d]? with
      | some ⟨true, .x (.c (.v (.bool b)))⟩ => some (bif want then b else !b)
      | some ⟨true, .tup _⟩ => some false
      | _ => none
    | none => none
def allOf : List GV → Bool
  | [] => true
  | g :: l => g.k && allOf l
def knownOf (s : PSt) (o : Oper) : Bool :=
  match o.op with
  | .pick c a b => match valOf s c with
    | .x (.c (.v (.bool true))) => (operand s c).k && (operand s a).k
    | .x (.c (.v (.bool false))) => (operand s c).k && (operand s b).k
    | _ => false
  | op => allOf (op.operands.toList.map (operand s))
def setTmp (l : List GV) : Option Tmp → GV → List GV
  | some d, v => l.set d v
  | none, _ => l
def applyU (m : Nat → Option Blk) : List (Nat × Blk) → Nat → Option Blk
  | [] => m
  | (n, b) :: l => fun k => bif Nat.beq k n then some b else applyU m l k
structure Delta where
  g : GV
  up : List (Nat × Blk)
  ok : List Prop
  rd : List Nat
def upsOf (name : Nat) (e : Eff) : List (Nat × Blk) := match e.nw with | some b => (name, b) :: e.up | none => e.up
def stepD (P : Program) (O : Oracle) (ops : List Oper) (name : Nat) (o : Oper) (s : PSt) : Option Delta :=
  match guardOf s ops o with
  | none => none
  | some false => some ⟨gnow (.tup []), [], [], []⟩
  | some true => if knownOf s o then match effect P O name s o with
    | none => none
    | some e => match e.nw with
      | none => some ⟨gnow e.v, e.up, e.ok, e.rd⟩
      | some b => if (s.mem name).isNone && Nat.blt name PN then some ⟨gnow e.v, (name, b) :: e.up, e.ok, e.rd⟩ else none
    else none
def applyD (dst : Option Tmp) (d : Delta) (s : PSt) : PSt := ⟨setTmp s.tmps dst d.g, applyU s.mem d.up, conjP d.ok s.ok, s.lits, s.gen⟩
end Go.Proofs.Ytdpmigbenkndbaa.QR
namespace Go.Proofs.Ytdpmigbenkndbaa.QR
open Go.RowKit PR
set_option linter.unusedVariables false
set_option linter.unusedSimpArgs false
def Fa2 {α β : Type} (R : α → β → Prop) : List α → List β → Prop
  | [], [] => True
  | a :: l, b :: m => R a b ∧ Fa2 R l m
  | _, _ => False
section
variable {α β : Type} {R S : α → β → Prop}
theorem Fa2.mono (h : ∀ a b, R a b → S a b) : ∀ {l : List α} {m : List β}, Fa2 R l m → Fa2 S l m
  | [], [], _ => trivial
  | a :: l, b :: m, H => ⟨h _ _ H.1, Fa2.mono h H.2⟩
  | [], _ :: _, H => H.elim
  | _ :: _, [], H => H.elim
theorem Fa2.monoM : ∀ {l : List α} {m : List β}, (∀ a ∈ l, ∀ b, R a b → S a b) → Fa2 R l m → Fa2 S l m
  | [], [], _, _ => trivial
  | a :: l, b :: m, h, H => ⟨h a (by simp) _ H.1, Fa2.monoM (fun x hx => h x (by simp [hx])) H.2⟩
  | [], _ :: _, _, H => H.elim
  | _ :: _, [], _, H => H.elim
theorem Fa2.len : ∀ {l : List α} {m : List β}, Fa2 R l m → l.length = m.length
  | [], [], _ => rfl
  | a :: l, b :: m, H => by simp [Fa2.len H.2]
  | [], _ :: _, H => H.elim
  | _ :: _, [], H => H.elim
theorem Fa2.get : ∀ {l : List α} {m : List β} {i : Nat} {a : α}, Fa2 R l m → l[i]? = some a → ∃ b, m[i]? = some b ∧ R a b
  | [], [], i, a, _, h => by simp at h
  | x :: l, y :: m, 0, a, H, h => by simp at h; subst h; exact ⟨y, rfl, H.1⟩
  | x :: l, y :: m, i + 1, a, H, h => by
    obtain ⟨b, e, r⟩ := Fa2.get (i := i) H.2 (by simpa using h)
    exact ⟨b, by simpa using e, r⟩
  | [], _ :: _, _, _, H, _ => H.elim
  | _ :: _, [], _, _, H, _ => H.elim
theorem Fa2.of : ∀ {l : List α} {m : List β}, l.length = m.length → (∀ (i : Nat) (a : α) (b : β), l[i]? = some a → m[i]? = some b → R a b) → Fa2 R l m
  | [], [], _, _ => trivial
  | a :: l, b :: m, h, H => ⟨H 0 a b rfl rfl, Fa2.of (by simpa using h) fun i x y hx hy => H (i + 1) x y (by simpa using hx) (by simpa using hy)⟩
  | [], _ :: _, h, _ => by simp at h
  | _ :: _, [], h, _ => by simp at h
theorem Fa2.app : ∀ {l l' : List α} {m m' : List β}, Fa2 R l m → Fa2 R l' m' → Fa2 R (l ++ l') (m ++ m')
  | [], _, [], _, _, K => K
  | a :: l, _, b :: m, _, H, K => ⟨H.1, Fa2.app H.2 K⟩
  | [], _, _ :: _, _, H, _ => H.elim
  | _ :: _, _, [], _, H, _ => H.elim
theorem Fa2.take : ∀ (k : Nat) {l : List α} {m : List β}, Fa2 R l m → Fa2 R (l.take k) (m.take k)
  | 0, _, _, _ => by simp [Fa2]
  | k + 1, [], [], _ => trivial
  | k + 1, a :: l, b :: m, H => ⟨H.1, Fa2.take k H.2⟩
  | _ + 1, [], _ :: _, H => H.elim
  | _ + 1, _ :: _, [], H => H.elim
theorem Fa2.drop : ∀ (k : Nat) {l : List α} {m : List β}, Fa2 R l m → Fa2 R (l.drop k) (m.drop k)
  | 0, _, _, h => h
  | k + 1, [], [], _ => trivial
  | k + 1, a :: l, b :: m, H => Fa2.drop k H.2
  | _ + 1, [], _ :: _, H => H.elim
  | _ + 1, _ :: _, [], H => H.elim
theorem Fa2.splice {l l' : List CV} {m m' : List Value} {R : CV → Value → Prop} (off : Nat) (H : Fa2 R l m) (K : Fa2 R l' m') : Fa2 R (spliceC l off l') (splice m off m') := by
  unfold spliceC PR.splice
  rw [← K.len]
  exact ((H.take off).app K).app (H.drop _)
end
inductive Rep (F : Nat → Prop) (w : World) : CV → Value → Prop
  | v {x : Value} : plainB x = true → Rep F w (.v x) x
  | nil {z : Nat} {r : Row} {a : Option Addr} {c : Nat} : 0 < z → (a = none → c = 0) → Rep F w (.slc z 0 r) (.slice a 0 c)
  | slc {z n : Nat} {r : Row} {b off c : Nat} {arr : Array Value} {t : TypeId} {fr : Nat × Nat} (u : Nat → Nat → Value) : 0 < z → n ≤ c → F b → w.heap[b]? = some (.cells arr t fr) →
      (∀ i j : Nat, i < n → j < z → arr[off + i * z + j]? = some (u i j)) → (∀ i j : Nat, i < n → j < z → Rep F w (den r i j) (u i j)) → Rep F w (.slc z n r) (.slice (some ⟨b, off, none⟩) n c)
  | clo {f : FuncId} {l : List (List Value)} (bs : List Nat) : Fa2 (fun (c : List Value) (b : Nat) => F b ∧ ∃ t, w.heap[b]? = some (.cells c.toArray t (0, 0))) l bs → Rep F w (.clo f l) (.func (.func f) #[] (bs.map fun b => Value.pointer (some ⟨b, 0, none⟩)).toArray)
theorem Rep.mono {F F' : Nat → Prop} {w w' : World} (hF : ∀ k, F k → F' k) (hw : ∀ k, F k → w'.heap[k]? = w.heap[k]?) {c : CV} {y : Value} (h : Rep F w c y) : Rep F' w' c y := by
  induction h with
  | v h => exact .v h
  | nil h h' => exact .nil h h'
  | slc u h1 hc h2 h3 h4 _ ih => exact .slc u h1 hc (hF _ h2) (by rw [hw _ h2]; exact h3) h4 ih
  | clo bs h => exact .clo bs (h.mono fun c b ⟨h1, t, h2⟩ => ⟨hF _ h1, t, by rw [hw _ h1]; exact h2⟩)
structure Env where
  F : Nat → Prop
  β : Nat → Nat
  ν : Nat → Value
def adr (E : Env) (m : Nat) : Nat := if GB ≤ m then m - GB else E.β m
def ConcC (L : Nat → Prop) (E : Env) (w : World) : CV → Value → Prop
  | .own m n, y => L m ∧ y = E.ν m ∧ 0 ≤ n ∧ ((y = .slice none 0 0 ∧ n = 0) ∨ ∃ b c, y = .slice (some ⟨b, 0, none⟩) n.toNat c)
  | .ptr m off, y => L m ∧ y = .pointer (some ⟨adr E m, off, none⟩)
  | .fn f caps, y => (∀ p ∈ caps, L p.1) ∧ y = .func (.func f) #[] (caps.map fun p => Value.pointer (some ⟨adr E p.1, p.2, none⟩)).toArray
  | .v x, y => Rep E.F w (.v x) y
  | .slc z n r, y => Rep E.F w (.slc z n r) y
  | .fresh _ _ _, _ => False
  | .clo f l, y => Rep E.F w (.clo f l) y
def ConcX (L : Nat → Prop) (E : Env) (w : World) : XV → Value → Prop
  | .c x, y => ConcC L E w x y
  | .agg l, y => ∃ ys : List Value, y = .agg ys.toArray ∧ Fa2 (ConcC L E w) l ys
def IsPart (ν : Value) (z : Nat) (l n : Int) (y : Value) : Prop :=
  0 ≤ l ∧ 0 ≤ n ∧ ((n = 0 ∧ ∃ ad c, y = .slice ad 0 c ∧ (ad = none → c = 0)) ∨ ∃ b c ln c', ν = .slice (some ⟨b, 0, none⟩) ln c ∧ l.toNat + n.toNat ≤ ln ∧ n.toNat ≤ c' ∧ y = .slice (some ⟨b, l.toNat * z, none⟩) n.toNat c')
def ConcS (L : Nat → Prop) (E : Env) (w : World) : SV → Value → Prop
  | .x v, y => ConcX L E w v y
  | .tup l, y => ∃ ys : List Value, y = .tuple ys.toArray ∧ Fa2 (ConcX L E w) l ys
  | .eptr m z i off, y => L m ∧ 0 ≤ i ∧ ∃ b c ln, E.ν m = .slice (some ⟨b, 0, none⟩) ln c ∧ i.toNat < ln ∧ y = .pointer (some ⟨b, i.toNat * z + off, none⟩)
  | .fptr z r i off, y => 0 ≤ i ∧ ∃ b o arr t fr, E.F b ∧ w.heap[b]? = some (.cells arr t fr) ∧ y = .pointer (some ⟨b, o + off, none⟩) ∧ ∀ j < z, ∃ u, arr[o + j]? = some u ∧ Rep E.F w (den r i j) u
  | .view m z l n, y => L m ∧ IsPart (E.ν m) z l n y
structure Later (L : Nat → Prop) (E E' : Env) (w w' : World) : Prop where
  F : ∀ k, E.F k → E'.F k
  heap : ∀ k, E.F k → w'.heap[k]? = w.heap[k]?
  β : ∀ m, L m → m < GB → E'.β m = E.β m
  ν : ∀ m, L m → m < GB → E'.ν m = E.ν m
theorem Later.refl (L : Nat → Prop) (E : Env) (w : World) : Later L E E w w := ⟨fun _ h => h, fun _ _ => rfl, fun _ _ _ => rfl, fun _ _ _ => rfl⟩
section
variable {L L' : Nat → Prop} {E E' : Env} {w w' : World}
theorem Later.adr (T : Later L E E' w w') {m : Nat} (h : L m) : adr E' m = adr E m := by
  unfold QR.adr
  split
  · rfl
  · rename_i hm; exact T.β m h (by omega)
theorem Later.nu (T : Later L E E' w w') (G : ∀ m, GB ≤ m → E'.ν m = E.ν m) {m : Nat} (h : L m) : E'.ν m = E.ν m := by
  by_cases hm : GB ≤ m
  · exact G m hm
  · exact T.ν m h (by omega)
theorem Rep.later (T : Later L E E' w w') {c : CV} {y : Value} (h : Rep E.F w c y) : Rep E'.F w' c y := h.mono T.F T.heap
theorem ConcC.later (T : Later L E E' w w') (G : ∀ m, GB ≤ m → E'.ν m = E.ν m) (hL : ∀ m, L m → L' m) {c : CV} {y : Value} (h : ConcC L E w c y) : ConcC L' E' w' c y := by
  cases c with
  | v x => exact Rep.later T h
  | slc z n r => exact Rep.later T h
  | own m n => exact ⟨hL m h.1, by rw [T.nu G h.1]; exact h.2.1, h.2.2⟩
  | ptr m off => exact ⟨hL m h.1, by rw [T.adr h.1]; exact h.2⟩
  | fn f caps =>
    refine ⟨fun p hp => hL _ (h.1 p hp), ?_⟩
    have : (caps.map fun p => Value.pointer (some ⟨QR.adr E' p.1, p.2, none⟩)) = caps.map fun p => Value.pointer (some ⟨QR.adr E p.1, p.2, none⟩) := List.map_congr_left fun p hp => by rw [T.adr (h.1 p hp)]
    rw [this]; exact h.2
  | fresh z n r => exact h.elim
  | clo f l => exact Rep.later T h
theorem ConcX.later (T : Later L E E' w w') (G : ∀ m, GB ≤ m → E'.ν m = E.ν m) (hL : ∀ m, L m → L' m) {c : XV} {y : Value} (h : ConcX L E w c y) : ConcX L' E' w' c y := by
  cases c with
  | c x => exact ConcC.later T G hL h
  | agg l => obtain ⟨ys, e, h⟩ := h; exact ⟨ys, e, h.mono fun _ _ => ConcC.later T G hL⟩
theorem ConcS.later (T : Later L E E' w w') (G : ∀ m, GB ≤ m → E'.ν m = E.ν m) (hL : ∀ m, L m → L' m) {c : SV} {y : Value} (h : ConcS L E w c y) : ConcS L' E' w' c y := by
  cases c with
  | x v => exact ConcX.later T G hL h
  | tup l => obtain ⟨ys, e, h⟩ := h; exact ⟨ys, e, h.mono fun _ _ => ConcX.later T G hL⟩
  | eptr m z i off => exact ⟨hL m h.1, h.2.1, by rw [T.nu G h.1]; exact h.2.2⟩
  | view m z l n => exact ⟨hL m h.1, by rw [T.nu G h.1]; exact h.2⟩
  | fptr z r i off =>
    obtain ⟨h0, b, o, arr, t, fr, h1, h2, h3, h4⟩ := h
    refine ⟨h0, b, o, arr, t, fr, T.F b h1, by rw [T.heap b h1]; exact h2, h3, fun j hj => ?_⟩
    obtain ⟨u, e, k⟩ := h4 j hj
    exact ⟨u, e, k.later T⟩
end
def RepRow (F : Nat → Prop) (w : World) (z : Nat) (n : Int) (r : Row) (xs : List Value) : Prop :=
  ∀ i j : Nat, (i : Int) < n → j < z → ∃ u, xs[i * z + j]? = some u ∧ Rep F w (den r i j) u
def live (s : PSt) (m : Nat) : Prop := (s.mem m).isSome = true ∨ (GB ≤ m ∧ (gtab m).isSome = true)
def blockOf (E : Env) (m : Nat) : Blk → Option Nat
  | .cells _ => some (E.β m)
  | .row _ _ _ => (E.ν m).ownBlock
  | _ => none
def BlkOK (base : Nat) (X : Nat → Prop) (L : Nat → Prop) (E : Env) (w : World) (m : Nat) : Blk → Prop
  | .cells l => (base ≤ E.β m ∨ X (E.β m)) ∧ ¬ E.F (E.β m) ∧ ∃ arr t, w.heap[E.β m]? = some (.cells arr t (0, 0)) ∧ Fa2 (ConcC L E w) l arr.toList
  | .row z n r => 0 ≤ n ∧ 0 < z ∧ (∀ k, (E.ν m).ownBlock = some k → ¬ E.F k) ∧ ∃ e xs, w.ownsRow base e z (E.ν m) n.toNat xs ∧ RepRow E.F w z n r xs
  | .fro z n r => Rep E.F w (.slc z n r) (E.ν m)
  | .dead => True
def Laid (F : Nat → Prop) (w : World) : Prop := ∀ m l, gtab m = some l → GB ≤ m → F (m - GB) ∧ ∃ arr t, w.heap[m - GB]? = some (.cells arr t (0, 0)) ∧ Fa2 (Rep F w) l arr.toList
theorem Laid.later {L : Nat → Prop} {E E' : Env} {w w' : World} (T : Later L E E' w w') (h : Laid E.F w) : Laid E'.F w' := by
  intro m l e hm
  obtain ⟨h1, arr, t, h2, h3⟩ := h m l e hm
  exact ⟨T.F _ h1, arr, t, by rw [T.heap _ h1]; exact h2, h3.mono fun _ _ => Rep.later T⟩
def dfOK (base : Nat) (F0 F : Nat → Prop) (w : World) : List Deferred → Prop
  | [] => True
  | d :: l => (∃ D, d = { target := .collected D, args := #[] } ∧ F D ∧ (base ≤ D ∧ ¬ F0 D) ∧ w.heap[D]? = some (.deferred (some [])) ∧ ∀ d' ∈ l, d' ≠ d) ∧ dfOK base F0 F w l
theorem dfOK.later {base : Nat} {F0 F F' : Nat → Prop} {w w' : World} (hF : ∀ k, F k → F' k) (hw : ∀ k, F k → w'.heap[k]? = w.heap[k]?) : ∀ {l : List Deferred}, dfOK base F0 F w l → dfOK base F0 F' w' l
  | [], _ => trivial
  | _ :: _, ⟨⟨D, e, h1, h2, h3, h4⟩, h⟩ => ⟨⟨D, e, hF D h1, h2, by rw [hw D h1]; exact h3, h4⟩, dfOK.later hF hw h⟩
structure RelE (base : Nat) (X F0 : Nat → Prop) (B : Nat → (Nat × Value) × Bool) (E : Env) (s : PSt) (a : Act) (w : World) : Prop where
  defers : dfOK base F0 E.F w a.defers
  size : a.tmps.size = s.tmps.length
  slots : ∀ (t : Nat) (g : GV), s.tmps[t]? = some g → g.k = true → ∃ y, a.tmps[t]? = some y ∧ ConcS (live s) E w g.v y
  mem : ∀ m b, s.mem m = some b → m < GB ∧ BlkOK base X (live s) E w m b
  sep : ∀ m m' b b', s.mem m = some b → s.mem m' = some b' → m ≠ m' → ∀ k, blockOf E m b = some k → blockOf E m' b' ≠ some k
  frz : ∀ k, E.F k → k < w.heap.size ∧ (F0 k ∨ base ≤ k)
  sub : ∀ k, F0 k → E.F k
  glob : Laid E.F w
  old : ∀ k, X k → k < w.heap.size
  pin : ∀ m, PN ≤ m ∨ (B m).2 = true → (s.mem m).isSome = true → E.β m = (B m).1.1 ∧ E.ν m = (B m).1.2
  pinL : ∀ m, (B m).2 = true → (s.mem m).isSome = true
structure Keep (base : Nat) (X : Nat → Prop) (w w' : World) : Prop where
  os : w'.os = w.os
  tape : w'.tape = w.tape
  output : w'.output = w.output
  size : w.heap.size ≤ w'.heap.size
  block : ∀ k, k < base → ¬ X k → w'.heap[k]? = w.heap[k]?
theorem Keep.refl (base : Nat) (X : Nat → Prop) (w : World) : Keep base X w w := ⟨rfl, rfl, rfl, Nat.le_refl _, fun _ _ _ => rfl⟩
theorem Keep.trans {base : Nat} {X : Nat → Prop} {a b c : World} (h : Keep base X a b) (k : Keep base X b c) : Keep base X a c :=
  ⟨k.os.trans h.os, k.tape.trans h.tape, k.output.trans h.output, Nat.le_trans h.size k.size, fun i hi hx => (k.block i hi hx).trans (h.block i hi hx)⟩
structure KeepF (base : Nat) (X F0 : Nat → Prop) (w w' : World) : Prop extends Keep base X w w' where
  fro : ∀ k, F0 k → w'.heap[k]? = w.heap[k]?
theorem KeepF.refl (base : Nat) (X F0 : Nat → Prop) (w : World) : KeepF base X F0 w w := ⟨Keep.refl _ _ _, fun _ _ => rfl⟩
theorem KeepF.trans {base : Nat} {X F0 : Nat → Prop} {a b c : World} (h : KeepF base X F0 a b) (k : KeepF base X F0 b c) : KeepF base X F0 a c :=
  ⟨h.toKeep.trans k.toKeep, fun i hi => (k.fro i hi).trans (h.fro i hi)⟩
theorem ownsRow_heap {w w' : World} {base : Nat} {e : TypeId} {z : Nat} {v : Value} {n : Nat} {xs : List Value} (h : w.ownsRow base e z v n xs) (hw : ∀ k, v.ownBlock = some k → w'.heap[k]? = w.heap[k]?) : w'.ownsRow base e z v n xs := by
  refine ⟨h.1, ?_⟩
  rcases h.2 with hn | ⟨g, cap, cur, rfl, hb, hgg, rest⟩
  · exact .inl hn
  · exact .inr ⟨g, cap, cur, rfl, hb, by rw [hw g rfl]; exact hgg, rest⟩
theorem BlkOK.later {base : Nat} {X L L' : Nat → Prop} {E E' : Env} {w w' : World} (T : Later L E E' w w') (G : ∀ m, GB ≤ m → E'.ν m = E.ν m) (hL : ∀ m, L m → L' m) {m : Nat} {b : Blk} (hm : L m) (hlt : m < GB)
    (h : BlkOK base X L E w m b) (hw : ∀ k, blockOf E m b = some k → w'.heap[k]? = w.heap[k]? ∧ ¬ E'.F k) : BlkOK base X L' E' w' m b := by
  cases b with
  | cells l =>
    obtain ⟨h1, h2, arr, t, h3, h4⟩ := h
    have eb := T.β m hm hlt
    obtain ⟨k1, k2⟩ := hw _ rfl
    unfold BlkOK
    rw [eb]
    exact ⟨h1, k2, arr, t, by rw [k1]; exact h3, h4.mono fun _ _ => ConcC.later T G hL⟩
  | row z n r =>
    obtain ⟨h0, h1, h2, e, xs, h3, h4⟩ := h
    have ev := T.ν m hm hlt
    unfold BlkOK
    rw [ev]
    refine ⟨h0, h1, fun k hk => (hw k hk).2, e, xs, ownsRow_heap h3 fun k hk => (hw k hk).1, fun i j hi hj => ?_⟩
    obtain ⟨u, e1, e2⟩ := h4 i j hi hj
    exact ⟨u, e1, e2.later T⟩
  | fro z n r =>
    have ev := T.ν m hm hlt
    unfold BlkOK at h ⊢
    rw [ev]; exact Rep.later T h
  | dead => trivial
section
variable {base : Nat} {X F0 : Nat → Prop} {B : Nat → (Nat × Value) × Bool} {E : Env} {s : PSt} {a : Act} {w : World}
theorem RelE.eval (R : RelE base X F0 B E s a w) (x : Operand) (hk : (operand s x).k = true) : ConcS (live s) E w (operand s x).v (a.eval x) := by
  cases x with
  | tmp t =>
    simp only [operand, Act.eval] at *
    cases h : s.tmps[t]? with
    | none =>
      have h1 : s.tmps.length ≤ t := by simpa using h
      have h2 : a.tmps[t]? = none := by simp [R.size]; exact h1
      have e : s.tmps.getD t (gnow (.tup [])) = gnow (.tup []) := by simp [List.getD, h]
      have e2 : a.tmps.getD t undef = undef := by simp [h2]
      rw [e, e2]
      exact ⟨[], rfl, trivial⟩
    | some g =>
      have e : s.tmps.getD t (gnow (.tup [])) = g := by simp [List.getD, h]
      rw [e] at hk ⊢
      obtain ⟨y, h1, h2⟩ := R.slots t g h hk
      have e2 : a.tmps.getD t undef = y := by simp [h1]
      rw [e2]; exact h2
  | const v =>
    simp only [operand] at *
    split at hk
    · rename_i hp
      rw [if_pos hp]
      exact Rep.v hp
    · simp [gunk] at hk
  | global g =>
    simp only [operand] at *
    split at hk
    · rename_i hp
      rw [if_pos hp]
      refine ⟨Or.inr ⟨Nat.le_add_right _ _, hp⟩, ?_⟩
      simp [Act.eval, adr, Nat.le_add_right]
    · simp [gunk] at hk
  | func f => exact Rep.v rfl
theorem RelE.go (R : RelE base X F0 B E s a w) {E' : Env} {w' : World} {mem' : Nat → Option Blk} (dst : Option Tmp) (g : GV) (y : Value) (p : Prop) (l : List Tmp) (gen : Nat)
    (T : Later (live s) E E' w w') (G : ∀ m, GB ≤ m → E'.ν m = E.ν m) (hL : ∀ m, (s.mem m).isSome = true → (mem' m).isSome = true)
    (hy : g.k = true → ConcS (live ⟨s.tmps, mem', p, l, gen⟩) E' w' g.v y)
    (hmem : ∀ m b, mem' m = some b → m < GB ∧ BlkOK base X (live ⟨s.tmps, mem', p, l, gen⟩) E' w' m b)
    (hsep : ∀ m m' b b', mem' m = some b → mem' m' = some b' → m ≠ m' → ∀ k, blockOf E' m b = some k → blockOf E' m' b' ≠ some k)
    (hfrz : ∀ k, E'.F k → k < w'.heap.size ∧ (F0 k ∨ base ≤ k)) (hsz : w.heap.size ≤ w'.heap.size) (hpin : ∀ m, PN ≤ m → (mem' m).isSome = true → (s.mem m).isSome = true) :
    RelE base X F0 B E' ⟨setTmp s.tmps dst g, mem', p, l, gen⟩ (a.put dst y) w' := by
  have hLL : ∀ m, live s m → live ⟨s.tmps, mem', p, l, gen⟩ m := fun m hm => hm.elim (fun h => Or.inl (hL m h)) Or.inr
  have hslot : ∀ (t : Nat) (h : GV), s.tmps[t]? = some h → h.k = true → ∃ y, a.tmps[t]? = some y ∧ ConcS (live ⟨s.tmps, mem', p, l, gen⟩) E' w' h.v y := by
    intro t h e hk
    obtain ⟨y, h1, h2⟩ := R.slots t h e hk
    exact ⟨y, h1, ConcS.later T G hLL h2⟩
  refine ⟨?_, ?_, ?_, hmem, hsep, hfrz, fun k hk => T.F k (R.sub k hk), Laid.later T R.glob, fun k hk => Nat.lt_of_lt_of_le (R.old k hk) hsz, fun m hm h => ?_, fun m h => hL m (R.pinL m h)⟩
  · have : (a.put dst y).defers = a.defers := by cases dst <;> rfl
    rw [this]
    exact R.defers.later T.F T.heap
  · cases dst with
    | none => exact R.size
    | some d => simp [Act.put, setTmp, R.size]
  · cases dst with
    | none => exact hslot
    | some d =>
      intro t h e hk
      simp only [setTmp, List.getElem?_set] at e
      simp only [Act.put, Array.getElem?_setIfInBounds]
      split at e
      · rename_i hd
        subst hd
        split at e
        · rename_i hl
          simp only [Option.some.injEq] at e
          subst e
          exact ⟨y, by simp [R.size, hl], hy hk⟩
        · simp at e
      · rename_i hd
        simp only [hd, if_false]
        exact hslot t h e hk
  · have h0 : (s.mem m).isSome = true := hm.elim (fun q => hpin m q h) (fun q => R.pinL m q)
    obtain ⟨b, hb⟩ := Option.isSome_iff_exists.1 h0
    rw [T.β m (Or.inl h0) (R.mem m b hb).1, T.ν m (Or.inl h0) (R.mem m b hb).1]
    exact R.pin m hm h0
theorem blockOf_lt {L : Nat → Prop} {m : Nat} {b : Blk} (h : BlkOK base X L E w m b) {k : Nat} (hk : blockOf E m b = some k) : k < w.heap.size := by
  cases b with
  | cells l =>
    obtain ⟨_, _, arr, t, h3, _⟩ := h
    simp only [blockOf, Option.some.injEq] at hk
    subst hk
    exact (Array.getElem?_eq_some_iff.1 h3).1
  | row z n r =>
    obtain ⟨_, _, _, e, xs, h3, _⟩ := h
    exact (h3.lt k hk).2
  | fro _ _ _ => simp [blockOf] at hk
  | dead => simp [blockOf] at hk
theorem blockOf_nF {L : Nat → Prop} {m : Nat} {b : Blk} (h : BlkOK base X L E w m b) {k : Nat} (hk : blockOf E m b = some k) : ¬ E.F k := by
  cases b with
  | cells l => simp only [blockOf, Option.some.injEq] at hk; subst hk; exact h.2.1
  | row z n r => exact h.2.2.1 k hk
  | fro _ _ _ => simp [blockOf] at hk
  | dead => simp [blockOf] at hk
theorem beq_ne {a b : Nat} (h : a ≠ b) : Nat.beq a b = false := by
  cases e : Nat.beq a b
  · rfl
  · exact absurd (Nat.eq_of_beq_eq_true e) h
theorem applyU_self {m : Nat → Option Blk} {n : Nat} {b : Blk} {l : List (Nat × Blk)} : applyU m ((n, b) :: l) n = some b := by simp [applyU, Nat.beq_refl]
theorem applyU_ne {m : Nat → Option Blk} {n k : Nat} {b : Blk} {l : List (Nat × Blk)} (h : k ≠ n) : applyU m ((n, b) :: l) k = applyU m l k := by simp [applyU, beq_ne h]
theorem applyU_some {m : Nat → Option Blk} : ∀ {l : List (Nat × Blk)} {k : Nat}, (m k).isSome = true → (applyU m l k).isSome = true
  | [], _, h => h
  | (n, b) :: l, k, h => by
    by_cases e : k = n
    · subst e; rw [applyU_self]; rfl
    · rw [applyU_ne e]; exact applyU_some h
theorem applyU_pin {m : Nat → Option Blk} : ∀ {l : List (Nat × Blk)} {k : Nat}, (∀ p ∈ l, p.1 < PN ∨ (m p.1).isSome = true) → PN ≤ k → (applyU m l k).isSome = true → (m k).isSome = true
  | [], _, _, _, h => h
  | (n, b) :: l, k, hl, hk, h => by
    by_cases e : k = n
    · subst e
      rcases hl (k, b) (by simp) with h1 | h1
      · exact absurd h1 (by simp only; omega)
      · exact h1
    · rw [applyU_ne e] at h
      exact applyU_pin (fun p hp => hl p (by simp [hp])) hk h
theorem RelE.new_cells (R : RelE base X F0 B E s a w) (hb : base ≤ w.heap.size) {name : Nat} (hn : s.mem name = none) (hltP : name < PN) (arr : Array Value) (t : TypeId) (l : List CV) (hl : Fa2 (ConcC (live s) E w) l arr.toList)
    (dst : Option Tmp) (p : Prop) (li : List Tmp) (gen : Nat) :
    ∃ E', RelE base X F0 B E' ⟨setTmp s.tmps dst (gnow (.x (.c (.ptr name 0)))), applyU s.mem [(name, .cells l)], p, li, gen⟩ (a.put dst (.pointer (some ⟨w.heap.size, 0, none⟩))) (w.alloc (.cells arr t)) := by
  have hlt : name < GB := Nat.lt_trans hltP PN_lt
  have hnl : ¬ live s name := fun h => h.elim (fun h => by rw [hn] at h; simp at h) (fun h => by omega)
  let E' : Env := ⟨E.F, fun m => if m = name then w.heap.size else E.β m, E.ν⟩
  have T : Later (live s) E E' w (w.alloc (.cells arr t)) := by
    refine ⟨fun _ h => h, fun k hk => heap_alloc_old w _ _ (R.frz k hk).1, fun m hm _ => ?_, fun _ _ _ => rfl⟩
    show (if m = name then w.heap.size else E.β m) = E.β m
    rw [if_neg (fun (e : m = name) => hnl (e ▸ hm))]
  have hLL : ∀ m, live s m → live ⟨s.tmps, applyU s.mem [(name, .cells l)], p, li, gen⟩ m := fun m hm => hm.elim (fun h => Or.inl (applyU_some h)) Or.inr
  have eβ : E'.β name = w.heap.size := by show (if name = name then w.heap.size else E.β name) = _; rw [if_pos rfl]
  have bo : ∀ m b, m ≠ name → blockOf E' m b = blockOf E m b := by
    intro m b hm
    cases b with
    | cells l =>
      show some (if m = name then w.heap.size else E.β m) = some (E.β m)
      rw [if_neg hm]
    | _ => rfl
  refine ⟨E', R.go dst _ _ p li gen T (fun _ _ => rfl) (fun m h => applyU_some h) (fun _ => ?_) ?_ ?_ ?_ (by simp) (fun m hm h => applyU_pin (by simp [hltP]) hm h)⟩
  · refine ⟨Or.inl (by simp only [applyU_self]; rfl), ?_⟩
    rw [adr, if_neg (by omega), eβ]
  · intro m b hm
    by_cases e : m = name
    · subst e
      rw [applyU_self] at hm
      simp only [Option.some.injEq] at hm
      subst hm
      refine ⟨hlt, ?_⟩
      unfold BlkOK
      rw [eβ]
      exact ⟨Or.inl hb, fun h => by have := (R.frz _ h).1; omega, arr, t, heap_alloc_new w _, hl.mono fun _ _ => ConcC.later T (fun _ _ => rfl) hLL⟩
    · rw [applyU_ne e] at hm
      have hm : s.mem m = some b := hm
      obtain ⟨h1, h2⟩ := R.mem m b hm
      refine ⟨h1, BlkOK.later T (fun _ _ => rfl) hLL (Or.inl (by rw [hm]; rfl)) h1 h2 fun k hk => ⟨heap_alloc_old w _ _ (blockOf_lt h2 hk), blockOf_nF h2 hk⟩⟩
  · intro m m' b b' hm hm' hne k hk hk'
    by_cases e : m = name
    · subst e
      have e' : m' ≠ m := fun h => hne h.symm
      rw [applyU_self] at hm
      rw [applyU_ne e'] at hm'
      simp only [Option.some.injEq] at hm
      subst hm
      rw [bo _ _ e'] at hk'
      have := blockOf_lt (R.mem m' b' hm').2 hk'
      simp only [blockOf, Option.some.injEq, eβ] at hk
      omega
    · rw [applyU_ne e] at hm
      rw [bo _ _ e] at hk
      by_cases e' : m' = name
      · subst e'
        rw [applyU_self] at hm'
        simp only [Option.some.injEq] at hm'
        subst hm'
        have := blockOf_lt (R.mem m b hm).2 hk
        simp only [blockOf, Option.some.injEq, eβ] at hk'
        omega
      · rw [applyU_ne e'] at hm'
        rw [bo _ _ e'] at hk'
        exact R.sep m m' b b' hm hm' hne k hk hk'
  · intro k hk
    have := R.frz k hk
    exact ⟨by simp; omega, this.2⟩
theorem RelE.put_cells (R : RelE base X F0 B E s a w) {m : Nat} {l0 l : List CV} (hm0 : s.mem m = some (.cells l0)) (arr : Array Value) (hl : Fa2 (ConcC (live s) E w) l arr.toList)
    (dst : Option Tmp) (g : GV) (y : Value) (hg : g.k = true → ConcS (live s) E w g.v y) (p : Prop) (li : List Tmp) (gen : Nat) :
    RelE base X F0 B E ⟨setTmp s.tmps dst g, applyU s.mem [(m, .cells l)], p, li, gen⟩ (a.put dst y) (w.setRow (E.β m) arr) ∧ KeepF base X F0 w (w.setRow (E.β m) arr) := by
  obtain ⟨hlt, hX, hnF, arr0, t, hh, _⟩ := R.mem m _ hm0
  have T : Later (live s) E E w (w.setRow (E.β m) arr) := ⟨fun _ h => h, fun k hk => setRow_other w _ _ _ (fun e => hnF (e ▸ hk)), fun _ _ _ => rfl, fun _ _ _ => rfl⟩
  have hLL : ∀ k, live s k → live ⟨s.tmps, applyU s.mem [(m, .cells l)], p, li, gen⟩ k := fun m hm => hm.elim (fun h => Or.inl (applyU_some h)) Or.inr
  have bo : ∀ k (b : Blk) (b' : Blk), s.mem k = some b → applyU s.mem [(m, .cells l)] k = some b' → blockOf E k b' = blockOf E k b := by
    intro k b b' h h'
    by_cases e : k = m
    · subst e; rw [applyU_self] at h'; rw [hm0] at h; simp only [Option.some.injEq] at h h'; subst h h'; rfl
    · rw [applyU_ne e] at h'; rw [show applyU s.mem [] k = s.mem k from rfl, h] at h'; simp only [Option.some.injEq] at h'; subst h'; rfl
  have bk : ∀ k (b' : Blk), applyU s.mem [(m, .cells l)] k = some b' → ∃ b, s.mem k = some b := by
    intro k b' h'
    by_cases e : k = m
    · subst e; exact ⟨_, hm0⟩
    · rw [applyU_ne e] at h'; exact ⟨_, h'⟩
  refine ⟨R.go dst g y p li gen T (fun _ _ => rfl) (fun m h => applyU_some h) (fun hk => ConcS.later T (fun _ _ => rfl) hLL (hg hk)) ?_ ?_ (fun k hk => ?_) (by simp [World.setRow]) (fun m' hm h => applyU_pin (by simp [hm0]) hm h), ⟨⟨rfl, rfl, rfl, by simp [World.setRow], fun k hk hx => setRow_other w _ _ _ (fun e => ?_)⟩, fun k hk => T.heap k (R.sub k hk)⟩⟩
  · intro k b hk
    by_cases e : k = m
    · subst e
      rw [applyU_self] at hk
      simp only [Option.some.injEq] at hk
      subst hk
      exact ⟨hlt, hX, hnF, arr, t, setRow_heap w _ _ _ _ _ hh, hl.mono fun _ _ => ConcC.later T (fun _ _ => rfl) hLL⟩
    · rw [applyU_ne e] at hk
      have hk : s.mem k = some b := hk
      obtain ⟨h1, h2⟩ := R.mem k b hk
      refine ⟨h1, BlkOK.later T (fun _ _ => rfl) hLL (Or.inl (by rw [hk]; rfl)) h1 h2 fun j hj => ⟨setRow_other w _ _ _ (fun e' => ?_), blockOf_nF h2 hj⟩⟩
      exact R.sep k m b _ hk hm0 e j hj (by simp [blockOf, e'])
  · intro k k' b b' hk hk' hne j hj hj'
    obtain ⟨c, hc⟩ := bk k b hk
    obtain ⟨c', hc'⟩ := bk k' b' hk'
    rw [bo k c b hc hk] at hj
    rw [bo k' c' b' hc' hk'] at hj'
    exact R.sep k k' c c' hc hc' hne j hj hj'
  · have := R.frz k hk
    exact ⟨by simp [World.setRow]; exact this.1, this.2⟩
  · rcases hX with h | h
    · omega
    · exact hx (e ▸ h)
theorem RelE.put_row (R : RelE base X F0 B E s a w) {m z : Nat} {n : Int} {r0 r : Row} (hm0 : s.mem m = some (.row z n r0)) {w' : World} {k0 : Nat} (hk0 : (E.ν m).ownBlock = some k0) (hw : ∀ k, k ≠ k0 → w'.heap[k]? = w.heap[k]?)
    (hos : w'.os = w.os ∧ w'.tape = w.tape ∧ w'.output = w.output ∧ w'.heap.size = w.heap.size) {e : TypeId} {xs : List Value} (ho : w'.ownsRow base e z (E.ν m) n.toNat xs) (hr : RepRow E.F w z n r xs)
    (dst : Option Tmp) (g : GV) (y : Value) (hg : g.k = true → ConcS (live s) E w g.v y) (p : Prop) (li : List Tmp) (gen : Nat) :
    RelE base X F0 B E ⟨setTmp s.tmps dst g, applyU s.mem [(m, .row z n r)], p, li, gen⟩ (a.put dst y) w' ∧ KeepF base X F0 w w' := by
  obtain ⟨hlt, hn0, hz, hnF, e0, xs0, hown, _⟩ := R.mem m _ hm0
  have hbk := (hown.lt k0 hk0).1
  have T : Later (live s) E E w w' := ⟨fun _ h => h, fun k hk => hw k (fun e => hnF k0 hk0 (e ▸ hk)), fun _ _ _ => rfl, fun _ _ _ => rfl⟩
  have hLL : ∀ k, live s k → live ⟨s.tmps, applyU s.mem [(m, .row z n r)], p, li, gen⟩ k := fun m hm => hm.elim (fun h => Or.inl (applyU_some h)) Or.inr
  have bo : ∀ k (b : Blk) (b' : Blk), s.mem k = some b → applyU s.mem [(m, .row z n r)] k = some b' → blockOf E k b' = blockOf E k b := by
    intro k b b' h h'
    by_cases e : k = m
    · subst e; rw [applyU_self] at h'; rw [hm0] at h; simp only [Option.some.injEq] at h h'; subst h h'; rfl
    · rw [applyU_ne e] at h'; rw [show applyU s.mem [] k = s.mem k from rfl, h] at h'; simp only [Option.some.injEq] at h'; subst h'; rfl
  have bk : ∀ k (b' : Blk), applyU s.mem [(m, .row z n r)] k = some b' → ∃ b, s.mem k = some b := by
    intro k b' h'
    by_cases e : k = m
    · subst e; exact ⟨_, hm0⟩
    · rw [applyU_ne e] at h'; exact ⟨_, h'⟩
  refine ⟨R.go dst g y p li gen T (fun _ _ => rfl) (fun m h => applyU_some h) (fun hk => ConcS.later T (fun _ _ => rfl) hLL (hg hk)) ?_ ?_ (fun k hk => ?_) (by omega) (fun m' hm h => applyU_pin (by simp [hm0]) hm h), ⟨⟨hos.1, hos.2.1, hos.2.2.1, by omega, fun k hk hx => hw k (by omega)⟩, fun k hk => T.heap k (R.sub k hk)⟩⟩
  · intro k b hk
    by_cases e : k = m
    · subst e
      rw [applyU_self] at hk
      simp only [Option.some.injEq] at hk
      subst hk
      refine ⟨hlt, hn0, hz, hnF, _, xs, ho, fun i j hi hj => ?_⟩
      obtain ⟨u, e1, e2⟩ := hr i j hi hj
      exact ⟨u, e1, e2.later T⟩
    · rw [applyU_ne e] at hk
      have hk : s.mem k = some b := hk
      obtain ⟨h1, h2⟩ := R.mem k b hk
      refine ⟨h1, BlkOK.later T (fun _ _ => rfl) hLL (Or.inl (by rw [hk]; rfl)) h1 h2 fun j hj => ⟨hw j (fun e' => ?_), blockOf_nF h2 hj⟩⟩
      exact R.sep k m b _ hk hm0 e j hj (by simp only [blockOf]; rw [e']; exact hk0)
  · intro k k' b b' hk hk' hne j hj hj'
    obtain ⟨c, hc⟩ := bk k b hk
    obtain ⟨c', hc'⟩ := bk k' b' hk'
    rw [bo k c b hc hk] at hj
    rw [bo k' c' b' hc' hk'] at hj'
    exact R.sep k k' c c' hc hc' hne j hj hj'
  · have := R.frz k hk
    exact ⟨by omega, this.2⟩
theorem RelE.redesc (R : RelE base X F0 B E s a w) {m z : Nat} {n : Int} {r0 r : Row} (hm0 : s.mem m = some (.row z n r0)) (hr : ∀ xs, RepRow E.F w z n r0 xs → RepRow E.F w z n r xs)
    (dst : Option Tmp) (g : GV) (y : Value) (hg : g.k = true → ConcS (live s) E w g.v y) (p : Prop) (li : List Tmp) (gen : Nat) :
    RelE base X F0 B E ⟨setTmp s.tmps dst g, applyU s.mem [(m, .row z n r)], p, li, gen⟩ (a.put dst y) w := by
  obtain ⟨hlt, hn0, hz, hnF, e0, xs0, hown, hr0⟩ := R.mem m _ hm0
  have T : Later (live s) E E w w := Later.refl _ _ _
  have hLL : ∀ k, live s k → live ⟨s.tmps, applyU s.mem [(m, .row z n r)], p, li, gen⟩ k := fun m hm => hm.elim (fun h => Or.inl (applyU_some h)) Or.inr
  have bo : ∀ k (b : Blk) (b' : Blk), s.mem k = some b → applyU s.mem [(m, .row z n r)] k = some b' → blockOf E k b' = blockOf E k b := by
    intro k b b' h h'
    by_cases e : k = m
    · subst e; rw [applyU_self] at h'; rw [hm0] at h; simp only [Option.some.injEq] at h h'; subst h h'; rfl
    · rw [applyU_ne e] at h'; rw [show applyU s.mem [] k = s.mem k from rfl, h] at h'; simp only [Option.some.injEq] at h'; subst h'; rfl
  have bk : ∀ k (b' : Blk), applyU s.mem [(m, .row z n r)] k = some b' → ∃ b, s.mem k = some b := by
    intro k b' h'
    by_cases e : k = m
    · subst e; exact ⟨_, hm0⟩
    · rw [applyU_ne e] at h'; exact ⟨_, h'⟩
  refine R.go dst g y p li gen T (fun _ _ => rfl) (fun m h => applyU_some h) (fun hk => ConcS.later T (fun _ _ => rfl) hLL (hg hk)) ?_ ?_ (fun k hk => R.frz k hk) (Nat.le_refl _) (fun m' hm h => applyU_pin (by simp [hm0]) hm h)
  · intro k b hk
    by_cases e : k = m
    · subst e
      rw [applyU_self] at hk
      simp only [Option.some.injEq] at hk
      subst hk
      exact ⟨hlt, hn0, hz, hnF, _, xs0, hown, hr _ hr0⟩
    · rw [applyU_ne e] at hk
      have hk : s.mem k = some b := hk
      obtain ⟨h1, h2⟩ := R.mem k b hk
      exact ⟨h1, BlkOK.later T (fun _ _ => rfl) hLL (Or.inl (by rw [hk]; rfl)) h1 h2 fun j hj => ⟨rfl, blockOf_nF h2 hj⟩⟩
  · intro k k' b b' hk hk' hne j hj hj'
    obtain ⟨c, hc⟩ := bk k b hk
    obtain ⟨c', hc'⟩ := bk k' b' hk'
    rw [bo k c b hc hk] at hj
    rw [bo k' c' b' hc' hk'] at hj'
    exact R.sep k k' c c' hc hc' hne j hj hj'
theorem RelE.new_row (R : RelE base X F0 B E s a w) (hb : base ≤ w.heap.size) {name : Nat} (hn : s.mem name = none) (hltP : name < PN) {w' : World} {v : Value} {row : Option Nat} (hg : w.grownBy w' row)
    {u : List (Nat × Blk)} (hu : (u = [] ∧ row = none) ∨ ∃ m z0 n0 r0, s.mem m = some (.row z0 n0 r0) ∧ row = (E.ν m).ownBlock ∧ u = [(m, .dead)])
    {z : Nat} {n : Int} {r : Row} {e : TypeId} {xs : List Value} (hz : 0 < z) (h0 : 0 ≤ n) (ho : w'.ownsRow base e z v n.toNat xs) (hr : RepRow E.F w' z n r xs) (hfresh : ∀ k, v.ownBlock = some k → w.heap.size ≤ k ∨ row = some k)
    (dst : Option Tmp) (p : Prop) (li : List Tmp) (gen : Nat) :
    (∃ E', RelE base X F0 B E' ⟨setTmp s.tmps dst (gnow (.x (.c (.own name n)))), applyU s.mem ((name, .row z n r) :: u), p, li, gen⟩ (a.put dst v) w') ∧ KeepF base X F0 w w' := by
  have hlt : name < GB := Nat.lt_trans hltP PN_lt
  have hnl : ¬ live s name := fun h => h.elim (fun h => by rw [hn] at h; simp at h) (fun h => by omega)
  have hrowF : ∀ k, row = some k → ¬ E.F k ∧ base ≤ k := by
    intro k hk
    rcases hu with ⟨_, rfl⟩ | ⟨m, z0, n0, r0, hm, rfl, _⟩
    · simp at hk
    · obtain ⟨_, _, _, h3, e0, xs0, h4, _⟩ := R.mem m _ hm
      exact ⟨h3 k hk, (h4.lt k hk).1⟩
  let E' : Env := ⟨E.F, E.β, fun m => if m = name then v else E.ν m⟩
  have T : Later (live s) E E' w w' := by
    refine ⟨fun _ h => h, fun k hk => hg.block k (R.frz k hk).1 (fun e => (hrowF k e.symm).1 hk), fun _ _ _ => rfl, fun m hm _ => ?_⟩
    show (if m = name then v else E.ν m) = E.ν m
    rw [if_neg (fun (e : m = name) => hnl (e ▸ hm))]
  have GG : ∀ m, GB ≤ m → E'.ν m = E.ν m := fun m hm => by show (if m = name then v else E.ν m) = E.ν m; rw [if_neg (by omega)]
  have hLL : ∀ m, live s m → live ⟨s.tmps, applyU s.mem ((name, .row z n r) :: u), p, li, gen⟩ m := fun m hm => hm.elim (fun h => Or.inl (applyU_some h)) Or.inr
  have eν : E'.ν name = v := by show (if name = name then v else E.ν name) = _; rw [if_pos rfl]
  have bo : ∀ m b, m ≠ name → blockOf E' m b = blockOf E m b := by
    intro m b hm
    cases b with
    | row z n r =>
      show (if m = name then v else E.ν m).ownBlock = _
      rw [if_neg hm]; rfl
    | _ => rfl
  have other : ∀ m b, m ≠ name → applyU s.mem ((name, .row z n r) :: u) m = some b → (∃ b0, s.mem m = some b0 ∧ (b = .dead ∨ (b = b0 ∧ ∀ k, blockOf E m b0 = some k → row ≠ some k))) := by
    intro m b hm h
    rw [applyU_ne hm] at h
    rcases hu with ⟨rfl, rfl⟩ | ⟨m0, z0, n0, r0, h0, rfl, rfl⟩
    · exact ⟨b, h, Or.inr ⟨rfl, fun k _ => by simp⟩⟩
    · by_cases e : m = m0
      · subst e
        rw [applyU_self] at h
        simp only [Option.some.injEq] at h
        exact ⟨_, h0, Or.inl h.symm⟩
      · rw [applyU_ne e] at h
        exact ⟨b, h, Or.inr ⟨rfl, fun k hk hr => R.sep m m0 b _ h h0 e k hk (by simpa [blockOf] using hr)⟩⟩
  refine ⟨⟨E', R.go dst _ _ p li gen T GG (fun m h => applyU_some h) (fun _ => ?_) ?_ ?_ (fun k hk => ?_) hg.size (fun m hm h => applyU_pin (fun q hq => ?_) hm h)⟩, ⟨⟨hg.os, hg.tape, hg.output, hg.size, fun k hk _ => hg.block k (by omega) (fun e => by have := (hrowF k e.symm).2; omega)⟩, fun k hk => T.heap k (R.sub k hk)⟩⟩
  · refine ⟨Or.inl (by simp only [applyU_self]; rfl), eν.symm, h0, ?_⟩
    rcases ho.2 with ⟨rfl, hz⟩ | ⟨g, cap, cur, rfl, _⟩
    · exact Or.inl ⟨rfl, by omega⟩
    · exact Or.inr ⟨_, _, rfl⟩
  · intro m b hm
    by_cases e : m = name
    · subst e
      rw [applyU_self] at hm
      simp only [Option.some.injEq] at hm
      subst hm
      refine ⟨hlt, ?_⟩
      unfold BlkOK
      rw [eν]
      refine ⟨h0, hz, fun k hk hF => ?_, _, xs, ho, fun i j hi hj => ?_⟩
      · rcases hfresh k hk with h | h
        · have := (R.frz k hF).1; omega
        · exact (hrowF k h).1 hF
      · exact hr i j hi hj
    · obtain ⟨b0, h1, h2⟩ := other m b e hm
      obtain ⟨k1, k2⟩ := R.mem m b0 h1
      refine ⟨k1, ?_⟩
      rcases h2 with rfl | ⟨rfl, h2⟩
      · trivial
      · exact BlkOK.later T GG hLL (Or.inl (by rw [h1]; rfl)) k1 k2 fun k hk => ⟨hg.block k (blockOf_lt k2 hk) (fun e => h2 k hk e.symm), blockOf_nF k2 hk⟩
  · intro m m' b b' hm hm' hne k hk hk'
    have one : ∀ m b, m ≠ name → applyU s.mem ((name, .row z n r) :: u) m = some b → ∀ k, blockOf E' m b = some k → v.ownBlock ≠ some k := by
      intro m b e hm k hk hv
      obtain ⟨b0, h1, h2⟩ := other m b e hm
      rcases h2 with rfl | ⟨rfl, h2⟩
      · simp [blockOf] at hk
      · rw [bo _ _ e] at hk
        rcases hfresh k hv with h | h
        · have := blockOf_lt (R.mem m b h1).2 hk; omega
        · exact h2 k hk h
    by_cases e : m = name
    · subst e
      rw [applyU_self] at hm
      simp only [Option.some.injEq] at hm
      subst hm
      simp only [blockOf, eν] at hk
      exact one m' b' (fun h => hne h.symm) hm' k hk' hk
    · by_cases e' : m' = name
      · subst e'
        rw [applyU_self] at hm'
        simp only [Option.some.injEq] at hm'
        subst hm'
        simp only [blockOf, eν] at hk'
        exact one m b e hm k hk hk'
      · obtain ⟨b0, h1, h2⟩ := other m b e hm
        obtain ⟨b1, h3, h4⟩ := other m' b' e' hm'
        rcases h2 with rfl | ⟨rfl, h2⟩
        · simp [blockOf] at hk
        rcases h4 with rfl | ⟨rfl, h4⟩
        · simp [blockOf] at hk'
        rw [bo _ _ e] at hk
        rw [bo _ _ e'] at hk'
        exact R.sep m m' b b' h1 h3 hne k hk hk'
  · have := R.frz k hk
    exact ⟨Nat.lt_of_lt_of_le this.1 hg.size, this.2⟩
  · rcases List.mem_cons.1 hq with rfl | hq
    · exact Or.inl hltP
    · rcases hu with ⟨rfl, _⟩ | ⟨m0, z0, n0, r0, h0, _, rfl⟩
      · simp at hq
      · simp only [List.mem_singleton] at hq
        subst hq
        exact Or.inr (by simp [h0])
end
end Go.Proofs.Ytdpmigbenkndbaa.QR
namespace Go.Proofs.Ytdpmigbenkndbaa.QR
open Go.RowKit PR
set_option linter.unusedVariables false
set_option linter.unusedSimpArgs false
def ConcF (F : Nat → Prop) (w : World) : XV → Value → Prop
  | .c x, y => Rep F w x y
  | .agg l, y => ∃ ys : List Value, y = .agg ys.toArray ∧ Fa2 (Rep F w) l ys
def BlockIs (F : Nat → Prop) (w : World) (b : Nat) (l : List CV) : Prop := ∃ arr t, w.heap[b]? = some (.cells arr t (0, 0)) ∧ Fa2 (Rep F w) l arr.toList
def ConcArgs (F : Nat → Prop) (w : World) : List AV → List Value → List Nat → Prop
  | [], [], bs => bs = []
  | .x v :: l, y :: ys, bs => ConcF F w v y ∧ ConcArgs F w l ys bs
  | .ref off c :: l, y :: ys, b :: bs => y = .pointer (some ⟨b, off, none⟩) ∧ ¬ F b ∧ b ∉ bs ∧ BlockIs F w b c ∧ ConcArgs F w l ys bs
  | _, _, _ => False
def ConcRes (F : Nat → Prop) (w : World) : List XV → Value → Prop
  | [v], y => ConcF F w v y
  | l, y => ∃ ys : List Value, y = .tuple ys.toArray ∧ Fa2 (ConcF F w) l ys
def FreshOK (base : Nat) (F : Nat → Prop) (w : World) (z : Nat) (n : Int) (r : Row) (y : Value) : Prop :=
  0 ≤ n ∧ 0 < z ∧ (∀ k, y.ownBlock = some k → ¬ F k) ∧ ∃ e xs, w.ownsRow base e z y n.toNat xs ∧ RepRow F w z n r xs
def RepO (base : Nat) (F : Nat → Prop) (f : Option Value) (w : World) : CV → Value → Prop
  | .fresh z n r, y => f = some y ∧ FreshOK base F w z n r y
  | c, y => Rep F w c y
def ConcO (base : Nat) (F : Nat → Prop) (f : Option Value) (w : World) : XV → Value → Prop
  | .c x, y => RepO base F f w x y
  | .agg l, y => ∃ ys : List Value, y = .agg ys.toArray ∧ Fa2 (RepO base F f w) l ys
def ConcOut (base : Nat) (F : Nat → Prop) (f : Option Value) (w : World) : List XV → Value → Prop
  | [v], y => ConcO base F f w v y
  | l, y => ∃ ys : List Value, y = .tuple ys.toArray ∧ Fa2 (ConcO base F f w) l ys
def Refs (F : Nat → Prop) (w : World) : List Nat → List (List CV) → Prop
  | [], [] => True
  | b :: bs, c :: cs => BlockIs F w b c ∧ Refs F w bs cs
  | _, _ => False
def Post (F : Nat → Prop) (w : World) (bs : List Nat) (ans : Ans) (v : Value) (w' : World) : Prop :=
  Keep w.heap.size (· ∈ bs) w w' ∧ ∃ (F' : Nat → Prop) (f : Option Value), (∀ k, F k → F' k) ∧ (∀ k, F' k → k < w'.heap.size ∧ (F k ∨ w.heap.size ≤ k)) ∧ ConcOut w.heap.size F' f w' ans.res v ∧ Refs F' w' bs ans.upd
def DoesX (P : Program) (f : FuncId) (al : List AV) (ans : Ans) : Prop :=
  ∀ (w : World) (F : Nat → Prop) (ys : List Value) (bs : List Nat), Laid F w → (∀ k, F k → k < w.heap.size) → ConcArgs F w al ys bs →
    (∃ v w', (callFunc f ys.toArray).run P w = .ok (.value v) w' ∧ Post F w bs ans v w') ∨
    ((callFunc f ys.toArray).run P w = .ok (.enter f ys.toArray) w ∧ Calls P f ys.toArray w fun e w' => ∃ v, e = .returned v ∧ Post F w bs ans v w')
def SubOf (z : Nat) (l n : Int) (y v : Value) : Prop :=
  (n = 0 ∧ ∃ ad c, v = .slice ad 0 c ∧ (ad = none → c = 0)) ∨ ∃ b off N c c', y = .slice (some ⟨b, off, none⟩) N c ∧ v = .slice (some ⟨b, off + l.toNat * z, none⟩) n.toNat c' ∧ n.toNat ≤ c'
def valA : List Value → Nat → Nat → Option Value
  | y :: _, 0, j => y.cells.toList[j]?
  | _ :: l, k + 1, j => valA l k j
  | [], _, _ => none
def DoesV (P : Program) (f : FuncId) (al : List AV) (v : Nat × Nat × Int × Int) : Prop :=
  ∀ (w : World) (F : Nat → Prop) (ys : List Value), Laid F w → (∀ k, F k → k < w.heap.size) → ConcArgs F w al ys [] →
    (callFunc f ys.toArray).run P w = .ok (.enter f ys.toArray) w ∧ Calls P f ys.toArray w fun e w' => ∃ r y z, e = .returned r ∧ Keep w.heap.size (fun _ => False) w w' ∧ slcA al v.1 v.2.1 = some z ∧ valA ys v.1 v.2.1 = some y ∧ SubOf z v.2.2.1 v.2.2.2 y r
def OSound (P : Program) (O : Oracle) : Prop := ∀ f al ans, O f al = some ans → (∀ p ∈ ans.ask, p) → DoesX P f al ans ∨ (∃ v, viewA ans.res = some v ∧ DoesV P f al v) ∨ (keepU ans.upd = true ∧ DoesX P f al ⟨ans.res, refCells al, ans.ask⟩)
theorem ConcF.mono {F F' : Nat → Prop} {w w' : World} (hF : ∀ k, F k → F' k) (hw : ∀ k, F k → w'.heap[k]? = w.heap[k]?) {x : XV} {y : Value} (h : ConcF F w x y) : ConcF F' w' x y := by
  cases x with
  | c x => exact Rep.mono hF hw h
  | agg l => obtain ⟨ys, e, h⟩ := h; exact ⟨ys, e, h.mono fun _ _ => Rep.mono hF hw⟩
theorem ConcC.of_fz {L : Nat → Prop} {E : Env} {w : World} {c : CV} {y : Value} (h : Rep E.F w c y) : ConcC L E w c y := by
  cases c with
  | v x => exact h
  | slc z n r => exact h
  | own m n => cases h
  | ptr m off => cases h
  | fn f caps => cases h
  | fresh z n r => cases h
  | clo f l => exact h
theorem ConcX.of_fz {L : Nat → Prop} {E : Env} {w : World} {c : XV} {y : Value} (h : ConcF E.F w c y) : ConcX L E w c y := by
  cases c with
  | c x => exact ConcC.of_fz h
  | agg l => obtain ⟨ys, e, h⟩ := h; exact ⟨ys, e, h.mono fun _ _ => ConcC.of_fz⟩
theorem ConcS.of_res {L : Nat → Prop} {E : Env} {w : World} {l : List XV} {y : Value} (h : ConcRes E.F w l y) : ConcS L E w (resS l) y := by
  match l, h with
  | [v], h => exact ConcX.of_fz h
  | [], ⟨ys, e, h⟩ => exact ⟨ys, e, h.mono fun _ _ => ConcX.of_fz⟩
  | _ :: _ :: _, ⟨ys, e, h⟩ => exact ⟨ys, e, h.mono fun _ _ => ConcX.of_fz⟩
theorem RepO.of {base : Nat} {F : Nat → Prop} {f : Option Value} {w : World} {c : CV} {y : Value} (h : Rep F w c y) : RepO base F f w c y := by
  cases c with
  | fresh z n r => cases h
  | _ => exact h
theorem ConcO.of {base : Nat} {F : Nat → Prop} {f : Option Value} {w : World} {c : XV} {y : Value} (h : ConcF F w c y) : ConcO base F f w c y := by
  cases c with
  | c x => exact RepO.of h
  | agg l => obtain ⟨ys, e, h⟩ := h; exact ⟨ys, e, h.mono fun _ _ => RepO.of⟩
theorem ConcOut.of {base : Nat} {F : Nat → Prop} {f : Option Value} {w : World} {l : List XV} {y : Value} (h : ConcRes F w l y) : ConcOut base F f w l y := by
  match l, h with
  | [v], h => exact ConcO.of h
  | [], ⟨ys, e, h⟩ => exact ⟨ys, e, h.mono fun _ _ => ConcO.of⟩
  | _ :: _ :: _, ⟨ys, e, h⟩ => exact ⟨ys, e, h.mono fun _ _ => ConcO.of⟩
theorem app_nil {α : Type} {l m : List α} (h : l ++ m = []) : l = [] ∧ m = [] := List.append_eq_nil_iff.1 h
theorem RepO.plain {base : Nat} {F : Nat → Prop} {f : Option Value} {w : World} {c : CV} {y : Value} (hc : freshC c = []) (h : RepO base F f w c y) : Rep F w c y := by
  cases c with
  | fresh z n r => simp [freshC] at hc
  | _ => exact h
theorem RepO.plains {base : Nat} {F : Nat → Prop} {f : Option Value} {w : World} : ∀ {l : List CV} {ys : List Value}, freshL l = [] → Fa2 (RepO base F f w) l ys → Fa2 (Rep F w) l ys
  | [], [], _, _ => trivial
  | [], _ :: _, _, h => h.elim
  | _ :: _, [], _, h => h.elim
  | c :: l, y :: ys, e, h => by
    obtain ⟨e1, e2⟩ := app_nil e
    exact ⟨h.1.plain e1, RepO.plains e2 h.2⟩
theorem ConcO.plain {base : Nat} {F : Nat → Prop} {f : Option Value} {w : World} {c : XV} {y : Value} (hc : freshL (cellsOf c) = []) (h : ConcO base F f w c y) : ConcF F w c y := by
  cases c with
  | c x => exact RepO.plain (app_nil hc).1 h
  | agg l => obtain ⟨ys, e, h⟩ := h; exact ⟨ys, e, RepO.plains hc h⟩
theorem ConcO.plains {base : Nat} {F : Nat → Prop} {f : Option Value} {w : World} : ∀ {l : List XV} {ys : List Value}, freshs l = [] → Fa2 (ConcO base F f w) l ys → Fa2 (ConcF F w) l ys
  | [], [], _, _ => trivial
  | [], _ :: _, _, h => h.elim
  | _ :: _, [], _, h => h.elim
  | c :: l, y :: ys, e, h => by
    obtain ⟨e1, e2⟩ := app_nil e
    exact ⟨h.1.plain e1, ConcO.plains e2 h.2⟩
theorem ConcOut.plain {base : Nat} {F : Nat → Prop} {f : Option Value} {w : World} {l : List XV} {y : Value} (hl : freshs l = []) (h : ConcOut base F f w l y) : ConcRes F w l y := by
  match l, h with
  | [v], h => exact ConcO.plain (app_nil hl).1 h
  | [], ⟨ys, e, h⟩ => exact ⟨ys, e, ConcO.plains hl h⟩
  | _ :: _ :: _, ⟨ys, e, h⟩ => exact ⟨ys, e, ConcO.plains hl h⟩
theorem Rep.flat {F F' : Nat → Prop} {w w' : World} {c : CV} {y : Value} (hc : isV c = true) (h : Rep F w c y) : Rep F' w' c y := by
  cases h with
  | v h => exact .v h
  | nil _ _ => simp [isV] at hc
  | slc _ _ _ _ _ _ _ => simp [isV] at hc
  | clo _ _ => simp [isV] at hc
theorem ConcF.flat {F F' : Nat → Prop} {w w' : World} {x : XV} {y : Value} (hx : (cellsOf x).all isV = true) (h : ConcF F w x y) : ConcF F' w' x y := by
  cases x with
  | c x => simp only [cellsOf, List.all_cons, List.all_nil, Bool.and_true] at hx; exact Rep.flat hx h
  | agg l =>
    obtain ⟨ys, e, h⟩ := h
    exact ⟨ys, e, Fa2.monoM (fun c hc y => Rep.flat (List.all_eq_true.1 hx c hc)) h⟩
theorem ConcRes.flat {F F' : Nat → Prop} {w w' : World} {l : List XV} {y : Value} (hx : allV l = true) (h : ConcRes F w l y) : ConcRes F' w' l y := by
  have hx : ∀ x ∈ l, (cellsOf x).all isV = true := List.all_eq_true.1 hx
  match l, h with
  | [v], h => exact ConcF.flat (hx v (by simp)) h
  | [], ⟨ys, e, h⟩ => exact ⟨ys, e, Fa2.monoM (fun c hc y => ConcF.flat (hx c hc)) h⟩
  | _ :: _ :: _, ⟨ys, e, h⟩ => exact ⟨ys, e, Fa2.monoM (fun c hc y => ConcF.flat (hx c hc)) h⟩
section
variable {P : Program} {O : Oracle} {base : Nat} {X F0 : Nat → Prop} {B : Nat → (Nat × Value) × Bool} {E : Env} {s : PSt} {a : Act} {w : World}
theorem own_rep {m z : Nat} {n : Int} {r : Row} (h : BlkOK base X (live s) E w m (.row z n r)) {F' : Nat → Prop} (hF : ∀ k, E.F k → F' k) (hk : ∀ k, (E.ν m).ownBlock = some k → F' k) : Rep F' w (.slc z n r) (E.ν m) := by
  obtain ⟨h0, hz, _, e, xs, ho, hr⟩ := h
  obtain ⟨k, rfl⟩ := Int.eq_ofNat_of_zero_le h0
  rcases ho.2 with ⟨hv, hn⟩ | ⟨g, cap, cur, hv, _, hg, hnc, _, hcs, htake⟩
  · have : k = 0 := by simpa using hn
    subst this
    rw [hv]; exact .nil hz (fun _ => rfl)
  · have hv' : E.ν m = .slice (some ⟨g, 0, none⟩) k cap := by rw [hv]; simp
    rw [hv']
    have hgF : F' g := hk g (by rw [hv]; rfl)
    refine .slc (fun i j => (xs[i * z + j]?).getD undef) hz (by simpa using hnc) hgF hg (fun i j hi hj => ?_) (fun i j hi hj => ?_)
    · obtain ⟨u, e1, _⟩ := hr i j (by omega) hj
      rw [e1, Option.getD_some, Nat.zero_add, ← Array.getElem?_toList]
      rw [← htake, List.getElem?_take] at e1
      split at e1
      · exact e1
      · simp at e1
    · obtain ⟨u, e1, e2⟩ := hr i j (by omega) hj
      rw [e1, Option.getD_some]
      exact e2.mono hF (fun _ _ => rfl)
def callF (E : Env) (s : PSt) (rows : List Nat) (k : Nat) : Prop := E.F k ∨ ∃ m ∈ rows, ∃ z n r, s.mem m = some (.row z n r) ∧ (E.ν m).ownBlock = some k
theorem resC_sound (R : RelE base X F0 B E s a w) {c d : CV} {ms rows : List Nat} {y : Value} (h : resC s c = some (d, ms)) (hm : ∀ m ∈ ms, m ∈ rows) (hc : ConcC (live s) E w c y) : Rep (callF E s rows) w d y := by
  unfold resC at h
  split at h
  · rename_i m n
    split at h <;> try (simp at h; done)
    rename_i z k r hrow
    simp only [Option.some.injEq, Prod.mk.injEq] at h
    obtain ⟨rfl, rfl⟩ := h
    rw [hc.2.1]
    unfold rowOf at hrow
    split at hrow <;> try (simp at hrow; done)
    · rename_i z' n' r' hmem
      simp only [Option.some.injEq, Prod.mk.injEq] at hrow
      obtain ⟨rfl, rfl, rfl⟩ := hrow
      exact own_rep (R.mem m _ hmem).2 (fun k hk => Or.inl hk) fun k hk => Or.inr ⟨m, hm m (by simp), _, _, _, hmem, hk⟩
    · rename_i z' n' r' hmem
      simp only [Option.some.injEq, Prod.mk.injEq] at hrow
      obtain ⟨rfl, rfl, rfl⟩ := hrow
      have := (R.mem m _ hmem).2
      exact Rep.mono (fun k hk => Or.inl hk) (fun _ _ => rfl) this
  · simp at h
  · simp at h
  · simp at h
  · simp only [Option.some.injEq, Prod.mk.injEq] at h
    obtain ⟨rfl, rfl⟩ := h
    cases c with
    | v x => exact Rep.mono (fun k hk => Or.inl hk) (fun _ _ => rfl) hc
    | slc z n r => exact Rep.mono (fun k hk => Or.inl hk) (fun _ _ => rfl) hc
    | own m n => simp_all
    | ptr m off => simp_all
    | fn f caps => simp_all
    | fresh z n r => exact hc.elim
    | clo f l => exact Rep.mono (fun k hk => Or.inl hk) (fun _ _ => rfl) hc
theorem row_rep (R : RelE base X F0 B E s a w) {m z : Nat} {n : Int} {r : Row} {rows : List Nat} (hrow : rowOf s m = some (z, n, r)) (hm : m ∈ rows) : Rep (callF E s rows) w (.slc z n r) (E.ν m) := by
  unfold rowOf at hrow
  split at hrow <;> try (simp at hrow; done)
  · rename_i z' n' r' hmem
    simp only [Option.some.injEq, Prod.mk.injEq] at hrow
    obtain ⟨rfl, rfl, rfl⟩ := hrow
    exact own_rep (R.mem m _ hmem).2 (fun k hk => Or.inl hk) fun k hk => Or.inr ⟨m, hm, _, _, _, hmem, hk⟩
  · rename_i z' n' r' hmem
    simp only [Option.some.injEq, Prod.mk.injEq] at hrow
    obtain ⟨rfl, rfl, rfl⟩ := hrow
    have := (R.mem m _ hmem).2
    exact Rep.mono (fun k hk => Or.inl hk) (fun _ _ => rfl) this
theorem IsPart.rep {F : Nat → Prop} {w : World} {z : Nat} {l n N : Int} {r : Row} {ν y : Value} (h : IsPart ν z l n y) (hy : Rep F w (.slc z N r) ν) : Rep F w (.slc z n (.sub r l)) y := by
  have hz : 0 < z := by cases hy <;> assumption
  obtain ⟨h0, h1, h⟩ := h
  rcases h with ⟨rfl, ad, c, rfl, h⟩ | ⟨b, c, ln, c', rfl, h2, h3, rfl⟩
  · exact .nil hz h
  · obtain ⟨n, rfl⟩ := Int.eq_ofNat_of_zero_le h1
    obtain ⟨l, rfl⟩ := Int.eq_ofNat_of_zero_le h0
    simp only [Int.toNat_natCast] at h2 h3 ⊢
    cases hy with
    | nil _ _ =>
      obtain rfl : n = 0 := by omega
      exact .nil hz (by simp)
    | slc u hz hc hF hg hu hr =>
      refine .slc (fun i j => u (i + l) j) hz h3 hF hg (fun i j hi hj => ?_) (fun i j hi hj => ?_)
      · have := hu (i + l) j (by omega) hj
        rw [Nat.add_mul] at this
        rw [← this]
        congr 1
        omega
      · have := hr (i + l) j (by omega) hj
        show Rep F w (den r (addZ i l) j) _
        rw [show addZ (i : Int) (l : Int) = ((i + l : Nat) : Int) by unfold addZ; omega]
        exact this
theorem viewR_sound (R : RelE base X F0 B E s a w) {m z : Nat} {l n : Int} {d : CV} {ms rows : List Nat} {y : Value} (h : viewR s m z l n = some (d, ms)) (hm : ∀ k ∈ ms, k ∈ rows) (hc : ConcS (live s) E w (.view m z l n) y) : Rep (callF E s rows) w d y := by
  unfold viewR at h
  split at h <;> try (simp at h; done)
  rename_i z' N r hrow
  split at h <;> try (simp at h; done)
  rename_i hz
  have hz := Nat.eq_of_beq_eq_true hz
  subst hz
  simp only [Option.some.injEq, Prod.mk.injEq] at h
  obtain ⟨rfl, rfl⟩ := h
  exact hc.2.rep (row_rep R hrow (hm m (by simp)))
theorem resL_sound (R : RelE base X F0 B E s a w) {rows : List Nat} : ∀ {l d : List CV} {ms : List Nat} {ys : List Value}, resL s l = some (d, ms) → (∀ m ∈ ms, m ∈ rows) → Fa2 (ConcC (live s) E w) l ys → Fa2 (Rep (callF E s rows) w) d ys
  | [], d, ms, ys, h, _, hc => by
    simp only [resL, Option.some.injEq, Prod.mk.injEq] at h
    obtain ⟨rfl, rfl⟩ := h
    cases ys with
    | nil => trivial
    | cons => exact hc.elim
  | c :: l, d, ms, ys, h, hm, hc => by
    unfold resL at h
    split at h <;> try (simp at h; done)
    rename_i d1 a1 d2 a2 h1 h2
    simp only [Option.some.injEq, Prod.mk.injEq] at h
    obtain ⟨rfl, rfl⟩ := h
    cases ys with
    | nil => exact hc.elim
    | cons y ys => exact ⟨resC_sound R h1 (fun m hh => hm m (by simp [hh])) hc.1, resL_sound R h2 (fun m hh => hm m (by simp [hh])) hc.2⟩
theorem argsA_sound (R : RelE base X F0 B E s a w) {rows0 : List Nat} : ∀ {l : List SV} {al : List AV} {rows refs : List Nat} {ys : List Value}, argsA s l = some (al, rows, refs) → (∀ m ∈ rows, m ∈ rows0) → distinct refs = true → Fa2 (ConcS (live s) E w) l ys →
    ConcArgs (callF E s rows0) w al ys (refs.map E.β) ∧ ∀ m ∈ refs, ∃ l, s.mem m = some (.cells l)
  | [], al, rows, refs, ys, h, _, _, hc => by
    simp only [argsA, Option.some.injEq, Prod.mk.injEq] at h
    obtain ⟨rfl, rfl, rfl⟩ := h
    cases ys with
    | nil => exact ⟨rfl, by simp⟩
    | cons => exact hc.elim
  | v :: l, al, rows, refs, ys, h, hm, hd, hc => by
    unfold argsA at h
    split at h <;> try (simp at h; done)
    rename_i g al' rows' refs' h1 h2
    simp only [Option.some.injEq, Prod.mk.injEq] at h
    obtain ⟨rfl, rfl, rfl⟩ := h
    cases ys with
    | nil => exact hc.elim
    | cons y ys =>
    obtain ⟨c1, c2⟩ := hc
    have hd2 : distinct refs' = true := by
      clear h1
      generalize g.refs = q at hd
      induction q with
      | nil => simpa using hd
      | cons x q ih =>
        simp only [List.cons_append, distinct, Bool.and_eq_true] at hd
        exact ih hd.2
    obtain ⟨i1, i2⟩ := argsA_sound R h2 (fun m hh => hm m (by simp [hh])) hd2 c2
    have hmg : ∀ m ∈ g.rows, m ∈ rows0 := fun m hh => hm m (by simp [hh])
    unfold argA at h1
    split at h1
    · -- an address
      rename_i m off
      split at h1 <;> try (simp at h1; done)
      rename_i lc hmem
      split at h1 <;> try (simp at h1; done)
      rename_i k aa hres
      simp only [Option.some.injEq] at h1
      subst h1
      obtain ⟨b1, b2, b3, arr, t, b4, b5⟩ := R.mem m _ hmem
      have hy : y = .pointer (some ⟨E.β m, off, none⟩) := by
        have := c1.2
        rw [adr, if_neg (by omega)] at this
        exact this
      simp only [List.cons_append, List.nil_append, distinct, Bool.and_eq_true, Bool.not_eq_true', List.any_eq_false] at hd
      refine ⟨⟨hy, ?_, ?_, ⟨arr, t, b4, resL_sound R hres hmg b5⟩, i1⟩, ?_⟩
      · rintro (hF | ⟨m', hm', z, n, r, e1, e2⟩)
        · exact b3 hF
        · exact R.sep m m' _ _ hmem e1 (fun e => by subst e; rw [hmem] at e1; simp at e1) _ rfl e2
      · intro hin
        obtain ⟨m', hm', e⟩ := List.mem_map.1 hin
        obtain ⟨l', hl'⟩ := i2 m' hm'
        have hne : m ≠ m' := fun e => by
          have := hd.1 m' hm'
          rw [e, Nat.beq_refl] at this; simp at this
        exact R.sep m m' _ _ hmem hl' hne _ rfl (by simp [blockOf, e])
      · intro m' hm'
        rcases List.mem_cons.1 hm' with rfl | hm'
        · exact ⟨_, hmem⟩
        · exact i2 m' hm'
    · -- one cell
      rename_i c hnp
      split at h1 <;> try (simp at h1; done)
      rename_i d aa hres
      simp only [Option.some.injEq] at h1
      subst h1
      exact ⟨⟨resC_sound R hres hmg c1, i1⟩, i2⟩
    · -- cells
      rename_i lc
      split at h1 <;> try (simp at h1; done)
      rename_i d aa hres
      simp only [Option.some.injEq] at h1
      subst h1
      obtain ⟨zs, e, hz⟩ := c1
      exact ⟨⟨⟨zs, e, resL_sound R hres hmg hz⟩, i1⟩, i2⟩
    · -- a part of a row of one's own
      rename_i m z l n
      split at h1 <;> try (simp at h1; done)
      rename_i d aa hres
      simp only [Option.some.injEq] at h1
      subst h1
      exact ⟨⟨viewR_sound R hres hmg c1, i1⟩, i2⟩
    · simp at h1
theorem froze_spec {rows : List Nat} {u : List (Nat × Blk)} : ∀ {m : Nat} {b : Blk}, applyU s.mem (froze s rows ++ u) m = some b →
    (∃ z n r, s.mem m = some (.row z n r) ∧ m ∈ rows ∧ b = .fro z n r) ∨ (applyU s.mem u m = some b ∧ ∀ z n r, s.mem m = some (.row z n r) → m ∉ rows) := by
  induction rows with
  | nil => intro m b h; exact Or.inr ⟨h, by simp⟩
  | cons x rows ih =>
    intro m b h
    unfold froze at h
    split at h
    · rename_i z n r hx
      by_cases e : m = x
      · subst e
        rw [List.cons_append, applyU_self] at h
        simp only [Option.some.injEq] at h
        exact Or.inl ⟨z, n, r, hx, by simp, h.symm⟩
      · rw [List.cons_append, applyU_ne e] at h
        rcases ih h with ⟨z', n', r', h1, h2, h3⟩ | ⟨h1, h2⟩
        · exact Or.inl ⟨z', n', r', h1, by simp [h2], h3⟩
        · exact Or.inr ⟨h1, fun z' n' r' h3 h4 => by
            rcases List.mem_cons.1 h4 with h4 | h4
            · exact e h4
            · exact h2 z' n' r' h3 h4⟩
    · rename_i hx
      rcases ih h with ⟨z', n', r', h1, h2, h3⟩ | ⟨h1, h2⟩
      · exact Or.inl ⟨z', n', r', h1, by simp [h2], h3⟩
      · exact Or.inr ⟨h1, fun z' n' r' h3 h4 => by
          rcases List.mem_cons.1 h4 with h4 | h4
          · subst h4; exact hx _ _ _ h3
          · exact h2 z' n' r' h3 h4⟩
theorem zipU_spec {F' : Nat → Prop} {w' : World} : ∀ {refs : List Nat} {cs : List (List CV)} {u : List (Nat × Blk)} {m : Nat} {b : Blk}, zipU refs cs = some u → Refs F' w' (refs.map E.β) cs → applyU s.mem u m = some b →
    (m ∈ refs ∧ ∃ c, b = .cells c ∧ BlockIs F' w' (E.β m) c) ∨ (s.mem m = some b ∧ m ∉ refs)
  | [], [], u, m, b, h, _, hm => by
    simp only [zipU, Option.some.injEq] at h
    subst h
    exact Or.inr ⟨hm, by simp⟩
  | x :: refs, c :: cs, u, m, b, h, hr, hm => by
    unfold zipU at h
    split at h <;> try (simp at h; done)
    rename_i u' h1
    simp only [Option.some.injEq] at h
    subst h
    by_cases e : m = x
    · subst e
      rw [applyU_self] at hm
      simp only [Option.some.injEq] at hm
      exact Or.inl ⟨by simp, c, hm.symm, hr.1⟩
    · rw [applyU_ne e] at hm
      rcases zipU_spec h1 hr.2 hm with ⟨h2, h3⟩ | ⟨h2, h3⟩
      · exact Or.inl ⟨by simp [h2], h3⟩
      · exact Or.inr ⟨h2, by simp [e, h3]⟩
  | [], _ :: _, u, m, b, h, _, _ => by simp [zipU] at h
  | _ :: _, [], u, m, b, h, _, _ => by simp [zipU] at h
theorem conc_laid (R : RelE base X F0 B E s a w) (rows : List Nat) : Laid (callF E s rows) w := by
  intro m l e hm
  obtain ⟨h1, arr, t, h2, h3⟩ := R.glob m l e hm
  exact ⟨Or.inl h1, arr, t, h2, h3.mono fun _ _ => Rep.mono (fun k hk => Or.inl hk) (fun _ _ => rfl)⟩
theorem callF_lt (R : RelE base X F0 B E s a w) {rows : List Nat} {k : Nat} (h : callF E s rows k) : k < w.heap.size := by
  rcases h with h | ⟨m, _, z, n, r, h1, h2⟩
  · exact (R.frz k h).1
  · exact blockOf_lt (R.mem m _ h1).2 h2
theorem RelE.calledE (R : RelE base X F0 B E s a w) (hb : base ≤ w.heap.size) {rows refs : List Nat} (hrefs : ∀ m ∈ refs, ∃ l, s.mem m = some (.cells l)) {res : List XV} {cs : List (List CV)} {v : Value} {w' : World} {F' : Nat → Prop}
    (hk : Keep w.heap.size (· ∈ refs.map E.β) w w') (hF1 : ∀ k, callF E s rows k → F' k) (hF2 : ∀ k, F' k → k < w'.heap.size ∧ (callF E s rows k ∨ w.heap.size ≤ k)) (hres : ConcRes F' w' res v) (hups : Refs F' w' (refs.map E.β) cs)
    {u : List (Nat × Blk)} (hu : zipU refs cs = some u) (dst : Option Tmp) (p : Prop) (li : List Tmp) (gen : Nat) :
    (RelE base X F0 B ⟨F', E.β, E.ν⟩ ⟨setTmp s.tmps dst (gnow (resS res)), applyU s.mem (froze s rows ++ u), p, li, gen⟩ (a.put dst v) w' ∧ ∀ m b, applyU s.mem (froze s rows ++ u) m = some b → ∃ b0, s.mem m = some b0 ∧ ∀ k, blockOf ⟨F', E.β, E.ν⟩ m b = some k → blockOf E m b0 = some k) ∧ KeepF base X F0 w w' := by
  have refX : ∀ k ∈ refs.map E.β, (base ≤ k ∨ X k) ∧ ¬ callF E s rows k := by
    intro k hk
    obtain ⟨m, hm, rfl⟩ := List.mem_map.1 hk
    obtain ⟨l, hl⟩ := hrefs m hm
    obtain ⟨_, h1, h2, _⟩ := R.mem m _ hl
    refine ⟨h1, ?_⟩
    rintro (h | ⟨m', hm', z, n, r, e1, e2⟩)
    · exact h2 h
    · exact R.sep m m' _ _ hl e1 (fun e => by subst e; rw [hl] at e1; simp at e1) _ rfl e2
  have same : ∀ k, callF E s rows k → w'.heap[k]? = w.heap[k]? := fun k h => hk.block k (callF_lt R h) (fun hin => (refX k hin).2 h)
  let E' : Env := ⟨F', E.β, E.ν⟩
  have T : Later (live s) E E' w w' := ⟨fun k h => hF1 k (Or.inl h), fun k h => same k (Or.inl h), fun _ _ _ => rfl, fun _ _ _ => rfl⟩
  have hLL : ∀ m, live s m → live ⟨s.tmps, applyU s.mem (froze s rows ++ u), p, li, gen⟩ m := fun m hm => hm.elim (fun h => Or.inl (applyU_some h)) Or.inr
  have what : ∀ m b, applyU s.mem (froze s rows ++ u) m = some b → (∃ z n r, s.mem m = some (.row z n r) ∧ m ∈ rows ∧ b = .fro z n r) ∨ (∃ l c, s.mem m = some (.cells l) ∧ b = .cells c ∧ BlockIs F' w' (E.β m) c) ∨ (s.mem m = some b ∧ m ∉ refs ∧ ∀ z n r, s.mem m = some (.row z n r) → m ∉ rows) := by
    intro m b h
    rcases froze_spec h with h | ⟨h, h'⟩
    · exact Or.inl h
    · rcases zipU_spec hu hups h with ⟨h1, c, h2, h3⟩ | ⟨h1, h2⟩
      · obtain ⟨l, hl⟩ := hrefs m h1
        exact Or.inr (Or.inl ⟨l, c, hl, h2, h3⟩)
      · exact Or.inr (Or.inr ⟨h1, h2, h'⟩)
  have bo : ∀ m b, applyU s.mem (froze s rows ++ u) m = some b → ∃ b0, s.mem m = some b0 ∧ ∀ k, blockOf E' m b = some k → blockOf E m b0 = some k := by
    intro m b h
    rcases what m b h with ⟨z, n, r, h1, _, rfl⟩ | ⟨l, c, h1, rfl, _⟩ | ⟨h1, _, _⟩
    · exact ⟨_, h1, fun k hk => by simp [blockOf] at hk⟩
    · exact ⟨_, h1, fun k hk => hk⟩
    · exact ⟨_, h1, fun k hk => by cases b <;> exact hk⟩
  refine ⟨⟨R.go (E' := E') dst _ _ p li gen T (fun _ _ => rfl) (fun m h => applyU_some h) (fun _ => ConcS.of_res hres) ?_ ?_ (fun k h => ?_) hk.size (fun m hm h => by obtain ⟨b, hb⟩ := Option.isSome_iff_exists.1 h; obtain ⟨b0, e0, _⟩ := bo m b hb; rw [e0]; rfl), bo⟩, ⟨⟨hk.os, hk.tape, hk.output, hk.size, fun k h hx => hk.block k (by omega) fun hin => ?_⟩, fun k h => same k (Or.inl (R.sub k h))⟩⟩
  · intro m b h
    rcases what m b h with ⟨z, n, r, h1, h2, rfl⟩ | ⟨l, c, h1, rfl, h3⟩ | ⟨h1, h2, h3⟩
    · obtain ⟨k1, k2⟩ := R.mem m _ h1
      refine ⟨k1, ?_⟩
      have := own_rep k2 (F' := callF E s rows) (fun k hk => Or.inl hk) fun k hk => Or.inr ⟨m, h2, z, n, r, h1, hk⟩
      exact Rep.mono hF1 same this
    · obtain ⟨k1, k2, k3, arr, t, k4, k5⟩ := R.mem m _ h1
      obtain ⟨arr', t', h4, h5⟩ := h3
      refine ⟨k1, k2, fun hF => ?_, arr', t', h4, h5.mono fun _ _ => ConcC.of_fz⟩
      have lt : E.β m < w.heap.size := (Array.getElem?_eq_some_iff.1 k4).1
      rcases (hF2 _ hF).2 with (h | ⟨m', hm', z, n, r, e1, e2⟩) | h
      · exact k3 h
      · exact R.sep m m' _ _ h1 e1 (fun e => by subst e; rw [h1] at e1; simp at e1) _ rfl e2
      · have : E'.β m = E.β m := rfl
        omega
    · obtain ⟨k1, k2⟩ := R.mem m b h1
      refine ⟨k1, BlkOK.later T (fun _ _ => rfl) hLL (Or.inl (by rw [h1]; rfl)) k1 k2 fun k hk' => ⟨hk.block k (blockOf_lt k2 hk') fun hin => ?_, fun hF => ?_⟩⟩
      · obtain ⟨m', hm', e⟩ := List.mem_map.1 hin
        obtain ⟨l', hl'⟩ := hrefs m' hm'
        exact R.sep m m' _ _ h1 hl' (fun e => h2 (e ▸ hm')) k hk' (by simp [blockOf, e])
      · have lt := blockOf_lt k2 hk'
        rcases (hF2 _ hF).2 with (h | ⟨m', hm', z, n, r, e1, e2⟩) | h
        · exact blockOf_nF k2 hk' h
        · by_cases e : m = m'
          · subst e; exact h3 _ _ _ e1 hm'
          · exact R.sep m m' _ _ h1 e1 e k hk' e2
        · omega
  · intro m m' b b' h h' hne k hk1 hk2
    obtain ⟨b0, e0, f0⟩ := bo m b h
    obtain ⟨b1, e1, f1⟩ := bo m' b' h'
    exact R.sep m m' b0 b1 e0 e1 hne k (f0 k hk1) (f1 k hk2)
  · have := hF2 k h
    refine ⟨this.1, ?_⟩
    rcases this.2 with (h | ⟨m', hm', z, n, r, e1, e2⟩) | h
    · exact (R.frz k h).2
    · obtain ⟨_, _, _, _, e0, xs0, h4, _⟩ := R.mem m' _ e1
      exact Or.inr (h4.lt k e2).1
    · exact Or.inr (by omega)
  · rcases (refX k hin).1 with h1 | h1
    · omega
    · exact hx h1
theorem RelE.called (R : RelE base X F0 B E s a w) (hb : base ≤ w.heap.size) {rows refs : List Nat} (hrefs : ∀ m ∈ refs, ∃ l, s.mem m = some (.cells l)) {ans : Ans} {v : Value} {w' : World} (hp : Post (callF E s rows) w (refs.map E.β) ans v w') (hf : freshs ans.res = [])
    {u : List (Nat × Blk)} (hu : zipU refs ans.upd = some u) (dst : Option Tmp) (p : Prop) (li : List Tmp) (gen : Nat) :
    (∃ E', RelE base X F0 B E' ⟨setTmp s.tmps dst (gnow (resS ans.res)), applyU s.mem (froze s rows ++ u), p, li, gen⟩ (a.put dst v) w') ∧ KeepF base X F0 w w' := by
  obtain ⟨hk, F', f, hF1, hF2, hres, hups⟩ := hp
  obtain ⟨⟨h1, _⟩, h2⟩ := R.calledE hb hrefs hk hF1 hF2 (hres.plain hf) hups hu dst p li gen
  exact ⟨⟨_, h1⟩, h2⟩
theorem RelE.adopt (R : RelE base X F0 B E s a w) {name : Nat} (hn : s.mem name = none) (hltP : name < PN) {z : Nat} {n : Int} {r : Row} {v : Value} (hbase : base ≤ w.heap.size) {base' : Nat} (hb' : base ≤ base') (hv : FreshOK base' E.F w z n r v)
    (hsep : ∀ k, v.ownBlock = some k → ∀ m b, s.mem m = some b → blockOf E m b ≠ some k) (dst : Option Tmp) (g : GV) (y : Value) (p : Prop) (li : List Tmp) (gen : Nat)
    (hy : g.k = true → ConcS (live ⟨s.tmps, applyU s.mem [(name, .row z n r)], p, li, gen⟩) ⟨E.F, E.β, fun m => if m = name then v else E.ν m⟩ w g.v y) :
    RelE base X F0 B ⟨E.F, E.β, fun m => if m = name then v else E.ν m⟩ ⟨setTmp s.tmps dst g, applyU s.mem [(name, .row z n r)], p, li, gen⟩ (a.put dst y) w := by
  have hlt : name < GB := Nat.lt_trans hltP PN_lt
  have hnl : ¬ live s name := fun h => h.elim (fun h => by rw [hn] at h; simp at h) (fun h => by omega)
  let E' : Env := ⟨E.F, E.β, fun m => if m = name then v else E.ν m⟩
  have T : Later (live s) E E' w w := ⟨fun _ h => h, fun _ _ => rfl, fun _ _ _ => rfl, fun m hm _ => by
    show (if m = name then v else E.ν m) = E.ν m
    rw [if_neg (fun (e : m = name) => hnl (e ▸ hm))]⟩
  have GG : ∀ m, GB ≤ m → E'.ν m = E.ν m := fun m hm => by show (if m = name then v else E.ν m) = E.ν m; rw [if_neg (by omega)]
  have hLL : ∀ m, live s m → live ⟨s.tmps, applyU s.mem [(name, .row z n r)], p, li, gen⟩ m := fun m hm => hm.elim (fun h => Or.inl (applyU_some h)) Or.inr
  have eν : E'.ν name = v := by show (if name = name then v else E.ν name) = _; rw [if_pos rfl]
  have bo : ∀ m b, m ≠ name → blockOf E' m b = blockOf E m b := by
    intro m b hm
    cases b with
    | row z n r =>
      show (if m = name then v else E.ν m).ownBlock = _
      rw [if_neg hm]; rfl
    | _ => rfl
  obtain ⟨h0, hz, hnF, e, xs, ho, hr⟩ := hv
  have ho' : w.ownsRow base e z v n.toNat xs := by
    refine ⟨ho.1, ?_⟩
    rcases ho.2 with h | ⟨g, cap, cur, h1, h2, h3⟩
    · exact .inl h
    · exact .inr ⟨g, cap, cur, h1, Nat.le_trans hb' h2, h3⟩
  refine R.go (E' := E') dst g y p li gen T GG (fun m h => applyU_some h) hy ?_ ?_ R.frz (Nat.le_refl _) (fun m hm h => applyU_pin (fun q hq => ?_) hm h)
  · intro m b hm
    by_cases q : m = name
    · subst q
      rw [applyU_self] at hm
      simp only [Option.some.injEq] at hm
      subst hm
      refine ⟨hlt, ?_⟩
      unfold BlkOK
      rw [eν]
      exact ⟨h0, hz, hnF, e, xs, ho', hr⟩
    · rw [applyU_ne q] at hm
      have hm : s.mem m = some b := hm
      obtain ⟨k1, k2⟩ := R.mem m b hm
      exact ⟨k1, BlkOK.later T GG hLL (Or.inl (by rw [hm]; rfl)) k1 k2 fun k hk => ⟨rfl, blockOf_nF k2 hk⟩⟩
  · intro m m' b b' hm hm' hne k hk hk'
    by_cases q : m = name
    · subst q
      rw [applyU_self] at hm
      simp only [Option.some.injEq] at hm
      subst hm
      simp only [blockOf, eν] at hk
      have q' : m' ≠ m := fun h => hne h.symm
      rw [applyU_ne q'] at hm'
      rw [bo _ _ q'] at hk'
      exact hsep k hk m' b' hm' hk'
    · by_cases q' : m' = name
      · subst q'
        rw [applyU_self] at hm'
        simp only [Option.some.injEq] at hm'
        subst hm'
        simp only [blockOf, eν] at hk'
        rw [applyU_ne q] at hm
        rw [bo _ _ q] at hk
        exact hsep k hk' m b hm hk
      · rw [applyU_ne q] at hm
        rw [applyU_ne q'] at hm'
        rw [bo _ _ q] at hk
        rw [bo _ _ q'] at hk'
        exact R.sep m m' b b' hm hm' hne k hk hk'
  · simp only [List.mem_singleton] at hq
    subst hq
    exact Or.inl hltP
theorem fresh_get {base : Nat} {F : Nat → Prop} {f : Option Value} {w : World} {z : Nat} {n : Int} {r : Row} : ∀ {l : List CV} {ys : List Value}, (z, n, r) ∈ freshL l → Fa2 (RepO base F f w) l ys → ∃ y, f = some y ∧ FreshOK base F w z n r y
  | [], ys, h, _ => by simp [freshL] at h
  | c :: l, [], _, k => k.elim
  | c :: l, y :: ys, h, k => by
    simp only [freshL, List.mem_append] at h
    rcases h with h | h
    · cases c with
      | fresh z' n' r' =>
        simp only [freshC, List.mem_singleton, Prod.mk.injEq] at h
        obtain ⟨rfl, rfl, rfl⟩ := h
        exact ⟨y, k.1⟩
      | _ => simp [freshC] at h
    · exact fresh_get h k.2
theorem fresh_getX {base : Nat} {F : Nat → Prop} {f : Option Value} {w : World} {z : Nat} {n : Int} {r : Row} {x : XV} {y : Value} (h : (z, n, r) ∈ freshL (cellsOf x)) (k : ConcO base F f w x y) : ∃ y, f = some y ∧ FreshOK base F w z n r y := by
  cases x with
  | c x => exact fresh_get (ys := [y]) h ⟨k, trivial⟩
  | agg l => obtain ⟨ys, _, k⟩ := k; exact fresh_get h k
theorem fresh_getXs {base : Nat} {F : Nat → Prop} {f : Option Value} {w : World} {z : Nat} {n : Int} {r : Row} : ∀ {l : List XV} {ys : List Value}, (z, n, r) ∈ freshs l → Fa2 (ConcO base F f w) l ys → ∃ y, f = some y ∧ FreshOK base F w z n r y
  | [], ys, h, _ => by simp [freshs] at h
  | c :: l, [], _, k => k.elim
  | c :: l, y :: ys, h, k => by
    simp only [freshs, List.mem_append] at h
    rcases h with h | h
    · exact fresh_getX h k.1
    · exact fresh_getXs h k.2
theorem fresh_getOut {base : Nat} {F : Nat → Prop} {f : Option Value} {w : World} {z : Nat} {n : Int} {r : Row} {l : List XV} {v : Value} (h : (z, n, r) ∈ freshs l) (k : ConcOut base F f w l v) : ∃ y, f = some y ∧ FreshOK base F w z n r y := by
  match l, k with
  | [x], k => exact fresh_getXs (ys := [v]) h ⟨k, trivial⟩
  | [], ⟨ys, _, k⟩ => exact fresh_getXs h k
  | _ :: _ :: _, ⟨ys, _, k⟩ => exact fresh_getXs h k
section
variable {L : Nat → Prop} {E2 : Env} {name : Nat}
theorem own_cell {base' : Nat} {F : Nat → Prop} {f : Value} {w : World} (hL : L name) (hν : E2.ν name = f) (hF : E2.F = F) {c : CV} {y : Value} (h : RepO base' F (some f) w c y) : ConcC L E2 w (ownC name c) y := by
  cases c with
  | fresh z n r =>
    obtain ⟨e, h0, hz, _, el, xs, ho, _⟩ := h
    simp only [Option.some.injEq] at e
    subst e
    refine ⟨hL, hν.symm, h0, ?_⟩
    rcases ho.2 with ⟨h1, h2⟩ | ⟨g, cap, cur, h1, _⟩
    · exact Or.inl ⟨h1, by omega⟩
    · exact Or.inr ⟨g, cap, h1⟩
  | v x => subst hF; exact ConcC.of_fz (c := .v x) h
  | slc z n r => subst hF; exact ConcC.of_fz (c := .slc z n r) h
  | own m n => cases h
  | ptr m off => cases h
  | fn g caps => cases h
  | clo f l => subst hF; exact ConcC.of_fz (c := .clo f l) h
theorem own_cells {base' : Nat} {F : Nat → Prop} {f : Value} {w : World} (hL : L name) (hν : E2.ν name = f) (hF : E2.F = F) : ∀ {l : List CV} {ys : List Value}, Fa2 (RepO base' F (some f) w) l ys → Fa2 (ConcC L E2 w) (l.map (ownC name)) ys
  | [], [], _ => trivial
  | [], _ :: _, h => h.elim
  | _ :: _, [], h => h.elim
  | c :: l, y :: ys, h => ⟨own_cell hL hν hF h.1, own_cells hL hν hF h.2⟩
theorem own_x {base' : Nat} {F : Nat → Prop} {f : Value} {w : World} (hL : L name) (hν : E2.ν name = f) (hF : E2.F = F) {c : XV} {y : Value} (h : ConcO base' F (some f) w c y) : ConcX L E2 w (ownX name c) y := by
  cases c with
  | c x => exact own_cell hL hν hF h
  | agg l => obtain ⟨ys, e, h⟩ := h; exact ⟨ys, e, own_cells hL hν hF h⟩
theorem own_xs {base' : Nat} {F : Nat → Prop} {f : Value} {w : World} (hL : L name) (hν : E2.ν name = f) (hF : E2.F = F) : ∀ {l : List XV} {ys : List Value}, Fa2 (ConcO base' F (some f) w) l ys → Fa2 (ConcX L E2 w) (l.map (ownX name)) ys
  | [], [], _ => trivial
  | [], _ :: _, h => h.elim
  | _ :: _, [], h => h.elim
  | c :: l, y :: ys, h => ⟨own_x hL hν hF h.1, own_xs hL hν hF h.2⟩
theorem own_out {base' : Nat} {F : Nat → Prop} {f : Value} {w : World} (hL : L name) (hν : E2.ν name = f) (hF : E2.F = F) {l : List XV} {v : Value} (h : ConcOut base' F (some f) w l v) : ConcS L E2 w (resS (l.map (ownX name))) v := by
  match l, h with
  | [x], h => exact own_x hL hν hF h
  | [], ⟨ys, e, h⟩ => exact ⟨ys, e, own_xs hL hν hF h⟩
  | x :: x' :: l, ⟨ys, e, h⟩ => exact ⟨ys, e, own_xs hL hν hF h⟩
end
theorem RelE.viewed (R : RelE base X F0 B E s a w) (hb : base ≤ w.heap.size) {v : Value} {w' : World} (hk : Keep w.heap.size (fun _ => False) w w') {sv : SV} (hv : ConcS (live s) E w sv v) (dst : Option Tmp) (p : Prop) (li : List Tmp) (gen : Nat) :
    RelE base X F0 B E ⟨setTmp s.tmps dst (gnow sv), applyU s.mem [], p, li, gen⟩ (a.put dst v) w' ∧ KeepF base X F0 w w' := by
  have same : ∀ k, k < w.heap.size → w'.heap[k]? = w.heap[k]? := fun k h => hk.block k h (by simp)
  have T : Later (live s) E E w w' := ⟨fun _ h => h, fun k h => same k (R.frz k h).1, fun _ _ _ => rfl, fun _ _ _ => rfl⟩
  refine ⟨R.go dst _ _ p li gen T (fun _ _ => rfl) (fun _ h => h) (fun _ => ConcS.later T (fun _ _ => rfl) (fun _ h => h) hv) (fun m b h => ?_) R.sep (fun k h => ?_) hk.size (fun _ _ h => h), ⟨⟨hk.os, hk.tape, hk.output, hk.size, fun k h _ => same k (by omega)⟩, fun k h => T.heap k (R.sub k h)⟩⟩
  · obtain ⟨k1, k2⟩ := R.mem m b h
    have h : s.mem m = some b := h
    exact ⟨k1, BlkOK.later T (fun _ _ => rfl) (fun _ h => h) (Or.inl (by rw [h]; rfl)) k1 k2 fun k hk' => ⟨same k (blockOf_lt k2 hk'), blockOf_nF k2 hk'⟩⟩
  · have := R.frz k h
    exact ⟨Nat.lt_of_lt_of_le this.1 hk.size, this.2⟩
theorem RelE.calledF (R : RelE base X F0 B E s a w) (hb : base ≤ w.heap.size) {rows refs : List Nat} (hrefs : ∀ m ∈ refs, ∃ l, s.mem m = some (.cells l)) {ans : Ans} {v : Value} {w' : World} (hp : Post (callF E s rows) w (refs.map E.β) ans v w') {z : Nat} {n : Int} {r : Row} (hf : freshs ans.res = [(z, n, r)])
    {u : List (Nat × Blk)} (hu : zipU refs ans.upd = some u) {name : Nat} (hn : s.mem name = none) (hltP : name < PN) (dst : Option Tmp) (p : Prop) (li : List Tmp) (gen : Nat) :
    (∃ E', RelE base X F0 B E' ⟨setTmp s.tmps dst (gnow (resS (ans.res.map (ownX name)))), applyU s.mem ((name, .row z n r) :: (froze s rows ++ u)), p, li, gen⟩ (a.put dst v) w') ∧ KeepF base X F0 w w' := by
  obtain ⟨hk, F', f, hF1, hF2, hres, hups⟩ := hp
  obtain ⟨⟨R1, bo⟩, k2⟩ := R.calledE hb hrefs hk hF1 hF2 (res := []) (v := .tuple #[]) ⟨[], rfl, trivial⟩ hups hu none p li gen
  obtain ⟨y, rfl, hy⟩ := fresh_getOut (z := z) (n := n) (r := r) (by rw [hf]; simp) hres
  have hn1 : applyU s.mem (froze s rows ++ u) name = none := by
    cases h : applyU s.mem (froze s rows ++ u) name with
    | none => rfl
    | some b => obtain ⟨b0, e, _⟩ := bo name b h; rw [hn] at e; simp at e
  have hblk : ∀ k, y.ownBlock = some k → w.heap.size ≤ k := by
    obtain ⟨_, _, _, e, xs, ho, _⟩ := hy
    exact fun k hk => (ho.lt k hk).1
  refine ⟨⟨_, RelE.adopt (s := ⟨s.tmps, applyU s.mem (froze s rows ++ u), p, li, gen⟩) (a := a) R1 hn1 hltP (Nat.le_trans hb hk.size) hb hy (fun k hk' m b hm hbl => ?_) dst _ v p li gen (fun _ => own_out (F := F') (Or.inl (by simp only [applyU_self]; rfl)) (by simp) rfl hres)⟩, k2⟩
  obtain ⟨b0, e0, h0⟩ := bo m b hm
  have := blockOf_lt (R.mem m b0 e0).2 (h0 k hbl)
  have := hblk k hk'
  omega
section
variable {E2 : Env} {L : Nat → Prop} {w : World} {name : Nat} {base' : Nat} {F : Nat → Prop} {f : Value}
theorem flat_cell (hL : L name) (hν : E2.ν name = f) {c : CV} {y : Value} (hc : (isV c || isFresh c) = true) (h : RepO base' F (some f) w c y) : ConcC L E2 w (ownC name c) y := by
  cases c with
  | fresh z n r =>
    obtain ⟨e, h0, hz, _, el, xs, ho, _⟩ := h
    simp only [Option.some.injEq] at e
    subst e
    refine ⟨hL, hν.symm, h0, ?_⟩
    rcases ho.2 with ⟨h1, h2⟩ | ⟨g, cap, cur, h1, _⟩
    · exact Or.inl ⟨h1, by omega⟩
    · exact Or.inr ⟨g, cap, h1⟩
  | v x => exact ConcC.of_fz (c := .v x) (Rep.flat rfl (show Rep F w (.v x) y from h))
  | _ => simp [isV, isFresh] at hc
theorem flat_cells (hL : L name) (hν : E2.ν name = f) : ∀ {l : List CV} {ys : List Value}, (l.all fun c => isV c || isFresh c) = true → Fa2 (RepO base' F (some f) w) l ys → Fa2 (ConcC L E2 w) (l.map (ownC name)) ys
  | [], [], _, _ => trivial
  | [], _ :: _, _, h => h.elim
  | _ :: _, [], _, h => h.elim
  | c :: l, y :: ys, hc, h => by
    simp only [List.all_cons, Bool.and_eq_true] at hc
    exact ⟨flat_cell hL hν hc.1 h.1, flat_cells hL hν hc.2 h.2⟩
theorem flat_x (hL : L name) (hν : E2.ν name = f) {c : XV} {y : Value} (hc : ((cellsOf c).all fun c => isV c || isFresh c) = true) (h : ConcO base' F (some f) w c y) : ConcX L E2 w (ownX name c) y := by
  cases c with
  | c x => simp only [cellsOf, List.all_cons, List.all_nil, Bool.and_true] at hc; exact flat_cell hL hν hc h
  | agg l => obtain ⟨ys, e, h⟩ := h; exact ⟨ys, e, flat_cells hL hν hc h⟩
theorem flat_xs (hL : L name) (hν : E2.ν name = f) : ∀ {l : List XV} {ys : List Value}, allVO l = true → Fa2 (ConcO base' F (some f) w) l ys → Fa2 (ConcX L E2 w) (l.map (ownX name)) ys
  | [], [], _, _ => trivial
  | [], _ :: _, _, h => h.elim
  | _ :: _, [], _, h => h.elim
  | c :: l, y :: ys, hc, h => by
    unfold allVO at hc
    simp only [List.all_cons, Bool.and_eq_true] at hc
    exact ⟨flat_x hL hν hc.1 h.1, flat_xs hL hν hc.2 h.2⟩
theorem flat_out (hL : L name) (hν : E2.ν name = f) {l : List XV} {v : Value} (hc : allVO l = true) (h : ConcOut base' F (some f) w l v) : ConcS L E2 w (resS (l.map (ownX name))) v := by
  match l, h with
  | [x], h => unfold allVO at hc; simp only [List.all_cons, List.all_nil, Bool.and_true] at hc; exact flat_x hL hν hc h
  | [], ⟨ys, e, h⟩ => exact ⟨ys, e, flat_xs hL hν hc h⟩
  | x :: x' :: l, ⟨ys, e, h⟩ => exact ⟨ys, e, flat_xs hL hν hc h⟩
end
theorem RelE.calledP (R : RelE base X F0 B E s a w) (hb : base ≤ w.heap.size) {rows : List Nat} {ans : Ans} {v : Value} {w' : World} (hp : Post (callF E s rows) w [] ans v w') {z : Nat} {n : Int} {r : Row} (hf : freshs ans.res = [(z, n, r)]) (hr : flatRow z n r) (hv : allVO ans.res = true)
    {name : Nat} (hn : s.mem name = none) (hltP : name < PN) (dst : Option Tmp) (p : Prop) (li : List Tmp) (gen : Nat) :
    (∃ E', RelE base X F0 B E' ⟨setTmp s.tmps dst (gnow (resS (ans.res.map (ownX name)))), applyU s.mem [(name, .row z n r)], p, li, gen⟩ (a.put dst v) w') ∧ KeepF base X F0 w w' := by
  obtain ⟨hk, F', f, hF1, hF2, hres, hups⟩ := hp
  have hk' : Keep w.heap.size (fun _ => False) w w' := ⟨hk.os, hk.tape, hk.output, hk.size, fun k h _ => hk.block k h (by simp)⟩
  obtain ⟨R1, k2⟩ := R.viewed hb hk' (sv := .tup []) (v := .tuple #[]) ⟨[], rfl, trivial⟩ none p li gen
  obtain ⟨y, rfl, hy⟩ := fresh_getOut (z := z) (n := n) (r := r) (by rw [hf]; simp) hres
  have hy' : FreshOK w.heap.size E.F w' z n r y := by
    obtain ⟨h0, hz, hnF, e, xs, ho, hrr⟩ := hy
    refine ⟨h0, hz, fun k hk hF => hnF k hk (hF1 k (Or.inl hF)), e, xs, ho, fun i j hi hj => ?_⟩
    obtain ⟨u, e1, e2⟩ := hrr i j hi hj
    exact ⟨u, e1, Rep.flat (hr i j hi hj) e2⟩
  have hblk : ∀ k, y.ownBlock = some k → w.heap.size ≤ k := by
    obtain ⟨_, _, _, e, xs, ho, _⟩ := hy
    exact fun k hk => (ho.lt k hk).1
  refine ⟨⟨_, RelE.adopt (s := ⟨s.tmps, s.mem, p, li, gen⟩) (a := a) R1 hn hltP (Nat.le_trans hb hk.size) hb hy' (fun k hk' m b hm hbl => ?_) dst _ v p li gen (fun _ => flat_out (Or.inl (by simp only [applyU_self]; rfl)) (by simp) hv hres)⟩, k2⟩
  have := blockOf_lt (R.mem m b hm).2 hbl
  have := hblk k hk'
  omega
theorem RelE.called0 (R : RelE base X F0 B E s a w) (hb : base ≤ w.heap.size) {ans : Ans} {v : Value} {w' : World} {F : Nat → Prop} (hp : Post F w [] ans v w') (hv : allV ans.res = true) (hf : freshs ans.res = []) (dst : Option Tmp) (p : Prop) (li : List Tmp) (gen : Nat) :
    RelE base X F0 B E ⟨setTmp s.tmps dst (gnow (resS ans.res)), applyU s.mem [], p, li, gen⟩ (a.put dst v) w' ∧ KeepF base X F0 w w' := by
  obtain ⟨hk, F', f, hF1, hF2, hres, _⟩ := hp
  replace hres := hres.plain hf
  have same : ∀ k, k < w.heap.size → w'.heap[k]? = w.heap[k]? := fun k h => hk.block k h (by simp)
  have T : Later (live s) E E w w' := ⟨fun _ h => h, fun k h => same k (R.frz k h).1, fun _ _ _ => rfl, fun _ _ _ => rfl⟩
  refine ⟨R.go dst _ _ p li gen T (fun _ _ => rfl) (fun _ h => h) (fun _ => ConcS.of_res (ConcRes.flat hv hres)) (fun m b h => ?_) R.sep (fun k h => ?_) hk.size (fun _ _ h => h), ⟨⟨hk.os, hk.tape, hk.output, hk.size, fun k h _ => same k (by omega)⟩, fun k h => T.heap k (R.sub k h)⟩⟩
  · obtain ⟨k1, k2⟩ := R.mem m b h
    have h : s.mem m = some b := h
    exact ⟨k1, BlkOK.later T (fun _ _ => rfl) (fun _ h => h) (Or.inl (by rw [h]; rfl)) k1 k2 fun k hk' => ⟨same k (blockOf_lt k2 hk'), blockOf_nF k2 hk'⟩⟩
  · have := R.frz k h
    exact ⟨Nat.lt_of_lt_of_le this.1 hk.size, this.2⟩
theorem resL_same {s : PSt} : ∀ {l k : List CV}, resL s l = some (k, []) → k = l
  | [], k, h => by simp only [resL, Option.some.injEq, Prod.mk.injEq] at h; exact h.1.symm
  | c :: l, k, h => by
    unfold resL at h
    split at h <;> try (simp at h; done)
    rename_i d a m b h1 h2
    simp only [Option.some.injEq, Prod.mk.injEq, List.append_eq_nil_iff] at h
    obtain ⟨rfl, rfl, rfl⟩ := h
    rw [resL_same h2]
    congr 1
    cases c with
    | own m n =>
      simp only [resC] at h1
      split at h1 <;> simp at h1
    | ptr m off => simp [resC] at h1
    | fn f l => simp [resC] at h1
    | fresh z n r => simp [resC] at h1
    | v x => simp only [resC, Option.some.injEq, Prod.mk.injEq, and_true] at h1; exact h1.symm
    | slc z n r => simp only [resC, Option.some.injEq, Prod.mk.injEq, and_true] at h1; exact h1.symm
    | clo f l => simp only [resC, Option.some.injEq, Prod.mk.injEq, and_true] at h1; exact h1.symm
theorem refs_same {s : PSt} : ∀ {l : List SV} {al : List AV} {refs : List Nat}, argsA s l = some (al, [], refs) → ∃ u, zipU refs (refCells al) = some u ∧ ∀ p ∈ u, s.mem p.1 = some p.2
  | [], al, refs, h => by
    simp only [argsA, Option.some.injEq, Prod.mk.injEq, true_and] at h
    obtain ⟨rfl, rfl⟩ := h
    exact ⟨[], rfl, by simp⟩
  | v :: l, al, refs, h => by
    unfold argsA at h
    split at h <;> try (simp at h; done)
    rename_i g al' rows' refs' h1 h2
    simp only [Option.some.injEq, Prod.mk.injEq, List.append_eq_nil_iff] at h
    obtain ⟨rfl, ⟨hr, rfl⟩, rfl⟩ := h
    obtain ⟨u, e, hu⟩ := refs_same h2
    unfold argA at h1
    split at h1
    · rename_i m off
      split at h1 <;> try (simp at h1; done)
      rename_i c hm
      split at h1 <;> try (simp at h1; done)
      rename_i k a hk
      simp only [Option.some.injEq] at h1
      subst h1
      simp only at hr
      subst hr
      obtain rfl := resL_same hk
      refine ⟨(m, .cells k) :: u, ?_, fun p hp => ?_⟩
      · show zipU (m :: refs') (k :: refCells al') = _
        unfold zipU
        rw [e]
      · rcases List.mem_cons.1 hp with rfl | hp
        · exact hm
        · exact hu p hp
    · split at h1 <;> try (simp at h1; done)
      simp only [Option.some.injEq] at h1
      subst h1
      exact ⟨u, e, hu⟩
    · split at h1 <;> try (simp at h1; done)
      simp only [Option.some.injEq] at h1
      subst h1
      exact ⟨u, e, hu⟩
    · split at h1 <;> try (simp at h1; done)
      simp only [Option.some.injEq] at h1
      subst h1
      exact ⟨u, e, hu⟩
    · simp at h1
theorem applyU_same {m : Nat → Option Blk} : ∀ {u : List (Nat × Blk)}, (∀ p ∈ u, m p.1 = some p.2) → applyU m u = m
  | [], _ => rfl
  | (n, b) :: l, h => by
    have ih := applyU_same (m := m) (u := l) fun p hp => h p (by simp [hp])
    funext k
    unfold applyU
    rw [ih]
    cases e : Nat.beq k n
    · rfl
    · rw [cond_true, Nat.eq_of_beq_eq_true e]; exact (h (n, b) (by simp)).symm
theorem no_keep {F : Nat → Prop} {w : World} {bs : List Nat} {ans : Ans} {v : Value} {w' : World} (h : Post F w bs ans v w') (hv : keepU ans.upd = true) : False := by
  obtain ⟨_, F', f, _, _, _, h⟩ := h
  unfold keepU at hv
  split at hv <;> try (simp at hv; done)
  rename_i m n e
  rw [e] at h
  match bs, h with
  | [b], ⟨⟨arr, t, _, h⟩, _⟩ =>
    cases ha : arr.toList with
    | nil => rw [ha] at h; exact h
    | cons y ys =>
      rw [ha] at h
      have h1 : Rep F' w' (.own m n) y := h.1
      cases h1
theorem no_view {F : Nat → Prop} {w : World} {bs : List Nat} {ans : Ans} {v : Value} {w' : World} {q : Nat × Nat × Int × Int} (h : Post F w bs ans v w') (hv : viewA ans.res = some q) : False := by
  obtain ⟨_, F', f, _, _, h, _⟩ := h
  unfold viewA at hv
  split at hv <;> try (simp at hv; done)
  rename_i e
  rw [e] at h
  obtain ⟨ys, _, h⟩ : ∃ ys : List Value, v = .agg ys.toArray ∧ Fa2 (RepO w.heap.size F' f w') _ ys := h
  match ys, h with
  | y :: ys, h =>
    have h1 : Rep F' w' (.own _ _) y := h.1
    cases h1
theorem SubOf.view {L : Nat → Prop} {E : Env} {w : World} {z m : Nat} {l n N : Int} {y v : Value} (h : SubOf z l n y v) (hy : ConcC L E w (.own m N) y) (h0 : 0 ≤ l) (h1 : 0 ≤ n) (h2 : l + n ≤ N) : ConcS L E w (.view m z l n) v := by
  obtain ⟨g1, g2, g3, g4⟩ := hy
  refine ⟨g1, h0, h1, ?_⟩
  rcases h with ⟨rfl, ad, c, rfl, h⟩ | ⟨b, off, N', c, c', rfl, rfl, h⟩
  · exact Or.inl ⟨rfl, ad, c, rfl, h⟩
  · rcases g4 with ⟨h, _⟩ | ⟨b', c2, h⟩
    · simp at h
    · simp only [Value.slice.injEq, Option.some.injEq, Addr.mk.injEq, and_true] at h
      obtain ⟨⟨rfl, rfl⟩, rfl, rfl⟩ := h
      exact Or.inr ⟨b, c, N.toNat, c', g2.symm, by omega, by assumption, by rw [Nat.zero_add]⟩
theorem SubOf.part {ν : Value} {z : Nat} {l0 l n N : Int} {y v : Value} (h : SubOf z l n y v) (hy : IsPart ν z l0 N y) (h0 : 0 ≤ l) (h1 : 0 ≤ n) (h2 : l + n ≤ N) : IsPart ν z (l0 + l) n v := by
  obtain ⟨g1, g2, g3⟩ := hy
  refine ⟨by omega, h1, ?_⟩
  rcases h with ⟨rfl, ad, c, rfl, h⟩ | ⟨b, off, N', c, c', rfl, rfl, h⟩
  · exact Or.inl ⟨rfl, ad, c, rfl, h⟩
  · rcases g3 with ⟨rfl, _⟩ | ⟨b', c2, ln, c3, hν, k1, k2, k3⟩
    · obtain rfl : n = 0 := by omega
      exact Or.inl ⟨rfl, _, c', rfl, by simp⟩
    · simp only [Value.slice.injEq, Option.some.injEq, Addr.mk.injEq, and_true] at k3
      obtain ⟨⟨rfl, rfl⟩, rfl, rfl⟩ := k3
      exact Or.inr ⟨b, c2, ln, c', hν, by omega, h, by rw [show (l0 + l).toNat = l0.toNat + l.toNat by omega, Nat.add_mul]⟩
theorem SubOf.rep {F : Nat → Prop} {w : World} {z : Nat} {l n N : Int} {r : Row} {y v : Value} (h : SubOf z l n y v) (hy : Rep F w (.slc z N r) y) (h0 : 0 ≤ l) (h1 : 0 ≤ n) (h2 : l + n ≤ N) : Rep F w (.slc z n (.sub r l)) v := by
  have hz : 0 < z := by cases hy <;> assumption
  rcases h with ⟨rfl, ad, c, rfl, h⟩ | ⟨b, off, N', c, c', rfl, rfl, h⟩
  · exact .nil hz h
  · obtain ⟨n, rfl⟩ := Int.eq_ofNat_of_zero_le h1
    obtain ⟨l, rfl⟩ := Int.eq_ofNat_of_zero_le h0
    simp only [Int.toNat_natCast] at h ⊢
    cases hy with
    | nil _ _ =>
      obtain rfl : n = 0 := by omega
      exact .nil hz (by simp)
    | slc u hz hc hF hg hu hr =>
      refine .slc (fun i j => u (i + l) j) hz h hF hg (fun i j hi hj => ?_) (fun i j hi hj => ?_)
      · have := hu (i + l) j (by omega) hj
        rw [Nat.add_mul] at this
        rw [← this]
        congr 1
        omega
      · have := hr (i + l) j (by omega) hj
        show Rep F w (den r (addZ i l) j) _
        rw [show addZ (i : Int) (l : Int) = ((i + l : Nat) : Int) by unfold addZ; omega]
        exact this
end
end Go.Proofs.Ytdpmigbenkndbaa.QR
namespace Go.Proofs.Ytdpmigbenkndbaa.QR
open Go.RowKit PR
set_option linter.unusedVariables false
set_option linter.unusedSimpArgs false
theorem csel_eq (c : Bool) (x y : CV) : csel c x y = bif c then x else y := by
  unfold csel
  split
  · rename_i k a l b
    split
    · rename_i h; subst h; cases c <;> rfl
    · rfl
  · cases c <;> rfl
  · cases c <;> rfl
  · rfl
theorem csel_t (x y : CV) : csel true x y = x := by rw [csel_eq]; rfl
theorem csel_f (x y : CV) : csel false x y = y := by rw [csel_eq]; rfl
theorem splice_get {α : Type} (l vs : List α) (o i : Nat) (h : o + vs.length ≤ l.length) : (l.take o ++ vs ++ l.drop (o + vs.length))[i]? = if i < o then l[i]? else if i < o + vs.length then vs[i - o]? else l[i]? := by
  have h1 : (l.take o).length = o := by rw [List.length_take]; omega
  by_cases e : i < o
  · rw [if_pos e, List.append_assoc, List.getElem?_append_left (by omega), List.getElem?_take, if_pos e]
  · rw [if_neg e]
    by_cases e2 : i < o + vs.length
    · rw [if_pos e2, List.append_assoc, List.getElem?_append_right (by omega), List.getElem?_append_left (by omega), h1]
    · rw [if_neg e2, List.getElem?_append_right (by rw [List.length_append, h1]; omega), List.getElem?_drop, List.length_append, h1]
      congr 1
      omega
theorem splice_len {α : Type} (l vs : List α) (o : Nat) (h : o + vs.length ≤ l.length) : (l.take o ++ vs ++ l.drop (o + vs.length)).length = l.length := by
  simp only [List.length_append, List.length_take, List.length_drop]; omega
theorem fill_fold (off : Nat) : ∀ (vs : List Value) (k : Nat) (cells : Array Value), off + k + vs.length ≤ cells.size →
    ((vs.zipIdx k).foldl (fun cs (p : Value × Nat) => cs.setIfInBounds (off + p.2) p.1) cells).toList = cells.toList.take (off + k) ++ vs ++ cells.toList.drop (off + k + vs.length)
  | [], k, cells, _ => by simp
  | v :: vs, k, cells, h => by
    simp only [List.length_cons] at h
    rw [List.zipIdx_cons, List.foldl_cons, fill_fold off vs (k + 1) _ (by simp only [Array.size_setIfInBounds]; omega)]
    apply List.ext_getElem?
    intro i
    have e1 := splice_get (cells.setIfInBounds (off + k) v).toList vs (off + (k + 1)) i (by simp only [Array.length_toList, Array.size_setIfInBounds]; omega)
    have e2 := splice_get cells.toList (v :: vs) (off + k) i (by simp only [Array.length_toList, List.length_cons]; omega)
    rw [e1, e2]
    simp only [List.length_cons, Array.toList_setIfInBounds, List.getElem?_set, Array.length_toList]
    by_cases c1 : i < off + k
    · rw [if_pos (show i < off + (k + 1) by omega), if_neg (show ¬ off + k = i by omega), if_pos c1]
    · by_cases c2 : i = off + k
      · subst c2
        rw [if_pos (show off + k < off + (k + 1) by omega), if_pos (show off + k = off + k from rfl), if_pos (show off + k < cells.size by omega), if_neg c1, if_pos (show off + k < off + k + (vs.length + 1) by omega)]
        simp
      · rw [if_neg (show ¬ i < off + (k + 1) by omega), if_neg c1, if_neg (show ¬ off + k = i by omega)]
        by_cases c3 : i < off + (k + 1) + vs.length
        · rw [if_pos c3, if_pos (show i < off + k + (vs.length + 1) by omega)]
          obtain ⟨j, rfl⟩ : ∃ j, i = off + k + 1 + j := ⟨i - (off + k + 1), by omega⟩
          rw [show off + k + 1 + j - (off + (k + 1)) = j by omega, show off + k + 1 + j - (off + k) = j + 1 by omega, List.getElem?_cons_succ]
        · rw [if_neg c3, if_neg (show ¬ i < off + k + (vs.length + 1) by omega)]
theorem fill_one (off : Nat) (v cells : Array Value) (h : off + v.size ≤ cells.size) :
    (v.zipIdx.foldl (fun cs (c, j) => cs.setIfInBounds (off + j) c) cells).toList = cells.toList.take off ++ v.toList ++ cells.toList.drop (off + v.size) := by
  have := fill_fold off v.toList 0 cells (by simpa using h)
  simp only [Nat.add_zero, Array.length_toList] at this
  rw [← this, ← Array.foldl_toList, Array.toList_zipIdx]
theorem ConcC.one {L : Nat → Prop} {E : Env} {w : World} {c : CV} {y : Value} (h : ConcC L E w c y) : y.oneCell' = true ∧ y.cells = #[y] := by
  have main : y.oneCell' = true := by
    cases c with
    | v x =>
      cases h with
      | v h => cases y <;> first | rfl | (simp [plainB] at h)
    | slc z n r =>
      cases h with
      | nil _ _ => rfl
      | slc _ _ _ _ _ _ _ => rfl
    | own m n => obtain ⟨_, _, _, ⟨rfl, _⟩ | ⟨a, c, rfl⟩⟩ := h <;> rfl
    | ptr m off => rw [h.2]; rfl
    | fn f caps => rw [h.2]; rfl
    | fresh z n r => exact h.elim
    | clo f l => cases h; rfl
  refine ⟨main, ?_⟩
  cases y <;> first | rfl | (simp [Value.oneCell'] at main)
theorem Fa2.ones {L : Nat → Prop} {E : Env} {w : World} {l : List CV} {ys : List Value} (h : Fa2 (ConcC L E w) l ys) : ∀ y ∈ ys, y.oneCell' = true := by
  intro y hy
  obtain ⟨i, hi, e⟩ := List.getElem_of_mem hy
  have hl := h.len
  obtain ⟨b, e1, e2⟩ := h.get (i := i) (a := l[i]) (by simp)
  have : ys[i]? = some y := by rw [List.getElem?_eq_getElem hi, e]
  rw [this] at e1
  simp only [Option.some.injEq] at e1
  subst e1
  exact e2.one.1
theorem ConcX.cells {L : Nat → Prop} {E : Env} {w : World} {v : XV} {y : Value} (h : ConcX L E w v y) : Fa2 (ConcC L E w) (cellsOf v) y.cells.toList := by
  cases v with
  | c x => rw [h.one.2]; exact ⟨h, trivial⟩
  | agg l => obtain ⟨ys, rfl, h⟩ := h; exact h
theorem ConcX.ones {L : Nat → Prop} {E : Env} {w : World} {v : XV} {y : Value} (h : ConcX L E w v y) : y.cells.all Value.oneCell' = true := by
  have := h.cells.ones
  rw [Array.all_eq_true_iff_forall_mem]
  intro x hx
  exact this x (by simpa using hx)
theorem fill_sound {L : Nat → Prop} {E : Env} {w : World} {place : Nat → Option (Nat × Nat)} : ∀ {ps : List (Nat × List CV)} {qs : List (Nat × Value)} {cells l : List CV} {arr : Array Value},
    Fa2 (fun (p : Nat × List CV) (q : Nat × Value) => p.1 = q.1 ∧ Fa2 (ConcC L E w) p.2 q.2.cells.toList) ps qs → Fa2 (ConcC L E w) cells arr.toList → fillC place cells ps = some l →
    ∃ arr', Instr.fill place arr qs = some arr' ∧ Fa2 (ConcC L E w) l arr'.toList
  | [], [], cells, l, arr, _, hc, h => by
    simp only [fillC, Option.some.injEq] at h
    subst h
    exact ⟨arr, rfl, hc⟩
  | (i, d) :: ps, (i', v) :: qs, cells, l, arr, hp, hc, h => by
    obtain ⟨⟨h1, h2⟩, hp⟩ := hp
    simp only at h1 h2
    subst h1
    unfold fillC at h
    split at h <;> try (simp at h; done)
    rename_i off size hpl
    split at h <;> try (simp at h; done)
    rename_i hs
    simp only [Bool.and_eq_true, Nat.beq_eq, Nat.ble_eq] at hs
    have l1 := h2.len
    have l2 := hc.len
    simp only [Array.length_toList] at l1 l2
    have e := fill_one off v.cells arr (by omega)
    unfold Instr.fill
    rw [hpl]
    simp only
    rw [if_neg (by simp; omega)]
    refine fill_sound hp ?_ h
    rw [e]
    have := Fa2.splice off hc h2
    unfold PR.splice at this
    rw [Array.length_toList] at this
    exact this
  | [], _ :: _, _, _, _, hp, _, _ => hp.elim
  | _ :: _, [], _, _, _, hp, _, _ => hp.elim
theorem built_eq {P : Program} {t : TypeId} {pl : Nat → Option (Nat × Nat)} {it : TypeInfo} {z : Value} (h1 : placeB P t = some pl) (h2 : P.info? t = some it) (h3 : it.zero = some z) (parts : List (Nat × Value)) : P.built t parts = Instr.fill pl z.cells parts := by
  unfold placeB at h1
  unfold Program.built
  rw [h2]
  split at h1 <;> try (simp at h1; done)
  · rename_i n e hu
    split at h1 <;> try (simp at h1; done)
    rename_i ie hi
    simp only [Option.some.injEq] at h1
    subst h1
    simp only [hu, h3, hi]
  · rename_i fs hu
    split at h1 <;> try (simp at h1; done)
    rename_i pls hp
    simp only [Option.some.injEq] at h1
    subst h1
    simp only [hu, h3, hp]
theorem zeroL_spec {P : Program} {t : TypeId} {l : List Value} (h : zeroL P t = some l) : ∃ i z, P.info? t = some i ∧ i.zero = some z ∧ z.cells = l.toArray ∧ l.length = i.size ∧ ∀ x ∈ l, plainB x = true := by
  unfold zeroL at h
  split at h <;> try (simp at h; done)
  rename_i i hi
  split at h <;> try (simp at h; done)
  rename_i z hz
  split at h <;> try (simp at h; done)
  rename_i hp
  simp only [Bool.and_eq_true, Nat.beq_eq] at hp
  simp only [Option.some.injEq] at h
  subst h
  exact ⟨i, z, hi, hz, by simp, by simpa using hp.2, List.all_eq_true.1 hp.1⟩
theorem zeroL_conc {L : Nat → Prop} {E : Env} {w : World} : ∀ {l : List Value}, (∀ x ∈ l, plainB x = true) → Fa2 (ConcC L E w) (l.map CV.v) l
  | [], _ => trivial
  | x :: l, h => ⟨Rep.v (h x (by simp)), zeroL_conc fun y hy => h y (by simp [hy])⟩
theorem den_upds (i' : Int) (b : Nat) : ∀ (cs : List CV) (r : Row) (i : Int) (off : Nat), den (updsR r i off cs) i' b = if i' = i ∧ off ≤ b ∧ b < off + cs.length then (cs[b - off]?).getD undefC else den r i' b
  | [], r, i, off => by rw [if_neg (by simp only [List.length_nil]; omega)]; rfl
  | c :: cs, r, i, off => by
    unfold updsR
    rw [den_upds i' b cs]
    simp only [List.length_cons]
    by_cases h1 : i' = i ∧ off + 1 ≤ b ∧ b < off + 1 + cs.length
    · rw [if_pos h1, if_pos (by omega)]
      obtain ⟨j, rfl⟩ : ∃ j, b = off + 1 + j := ⟨b - (off + 1), by omega⟩
      rw [show off + 1 + j - (off + 1) = j by omega, show off + 1 + j - off = j + 1 by omega, List.getElem?_cons_succ]
    · rw [if_neg h1]
      show (bif Nat.beq off b then csel (ieq i' i) c (den r i' b) else den r i' b) = _
      by_cases h2 : off = b
      · subst h2
        rw [Nat.beq_refl, cond_true]
        by_cases h3 : i' = i
        · subst h3
          rw [show ieq i' i' = true by simp [ieq], csel_t, if_pos (by omega)]
          simp
        · rw [show ieq i' i = false by simpa [ieq] using h3, csel_f, if_neg (by omega)]
      · rw [beq_ne h2, cond_false, if_neg (by omega)]
theorem idx_inj {z a b c d : Nat} (hb : b < z) (hd : d < z) (h : a * z + b = c * z + d) : a = c ∧ b = d := by
  have h1 : (a * z + b) / z = a := by rw [Nat.add_comm, Nat.add_mul_div_right _ _ (by omega), Nat.div_eq_of_lt hb, Nat.zero_add]
  have h2 : (c * z + d) / z = c := by rw [Nat.add_comm, Nat.add_mul_div_right _ _ (by omega), Nat.div_eq_of_lt hd, Nat.zero_add]
  have : a = c := by rw [← h1, ← h2, h]
  subst this
  omega
theorem idx_lt {z n i j : Nat} (hi : i < n) (hj : j < z) : i * z + j < n * z := by
  have : (i + 1) * z ≤ n * z := Nat.mul_le_mul_right z hi
  rw [Nat.add_mul, Nat.one_mul] at this
  omega
theorem RepRow.upd {F : Nat → Prop} {w : World} {z n : Nat} {r : Row} {xs ys : List Value} {cs : List CV} {i off : Nat} (h : RepRow F w z n r xs) (hx : xs.length = n * z) (hc : Fa2 (Rep F w) cs ys) (hi : i < n) (ho : off + cs.length ≤ z) :
    RepRow F w z n (updsR r i off cs) (splice xs (i * z + off) ys) ∧ (splice xs (i * z + off) ys).length = n * z := by
  have hl := hc.len
  have hle : i * z + off + ys.length ≤ xs.length := by
    have : (i + 1) * z ≤ n * z := Nat.mul_le_mul_right z hi
    rw [Nat.add_mul, Nat.one_mul] at this
    omega
  unfold splice
  refine ⟨fun i' j hi' hj => ?_, by rw [splice_len _ _ _ hle, hx]⟩
  rw [splice_get _ _ _ _ hle, den_upds]
  obtain ⟨u, e1, e2⟩ := h i' j hi' hj
  by_cases hc' : (i' : Int) = i ∧ off ≤ j ∧ j < off + cs.length
  · rw [if_pos hc']
    obtain ⟨h1, h2, h3⟩ := hc'
    have h1 : i' = i := by omega
    subst h1
    rw [if_neg (by omega), if_pos (by omega), show i' * z + j - (i' * z + off) = j - off by omega]
    have hlt : j - off < cs.length := by omega
    obtain ⟨b, b1, b2⟩ := hc.get (i := j - off) (a := cs[j - off]) (by simp)
    exact ⟨b, b1, by rw [List.getElem?_eq_getElem hlt]; exact b2⟩
  · rw [if_neg hc']
    have : ¬ (i * z + off ≤ i' * z + j ∧ i' * z + j < i * z + off + ys.length) := by
      rintro ⟨g1, g2⟩
      obtain ⟨d, hd⟩ : ∃ d, i' * z + j = i * z + (off + d) := ⟨i' * z + j - (i * z + off), by omega⟩
      obtain ⟨k1, k2⟩ := idx_inj hj (by omega) hd
      exact hc' (by omega)
    by_cases g1 : i' * z + j < i * z + off
    · rw [if_pos g1]; exact ⟨u, e1, e2⟩
    · rw [if_neg g1, if_neg (by omega)]; exact ⟨u, e1, e2⟩
theorem nthV_get : ∀ (l : List Value) (j : Nat) (x : Value), l[j]? = some x → nthV l j = .v x
  | [], j, x, h => by simp at h
  | y :: l, 0, x, h => by simp at h; subst h; rfl
  | y :: l, j + 1, x, h => nthV_get l j x (by simpa using h)
theorem RepRow.zer {F : Nat → Prop} {w : World} {l : List Value} (hp : ∀ x ∈ l, plainB x = true) {n : Int} {xs : List Value} (h : ∀ i j : Nat, (i : Int) < n → j < l.length → xs[i * l.length + j]? = l[j]?) : RepRow F w l.length n (.zer l) xs := by
  intro i j hi hj
  have e : l[j]? = some l[j] := List.getElem?_eq_getElem hj
  refine ⟨l[j], by rw [h i j hi hj, e], ?_⟩
  show Rep F w (nthV l j) _
  rw [nthV_get l j _ e]
  exact .v (hp _ (List.getElem_mem hj))
theorem partsOf_sound {base : Nat} {X F0 : Nat → Prop} {E : Env} {s : PSt} {a : Act} {w : World} : ∀ {l : List (Nat × Operand)} {ps : List (Nat × List CV)}, (∀ p ∈ l, ConcS (live s) E w (valOf s p.2) (a.eval p.2)) → partsOf s l = some ps →
    Fa2 (fun (p : Nat × List CV) (q : Nat × Value) => p.1 = q.1 ∧ Fa2 (ConcC (live s) E w) p.2 q.2.cells.toList) ps (l.map fun p => (p.1, a.eval p.2))
  | [], ps, _, h => by simp only [partsOf, Option.some.injEq] at h; subst h; trivial
  | (i, x) :: l, ps, hc, h => by
    unfold partsOf at h
    split at h <;> try (simp at h; done)
    rename_i v m h1 h2
    simp only [Option.some.injEq] at h
    subst h
    have := hc (i, x) (by simp)
    rw [h1] at this
    exact ⟨⟨rfl, ConcX.cells this⟩, partsOf_sound (base := base) (X := X) (F0 := F0) (fun p hp => hc p (by simp [hp])) h2⟩
theorem fz_rep {L : Nat → Prop} {E : Env} {w : World} {c : CV} {y : Value} (hc : isFz c = true) (h : ConcC L E w c y) : Rep E.F w c y := by
  cases c with
  | v x => exact h
  | slc z n r => exact h
  | own m n => simp [isFz] at hc
  | ptr m off => simp [isFz] at hc
  | fn f caps => simp [isFz] at hc
  | fresh z n r => simp [isFz] at hc
  | clo f l => exact h
theorem fz_reps {L : Nat → Prop} {E : Env} {w : World} {l : List CV} {ys : List Value} (hc : l.all isFz = true) (h : Fa2 (ConcC L E w) l ys) : Fa2 (Rep E.F w) l ys :=
  Fa2.monoM (fun c hm y => fz_rep (List.all_eq_true.1 hc c hm)) h
theorem fillR_sound {L : Nat → Prop} {E : Env} {w : World} {z n : Nat} : ∀ {ps : List (Nat × List CV)} {qs : List (Nat × Value)} {r0 r : Row} {arr : Array Value},
    Fa2 (fun (p : Nat × List CV) (q : Nat × Value) => p.1 = q.1 ∧ Fa2 (ConcC L E w) p.2 q.2.cells.toList) ps qs → (∀ p ∈ ps, p.1 < n) → RepRow E.F w z n r0 arr.toList → arr.size = n * z → fillR z r0 ps = some r →
    ∃ arr', Instr.fill (fun i => some (i * z, z)) arr qs = some arr' ∧ RepRow E.F w z n r arr'.toList ∧ arr'.size = n * z
  | [], [], r0, r, arr, _, _, hr, hs, h => by
    simp only [fillR, Option.some.injEq] at h
    subst h
    exact ⟨arr, rfl, hr, hs⟩
  | (i, d) :: ps, (i', v) :: qs, r0, r, arr, hp, hn, hr, hs, h => by
    obtain ⟨⟨h1, h2⟩, hp⟩ := hp
    simp only at h1 h2
    subst h1
    unfold fillR at h
    split at h <;> try (simp at h; done)
    rename_i hz
    simp only [Bool.and_eq_true, Nat.beq_eq] at hz
    have l1 := h2.len
    simp only [Array.length_toList] at l1
    have hi : i < n := hn (i, d) (by simp)
    have hle : i * z + z ≤ n * z := by
      have : (i + 1) * z ≤ n * z := Nat.mul_le_mul_right z hi
      rw [Nat.add_mul, Nat.one_mul] at this
      exact this
    have e := fill_one (i * z) v.cells arr (by omega)
    have ru := RepRow.upd (off := 0) hr (by simpa using hs) (fz_reps hz.2 h2) hi (by omega)
    unfold splice at ru
    rw [Nat.add_zero, Array.length_toList] at ru
    rw [← e] at ru
    unfold Instr.fill
    simp only
    rw [if_neg (by simp; omega)]
    exact fillR_sound hp (fun p hp => hn p (by simp [hp])) ru.1 (by simpa using ru.2) h
  | [], _ :: _, _, _, _, hp, _, _, _, _ => hp.elim
  | _ :: _, [], _, _, _, hp, _, _, _, _ => hp.elim
theorem RepRow.app {F : Nat → Prop} {w : World} {z : Nat} {n n2 : Int} {r r2 : Row} {xs ys : List Value} (h0 : 0 ≤ n) (hx : xs.length = n.toNat * z) (h : RepRow F w z n r xs) (k : RepRow F w z n2 r2 ys) : RepRow F w z (addZ n n2) (.app r n r2) (xs ++ ys) := by
  intro i j hi hj
  show ∃ u, _ ∧ Rep F w (csel (ilt i n) (den r i j) (den r2 (subZ i n) j)) u
  by_cases hlt : (i : Int) < n
  · rw [show ilt (i : Int) n = true from decide_eq_true hlt, csel_t]
    obtain ⟨u, e1, e2⟩ := h i j hlt hj
    have : i * z + j < xs.length := by rw [hx]; exact idx_lt (by omega) hj
    exact ⟨u, by rw [List.getElem?_append_left this]; exact e1, e2⟩
  · rw [show ilt (i : Int) n = false from decide_eq_false hlt, csel_f]
    obtain ⟨d, hd⟩ : ∃ d : Nat, i = n.toNat + d := ⟨i - n.toNat, by omega⟩
    unfold addZ at hi
    obtain ⟨u, e1, e2⟩ := k d j (by omega) hj
    refine ⟨u, ?_, ?_⟩
    · rw [List.getElem?_append_right (by rw [hx, hd, Nat.add_mul]; omega), hx, hd, Nat.add_mul, show n.toNat * z + d * z + j - n.toNat * z = d * z + j by omega]
      exact e1
    · rw [show subZ (i : Int) n = d by unfold subZ; omega]; exact e2
theorem Rep.one {F : Nat → Prop} {w : World} {c : CV} {y : Value} (h : Rep F w c y) : y.oneCell' = true :=
  (ConcC.one (L := fun _ => True) (E := ⟨F, fun n => n, fun _ => undef⟩) (ConcC.of_fz h)).1
theorem Rep.news {F : Nat → Prop} {w : World} {z : Nat} {n : Int} {r : Row} {y : Value} (h : Rep F w (.slc z n r) y) :
    (y = .slice none 0 0 ∧ n = 0) ∨ ∃ (ad : Addr) (m c : Nat) (news : List Value), y = .slice (some ad) m c ∧ n = m ∧ news.length = m * z ∧ (∀ j u, news[j]? = some u → w.cell? (ad.add j) = some u) ∧ (∀ u ∈ news, u.oneCell' = true) ∧ RepRow F w z n r news := by
  cases h with
  | nil hz hc =>
    rename_i a c
    cases a with
    | none => rw [hc rfl]; exact Or.inl ⟨rfl, rfl⟩
    | some ad => exact Or.inr ⟨ad, 0, c, [], rfl, rfl, by simp, by simp, by simp, fun i j hi _ => by omega⟩
  | slc u hz hc hF hh hu hr =>
    rename_i m b off c arr t fr
    refine Or.inr ⟨⟨b, off, none⟩, m, c, (arr.toList.drop off).take (m * z), rfl, rfl, ?_, fun j v hv => ?_, fun v hv => ?_, fun i j hi hj => ?_⟩
    · rw [List.length_take, List.length_drop, Array.length_toList]
      by_cases hm : m = 0
      · subst hm; simp
      · have e := hu (m - 1) (z - 1) (by omega) (by omega)
        have lt := (Array.getElem?_eq_some_iff.1 e).1
        have : (m - 1) * z + z = m * z := by rw [← Nat.succ_mul, show (m - 1).succ = m by omega]
        omega
    · rw [Addr.add_lit]
      simp only [World.cell?, hh]
      rw [List.getElem?_take] at hv
      split at hv
      · rw [List.getElem?_drop] at hv; simpa using hv
      · simp at hv
    · obtain ⟨k, hk, e⟩ := List.getElem_of_mem hv
      have hkl : k < m * z := by rw [List.length_take] at hk; omega
      have hq : k / z < m := by rw [Nat.div_lt_iff_lt_mul hz]; exact hkl
      have hm := Nat.mod_lt k hz
      have e2 := hu (k / z) (k % z) hq hm
      have e3 := hr (k / z) (k % z) hq hm
      have : off + k / z * z + k % z = off + k := by rw [Nat.add_assoc, Nat.mul_comm, Nat.div_add_mod]
      rw [this, ← Array.getElem?_toList] at e2
      have e4 : ((arr.toList.drop off).take (m * z))[k]? = some v := by rw [List.getElem?_eq_getElem hk, e]
      rw [List.getElem?_take, if_pos hkl, List.getElem?_drop, e2] at e4
      simp only [Option.some.injEq] at e4
      rw [← e4]; exact e3.one
    · have hi' : i < m := by omega
      refine ⟨u i j, ?_, hr i j hi' hj⟩
      rw [List.getElem?_take, if_pos (idx_lt hi' hj), List.getElem?_drop, Array.getElem?_toList]
      have := hu i j hi' hj
      rw [Nat.add_assoc] at this
      exact this
section
variable {P : Program} (w : World)
theorem append_at (base : Nat) (t ty e e0 : TypeId) (i : TypeInfo) (z : Value) (ht : P.underlying t = some (.slice e)) (hi : P.info? e = some i) (hz : i.zero = some z) (hzs : z.cells.size = i.size)
    (v : Value) (n : Nat) (xs : List Value) (hown : w.ownsRow base e0 i.size v n xs)
    (a : Addr) (m c : Nat) (news : List Value) (hl : news.length = m * i.size) (hnews : ∀ j u, news[j]? = some u → w.cell? (a.add j) = some u) (h1 : ∀ u ∈ news, u.oneCell' = true)
    (h63 : n + m ≤ maxLen) (hbytes : (n + m) * i.bytes ≤ 140737488355328) (hbase : base ≤ w.heap.size) :
    ∃ v' w' e', (Builtin.append_ #[t, t] ty #[v, .slice (some a) m c]).run P w = .ok v' w' ∧ w'.ownsRow base e' i.size v' (n + m) (xs ++ news) ∧ w.grownBy w' v.ownBlock ∧
      ∀ k, v'.ownBlock = some k → w.heap.size ≤ k ∨ v.ownBlock = some k := by
  have hsmall : n + m ≤ 9223372036854775807 := by simp only [maxLen] at h63; omega
  have hlen : (xs ++ news).length = (n + m) * i.size := by rw [List.length_append, hown.1, hl, Nat.add_mul]
  have grown : ∀ (old : Nat) (row : Option Nat),
      (w.drew.alloc (.cells (xs.toArray ++ news.toArray ++ Builtin.zeroCells z.cells (grownCap w (n + m) old e - (n + m))) e)).ownsRow base e i.size (.slice (some ⟨w.heap.size, 0, none⟩) (n + m) (grownCap w (n + m) old e)) (n + m) (xs ++ news) ∧
      w.grownBy (w.drew.alloc (.cells (xs.toArray ++ news.toArray ++ Builtin.zeroCells z.cells (grownCap w (n + m) old e - (n + m))) e)) row := by
    intro old row
    have hge := grownCap_ge w (n + m) old e
    have hcm := grownCap_le_maxLen w (n + m) old e h63
    refine ⟨⟨hlen, .inr ⟨w.heap.size, _, _, rfl, hbase, heap_alloc_new w.drew _, hge, hcm, ?_, ?_⟩⟩, ⟨rfl, rfl, rfl, by simp, fun k hk _ => heap_alloc_old w.drew _ k hk⟩⟩
    · have := congrArg (· * i.size) (show n + m + (grownCap w (n + m) old e - (n + m)) = grownCap w (n + m) old e by omega)
      simp only [Nat.add_mul] at this
      simp only [Array.size_append, List.size_toArray, size_zeroCells, hzs, hown.1, hl]
      exact this
    · rw [← hlen]
      simp only [Array.toList_append]
      exact List.take_left
  rcases hown.2 with ⟨rfl, rfl⟩ | ⟨g, cap, cur, rfl, hbg, hg, hnc, hcm, hcs, htake⟩
  · have hx : xs = [] := List.eq_nil_of_length_eq_zero (by simpa using hown.1)
    subst hx
    by_cases hm : m = 0
    · subst hm
      have hn : news = [] := List.eq_nil_of_length_eq_zero (by simpa using hl)
      subst hn
      refine ⟨.slice none 0 0, w, e, ?_, World.ownsRow_nil w base e i.size, ⟨rfl, rfl, rfl, Nat.le_refl _, fun _ _ _ => rfl⟩, fun k hk => by simp [Value.ownBlock] at hk⟩
      simp [Builtin.append_, run_underlying ht, sizeOf, typeInfo, hi, Builtin.lenOf, Builtin.firstCells, loadCells, loadCellsFrom]
    · have hr := run_append_nil (P := P) w t ty e i z ht hi hz a m c news hl hnews (by omega) (by omega) (by simp only [Nat.zero_add] at hbytes; omega)
      have hgr := grown 0 (Value.ownBlock (.slice none 0 0))
      simp only [Nat.zero_add, List.nil_append, Array.empty_append] at hgr ⊢
      exact ⟨_, _, e, hr, hgr.1, hgr.2, fun k hk => by simp only [Value.ownBlock, Option.some.injEq] at hk; omega⟩
  · by_cases hroom : n + m ≤ cap
    · have hfit : n * i.size + news.length ≤ cur.size := by rw [hl, hcs, ← Nat.add_mul]; exact Nat.mul_le_mul_right _ hroom
      have hf := run_firstCells_some (P := P) w i.size m a m c news hl hnews
      have hst := run_storeCells_at P g (n * i.size) e0 news 0 cur w hg (by simpa using hfit) h1
      simp only [Nat.add_zero] at hst
      have hr : (Builtin.append_ #[t, t] ty #[.slice (some ⟨g, 0, none⟩) n cap, .slice (some a) m c]).run P w =
          .ok (.slice (some ⟨g, 0, none⟩) (n + m) cap) (w.setRow g (cur.toList.take (n * i.size) ++ news ++ cur.toList.drop (n * i.size + news.length)).toArray) := by
        simp [Builtin.append_, run_underlying ht, sizeOf, typeInfo, hi, Builtin.lenOf, hroom, hf, Addr.add_lit, hst]
      refine ⟨_, _, e0, hr, ⟨hlen, .inr ⟨g, cap, _, rfl, hbg, setRow_heap w g cur _ e0 _ hg, hroom, hcm, ?_, ?_⟩⟩, ⟨rfl, rfl, rfl, by simp, fun k _ hk => setRow_other w g k _ (fun e => hk (by simp [Value.ownBlock, e]))⟩, fun k hk => Or.inr hk⟩
      · simp only [List.size_toArray, List.length_append, List.length_take, List.length_drop, Array.length_toList]
        omega
      · rw [htake, ← hlen]
        exact List.take_left
    · have holds : ∀ j u, xs[j]? = some u → w.cell? ((⟨g, 0, none⟩ : Addr).add j) = some u := hown.cells (g := g) rfl
      have hr := run_append_grow (P := P) w t ty e i z ht hi hz ⟨g, 0, none⟩ n cap xs hown.1 holds a m c news hl hnews (by omega) (by omega) (growslice_fits (by omega) hbytes)
      have hgr := grown cap (Value.ownBlock (.slice (some ⟨g, 0, none⟩) n cap))
      exact ⟨_, _, e, hr, hgr.1, hgr.2, fun k hk => by simp only [Value.ownBlock, Option.some.injEq] at hk; omega⟩
end
theorem made_get {l : List Value} (hl : 0 < l.length) {N i j : Nat} (h : i * l.length + j < N) (hj : j < l.length) : (madeCells l.toArray N).toList[i * l.length + j]? = l[j]? := by
  unfold madeCells
  rw [Array.getElem?_toList, Array.getElem?_map, Array.getElem?_range, if_pos h]
  simp only [Option.map_some, List.size_toArray]
  have : (i * l.length + j) % l.length = j := by rw [Nat.add_comm, Nat.add_mul_mod_self_right, Nat.mod_eq_of_lt hj]
  rw [this, List.getElem?_eq_getElem hj]
  simp [hj]
theorem RepRow.made {F : Nat → Prop} {w : World} {l : List Value} (hp : ∀ x ∈ l, plainB x = true) (hl : 0 < l.length) (n : Int) (N : Nat) (h : n.toNat ≤ N) : RepRow F w l.length n (.zer l) ((madeCells l.toArray (N * l.length)).toList.take (n.toNat * l.length)) := by
  refine RepRow.zer hp fun i j hi hj => ?_
  have lt := idx_lt (z := l.length) (show i < n.toNat by omega) hj
  rw [List.getElem?_take, if_pos lt]
  refine made_get hl ?_ hj
  have := Nat.mul_le_mul_right l.length h
  omega
end Go.Proofs.Ytdpmigbenkndbaa.QR
namespace Go.Proofs.Ytdpmigbenkndbaa.QR
open Go.RowKit PR
set_option linter.unusedVariables false
set_option linter.unusedSimpArgs false
theorem cv_v {L : Nat → Prop} {E : Env} {w : World} {x y : Value} (h : ConcS L E w (.x (.c (.v x))) y) : y = x := by
  have h : Rep E.F w (.v x) y := h
  cases h; rfl
theorem cv_ptr {L : Nat → Prop} {E : Env} {w : World} {m off : Nat} {y : Value} (h : ConcS L E w (.x (.c (.ptr m off))) y) : y = .pointer (some ⟨adr E m, off, none⟩) := h.2
theorem cv_int {L : Nat → Prop} {E : Env} {w : World} {v : SV} {k : IntKind} {n : Int} {y : Value} (hv : asInt' v = some (k, n)) (h : ConcS L E w v y) : y = .int k n := by
  unfold asInt' at hv
  split at hv <;> try (simp at hv; done)
  simp only [Option.some.injEq, Prod.mk.injEq] at hv
  obtain ⟨rfl, rfl⟩ := hv
  exact cv_v h
theorem toVs_conc {L : Nat → Prop} {E : Env} {w : World} : ∀ {l : List CV} {xs ys : List Value}, toVs l = some xs → Fa2 (ConcC L E w) l ys → ys = xs
  | [], xs, ys, h, hc => by
    simp only [toVs, Option.some.injEq] at h; subst h
    cases ys with
    | nil => rfl
    | cons => exact hc.elim
  | c :: l, xs, ys, h, hc => by
    unfold toVs at h
    split at h <;> try (simp at h; done)
    · rename_i e; simp at e
    · rename_i x l' e
      simp only [List.cons.injEq] at e
      obtain ⟨rfl, rfl⟩ := e
      split at h <;> try (simp at h; done)
      rename_i m hm
      simp only [Option.some.injEq] at h
      subst h
      cases ys with
      | nil => exact hc.elim
      | cons y ys =>
        have h1 : y = x := cv_v (L := L) hc.1
        rw [h1, toVs_conc hm hc.2]
section
variable {P : Program} {O : Oracle} {base : Nat} {X F0 : Nat → Prop} {B : Nat → (Nat × Value) × Bool} {E : Env} {s : PSt} {a : Act} {w : World} {o : Oper} {L : Nat → Prop}
theorem fin {K : Act → World → Prop} {Q : Exit → Act → World → Prop} {p : Prop} {li : List Tmp} {gen : Nat} (R : RelE base X F0 B E s a w) {v : SV} {y : Value} (hr : (execOp a.eval o).run P w = .ok (.value y) w) (hy : ConcS (live s) E w v y)
    (hK : ∀ E' a' w', RelE base X F0 B E' ⟨setTmp s.tmps o.dst (gnow v), applyU s.mem [], p, li, gen⟩ a' w' → KeepF base X F0 w w' → K a' w') : o.wp P a w K Q := by
  unfold Oper.wp
  rw [hr]
  exact hK E _ _ (R.go o.dst _ _ p li gen (Later.refl _ _ _) (fun _ _ => rfl) (fun _ h => h) (fun _ => hy) R.mem R.sep R.frz (Nat.le_refl _) (fun _ _ h => h)) (KeepF.refl _ _ _ _)
theorem part_conc {l : List CV} {ys : List Value} {t : TypeId} {off : Nat} {v : XV} (h : partX P l t off = some v) (hc : Fa2 (ConcC L E w) l ys) : ∃ y, partV P t ys.toArray off = some y ∧ ConcX L E w v y := by
  unfold partX at h
  by_cases hag : isAggT P t = true
  · rw [if_pos hag] at h
    split at h <;> try (simp at h; done)
    rename_i hb
    simp only [Option.some.injEq] at h
    subst h
    simp only [Bool.and_eq_true, Nat.ble_eq] at hb
    obtain ⟨i, hi⟩ := Option.isSome_iff_exists.1 hb.2
    have hs : sizeT P t = i.size := by simp [sizeT, hi]
    have hf := (hc.drop off).take (sizeT P t)
    rw [hs] at hf ⊢
    have hx : (ys.toArray.extract off (off + i.size)) = ((ys.drop off).take i.size).toArray := by
      apply Array.ext'
      simp [List.extract_eq_take_drop, List.take_drop]
    refine ⟨.agg ((ys.drop off).take i.size).toArray, ?_, _, rfl, hf⟩
    unfold partV
    rw [hi]
    unfold isAggT at hag
    split at hag <;> try (simp at hag; done)
    · rename_i fs hu
      simp only [hu, hx]
    · rename_i n e hu
      simp only [hu, hx]
  · rw [if_neg hag] at h
    split at h <;> try (simp at h; done)
    rename_i c hc'
    split at h <;> try (simp at h; done)
    rename_i hu
    simp only [Option.some.injEq] at h
    subst h
    simp only [Bool.and_eq_true] at hu
    obtain ⟨d, hd⟩ := Option.isSome_iff_exists.1 hu.1
    obtain ⟨i, hi⟩ := Option.isSome_iff_exists.1 hu.2
    obtain ⟨y, e1, e2⟩ := hc.get hc'
    refine ⟨y, ?_, e2⟩
    unfold partV
    unfold isAggT at hag
    rw [hd] at hag
    rw [hi, hd]
    cases d <;> first | (simp at hag; done) | (simpa using e1)
theorem load_part {b off : Nat} {arr : Array Value} {el t : TypeId} {l : List CV} {v : XV} (hg : w.heap[b]? = some (.cells arr el (0, 0))) (hc : Fa2 (ConcC L E w) l arr.toList) (h : partX P l t off = some v) :
    ∃ y, (Instr.loadAt t (.pointer (some ⟨b, off, none⟩))).run P w = .ok y w ∧ ConcX L E w v y := by
  have hg' : w.heap[b]? = some (.cells arr.toList.toArray el (0, 0)) := by simpa using hg
  unfold partX at h
  by_cases hag : isAggT P t = true
  · rw [if_pos hag] at h
    split at h <;> try (simp at h; done)
    rename_i hb
    simp only [Option.some.injEq] at h
    subst h
    simp only [Bool.and_eq_true, Nat.ble_eq] at hb
    exact ⟨_, run_load_part (P := P) b off el t arr.toList hg' hag (by rw [← hc.len]; exact hb.1) hb.2, _, rfl, (hc.drop off).take _⟩
  · rw [if_neg hag] at h
    split at h <;> try (simp at h; done)
    rename_i c hc'
    split at h <;> try (simp at h; done)
    rename_i hu
    simp only [Option.some.injEq] at h
    subst h
    simp only [Bool.and_eq_true] at hu
    obtain ⟨y, e1, e2⟩ := hc.get hc'
    exact ⟨y, run_load_cell (P := P) b off el t arr.toList y hg' (by simpa using hag) hu.1 e1, e2⟩
theorem load_elem {b at' off z : Nat} {arr : Array Value} {el t : TypeId} {r : Row} {i : Int} {v : XV} {fr : Nat × Nat} (hg : w.heap[b]? = some (.cells arr el fr))
    (hc : ∀ j < z, ∃ u, arr[at' + j]? = some u ∧ Rep E.F w (den r i j) u) (h : elemX P t z r i off = some v) :
    ∃ y, (Instr.loadAt t (.pointer (some ⟨b, at' + off, none⟩))).run P w = .ok y w ∧ ConcX L E w v y := by
  have hg' : w.heap[b]? = some (.cells arr.toList.toArray el fr) := by simpa using hg
  unfold elemX at h
  by_cases hag : isAggT P t = true
  · rw [if_pos hag] at h
    split at h <;> try (simp at h; done)
    rename_i hb
    simp only [Option.some.injEq] at h
    subst h
    simp only [Bool.and_eq_true, Nat.ble_eq, Nat.blt_eq] at hb
    obtain ⟨⟨hb1, hb0⟩, hb2⟩ := hb
    have hle : at' + off + sizeT P t ≤ arr.toList.length := by
      obtain ⟨u, e, _⟩ := hc (off + sizeT P t - 1) (by omega)
      have := (Array.getElem?_eq_some_iff.1 e).1
      rw [Array.length_toList]; omega
    refine ⟨_, run_load_part (P := P) b (at' + off) el t arr.toList hg' hag hle hb2, _, rfl, ?_⟩
    refine Fa2.of (by simp only [List.length_map, List.length_range, List.length_take, List.length_drop]; omega) fun k c y hk hy => ?_
    simp only [List.getElem?_map, Option.map_eq_some_iff] at hk
    obtain ⟨k', hk', rfl⟩ := hk
    have hlt : k < sizeT P t := by
      have := (List.getElem?_eq_some_iff.1 hk').1
      simpa using this
    rw [List.getElem?_range hlt] at hk'
    simp only [Option.some.injEq] at hk'
    subst hk'
    obtain ⟨u, e1, e2⟩ := hc (off + k) (by omega)
    rw [List.getElem?_take, if_pos hlt, List.getElem?_drop, Array.getElem?_toList, show at' + off + k = at' + (off + k) by omega, e1] at hy
    simp only [Option.some.injEq] at hy
    subst hy
    exact ConcC.of_fz e2
  · rw [if_neg hag] at h
    split at h <;> try (simp at h; done)
    rename_i hu
    simp only [Option.some.injEq] at h
    subst h
    simp only [Bool.and_eq_true, Nat.blt_eq] at hu
    obtain ⟨y, e1, e2⟩ := hc off hu.1
    exact ⟨y, run_load_cell (P := P) b (at' + off) el t arr.toList y hg' (by simpa using hag) hu.2 (by rw [Array.getElem?_toList]; exact e1), ConcC.of_fz e2⟩
theorem known_all {x : Operand} (hp : ∀ c u v, o.op ≠ .pick c u v) (h : knownOf s o = true) (hx : x ∈ o.op.operands.toList) : (operand s x).k = true := by
  have key : ∀ {l : List GV}, allOf l = true → ∀ {g : GV}, g ∈ l → g.k = true := by
    intro l
    induction l with
    | nil => intro _ g hg; simp at hg
    | cons x l ih =>
      intro h g hg
      simp only [allOf, Bool.and_eq_true] at h
      rcases List.mem_cons.1 hg with rfl | hg
      · exact h.1
      · exact ih h.2 hg
  unfold knownOf at h
  split at h
  · rename_i c u v e; exact absurd e (hp c u v)
  · exact key h (List.mem_map_of_mem hx)
theorem adr_lt {m : Nat} (h : m < GB) : adr E m = E.β m := by unfold adr; rw [if_neg (by omega)]
theorem block_mem (R : RelE base X F0 B E s a w) {m : Nat} {l : List CV} (h : memC s m = some l) (hL : live s m) : ∃ arr t, w.heap[adr E m]? = some (.cells arr t (0, 0)) ∧ Fa2 (ConcC (live s) E w) l arr.toList := by
  unfold memC at h
  split at h <;> try (simp at h; done)
  · rename_i l' hm
    simp only [Option.some.injEq] at h
    subst h
    obtain ⟨h1, _, _, arr, t, h2, h3⟩ := R.mem m _ hm
    exact ⟨arr, t, by rw [adr_lt h1]; exact h2, h3⟩
  · rename_i hm
    have hGB : GB ≤ m := by
      rcases hL with h' | ⟨h', _⟩
      · rw [hm] at h'; simp at h'
      · exact h'
    obtain ⟨_, arr, t, h2, h3⟩ := R.glob m l h hGB
    exact ⟨arr, t, by rw [adr, if_pos hGB]; exact h2, h3.mono fun _ _ => ConcC.of_fz⟩
theorem row_elem (R : RelE base X F0 B E s a w) {m z : Nat} {n : Int} {r : Row} (h : rowOf s m = some (z, n, r)) {b c ln : Nat} (hv : E.ν m = .slice (some ⟨b, 0, none⟩) ln c) {i : Int} (h0 : 0 ≤ i) (hi : i.toNat < ln) :
    ∃ arr t fr, w.heap[b]? = some (.cells arr t fr) ∧ ∀ j < z, ∃ u, arr[i.toNat * z + j]? = some u ∧ Rep E.F w (den r i j) u := by
  unfold rowOf at h
  split at h <;> try (simp at h; done)
  · rename_i z' n' r' hm
    simp only [Option.some.injEq, Prod.mk.injEq] at h
    obtain ⟨rfl, rfl, rfl⟩ := h
    obtain ⟨_, k0, _, _, e, xs, ho, hr⟩ := R.mem m _ hm
    rcases ho.2 with ⟨hv', _⟩ | ⟨g, cap, cur, hv', _, hg, hnc, _, hcs, htake⟩
    · rw [hv] at hv'; simp at hv'
    · rw [hv] at hv'
      simp only [Value.slice.injEq, Option.some.injEq, Addr.mk.injEq, and_true] at hv'
      obtain ⟨rfl, hln, _⟩ := hv'
      refine ⟨cur, e, (0, 0), hg, fun j hj => ?_⟩
      obtain ⟨u, e1, e2⟩ := hr i.toNat j (by omega) hj
      rw [← htake, List.getElem?_take] at e1
      split at e1
      · exact ⟨u, by simpa using e1, by rw [show ((i.toNat : Nat) : Int) = i by omega] at e2; exact e2⟩
      · simp at e1
  · rename_i z' n' r' hm
    simp only [Option.some.injEq, Prod.mk.injEq] at h
    obtain ⟨rfl, rfl, rfl⟩ := h
    have hrep : Rep E.F w (.slc z' n' r') (E.ν m) := (R.mem m _ hm).2
    rw [hv] at hrep
    cases hrep with
    | nil => omega
    | slc u hz hc hF hh hu hr =>
      refine ⟨_, _, _, hh, fun j hj => ⟨u i.toNat j, ?_, ?_⟩⟩
      · have := hu i.toNat j hi hj
        simpa using this
      · have := hr i.toNat j hi hj
        rw [show ((i.toNat : Nat) : Int) = i by omega] at this; exact this
theorem binV_plain {op : BinOp} {t : TypeId} {x y v : Value} {b : List Bool} (h : binV P op t x y = some (v, b)) (hb : ∀ c ∈ b, c = true) (p q : Operand) (w : World) : (do eqGuard op t p q x y; binOp op t x y : Sem Value).run P w = .ok v w := (run_binV h hb p q w).1
theorem callee_sound (R : RelE base X F0 B E s a w) {cal : Callee} {f : FuncId} {caps : List (Nat × Nat)} (h : calleeOf s cal = some (f, caps)) :
    ∃ x cv, cal = .value x ∧ a.eval x = .func (.func f) #[] cv ∧ Fa2 (ConcS (live s) E w) (caps.map fun p => SV.x (.c (.ptr p.1 p.2))) cv.toList := by
  unfold calleeOf at h
  split at h <;> try (simp at h; done)
  rename_i x
  refine ⟨x, ?_⟩
  split at h <;> try (simp at h; done)
  · rename_i g hg
    simp only [Option.some.injEq, Prod.mk.injEq] at h
    obtain ⟨rfl, rfl⟩ := h
    have := R.eval x (by rw [hg])
    rw [hg] at this
    exact ⟨#[], rfl, cv_v this, trivial⟩
  · rename_i g caps' hg
    simp only [Option.some.injEq, Prod.mk.injEq] at h
    obtain ⟨rfl, rfl⟩ := h
    have := R.eval x (by rw [hg])
    rw [hg] at this
    obtain ⟨h1, h2⟩ := this
    refine ⟨_, rfl, h2, ?_⟩
    simp only
    clear h2 hg
    induction caps' with
    | nil => trivial
    | cons p l ih => exact ⟨⟨h1 p (by simp), rfl⟩, ih fun q hq => h1 q (by simp [hq])⟩
theorem vals_conc (hv : ∀ x ∈ o.op.operands.toList, ConcS (live s) E w (valOf s x) (a.eval x)) : ∀ (l : List Operand), (∀ x ∈ l, x ∈ o.op.operands.toList) → Fa2 (ConcS (live s) E w) (l.map (valOf s)) (l.map a.eval)
  | [], _ => trivial
  | x :: l, h => ⟨hv x (h x (by simp)), vals_conc hv l fun y hy => h y (by simp [hy])⟩
theorem cell_val {L : Nat → Prop} : ∀ {args : List SV} {ys : List Value} {k j : Nat} {c : SV}, Fa2 (ConcS L E w) args ys → cellA args k j = some c → ∃ y, valA ys k j = some y ∧ ConcS L E w c y
  | [], _, _, _, _, _, h => by simp [cellA] at h
  | _ :: _, [], _, _, _, H, _ => H.elim
  | .x v :: l, y :: ys, 0, j, c, H, h => by
    simp only [cellA] at h
    split at h <;> try (simp at h; done)
    rename_i c' hc
    simp only [Option.some.injEq] at h
    subst h
    obtain ⟨y', e1, e2⟩ := Fa2.get (ConcX.cells H.1) hc
    exact ⟨y', e1, e2⟩
  | .view m z l' n :: l, y :: ys, 0, 0, c, H, h => by
    simp only [cellA, Option.some.injEq] at h
    subst h
    refine ⟨y, ?_, H.1⟩
    obtain ⟨_, _, _, h⟩ := H.1
    rcases h with ⟨_, ad, c, rfl, _⟩ | ⟨_, _, _, _, _, _, _, rfl⟩ <;> rfl
  | .view m z l' n :: l, y :: ys, 0, j + 1, c, H, h => by simp [cellA] at h
  | .tup _ :: l, y :: ys, 0, j, c, H, h => by simp [cellA] at h
  | .eptr _ _ _ _ :: l, y :: ys, 0, j, c, H, h => by simp [cellA] at h
  | .fptr _ _ _ _ :: l, y :: ys, 0, j, c, H, h => by simp [cellA] at h
  | v :: l, y :: ys, k + 1, j, c, H, h => by
    have : cellA l k j = some c := by cases v <;> exact h
    exact cell_val (args := l) (ys := ys) (k := k) H.2 this
theorem freshL_allV : ∀ {l : List CV}, l.all isV = true → freshL l = []
  | [], _ => rfl
  | c :: l, h => by
    simp only [List.all_cons, Bool.and_eq_true] at h
    unfold freshL
    rw [freshL_allV h.2]
    cases c <;> first | rfl | simp [isV] at h
theorem freshs_allV : ∀ {l : List XV}, allV l = true → freshs l = []
  | [], _ => rfl
  | x :: l, h => by
    unfold allV at h
    simp only [List.all_cons, Bool.and_eq_true] at h
    unfold freshs
    rw [freshL_allV h.1, freshs_allV (l := l) h.2]; rfl
theorem call_sound (hO : OSound P O) (R : RelE base X F0 B E s a w) (hb : base ≤ w.heap.size) {c : Call} (ho : o.op = .call c) (hv : ∀ x ∈ o.op.operands.toList, ConcS (live s) E w (valOf s x) (a.eval x)) {f : FuncId} {caps : List (Nat × Nat)} (hcal : calleeOf s c.callee = some (f, caps))
    {name : Nat} {e : Eff} (he : effCall O name s f (c.args.toList.map (valOf s) ++ caps.map fun p => .x (.c (.ptr p.1 p.2))) = some e) (hok : ∀ q ∈ e.ok, q) (hnw : e.nw.isSome = true → s.mem name = none ∧ name < PN) {p : Prop} {li : List Tmp} {gen : Nat} {K : Act → World → Prop} {Q : Exit → Act → World → Prop}
    (hK : ∀ E' a' w', RelE base X F0 B E' ⟨setTmp s.tmps o.dst (gnow e.v), applyU s.mem (upsOf name e), p, li, gen⟩ a' w' → KeepF base X F0 w w' → K a' w') : o.wp P a w K Q := by
  obtain ⟨x, cv, hx, hev, hcv⟩ := callee_sound R hcal
  unfold effCall at he
  split at he <;> try (simp at he; done)
  rename_i al rows refs hargs
  split at he <;> try (simp at he; done)
  rename_i hd
  split at he <;> try (simp at he; done)
  rename_i ans hans
  have hfa : Fa2 (ConcS (live s) E w) (c.args.toList.map (valOf s) ++ caps.map fun p => SV.x (.c (.ptr p.1 p.2))) (c.args.toList.map a.eval ++ cv.toList) :=
    Fa2.app (vals_conc hv _ fun y hy => by rw [ho]; simp only [Op.operands, Call.operands, Array.toList_append]; exact List.mem_append_right _ hy) hcv
  obtain ⟨hA, hrefs⟩ := argsA_sound R (rows0 := rows) hargs (fun _ h => h) hd hfa
  have hrun : (execOp a.eval o).run P w = (callFunc f (c.args.toList.map a.eval ++ cv.toList).toArray).run P w := by
    simp only [execOp, ho, resolve, hx, hev, Deferred.ofValue, Sem.run_bind, Sem.run_pure, Result.andThen_ok, invoke]
    congr 2
    apply Array.ext'
    simp
  split at he
  · -- a part of an argument's slice
    rename_i v hvw
    unfold effView at he
    split at he <;> try (simp at he; done)
    rename_i hr0
    have hr0 : refs = [] := List.eq_nil_of_length_eq_zero (Nat.eq_of_beq_eq_true hr0)
    subst hr0
    have key : (∀ q ∈ ans.ask, q) ∧ ∀ r y z w', Keep w.heap.size (fun _ => False) w w' → slcA al v.1 v.2.1 = some z → valA (c.args.toList.map a.eval ++ cv.toList) v.1 v.2.1 = some y → SubOf z v.2.2.1 v.2.2.2 y r → K (a.put o.dst r) w' := by
      split at he <;> try (simp at he; done)
      · rename_i z m N hz hc
        simp only [Option.some.injEq] at he
        subst he
        simp only [List.mem_cons, forall_eq_or_imp, ile, decide_eq_true_eq, addZ] at hok
        refine ⟨hok.2.2.2, fun r y z' w' hk hz' hy hs => ?_⟩
        rw [hz] at hz'
        simp only [Option.some.injEq] at hz'
        subst hz'
        obtain ⟨y', e1, e2⟩ := cell_val hfa hc
        rw [e1] at hy
        simp only [Option.some.injEq] at hy
        subst hy
        obtain ⟨R', k⟩ := R.viewed hb hk (hs.view e2 hok.1 hok.2.1 (of_decide_eq_true hok.2.2.1)) o.dst p li gen
        exact hK E _ _ R' k
      · rename_i z m z0 l0 N hz hc
        split at he <;> try (simp at he; done)
        rename_i hzz
        have hzz := Nat.eq_of_beq_eq_true hzz
        subst hzz
        simp only [Option.some.injEq] at he
        subst he
        simp only [List.mem_cons, forall_eq_or_imp, ile, decide_eq_true_eq, addZ] at hok
        refine ⟨hok.2.2.2, fun r y z' w' hk hz' hy hs => ?_⟩
        rw [hz] at hz'
        simp only [Option.some.injEq] at hz'
        subst hz'
        obtain ⟨y', e1, e2⟩ := cell_val hfa hc
        rw [e1] at hy
        simp only [Option.some.injEq] at hy
        subst hy
        obtain ⟨R', k⟩ := R.viewed hb hk (sv := .view m z (addZ l0 v.2.2.1) v.2.2.2) ⟨e2.1, hs.part e2.2 hok.1 hok.2.1 (of_decide_eq_true hok.2.2.1)⟩ o.dst p li gen
        exact hK E _ _ R' k
      · rename_i z z0 N r0 hz hc
        split at he <;> try (simp at he; done)
        rename_i hzz
        have hzz := Nat.eq_of_beq_eq_true hzz
        subst hzz
        simp only [Option.some.injEq] at he
        subst he
        simp only [List.mem_cons, forall_eq_or_imp, ile, decide_eq_true_eq, addZ] at hok
        refine ⟨hok.2.2.2, fun r y z' w' hk hz' hy hs => ?_⟩
        rw [hz] at hz'
        simp only [Option.some.injEq] at hz'
        subst hz'
        obtain ⟨y', e1, e2⟩ := cell_val hfa hc
        rw [e1] at hy
        simp only [Option.some.injEq] at hy
        subst hy
        obtain ⟨R', k⟩ := R.viewed hb hk (sv := .x (.c (.slc z v.2.2.2 (.sub r0 v.2.2.1)))) (hs.rep e2 hok.1 hok.2.1 (of_decide_eq_true hok.2.2.1)) o.dst p li gen
        exact hK E _ _ R' k
    unfold Oper.wp
    rw [hrun]
    rcases hO f al ans hans key.1 with D | ⟨v', hv', D⟩ | ⟨_, D⟩
    · rcases D w (callF E s rows) _ _ (conc_laid R rows) (fun k hk => callF_lt R hk) hA with ⟨v, w', r, hp⟩ | ⟨r, C⟩
      · exact (no_view hp hvw).elim
      · rw [r]
        refine Calls.mono C ?_
        rintro e' w' ⟨v, rfl, hp⟩
        exact (no_view hp hvw).elim
    · rw [hvw] at hv'
      simp only [Option.some.injEq] at hv'
      subst hv'
      obtain ⟨r, C⟩ := D w (callF E s rows) _ (conc_laid R rows) (fun k hk => callF_lt R hk) hA
      rw [r]
      refine Calls.mono C ?_
      rintro e' w' ⟨r, y, z, rfl, h1, h2, h3, h4⟩
      exact key.2 r y z w' h1 h2 h3 h4
    · rcases D w (callF E s rows) _ _ (conc_laid R rows) (fun k hk => callF_lt R hk) hA with ⟨v, w', r, hp⟩ | ⟨r, C⟩
      · exact (no_view (ans := ⟨ans.res, refCells al, ans.ask⟩) hp hvw).elim
      · rw [r]
        refine Calls.mono C ?_
        rintro e' w' ⟨v, rfl, hp⟩
        exact (no_view (ans := ⟨ans.res, refCells al, ans.ask⟩) hp hvw).elim
  rename_i hnv
  split at he
  · -- the blocks handed are as they were
    rename_i hku
    split at he <;> try (simp at he; done)
    rename_i hc
    simp only [Bool.and_eq_true, Nat.beq_eq] at hc
    have hr0 : rows = [] := List.eq_nil_of_length_eq_zero hc.1
    subst hr0
    simp only [Option.some.injEq] at he
    subst he
    obtain ⟨u, hu, hus⟩ := refs_same hargs
    have fin : ∀ v w', Post (callF E s []) w (refs.map E.β) ⟨ans.res, refCells al, ans.ask⟩ v w' → K (a.put o.dst v) w' := fun v w' hp => by
      obtain ⟨⟨E', R'⟩, k⟩ := R.called hb hrefs hp (freshs_allV hc.2) hu o.dst p li gen
      have em : applyU s.mem (froze s [] ++ u) = s.mem := applyU_same hus
      rw [em] at R'
      exact hK E' _ _ R' k
    unfold Oper.wp
    rw [hrun]
    rcases hO f al ans hans hok with D | ⟨v, e, _⟩ | ⟨_, D⟩
    · rcases D w (callF E s []) _ _ (conc_laid R []) (fun k hk => callF_lt R hk) hA with ⟨v, w', r, hp⟩ | ⟨r, C⟩
      · exact (no_keep hp hku).elim
      · rw [r]
        refine Calls.mono C ?_
        rintro e' w' ⟨v, rfl, hp⟩
        exact (no_keep hp hku).elim
    · rw [hnv] at e; simp at e
    · rcases D w (callF E s []) _ _ (conc_laid R []) (fun k hk => callF_lt R hk) hA with ⟨v, w', r, hp⟩ | ⟨r, C⟩
      · rw [r]; exact fin v w' hp
      · rw [r]
        refine Calls.mono C ?_
        rintro e' w' ⟨v, rfl, hp⟩
        exact fin v w' hp
  rename_i hku
  split at he <;> try (simp at he; done)
  rename_i u hu
  have hask : ∀ q ∈ ans.ask, q := by
    split at he
    · split at he <;> try (simp at he; done)
      split at he
      · simp only [Option.some.injEq] at he; subst he; exact hok
      · simp only [Option.some.injEq] at he; subst he; exact hok
    · split at he <;> try (simp at he; done)
      split at he
      · simp only [Option.some.injEq] at he; subst he; exact fun q hq => hok q (by simp [hq])
      · simp only [Option.some.injEq] at he; subst he; exact hok
    · simp at he
  have fin : ∀ v w', Post (callF E s rows) w (refs.map E.β) ans v w' → K (a.put o.dst v) w' := by
    intro v w' hp
    split at he
    · rename_i hfr
      split at he <;> try (simp at he; done)
      split at he
      · rename_i hc
        simp only [Bool.and_eq_true, Nat.beq_eq] at hc
        simp only [Option.some.injEq] at he
        subst he
        have hr0 : refs = [] := List.eq_nil_of_length_eq_zero hc.2
        subst hr0
        obtain ⟨R', k⟩ := R.called0 hb hp hc.1 hfr o.dst p li gen
        exact hK E _ _ R' k
      · simp only [Option.some.injEq] at he
        subst he
        obtain ⟨⟨E', R'⟩, k⟩ := R.called hb hrefs hp hfr hu o.dst p li gen
        exact hK E' _ _ R' k
    · rename_i z n r hfr
      split at he <;> try (simp at he; done)
      split at he
      · rename_i hc
        simp only [Bool.and_eq_true, Nat.beq_eq] at hc
        simp only [Option.some.injEq] at he
        subst he
        have hr0 : refs = [] := List.eq_nil_of_length_eq_zero hc.1.2
        subst hr0
        obtain ⟨hn1, hn2⟩ := hnw rfl
        obtain ⟨⟨E', R'⟩, k⟩ := R.calledP hb hp hfr (hok _ (by simp)) hc.2 hn1 hn2 o.dst p li gen
        exact hK E' _ _ R' k
      simp only [Option.some.injEq] at he
      subst he
      obtain ⟨hn1, hn2⟩ := hnw rfl
      obtain ⟨⟨E', R'⟩, k⟩ := R.calledF hb hrefs hp hfr hu hn1 hn2 o.dst p li gen
      exact hK E' _ _ R' k
    · simp at he
  have D := ((hO f al ans hans hask).resolve_right fun h => by
    rcases h with ⟨v, e, _⟩ | ⟨e, _⟩
    · rw [hnv] at e; simp at e
    · exact hku e) w (callF E s rows) _ _ (conc_laid R rows) (fun k hk => callF_lt R hk) hA
  unfold Oper.wp
  rw [hrun]
  rcases D with ⟨v, w', r, hp⟩ | ⟨r, C⟩
  · rw [r]; exact fin v w' hp
  · rw [r]
    refine Calls.mono C ?_
    rintro e' w' ⟨v, rfl, hp⟩
    exact fin v w' hp
end
end Go.Proofs.Ytdpmigbenkndbaa.QR
namespace Go.Proofs.Ytdpmigbenkndbaa.QR
open Go.RowKit PR
set_option linter.unusedVariables false
set_option linter.unusedSimpArgs false
section
variable {P : Program} {O : Oracle} {base : Nat} {X F0 : Nat → Prop} {B : Nat → (Nat × Value) × Bool} {E : Env} {s : PSt} {a : Act} {w : World} {o : Oper}
theorem fin_v {K : Act → World → Prop} {Q : Exit → Act → World → Prop} {p : Prop} {li : List Tmp} {gen : Nat} (R : RelE base X F0 B E s a w) {x : Value} (hp : plainB x = true) (hr : (execOp a.eval o).run P w = .ok (.value x) w)
    (hK : ∀ E' a' w', RelE base X F0 B E' ⟨setTmp s.tmps o.dst (gnow (vS x)), applyU s.mem [], p, li, gen⟩ a' w' → KeepF base X F0 w w' → K a' w') : o.wp P a w K Q :=
  fin (v := vS x) R hr (Rep.v hp) hK
theorem row_news (R : RelE base X F0 B E s a w) {m z : Nat} {n : Int} {r : Row} (h : rowOf s m = some (z, n, r)) :
    (E.ν m = .slice none 0 0 ∧ n = 0) ∨ ∃ (ad : Addr) (k c : Nat) (news : List Value), E.ν m = .slice (some ad) k c ∧ n = k ∧ news.length = k * z ∧ (∀ j u, news[j]? = some u → w.cell? (ad.add j) = some u) ∧ (∀ u ∈ news, u.oneCell' = true) ∧ RepRow E.F w z n r news := by
  unfold rowOf at h
  split at h <;> try (simp at h; done)
  · rename_i z' n' r' hm
    simp only [Option.some.injEq, Prod.mk.injEq] at h
    obtain ⟨rfl, rfl, rfl⟩ := h
    obtain ⟨_, k0, hz, _, e, xs, ho, hr⟩ := R.mem m _ hm
    have hc := fun g => ho.cells (g := g)
    have hlen := ho.1
    rcases ho.2 with ⟨hv', h0⟩ | ⟨g, cap, cur, hv', _⟩
    · exact Or.inl ⟨hv', by omega⟩
    · refine Or.inr ⟨⟨g, 0, none⟩, n'.toNat, cap, xs, hv', by omega, hlen, hc g (by rw [hv']; rfl), fun v hv => ?_, hr⟩
      obtain ⟨k, hk, e⟩ := List.getElem_of_mem hv
      rw [hlen] at hk
      have hq : k / z' < n'.toNat := by rw [Nat.div_lt_iff_lt_mul hz]; exact hk
      obtain ⟨u, e1, e2⟩ := hr (k / z') (k % z') (by omega) (Nat.mod_lt k hz)
      rw [show k / z' * z' + k % z' = k by rw [Nat.mul_comm, Nat.div_add_mod], List.getElem?_eq_getElem (by rw [hlen]; exact hk), e] at e1
      simp only [Option.some.injEq] at e1
      rw [e1]; exact e2.one
  · rename_i z' n' r' hm
    simp only [Option.some.injEq, Prod.mk.injEq] at h
    obtain ⟨rfl, rfl, rfl⟩ := h
    have hrep : Rep E.F w (.slc z' n' r') (E.ν m) := (R.mem m _ hm).2
    exact hrep.news
theorem run_copy_rowZ (w : World) (dT sT ty elem : TypeId) (z g o dLen dCap : Nat) (a : Addr) (sLen sCap : Nat) (cur : Array Value) (t : TypeId) (cs : List Value)
    (hu : P.underlying dT = some (.slice elem)) (hs : (P.info? elem).map (·.size) = some z)
    (hg : w.heap[g]? = some (.cells cur t (0, 0))) (hn : cs.length = Nat.min sLen dLen * z)
    (hsrc : ∀ j v, cs[j]? = some v → w.cell? (a.add j) = some v) (hfit : o + cs.length ≤ cur.size) (h1 : ∀ v ∈ cs, v.oneCell' = true) :
    (Builtin.copy_ #[dT, sT] ty #[.slice (some ⟨g, o, none⟩) dLen dCap, .slice (some a) sLen sCap]).run P w =
      .ok (goInt (Nat.min sLen dLen)) (w.setRow g (cur.toList.take o ++ cs ++ cur.toList.drop (o + cs.length)).toArray) := by
  have hl := run_loadCells_list (P := P) w a cs hsrc
  have hst := run_storeCells_at P g o t cs 0 cur w hg (by simpa using hfit) h1
  cases hq : P.info? elem with
  | none => simp [hq] at hs
  | some i =>
    have hi : i.size = z := by simpa [hq] using hs
    simp [Builtin.copy_, run_underlying hu, Builtin.lenOf, Builtin.firstCells, sizeOf, typeInfo, hq, hi, ← hn, hl, hst]
theorem run_copy_noneZ (w : World) (dT sT ty elem : TypeId) (d a : Option Addr) (dLen dCap sLen sCap : Nat) (hu : P.underlying dT = some (.slice elem)) (hs : (P.info? elem).isSome = true) (hn : Nat.min sLen dLen = 0) :
    (Builtin.copy_ #[dT, sT] ty #[.slice d dLen dCap, .slice a sLen sCap]).run P w = .ok (goInt 0) w := by
  cases hq : P.info? elem with
  | none => simp [hq] at hs
  | some i =>
    have hl : ∀ (x : Addr), (loadCells x 0).run P w = .ok #[] w := fun x => by simpa using run_loadCells_list (P := P) w x [] (by simp)
    cases d <;> cases a <;> simp [Builtin.copy_, run_underlying hu, Builtin.lenOf, Builtin.firstCells, sizeOf, typeInfo, hq, hn, storeCells, hl]
theorem rowW_mem {m z : Nat} {n : Int} {r : Row} (h : rowW s m = some (z, n, r)) : s.mem m = some (.row z n r) := by
  unfold rowW at h
  split at h <;> try (simp at h; done)
  rename_i e
  simp only [Option.some.injEq, Prod.mk.injEq] at h
  obtain ⟨rfl, rfl, rfl⟩ := h
  exact e
theorem dst_sound {d : SV} {m z : Nat} {l n N : Int} {r : Row} {y : Value} (h : dstA s d = some (m, z, l, n, N, r)) (hd : ConcS (live s) E w d y) :
    s.mem m = some (.row z N r) ∧ 0 ≤ l ∧ 0 ≤ n ∧ ((n = 0 ∧ ∃ ad c, y = .slice ad 0 c) ∨ ∃ b c ln c', E.ν m = .slice (some ⟨b, 0, none⟩) ln c ∧ l.toNat + n.toNat ≤ ln ∧ y = .slice (some ⟨b, l.toNat * z, none⟩) n.toNat c') := by
  unfold dstA at h
  split at h
  · split at h <;> try (simp at h; done)
    rename_i z' N' r' hro
    simp only [Option.some.injEq, Prod.mk.injEq] at h
    obtain ⟨rfl, rfl, rfl, rfl, rfl, rfl⟩ := h
    obtain ⟨_, h2, h3, h4⟩ := hd
    refine ⟨rowW_mem hro, Int.le_refl _, h3, ?_⟩
    rcases h4 with ⟨rfl, rfl⟩ | ⟨b, c, rfl⟩
    · exact Or.inl ⟨rfl, _, _, rfl⟩
    · exact Or.inr ⟨b, c, _, c, h2.symm, by simp, by simp⟩
  · split at h <;> try (simp at h; done)
    rename_i z' N' r' hro
    split at h <;> try (simp at h; done)
    rename_i hz
    have hz := Nat.eq_of_beq_eq_true hz
    subst hz
    simp only [Option.some.injEq, Prod.mk.injEq] at h
    obtain ⟨rfl, rfl, rfl, rfl, rfl, rfl⟩ := h
    obtain ⟨_, h2, h3, h4⟩ := hd
    refine ⟨rowW_mem hro, h2, h3, ?_⟩
    rcases h4 with ⟨rfl, ad, c, rfl, _⟩ | ⟨b, c, ln, c', k1, k2, _, k4⟩
    · exact Or.inl ⟨rfl, _, _, rfl⟩
    · exact Or.inr ⟨b, c, ln, c', k1, k2, k4⟩
  · simp at h
theorem src_sound (R : RelE base X F0 B E s a w) {c : SV} {z : Nat} {n : Int} {r : Row} {rd : List Nat} {y : Value} (h : srcV s c = some (z, n, r, rd)) (hc : ConcS (live s) E w c y) :
    0 ≤ n ∧ ∃ (ad : Option Addr) (cc : Nat) (news : List Value), y = .slice ad n.toNat cc ∧ news.length = n.toNat * z ∧ (0 < n → ∃ a', ad = some a' ∧ ∀ j u, news[j]? = some u → w.cell? (a'.add j) = some u) ∧ (∀ u ∈ news, u.oneCell' = true) ∧ RepRow E.F w z n r news := by
  have fin : ∀ {z : Nat} {n : Int} {r : Row}, ((y = .slice none 0 0 ∧ n = 0) ∨ ∃ (ad : Addr) (k c : Nat) (news : List Value), y = .slice (some ad) k c ∧ n = k ∧ news.length = k * z ∧ (∀ j u, news[j]? = some u → w.cell? (ad.add j) = some u) ∧ (∀ u ∈ news, u.oneCell' = true) ∧ RepRow E.F w z n r news) →
      0 ≤ n ∧ ∃ (ad : Option Addr) (cc : Nat) (news : List Value), y = .slice ad n.toNat cc ∧ news.length = n.toNat * z ∧ (0 < n → ∃ a', ad = some a' ∧ ∀ j u, news[j]? = some u → w.cell? (a'.add j) = some u) ∧ (∀ u ∈ news, u.oneCell' = true) ∧ RepRow E.F w z n r news := by
    rintro z n r (⟨rfl, rfl⟩ | ⟨ad, k, cc, news, rfl, rfl, h1, h2, h3, h4⟩)
    · exact ⟨Int.le_refl _, none, 0, [], rfl, by simp, fun h => by omega, by simp, fun i j hi _ => by omega⟩
    · exact ⟨by omega, some ad, cc, news, by simp, by simpa using h1, fun _ => ⟨ad, rfl, h2⟩, h3, h4⟩
  unfold srcV at h
  split at h
  · unfold srcA at h
    split at h
    · split at h <;> try (simp at h; done)
      rename_i z' n' r' hro
      simp only [Option.some.injEq, Prod.mk.injEq] at h
      obtain ⟨rfl, rfl, rfl, rfl⟩ := h
      have hy : y = _ := hc.2.1
      have := row_news R hro
      rw [← hy] at this
      exact fin this
    · simp only [Option.some.injEq, Prod.mk.injEq] at h
      obtain ⟨rfl, rfl, rfl, rfl⟩ := h
      have hc : Rep E.F w _ y := hc
      exact fin hc.news
    · simp at h
  · rename_i m z l n'
    split at h <;> try (simp at h; done)
    rename_i z' N r' hro
    split at h <;> try (simp at h; done)
    rename_i hz
    have hz := Nat.eq_of_beq_eq_true hz
    subst hz
    simp only [Option.some.injEq, Prod.mk.injEq] at h
    obtain ⟨rfl, rfl, rfl, rfl⟩ := h
    obtain ⟨_, h1, h2, h3⟩ := hc
    refine ⟨h2, ?_⟩
    rcases h3 with ⟨rfl, ad, c, rfl, _⟩ | ⟨b, c, ln, c', hν, hle, _, rfl⟩
    · exact ⟨ad, c, [], rfl, by simp, fun h => by omega, by simp, fun i j hi _ => by omega⟩
    · rcases row_news R hro with ⟨h, _⟩ | ⟨ad, k, cc, news, h, rfl, g1, g2, g3, g4⟩
      · rw [hν] at h; simp at h
      · rw [hν] at h
        simp only [Value.slice.injEq, Option.some.injEq] at h
        obtain ⟨rfl, rfl, rfl⟩ := h
        have hm := Nat.mul_le_mul_right z hle
        rw [Nat.add_mul] at hm
        refine ⟨_, c', (news.drop (l.toNat * z)).take (n'.toNat * z), rfl, by rw [List.length_take, List.length_drop]; omega, fun _ => ⟨_, rfl, fun j u hj => ?_⟩, fun u hu => g3 u (List.mem_of_mem_drop (List.mem_of_mem_take hu)), fun i j hi hj => ?_⟩
        · rw [List.getElem?_take] at hj
          split at hj
          · rw [List.getElem?_drop] at hj
            have := g2 _ _ hj
            rw [Addr.add_lit] at this ⊢
            simpa using this
          · simp at hj
        · obtain ⟨u, e1, e2⟩ := g4 (i + l.toNat) j (by omega) hj
          refine ⟨u, ?_, ?_⟩
          · rw [List.getElem?_take, if_pos (idx_lt (by omega) hj), List.getElem?_drop, ← e1]
            congr 1
            rw [Nat.add_mul]
            omega
          · show Rep E.F w (den r' (addZ i l) j) u
            rw [show addZ (i : Int) l = ((i + l.toNat : Nat) : Int) by unfold addZ; omega]
            exact e2
  · simp at h
theorem RepRow.cpy0 {F : Nat → Prop} {z : Nat} {N : Int} {r r2 : Row} {xs : List Value} (l : Int) (h : RepRow F w z N r xs) : RepRow F w z N (cpyR r l 0 r2) xs := by
  intro i j hi hj
  obtain ⟨u, e1, e2⟩ := h i j hi hj
  refine ⟨u, e1, ?_⟩
  show Rep F w (csel (ilt i (addZ l 0)) (csel (ilt i l) (den r i j) _) (den r (addZ (subZ i (addZ l 0)) (addZ l 0)) j)) u
  rw [csel_eq, csel_eq, show addZ (subZ (i : Int) (addZ l 0)) (addZ l 0) = i by unfold addZ subZ; omega]
  unfold ilt addZ
  by_cases hl : (i : Int) < l
  · rw [decide_eq_true (show (i : Int) < l + 0 by omega), decide_eq_true hl]; exact e2
  · rw [decide_eq_false (show ¬ (i : Int) < l + 0 by omega)]; exact e2
theorem RepRow.cpy {F : Nat → Prop} {z : Nat} {N n2 : Int} {r r2 : Row} {xs news : List Value} {l k : Int} (h : RepRow F w z N r xs) (h2 : RepRow F w z n2 r2 news) (h0 : 0 ≤ l) (hk0 : 0 ≤ k) (hk : k ≤ n2) (hx : xs.length = N.toNat * z) (hn : news.length = n2.toNat * z) (hN : l + k ≤ N) :
    RepRow F w z N (cpyR r l k r2) (PR.splice xs (l.toNat * z) (news.take (k.toNat * z))) := by
  intro i j hi hj
  have m1 : (l.toNat + k.toNat) * z ≤ N.toNat * z := Nat.mul_le_mul_right z (by omega)
  have m2 : k.toNat * z ≤ n2.toNat * z := Nat.mul_le_mul_right z (by omega)
  rw [Nat.add_mul] at m1
  have hlen : (news.take (k.toNat * z)).length = k.toNat * z := by rw [List.length_take]; omega
  show ∃ u, (PR.splice xs (l.toNat * z) (news.take (k.toNat * z)))[i * z + j]? = some u ∧ Rep F w (csel (ilt i (addZ l k)) (csel (ilt i l) (den r i j) (den r2 (subZ i l) j)) (den r (addZ (subZ i (addZ l k)) (addZ l k)) j)) u
  rw [csel_eq, csel_eq, show addZ (subZ (i : Int) (addZ l k)) (addZ l k) = i by unfold addZ subZ; omega]
  unfold PR.splice
  rw [splice_get _ _ _ _ (by rw [hlen]; omega), hlen]
  unfold ilt addZ subZ
  by_cases hl : (i : Int) < l
  · have q := idx_lt (z := z) (show i < l.toNat by omega) hj
    rw [decide_eq_true (show (i : Int) < l + k by omega), decide_eq_true hl, if_pos q]
    exact h i j hi hj
  · have q : l.toNat * z ≤ i * z := Nat.mul_le_mul_right z (by omega)
    rw [decide_eq_false hl, if_neg (by omega)]
    by_cases hlk : (i : Int) < l + k
    · have q2 := idx_lt (z := z) (show i - l.toNat < k.toNat by omega) hj
      have q3 : i * z = l.toNat * z + (i - l.toNat) * z := by rw [← Nat.add_mul]; congr 1; omega
      rw [decide_eq_true hlk, if_pos (by omega)]
      obtain ⟨u, e1, e2⟩ := h2 (i - l.toNat) j (by omega) hj
      refine ⟨u, ?_, ?_⟩
      · rw [List.getElem?_take, if_pos (by omega), ← e1]; congr 1; omega
      · rw [show (i : Int) - l = ((i - l.toNat : Nat) : Int) by omega]; exact e2
    · have q2 : (l.toNat + k.toNat) * z ≤ i * z := Nat.mul_le_mul_right z (by omega)
      rw [Nat.add_mul] at q2
      rw [decide_eq_false hlk, if_neg (by omega)]
      exact h i j hi hj
theorem mul_le_of {n b k : Nat} (h : n * b ≤ k) (hb : 0 < b) : n ≤ k := Nat.le_trans (Nat.le_mul_of_pos_right n hb) h
theorem builtin_sound (R : RelE base X F0 B E s a w) (hb : base ≤ w.heap.size) {c : Call} (ho : o.op = .call c) (hv : ∀ x ∈ o.op.operands.toList, ConcS (live s) E w (valOf s x) (a.eval x)) {b : Builtin} (hcal : c.callee = .builtin b) {name : Nat}
    {e : Eff} (he : effBuiltin P name s b c.argTypes.toList (c.args.toList.map (valOf s)) = some e) (hok : ∀ q ∈ e.ok, q) (hnw : e.nw.isSome = true → s.mem name = none ∧ name < PN) {p : Prop} {li : List Tmp} {gen : Nat} {K : Act → World → Prop} {Q : Exit → Act → World → Prop}
    (hK : ∀ E' a' w', RelE base X F0 B E' ⟨setTmp s.tmps o.dst (gnow e.v), applyU s.mem (upsOf name e), p, li, gen⟩ a' w' → KeepF base X F0 w w' → K a' w') : o.wp P a w K Q := by
  have hargs : Fa2 (ConcS (live s) E w) (c.args.toList.map (valOf s)) (c.args.toList.map a.eval) :=
    vals_conc hv _ fun y hy => by rw [ho]; simp only [Op.operands, Call.operands, Array.toList_append]; exact List.mem_append_right _ hy
  have hrun : ∀ ys : List Value, c.args.toList.map a.eval = ys → (execOp a.eval o).run P w = (builtin b c.argTypes o.type (c.args.map fun | .const _ => true | _ => false) ys.toArray).run P w := by
    intro ys hys
    simp only [execOp, ho, resolve, hcal, Sem.run_bind, Sem.run_pure, Result.andThen_ok, invoke]
    congr 2
    apply Array.ext'
    simpa using hys
  unfold effBuiltin at he
  split at he
  · -- min
    rename_i args tys k x l y hq
    simp only [eV, Option.some.injEq] at he
    subst he
    have hq : c.args.toList.map (valOf s) = _ := hq
    rw [hq] at hargs
    generalize hys : c.args.toList.map a.eval = ys at hargs
    match ys, hargs with
    | [y1, y2], hargs =>
      obtain rfl := cv_v hargs.1
      obtain rfl := cv_v hargs.2.1
      refine fin_v R rfl ?_ hK
      rw [hrun _ hys]
      simp only [builtin, Sem.run_bind, Builtin.min_, List.foldlM_cons, List.foldlM_nil, Builtin.min2, iimin]
      rfl
  · -- max
    rename_i args tys k x l y hq
    simp only [eV, Option.some.injEq] at he
    subst he
    have hq : c.args.toList.map (valOf s) = _ := hq
    rw [hq] at hargs
    generalize hys : c.args.toList.map a.eval = ys at hargs
    match ys, hargs with
    | [y1, y2], hargs =>
      obtain rfl := cv_v hargs.1
      obtain rfl := cv_v hargs.2.1
      refine fin_v R rfl ?_ hK
      rw [hrun _ hys]
      simp only [builtin, Sem.run_bind, Builtin.max_, List.foldlM_cons, List.foldlM_nil, Builtin.max2, iimax]
      rfl
  · -- len
    rename_i args tys cv t hq htys
    have hq : c.args.toList.map (valOf s) = _ := hq
    have ht : c.argTypes = #[t] := by apply Array.ext'; simpa using htys
    rw [hq] at hargs
    generalize hys : c.args.toList.map a.eval = ys at hargs
    match ys, hargs with
    | [y1], hargs =>
      have h1 := hargs.1
      have run1 : (execOp a.eval o).run P w = ((Builtin.len_ #[t] o.type #[y1]).run P w).andThen fun v w' => .ok (.value v) w' := by
        rw [hrun _ hys, ht]
        simp only [builtin, Sem.run_bind, Sem.run_pure]
      split at he <;> try (simp at he; done)
      · rename_i b _ _ _ _
        have hu : P.underlying t = some .string := by assumption
        simp only [eV, Option.some.injEq] at he
        subst he
        obtain rfl := cv_v h1
        refine fin_v R rfl ?_ hK
        rw [run1, run_len_string (h := hu)]; rfl
      · rename_i e' _ _ _ _
        have hu := ‹P.underlying t = some _›
        simp only [eV, Option.some.injEq] at he
        subst he
        obtain rfl := cv_v h1
        refine fin_v R rfl ?_ hK
        rw [run1]; simp [Builtin.len_, run_underlying hu, goInt]
      · rename_i e' m n _ _ _
        have hu := ‹P.underlying t = some _›
        simp only [eV, Option.some.injEq] at he
        subst he
        obtain ⟨ad, cc, hy⟩ : ∃ ad cc, y1 = .slice ad n.toNat cc := by
          obtain ⟨_, _, _, ⟨h, rfl⟩ | ⟨b, c, h⟩⟩ := h1
          · exact ⟨_, _, h⟩
          · exact ⟨_, _, h⟩
        have h0 : 0 ≤ n := h1.2.2.1
        refine fin_v R rfl ?_ hK
        rw [run1, hy]; simp [Builtin.len_, run_underlying hu, goInt]; omega
      · rename_i e' z n r _ _ _
        have hu := ‹P.underlying t = some _›
        simp only [eV, Option.some.injEq] at he
        subst he
        have h1 : Rep E.F w (.slc z n r) y1 := h1
        refine fin_v R rfl ?_ hK
        rw [run1]
        rcases h1.news with ⟨rfl, rfl⟩ | ⟨ad, m, cc, news, rfl, rfl, _⟩
        · simp [Builtin.len_, run_underlying hu, goInt]
        · simp [Builtin.len_, run_underlying hu, goInt]
  · -- append
    rename_i args tys av cv t u hq htys
    have hq : c.args.toList.map (valOf s) = _ := hq
    have ht : c.argTypes = #[t, u] := by apply Array.ext'; simpa using htys
    rw [hq] at hargs
    generalize hys : c.args.toList.map a.eval = ys at hargs
    split at he <;> try (simp at he; done)
    rename_i el hu
    split at he <;> try (simp at he; done)
    rename_i zs hz
    split at he <;> try (simp at he; done)
    rename_i hc
    simp only [Bool.and_eq_true, Nat.beq_eq, Nat.blt_eq] at hc
    obtain ⟨⟨htu, hsz⟩, hbz⟩ := hc
    subst htu
    obtain ⟨i, z, hi, hiz, hzc, hzl, hzp⟩ := zeroL_spec hz
    have hs : sizeT P el = i.size := by simp [sizeT, hi]
    have hby : bytesT P el = i.bytes := by simp [bytesT, hi]
    rw [hs] at hsz
    rw [hby] at hbz
    have hzs : z.cells.size = i.size := by rw [hzc]; simpa using hzl
    match ys, hargs with
    | [y1, y2], hargs =>
      have h1 := hargs.1
      have h2 : ConcC (live s) E w cv y2 := hargs.2.1
      have run1 : (execOp a.eval o).run P w = ((Builtin.append_ #[t, t] o.type #[y1, y2]).run P w).andThen fun v w' => .ok (.value v) w' := by
        rw [hrun _ hys, ht]
        simp only [builtin, Sem.run_bind, Sem.run_pure]
      split at he <;> try (simp at he; done)
      rename_i z2 n2 r2 rd hrow
      split at he <;> try (simp at he; done)
      rename_i hz2
      have hz2 := Nat.eq_of_beq_eq_true hz2
      rw [hs] at hz2
      subst hz2
      have hnews : (y2 = .slice none 0 0 ∧ n2 = 0) ∨ ∃ (ad : Addr) (k c : Nat) (news : List Value), y2 = .slice (some ad) k c ∧ n2 = k ∧ news.length = k * i.size ∧ (∀ j u, news[j]? = some u → w.cell? (ad.add j) = some u) ∧ (∀ u ∈ news, u.oneCell' = true) ∧ RepRow E.F w i.size n2 r2 news := by
        unfold srcA at hrow
        split at hrow
        · rename_i m n
          split at hrow <;> try (simp at hrow; done)
          rename_i z' n' r' hro
          simp only [Option.some.injEq, Prod.mk.injEq] at hrow
          obtain ⟨rfl, rfl, rfl, rfl⟩ := hrow
          rw [h2.2.1]
          exact row_news R hro
        · simp only [Option.some.injEq, Prod.mk.injEq] at hrow
          obtain ⟨rfl, rfl, rfl, rfl⟩ := hrow
          have h2 : Rep E.F w _ y2 := h2
          exact h2.news
        · simp at hrow
      have h20 : 0 ≤ n2 := by rcases hnews with ⟨_, rfl⟩ | ⟨_, k, _, _, _, rfl, _⟩ <;> omega
      have main : ∀ (n1 : Nat) (xs : List Value) (e0 : TypeId), w.ownsRow base e0 i.size y1 n1 xs → (n1 + n2.toNat) * i.bytes ≤ 140737488355328 → ∃ v' w' news e', (Builtin.append_ #[t, t] o.type #[y1, y2]).run P w = .ok v' w' ∧ w'.ownsRow base e' i.size v' (n1 + n2.toNat) (xs ++ news) ∧ w.grownBy w' y1.ownBlock ∧
          (∀ k, v'.ownBlock = some k → w.heap.size ≤ k ∨ y1.ownBlock = some k) ∧ RepRow E.F w i.size n2 r2 news := by
        intro n1 xs e0 hown hby
        rcases hnews with ⟨rfl, rfl⟩ | ⟨ad, k, cc, news, rfl, rfl, g1, g2, g3, g4⟩
        · refine ⟨y1, w, [], e0, ?_, by simpa using hown, ⟨rfl, rfl, rfl, Nat.le_refl _, fun _ _ _ => rfl⟩, fun k h => Or.inr h, fun i' j h => by omega⟩
          rcases hown.2 with ⟨rfl, rfl⟩ | ⟨g, cap, cur, rfl, _, _, hnc, _⟩
          · simp [Builtin.append_, run_underlying hu, sizeOf, typeInfo, hi, Builtin.lenOf, Builtin.firstCells]
          · simp [Builtin.append_, run_underlying hu, sizeOf, typeInfo, hi, Builtin.lenOf, Builtin.firstCells, hnc, storeCells]
        · have hle := mul_le_of hby hbz
          obtain ⟨v', w', e', e1, e2, e3, e4⟩ := append_at (P := P) w base t o.type el e0 i z hu hi hiz hzs y1 n1 xs hown ad k cc news g1 g2 g3 (by simp only [maxLen]; simp at hle; omega) (by simpa using hby) hb
          exact ⟨v', w', news, e', e1, by simpa using e2, e3, e4, g4⟩
      split at he <;> try (simp at he; done)
      · -- to nothing
        simp only [Option.some.injEq] at he
        subst he
        obtain rfl := cv_v h1
        obtain ⟨hn1, hn2⟩ := hnw rfl
        have hask := hok _ (List.mem_singleton.2 rfl)
        simp only [ile, decide_eq_true_eq, imulZ, hby] at hask
        have hask' : (0 + n2.toNat) * i.bytes ≤ 140737488355328 := by
          have : ((n2.toNat : Nat) : Int) = n2 := by omega
          rw [← this, ← Int.natCast_mul] at hask
          rw [Nat.zero_add]
          omega
        obtain ⟨v', w', news, el', e1, e2, e3, e4, e5⟩ := main 0 [] el (World.ownsRow_nil w base el i.size) hask'
        rw [Nat.zero_add, List.nil_append] at e2
        have hF : ∀ k, E.F k → w'.heap[k]? = w.heap[k]? := fun k hk => e3.block k (R.frz k hk).1 (by simp [Value.ownBlock])
        obtain ⟨⟨E', R'⟩, kp⟩ := R.new_row hb hn1 hn2 e3 (u := []) (Or.inl ⟨rfl, rfl⟩) (r := r2) hsz h20 e2 (fun i' j h h' => by obtain ⟨u, q1, q2⟩ := e5 i' j h h'; exact ⟨u, q1, q2.mono (fun _ h => h) hF⟩) (fun k hk => e4 k hk) o.dst p li gen
        unfold Oper.wp
        rw [run1, e1]
        exact hK E' _ _ R' kp
      · -- to a row of one's own
        rename_i m nn _ _
        split at he <;> try (simp at he; done)
        rename_i z' n' r' hro
        split at he <;> try (simp at he; done)
        rename_i hz'
        have hz' := Nat.eq_of_beq_eq_true hz'
        subst hz'
        simp only [Option.some.injEq] at he
        subst he
        obtain ⟨hn1, hn2⟩ := hnw rfl
        unfold rowW at hro
        split at hro <;> try (simp at hro; done)
        rename_i z3 n3 r3 hm
        simp only [Option.some.injEq, Prod.mk.injEq] at hro
        obtain ⟨hq1, rfl, rfl⟩ := hro
        rw [hq1] at hm
        obtain ⟨_, k0, hz0, hnF, el', xs, ho', hr⟩ := R.mem m _ hm
        have hy1 : y1 = E.ν m := h1.2.1
        have hask := hok _ (List.mem_singleton.2 rfl)
        simp only [ile, decide_eq_true_eq, imulZ, hby, addZ] at hask
        have hask' : (n3.toNat + n2.toNat) * i.bytes ≤ 140737488355328 := by
          have : n3 + n2 = ((n3.toNat + n2.toNat : Nat) : Int) := by omega
          rw [this, ← Int.natCast_mul] at hask
          omega
        obtain ⟨v', w', news, el2, e1, e2, e3, e4, e5⟩ := main n3.toNat xs el' (by rw [hy1]; exact ho') hask'
        rw [hy1] at e3 e4
        have hF : ∀ k, E.F k → w'.heap[k]? = w.heap[k]? := fun k hk => e3.block k (R.frz k hk).1 (fun e => hnF k e.symm hk)
        have e2' : w'.ownsRow base el2 i.size v' (addZ n3 n2).toNat (xs ++ news) := by
          rw [show (addZ n3 n2).toNat = n3.toNat + n2.toNat by unfold addZ; omega]; exact e2
        have hrr := RepRow.app k0 ho'.1 hr e5
        obtain ⟨⟨E', R'⟩, kp⟩ := R.new_row hb hn1 hn2 e3 (u := [(m, .dead)]) (Or.inr ⟨m, _, _, _, hm, rfl, rfl⟩) (r := .app r3 n3 r2) hsz (by unfold addZ; omega) e2' (fun i' j h h' => by obtain ⟨u, q1, q2⟩ := hrr i' j h h'; exact ⟨u, q1, q2.mono (fun _ h => h) hF⟩) (fun k hk => e4 k hk) o.dst p li gen
        unfold Oper.wp
        rw [run1, e1]
        exact hK E' _ _ R' kp
  · -- copy
    rename_i args tys dv cv t u hq htys
    have hq : c.args.toList.map (valOf s) = _ := hq
    have ht : c.argTypes = #[t, u] := by apply Array.ext'; simpa using htys
    rw [hq] at hargs
    generalize hys : c.args.toList.map a.eval = ys at hargs
    split at he <;> try (simp at he; done)
    rename_i el hu
    split at he <;> try (simp at he; done)
    rename_i hinf
    split at he <;> try (simp at he; done)
    rename_i m z l n N r z2 n2 r2 rd hd hsrc
    split at he <;> try (simp at he; done)
    rename_i hzz
    simp only [Bool.and_eq_true, Nat.beq_eq] at hzz
    obtain ⟨hsz, rfl⟩ := hzz
    have hs : (P.info? el).map (·.size) = some z2 := by
      obtain ⟨i, hi⟩ := Option.isSome_iff_exists.1 hinf
      simp only [sizeT, hi] at hsz
      rw [hi, Option.map_some, hsz]
    simp only [Option.some.injEq] at he
    subst he
    match ys, hargs with
    | [y1, y2], hargs =>
      obtain ⟨hm, l0, n0, hdst⟩ := dst_sound hd hargs.1
      obtain ⟨n20, ad, cc, news, rfl, hnl, hcell, hone, hrr⟩ := src_sound R hsrc hargs.2.1
      have run1 : (execOp a.eval o).run P w = ((Builtin.copy_ #[t, u] o.type #[y1, .slice ad n2.toNat cc]).run P w).andThen fun v w' => .ok (.value v) w' := by
        rw [hrun _ hys, ht]
        simp only [builtin, Sem.run_bind, Sem.run_pure]
      have kmin : ((Nat.min n2.toNat n.toNat : Nat) : Int) = iimin n n2 := by
        show ((min n2.toNat n.toNat : Nat) : Int) = _
        unfold iimin; split <;> omega
      have hval : ∀ k : Nat, (k : Int) = iimin n n2 → ConcS (live s) E w (vS (.int .i64 (iimin n n2))) (goInt k) := by
        intro k hk
        show Rep E.F w (.v (.int .i64 (iimin n n2))) (goInt k)
        rw [← hk]
        exact Rep.v rfl
      by_cases hk0 : iimin n n2 = 0
      · -- nothing goes over
        have hmin : Nat.min n2.toNat n.toNat = 0 := by omega
        obtain ⟨dp, c1, hy1⟩ : ∃ dp c1, y1 = .slice dp n.toNat c1 := by
          rcases hdst with ⟨rfl, ad', c', rfl⟩ | ⟨b, c', ln, c'', _, _, rfl⟩
          · exact ⟨_, _, rfl⟩
          · exact ⟨_, _, rfl⟩
        have run2 := run_copy_noneZ (P := P) w t u o.type el dp ad n.toNat c1 n2.toNat cc hu hinf hmin
        have R' := R.redesc hm (r := cpyR r l (iimin n n2) r2) (fun xs hx => by rw [hk0]; exact hx.cpy0 l) o.dst (gnow (vS (.int .i64 (iimin n n2)))) (goInt 0) (fun _ => hval 0 (by rw [hk0]; rfl)) p li gen
        unfold Oper.wp
        rw [run1, hy1, run2]
        exact hK E _ _ R' (KeepF.refl _ _ _ _)
      · rcases hdst with ⟨rfl, _⟩ | ⟨b, c1, ln, c', hν, hle, rfl⟩
        · exact (hk0 (by unfold iimin; split <;> omega)).elim
        · have hkn : iimin n n2 ≤ n ∧ iimin n n2 ≤ n2 := by unfold iimin; split <;> omega
          have hkp : 0 < iimin n n2 := by omega
          have hkt : (iimin n n2).toNat = Nat.min n2.toNat n.toNat := by omega
          obtain ⟨a', rfl, hcl⟩ := hcell (by omega)
          obtain ⟨_, k0, _, hnF, el', xs, ho', hr⟩ := R.mem m _ hm
          rcases ho'.2 with ⟨hv', _⟩ | ⟨g, cap, cur, hv', hbg, hg, hnc, hcm, hcs, htake⟩
          · rw [hν] at hv'; simp at hv'
          · have hvv := hv'
            rw [hν] at hvv
            simp only [Value.slice.injEq, Option.some.injEq, Addr.mk.injEq, and_true] at hvv
            obtain ⟨rfl, rfl, rfl⟩ := hvv
            have hxl := ho'.1
            have m1 : (l.toNat + (iimin n n2).toNat) * z2 ≤ N.toNat * z2 := Nat.mul_le_mul_right z2 (by omega)
            have m2 : (iimin n n2).toNat * z2 ≤ n2.toNat * z2 := Nat.mul_le_mul_right z2 (by omega)
            have m3 : N.toNat * z2 ≤ c1 * z2 := Nat.mul_le_mul_right z2 hnc
            rw [Nat.add_mul] at m1
            have hcl' : (news.take ((iimin n n2).toNat * z2)).length = (iimin n n2).toNat * z2 := by rw [List.length_take]; omega
            have hfit : l.toNat * z2 + (news.take ((iimin n n2).toNat * z2)).length ≤ cur.size := by rw [hcl', hcs]; omega
            have run2 := run_copy_rowZ (P := P) w t u o.type el z2 b (l.toNat * z2) n.toNat c' a' n2.toNat cc cur el' (news.take ((iimin n n2).toNat * z2)) hu hs hg (by rw [hcl', hkt]) (fun j v hj => by
              rw [List.getElem?_take] at hj
              split at hj
              · exact hcl j v hj
              · simp at hj) hfit (fun v hv => hone v (List.mem_of_mem_take hv))
            have ru := RepRow.cpy hr hrr l0 (Int.le_of_lt hkp) hkn.2 hxl hnl (by omega)
            have hlenS : (PR.splice cur.toList (l.toNat * z2) (news.take ((iimin n n2).toNat * z2))).length = cur.size := by
              unfold PR.splice
              rw [splice_len _ _ _ (by rw [Array.length_toList]; exact hfit), Array.length_toList]
            have hown' : (w.setRow b (PR.splice cur.toList (l.toNat * z2) (news.take ((iimin n n2).toNat * z2))).toArray).ownsRow base el' z2 (E.ν m) N.toNat (PR.splice xs (l.toNat * z2) (news.take ((iimin n n2).toNat * z2))) := by
              refine ⟨?_, .inr ⟨b, c1, _, hv', hbg, setRow_heap w b cur _ el' _ hg, hnc, hcm, ?_, ?_⟩⟩
              · unfold PR.splice
                rw [splice_len _ _ _ (by rw [hcl', hxl]; omega), hxl]
              · rw [List.size_toArray, hlenS, hcs]
              · rw [← htake]
                apply List.ext_getElem?
                intro q
                unfold PR.splice
                rw [splice_get _ _ _ _ (by rw [hcl', List.length_take, Array.length_toList]; omega), List.getElem?_take]
                have e2 := splice_get cur.toList (news.take ((iimin n n2).toNat * z2)) (l.toNat * z2) q (by rw [Array.length_toList]; exact hfit)
                simp only [List.getElem?_take] at *
                rw [e2, hcl']
                by_cases hq : q < N.toNat * z2
                · simp only [hq, if_true]
                · simp only [hq, if_false]
                  rw [if_neg (by omega), if_neg (by omega)]
            obtain ⟨R', kp⟩ := R.put_row hm (w' := w.setRow b (PR.splice cur.toList (l.toNat * z2) (news.take ((iimin n n2).toNat * z2))).toArray) (k0 := b) (by rw [hv']; rfl) (fun k hk => setRow_other w b k _ hk) ⟨rfl, rfl, rfl, by simp⟩ hown' ru o.dst (gnow (vS (.int .i64 (iimin n n2)))) (goInt (Nat.min n2.toNat n.toNat)) (fun _ => hval _ kmin) p li gen
            unfold Oper.wp
            rw [run1, run2]
            exact hK E _ _ R' kp
  · -- len of a part
    rename_i args tys m z l n t hq htys
    have hq : c.args.toList.map (valOf s) = _ := hq
    have ht : c.argTypes = #[t] := by apply Array.ext'; simpa using htys
    rw [hq] at hargs
    generalize hys : c.args.toList.map a.eval = ys at hargs
    match ys, hargs with
    | [y1], hargs =>
      have run1 : (execOp a.eval o).run P w = ((Builtin.len_ #[t] o.type #[y1]).run P w).andThen fun v w' => .ok (.value v) w' := by
        rw [hrun _ hys, ht]
        simp only [builtin, Sem.run_bind, Sem.run_pure]
      split at he <;> try (simp at he; done)
      have hu := ‹P.underlying t = some _›
      simp only [eV, Option.some.injEq] at he
      subst he
      obtain ⟨_, _, h0, h1⟩ := hargs.1
      obtain ⟨ad, cc, hy⟩ : ∃ ad cc, y1 = .slice ad n.toNat cc := by
        rcases h1 with ⟨rfl, ad, c, rfl, _⟩ | ⟨b, c, ln, c', _, _, _, rfl⟩
        · exact ⟨_, _, rfl⟩
        · exact ⟨_, _, rfl⟩
      refine fin_v R rfl ?_ hK
      rw [run1, hy]; simp [Builtin.len_, run_underlying hu, goInt]; omega
  · simp at he
end
end Go.Proofs.Ytdpmigbenkndbaa.QR
namespace Go.Proofs.Ytdpmigbenkndbaa.QR
open Go.RowKit PR
set_option linter.unusedVariables false
set_option linter.unusedSimpArgs false
section
variable {P : Program} {O : Oracle} {base : Nat} {X F0 : Nat → Prop} {B : Nat → (Nat × Value) × Bool} {E : Env} {s : PSt} {a : Act} {w : World} {o : Oper}
theorem wp_new {K : Act → World → Prop} {Q : Exit → Act → World → Prop} {y : Value} {w' : World} (h : (execOp a.eval o).run P w = .ok (.value y) w') (hK : K (a.put o.dst y) w') : o.wp P a w K Q := by
  unfold Oper.wp; rw [h]; exact hK
theorem wp_skip' {K : Act → World → Prop} {Q : Exit → Act → World → Prop} {w' : World} (h : (execOp a.eval o).run P w = .ok .skip w') (hK : K (a.put o.dst undef) w') : o.wp P a w K Q := by
  unfold Oper.wp; rw [h]; exact hK
def bound_is (l d : Int) : Option Value → Prop
  | none => l = d
  | some v => ∃ k, v = .int k l
theorem bound_sound {d l : Int} {x : Option Operand} (h : boundOf s d x = some l) (hv : ∀ y, x = some y → ConcS (live s) E w (valOf s y) (a.eval y)) : bound_is l d (x.map a.eval) := by
  cases x with
  | none => simp only [boundOf, Option.some.injEq] at h; exact h.symm
  | some y =>
    unfold boundOf at h
    simp only at h
    split at h <;> try (simp at h; done)
    rename_i k n hk
    simp only [Option.some.injEq] at h
    subst h
    exact ⟨k, cv_int hk (hv y rfl)⟩
theorem run_slice {t el : TypeId} {z : Nat} (hu : P.underlying t = some (.slice el)) (hz : (sizeOf el).run P w = .ok z w) (ad : Option Addr) (ln c : Nat) {l h : Int} {lo hi : Option Value} (h0 : 0 ≤ l) (h1 : l ≤ h) (h2 : h ≤ c) (hl : bound_is l 0 lo) (hh : bound_is h ln hi) :
    (Instr.sliceAt t (.slice ad ln c) lo hi none).run P w = .ok (.slice (if c = l.toNat then ad else ad.map (·.add (l.toNat * z))) (h.toNat - l.toNat) (c - l.toNat)) w := by
  have e1 : 0 ≤ h := by omega
  have e2 : l ≤ (h.toNat : Int) := by omega
  have e3 : l.toNat ≤ h.toNat := by omega
  cases lo with
  | none =>
    have hl : l = 0 := hl
    subst hl
    cases hi with
    | none =>
      have hh : h = ln := hh
      subst hh
      simp [Instr.sliceAt, run_underlying hu, Instr.slice, Instr.sliceBounds, hz]
    | some v =>
      obtain ⟨k, rfl⟩ := hh
      simp [Instr.sliceAt, run_underlying hu, Instr.slice, Instr.sliceBounds, Instr.sliceBound, asIntOf, hz, e1, h2]
  | some v =>
    obtain ⟨k, rfl⟩ := hl
    cases hi with
    | none =>
      have hh : h = ln := hh
      subst hh
      have e4 : l ≤ (ln : Int) := h1
      simp [Instr.sliceAt, run_underlying hu, Instr.slice, Instr.sliceBounds, Instr.sliceBound, asIntOf, hz, h0, e4]
    | some v =>
      obtain ⟨k, rfl⟩ := hh
      have e6 : max h 0 = h := by omega
      have e7 : ¬ h < l := by omega
      simp [Instr.sliceAt, run_underlying hu, Instr.slice, Instr.sliceBounds, Instr.sliceBound, asIntOf, hz, h0, e1, h2, e6, e7]
def top_is (k c : Int) : Option Value → Prop
  | none => k = c
  | some v => ∃ kd, v = .int kd k
theorem run_slice3 {t el : TypeId} {z : Nat} (hu : P.underlying t = some (.slice el)) (hz : (sizeOf el).run P w = .ok z w) (ad : Option Addr) (ln c : Nat) {l h k : Int} {lo hi mx : Option Value} (h0 : 0 ≤ l) (h1 : l ≤ h) (h2 : h ≤ k) (h3 : k ≤ c) (hl : bound_is l 0 lo) (hh : bound_is h ln hi) (hk : top_is k c mx) (hm : mx = none ∨ hi ≠ none) :
    (Instr.sliceAt t (.slice ad ln c) lo hi mx).run P w = .ok (.slice (if k.toNat = l.toNat then ad else ad.map (·.add (l.toNat * z))) (h.toNat - l.toNat) (k.toNat - l.toNat)) w := by
  cases mx with
  | none =>
    have hk : k = c := hk
    subst hk
    have := run_slice (P := P) hu hz ad ln c h0 h1 h2 hl hh
    rw [Int.toNat_natCast]
    exact this
  | some v =>
    obtain ⟨kd, rfl⟩ := hk
    have e1 : 0 ≤ k := by omega
    have e2 : 0 ≤ h := by omega
    have e3 : max k 0 = k := by omega
    have e4 : max h 0 = h := by omega
    have e5 : h ≤ max k 0 := by omega
    have e6 : l ≤ max h 0 := by omega
    have e8 : h ≤ ((k.toNat : Nat) : Int) := by omega
    have e9 : l ≤ ((h.toNat : Nat) : Int) := by omega
    cases hi with
    | none => rcases hm with hm | hm <;> simp at hm
    | some v =>
      obtain ⟨k2, rfl⟩ := hh
      cases lo with
      | none =>
        have hl : l = 0 := hl
        subst hl
        simp [Instr.sliceAt, run_underlying hu, Instr.slice, Instr.sliceBounds, Instr.sliceBound, asIntOf, hz, e1, e2, e3, h3, h2, e8]
      | some v =>
        obtain ⟨k3, rfl⟩ := hl
        simp [Instr.sliceAt, run_underlying hu, Instr.slice, Instr.sliceBounds, Instr.sliceBound, asIntOf, hz, h0, e1, e2, e3, e4, h1, h2, h3, e8, e9]
theorem slice_sound {F : Nat → Prop} {t el : TypeId} {z : Nat} {n : Int} {r : Row} {y : Value} (hrep : Rep F w (.slc z n r) y) (hu : P.underlying t = some (.slice el)) (hz : (sizeOf el).run P w = .ok z w) {l h : Int} {lo hi mx : Option Value} (h0 : 0 ≤ l) (h1 : l ≤ h) (h2 : h ≤ n) (hl : bound_is l 0 lo) (hh : bound_is h n hi) (hk : mx = none ∨ ∃ kd k, mx = some (.int kd k) ∧ h ≤ k ∧ k ≤ n) (hm : mx = none ∨ hi ≠ none) :
    ∃ y', (Instr.sliceAt t y lo hi mx).run P w = .ok y' w ∧ Rep F w (.slc z (subZ h l) (.sub r l)) y' := by
  have top : ∀ c : Nat, n ≤ c → ∃ k : Int, top_is k c mx ∧ h ≤ k ∧ k ≤ c := by
    intro c hc
    rcases hk with rfl | ⟨kd, k, rfl, k1, k2⟩
    · exact ⟨c, rfl, by omega, Int.le_refl _⟩
    · exact ⟨k, ⟨kd, rfl⟩, k1, by omega⟩
  cases hrep with
  | nil hz0 hc =>
    rename_i ad c
    obtain rfl : l = 0 := by omega
    obtain rfl : h = 0 := by omega
    obtain ⟨k, t1, t2, t3⟩ := top c (by omega)
    refine ⟨_, run_slice3 hu hz ad 0 c (by omega) (by omega) t2 t3 hl hh t1 hm, ?_⟩
    show Rep F w (.slc z 0 (.sub r 0)) (.slice _ (0 - 0) _)
    refine .nil hz0 fun e => ?_
    cases ad with
    | none => have := hc rfl; omega
    | some ad => split at e <;> simp at e
  | slc u hz0 hcap hF hg hu' hr =>
    rename_i n b off c arr t' fr
    obtain ⟨l, rfl⟩ := Int.eq_ofNat_of_zero_le h0
    obtain ⟨h, rfl⟩ := Int.eq_ofNat_of_zero_le (show 0 ≤ h by omega)
    obtain ⟨k, t1, t2, t3⟩ := top c (by omega)
    refine ⟨_, run_slice3 hu hz (some ⟨b, off, none⟩) n c (by omega) h1 t2 t3 hl hh t1 hm, ?_⟩
    have e1 : subZ (h : Int) (l : Int) = ((h - l : Nat) : Int) := by unfold subZ; omega
    rw [e1, Int.toNat_natCast, Int.toNat_natCast]
    by_cases hd : h - l = 0
    · rw [hd]
      refine .nil hz0 fun e => ?_
      split at e <;> simp at e
    · rw [if_neg (by omega)]
      simp only [Option.map_some, Addr.add_lit]
      refine .slc (fun i j => u (i + l) j) hz0 (by omega) hF hg (fun i j hi hj => ?_) (fun i j hi hj => ?_)
      · have := hu' (i + l) j (by omega) hj
        rw [Nat.add_mul] at this
        rw [← this]
        congr 1
        omega
      · have := hr (i + l) j (by omega) hj
        show Rep F w (den r (addZ i l) j) _
        rw [show addZ (i : Int) (l : Int) = ((i + l : Nat) : Int) by unfold addZ; omega]
        exact this
theorem slice_part {t el : TypeId} {z : Nat} {l0 n : Int} {ν y : Value} (hp : IsPart ν z l0 n y) (hu : P.underlying t = some (.slice el)) (hz : (sizeOf el).run P w = .ok z w) {l h : Int} {lo hi mx : Option Value} (h0 : 0 ≤ l) (h1 : l ≤ h) (h2 : h ≤ n) (hl : bound_is l 0 lo) (hh : bound_is h n hi) (hk : mx = none ∨ ∃ kd k, mx = some (.int kd k) ∧ h ≤ k ∧ k ≤ n) (hm : mx = none ∨ hi ≠ none) :
    ∃ y', (Instr.sliceAt t y lo hi mx).run P w = .ok y' w ∧ IsPart ν z (addZ l0 l) (subZ h l) y' := by
  have top : ∀ c : Nat, n ≤ c → ∃ k : Int, top_is k c mx ∧ h ≤ k ∧ k ≤ c := by
    intro c hc
    rcases hk with rfl | ⟨kd, k, rfl, k1, k2⟩
    · exact ⟨c, rfl, by omega, Int.le_refl _⟩
    · exact ⟨k, ⟨kd, rfl⟩, k1, by omega⟩
  obtain ⟨g0, g1, g⟩ := hp
  rcases g with ⟨rfl, ad, c, rfl, hc⟩ | ⟨b, c0, ln, c, hν, k1, k2, rfl⟩
  · obtain rfl : l = 0 := by omega
    obtain rfl : h = 0 := by omega
    obtain ⟨k, t1, t2, t3⟩ := top c (by omega)
    refine ⟨_, run_slice3 hu hz ad 0 c (by omega) (by omega) t2 t3 hl hh t1 hm, by unfold addZ; omega, by unfold subZ; omega, Or.inl ⟨rfl, _, _, rfl, fun e => ?_⟩⟩
    cases ad with
    | none => have := hc rfl; omega
    | some ad => split at e <;> simp at e
  · obtain ⟨k, t1, t2, t3⟩ := top c (by omega)
    have hh' : bound_is h (n.toNat : Nat) hi := by rw [Int.toNat_of_nonneg g1]; exact hh
    refine ⟨_, run_slice3 hu hz (some ⟨b, l0.toNat * z, none⟩) n.toNat c (by omega) h1 t2 t3 hl hh' t1 hm, by unfold addZ; omega, by unfold subZ; omega, ?_⟩
    by_cases hd : h = l
    · subst hd
      refine Or.inl ⟨by unfold subZ; omega, _, _, by rw [Nat.sub_self], fun e => ?_⟩
      split at e <;> simp at e
    · rw [if_neg (by omega)]
      refine Or.inr ⟨b, c0, ln, k.toNat - l.toNat, hν, by unfold addZ subZ; omega, by unfold subZ; omega, ?_⟩
      simp only [Option.map_some, Addr.add_lit]
      rw [show (subZ h l).toNat = h.toNat - l.toNat by unfold subZ; omega, show (addZ l0 l).toNat = l0.toNat + l.toNat by unfold addZ; omega, Nat.add_mul]
theorem own_cap (R : RelE base X F0 B E s a w) {m z : Nat} {n : Int} {r : Row} (h : rowOf s m = some (z, n, r)) {ad : Option Addr} {k c : Nat} (hv : E.ν m = .slice ad k c) : k ≤ c := by
  unfold rowOf at h
  split at h <;> try (simp at h; done)
  · rename_i z' n' r' hm
    obtain ⟨_, _, _, _, e, xs, ho, _⟩ := R.mem m _ hm
    rcases ho.2 with ⟨hv', _⟩ | ⟨g, cap, cur, hv', _, _, hnc, _⟩
    · rw [hv] at hv'
      simp only [Value.slice.injEq] at hv'
      omega
    · rw [hv] at hv'
      simp only [Value.slice.injEq] at hv'
      omega
  · rename_i z' n' r' hm
    have hr : Rep E.F w (.slc z' n' r') (E.ν m) := (R.mem m _ hm).2
    rw [hv] at hr
    cases hr with
    | nil => omega
    | slc u _ hc => exact hc
theorem effect_sound (hO : OSound P O) (R : RelE base X F0 B E s a w) (hb : base ≤ w.heap.size) {name : Nat} {e : Eff} (he : effect P O name s o = some e) (hk : knownOf s o = true) (hok : ∀ q ∈ e.ok, q) (hnw : e.nw.isSome = true → s.mem name = none ∧ name < PN)
    {p : Prop} {li : List Tmp} {gen : Nat} {K : Act → World → Prop} {Q : Exit → Act → World → Prop}
    (hK : ∀ E' a' w', RelE base X F0 B E' ⟨setTmp s.tmps o.dst (gnow e.v), applyU s.mem (upsOf name e), p, li, gen⟩ a' w' → KeepF base X F0 w w' → K a' w') : o.wp P a w K Q := by
  have kn : (∀ c u v, o.op ≠ .pick c u v) → ∀ x ∈ o.op.operands.toList, ConcS (live s) E w (valOf s x) (a.eval x) :=
    fun hp x hx => R.eval x (known_all hp hk hx)
  unfold effect at he
  split at he
  · -- move
    rename_i x ho
    simp only [eV, Option.some.injEq] at he
    subst he
    exact fin R (by simp [execOp, ho]) (kn (by simp [ho]) x (by simp [ho, Op.operands])) hK
  · -- assign
    rename_i x ho
    simp only [eV, Option.some.injEq] at he
    subst he
    exact fin R (by simp [execOp, ho]) (kn (by simp [ho]) x (by simp [ho, Op.operands])) hK
  · -- nilCheck
    rename_i x ho
    have hx := kn (by simp [ho]) x (by simp [ho, Op.operands])
    split at he <;> try (simp at he; done)
    · rename_i m off q
      simp only [eV, Option.some.injEq] at he
      subst he
      rw [q] at hx
      refine fin R (y := a.eval x) ?_ hx hK
      simp only [execOp, ho, cv_ptr hx]; rfl
    · rename_i m z i off q
      simp only [eV, Option.some.injEq] at he
      subst he
      rw [q] at hx
      have hx' := hx
      obtain ⟨_, _, b, c, ln, _, _, hy⟩ := hx'
      refine fin R (y := a.eval x) ?_ hx hK
      simp only [execOp, ho, hy]; rfl
    · rename_i z r i off q
      simp only [eV, Option.some.injEq] at he
      subst he
      rw [q] at hx
      have hx' := hx
      obtain ⟨_, b, o', arr, t, _, _, _, hy, _⟩ := hx'
      refine fin R (y := a.eval x) ?_ hx hK
      simp only [execOp, ho, hy]; rfl
  · -- pick
    rename_i c x y ho
    unfold knownOf at hk
    rw [ho] at hk
    split at he <;> try (simp at he; done)
    · rename_i q
      simp only [eV, Option.some.injEq] at he
      subst he
      simp only [q, Bool.and_eq_true] at hk
      have hc := R.eval c hk.1
      have q' : (operand s c).v = _ := q
      rw [q'] at hc
      refine fin R (y := a.eval x) ?_ (R.eval x hk.2) hK
      simp [execOp, ho, cv_v hc, asBool]
    · rename_i q
      simp only [eV, Option.some.injEq] at he
      subst he
      simp only [q, Bool.and_eq_true] at hk
      have hc := R.eval c hk.1
      have q' : (operand s c).v = _ := q
      rw [q'] at hc
      refine fin R (y := a.eval y) ?_ (R.eval y hk.2) hK
      simp [execOp, ho, cv_v hc, asBool]
  · -- alloc
    rename_i t ho
    split at he <;> try (simp at he; done)
    rename_i l hz
    simp only [Option.some.injEq] at he
    subst he
    obtain ⟨hn1, hn2⟩ := hnw rfl
    obtain ⟨i, z, hi, hiz, hzc, _, hp⟩ := zeroL_spec hz
    obtain ⟨E', R'⟩ := R.new_cells hb hn1 hn2 l.toArray t (l.map .v) (zeroL_conc hp) o.dst p li gen
    refine wp_new (y := .pointer (some ⟨w.heap.size, 0, none⟩)) (w' := w.alloc (.cells l.toArray t)) ?_ (hK E' _ _ R' ⟨⟨rfl, rfl, rfl, by simp, fun k hk _ => heap_alloc_old w _ _ (by omega)⟩, fun k hk => heap_alloc_old w _ _ (R.frz k (R.sub k hk)).1⟩)
    simp [execOp, ho, Instr.alloc, zeroValue, typeInfo, hi, hiz, hzc, newVar, newRow]
  · -- box
    rename_i t x ho
    have hx := kn (by simp [ho]) x (by simp [ho, Op.operands])
    split at he <;> try (simp at he; done)
    rename_i v q
    simp only [Option.some.injEq] at he
    subst he
    rw [q] at hx
    obtain ⟨hn1, hn2⟩ := hnw rfl
    obtain ⟨E', R'⟩ := R.new_cells hb hn1 hn2 (a.eval x).cells t (cellsOf v) (ConcX.cells hx) o.dst p li gen
    refine wp_new (y := .pointer (some ⟨w.heap.size, 0, none⟩)) (w' := w.alloc (.cells (a.eval x).cells t)) ?_ (hK E' _ _ R' ⟨⟨rfl, rfl, rfl, by simp, fun k hk _ => heap_alloc_old w _ _ (by omega)⟩, fun k hk => heap_alloc_old w _ _ (R.frz k (R.sub k hk)).1⟩)
    simp [execOp, ho, Instr.box, newVar, newRow]
  · -- load
    rename_i t x ho
    have hx := kn (by simp [ho]) x (by simp [ho, Op.operands])
    split at he <;> try (simp at he; done)
    · rename_i m off q
      rw [q] at hx
      split at he <;> try (simp at he; done)
      rename_i l hm
      split at he <;> try (simp at he; done)
      rename_i v hp
      simp only [Option.some.injEq] at he
      subst he
      obtain ⟨arr, el, h1, h2⟩ := block_mem R hm hx.1
      obtain ⟨y, e1, e2⟩ := load_part (P := P) h1 h2 hp
      refine fin (v := .x v) R (y := y) ?_ e2 hK
      simp only [execOp, ho, cv_ptr hx, Sem.run_bind, e1]; rfl
    · rename_i m z i off q
      rw [q] at hx
      obtain ⟨_, h0, b, c, ln, hv, hi, hy⟩ := hx
      split at he <;> try (simp at he; done)
      rename_i z' n r hm
      split at he <;> try (simp at he; done)
      rename_i hz
      have hz := Nat.eq_of_beq_eq_true hz
      subst hz
      split at he <;> try (simp at he; done)
      rename_i v hp
      simp only [Option.some.injEq] at he
      subst he
      obtain ⟨arr, el, _, h1, h2⟩ := row_elem R hm hv h0 hi
      obtain ⟨y, e1, e2⟩ := load_elem (P := P) (L := live s) h1 h2 hp
      refine fin (v := .x v) R (y := y) ?_ e2 hK
      simp only [execOp, ho, hy, Sem.run_bind, e1]; rfl
    · rename_i z r i off q
      rw [q] at hx
      obtain ⟨_, b, o', arr, el, _, _, h1, hy, h2⟩ := hx
      split at he <;> try (simp at he; done)
      rename_i v hp
      simp only [eV, Option.some.injEq] at he
      subst he
      obtain ⟨y, e1, e2⟩ := load_elem (P := P) (L := live s) h1 h2 hp
      refine fin (v := .x v) R (y := y) ?_ e2 hK
      simp only [execOp, ho, hy, Sem.run_bind, e1]; rfl
  · -- store
    rename_i t x v ho
    have hx := kn (by simp [ho]) x (by simp [ho, Op.operands])
    have hv := kn (by simp [ho]) v (by simp [ho, Op.operands])
    split at he <;> try (simp at he; done)
    · rename_i m off xv q1 q2
      rw [q1] at hx
      rw [q2] at hv
      split at he <;> try (simp at he; done)
      rename_i l hm
      split at he <;> try (simp at he; done)
      rename_i hc
      simp only [Bool.and_eq_true, Nat.beq_eq, Nat.ble_eq] at hc
      obtain ⟨⟨c1, c2⟩, c3⟩ := hc
      simp only [Option.some.injEq] at he
      subst he
      obtain ⟨hlt, hX, hnF, arr, el, hg, hl⟩ := R.mem m _ hm
      have hcells := ConcX.cells hv
      have l1 := hcells.len
      have l2 := hl.len
      simp only [Array.length_toList] at l1 l2
      have hg' : w.heap[E.β m]? = some (.cells arr.toList.toArray el (0, 0)) := by simpa using hg
      have hsp := Fa2.splice off hl hcells
      have run := run_store_part (P := P) (E.β m) off el t arr.toList (a.eval v) hg' c1 (by omega) (by rw [Array.length_toList]; omega) (ConcX.ones hv)
      obtain ⟨R', kp⟩ := R.put_cells hm (PR.splice arr.toList off (a.eval v).cells.toList).toArray (by simpa using hsp) o.dst (gnow (.tup [])) undef (fun _ => ⟨[], rfl, trivial⟩) p li gen
      refine wp_skip' ?_ (hK E _ _ R' kp)
      have hp := cv_ptr hx
      rw [adr_lt hlt] at hp
      simp only [execOp, ho, hp, Sem.run_bind, run]; rfl
    · rename_i m z i off xv q1 q2
      rw [q1] at hx
      rw [q2] at hv
      obtain ⟨_, h0, b, c, ln, hν, hi, hy⟩ := hx
      split at he <;> try (simp at he; done)
      rename_i z' n r hro
      split at he <;> try (simp at he; done)
      rename_i hc
      simp only [Bool.and_eq_true, Nat.beq_eq, Nat.ble_eq] at hc
      obtain ⟨⟨⟨⟨c0, c1⟩, c2⟩, c3⟩, c4⟩ := hc
      subst c0
      simp only [Option.some.injEq] at he
      subst he
      unfold rowW at hro
      split at hro <;> try (simp at hro; done)
      rename_i z3 n3 r3 hm
      simp only [Option.some.injEq, Prod.mk.injEq] at hro
      obtain ⟨rfl, rfl, rfl⟩ := hro
      obtain ⟨_, k0, hz0, hnF, el, xs, ho', hr⟩ := R.mem m _ hm
      have hcells := ConcX.cells hv
      have l1 := hcells.len
      simp only [Array.length_toList] at l1
      obtain ⟨n, rfl⟩ := Int.eq_ofNat_of_zero_le k0
      rcases ho'.2 with ⟨hv', _⟩ | ⟨g, cap, cur, hv', hbg, hg, hnc, hcm, hcs, htake⟩
      · rw [hν] at hv'; simp at hv'
      · have hvv := hv'
        rw [hν] at hvv
        simp only [Value.slice.injEq, Option.some.injEq, Addr.mk.injEq, and_true] at hvv
        obtain ⟨rfl, rfl, _⟩ := hvv
        have hn : ((ln : Int)).toNat = ln := by simp
        rw [hn] at hnc htake
        have hlen : xs.length = ln * z3 := by rw [ho'.1, hn]
        have hiz : i.toNat * z3 + z3 ≤ ln * z3 := by
          have : (i.toNat + 1) * z3 ≤ ln * z3 := Nat.mul_le_mul_right z3 hi
          rw [Nat.add_mul, Nat.one_mul] at this; exact this
        have hcap : ln * z3 ≤ cap * z3 := Nat.mul_le_mul_right z3 hnc
        have hg' : w.heap[b]? = some (.cells cur.toList.toArray el (0, 0)) := by simpa using hg
        have run := run_store_part (P := P) b (i.toNat * z3 + off) el t cur.toList (a.eval v) hg' c1 (by omega) (by rw [Array.length_toList, hcs]; omega) (ConcX.ones hv)
        have ru := RepRow.upd (off := off) hr hlen (fz_reps c4 hcells) hi c3
        rw [show ((i.toNat : Nat) : Int) = i by omega] at ru
        have hown' : (w.setRow b (PR.splice cur.toList (i.toNat * z3 + off) (a.eval v).cells.toList).toArray).ownsRow base el z3 (E.ν m) ((ln : Int)).toNat (PR.splice xs (i.toNat * z3 + off) (a.eval v).cells.toList) := by
          refine ⟨by rw [hn]; exact ru.2, .inr ⟨b, cap, _, hv', hbg, setRow_heap w b cur _ el _ hg, by rw [hn]; exact hnc, hcm, ?_, ?_⟩⟩
          · unfold PR.splice
            rw [List.size_toArray, splice_len _ _ _ (by rw [Array.length_toList, Array.length_toList, hcs]; omega), Array.length_toList, hcs]
          · rw [hn, ← htake]
            apply List.ext_getElem?
            intro k
            unfold PR.splice
            rw [splice_get _ _ _ _ (by rw [List.length_take, Array.length_toList, Array.length_toList, hcs]; omega), List.getElem?_take]
            have e2 := splice_get cur.toList (a.eval v).cells.toList (i.toNat * z3 + off) k (by rw [Array.length_toList, Array.length_toList, hcs]; omega)
            simp only [List.getElem?_take] at *
            rw [e2]
            by_cases hk : k < ln * z3
            · simp only [hk, if_true]
            · simp only [hk, if_false]
              rw [if_neg (by omega), if_neg (by rw [Array.length_toList]; omega)]
        have ru' : RepRow E.F w z3 (ln : Int) (updsR r3 i off (cellsOf xv)) (PR.splice xs (i.toNat * z3 + off) (a.eval v).cells.toList) := ru.1
        obtain ⟨R', kp⟩ := R.put_row hm (w' := w.setRow b (PR.splice cur.toList (i.toNat * z3 + off) (a.eval v).cells.toList).toArray) (k0 := b) (by rw [hv']; rfl) (fun k hk => setRow_other w b k _ hk) ⟨rfl, rfl, rfl, by simp⟩ hown' ru' o.dst (gnow (.tup [])) undef (fun _ => ⟨[], rfl, trivial⟩) p li gen
        refine wp_skip' ?_ (hK E _ _ R' kp)
        simp only [execOp, ho, hy, Sem.run_bind, run]; rfl
  · -- binOp
    rename_i op t x y yt ho
    have hx := kn (by simp [ho]) x (by simp [ho, Op.operands])
    have hy := kn (by simp [ho]) y (by simp [ho, Op.operands])
    split at he <;> try (simp at he; done)
    · -- strings
      rename_i sa sb q1 q2
      rw [q1] at hx
      rw [q2] at hy
      have ex := cv_v hx
      have ey := cv_v hy
      split at he <;> try (simp at he; done)
      rename_i v hu hv
      simp only [eV, Option.some.injEq] at he
      subst he
      unfold strV at hv
      split at hv <;> try (simp at hv; done)
      · simp only [Option.some.injEq] at hv
        subst hv
        refine fin_v R rfl ?_ hK
        simp [execOp, ho, ex, ey, eqGuard_at_string, binOp_string_eql, ByteArray.toList_eq, seqB]
      · simp only [Option.some.injEq] at hv
        subst hv
        refine fin_v R rfl ?_ hK
        simp [execOp, ho, ex, ey, eqGuard_at_string, binOp, Op.stringOp, ByteArray.toList_eq, seqB, bnot, bne]
    · -- plain values
      rename_i va vb _ q1 q2
      rw [q1] at hx
      rw [q2] at hy
      have ex := cv_v hx
      have ey := cv_v hy
      split at he <;> try (simp at he; done)
      rename_i v l hv
      split at he <;> try (simp at he; done)
      rename_i hp
      simp only [Option.some.injEq] at he
      subst he
      have hb' : ∀ c ∈ l, c = true := fun c hc => hok (c = true) (List.mem_map.2 ⟨c, hc, rfl⟩)
      have r := binV_plain hv hb' x y w
      refine fin_v R hp ?_ hK
      simp only [execOp, ho, ex, ey]
      rw [Sem.run_bind, r]; rfl
    · -- cells
      rename_i la lb q1 q2
      rw [q1] at hx
      rw [q2] at hy
      obtain ⟨xs, ex, fx⟩ := hx
      obtain ⟨ys, ey, fy⟩ := hy
      split at he <;> try (simp at he; done)
      rename_i va vb h1 h2
      have e1 := toVs_conc h1 fx
      have e2 := toVs_conc h2 fy
      subst e1 e2
      split at he <;> try (simp at he; done)
      rename_i v l hv
      split at he <;> try (simp at he; done)
      rename_i hp
      simp only [Option.some.injEq] at he
      subst he
      have hb' : ∀ c ∈ l, c = true := fun c hc => hok (c = true) (List.mem_map.2 ⟨c, hc, rfl⟩)
      have r := binV_plain hv hb' x y w
      refine fin_v R hp ?_ hK
      simp only [execOp, ho, ex, ey]
      rw [Sem.run_bind, r]; rfl
  · -- unOp
    rename_i op t x ho
    have hx := kn (by simp [ho]) x (by simp [ho, Op.operands])
    split at he <;> try (simp at he; done)
    rename_i va q1
    rw [q1] at hx
    have ex := cv_v hx
    split at he <;> try (simp at he; done)
    rename_i v l hv
    split at he <;> try (simp at he; done)
    rename_i hp
    simp only [Option.some.injEq] at he
    subst he
    obtain ⟨r, _⟩ := run_unV hv w (P := P)
    refine fin_v R hp ?_ hK
    simp only [execOp, ho, ex, Sem.run_bind, r]; rfl
  · -- convert
    rename_i src dst x ho
    have hx := kn (by simp [ho]) x (by simp [ho, Op.operands])
    split at he <;> try (simp at he; done)
    · rename_i k n d k' q1 q2 q3
      simp only [eV, Option.some.injEq] at he
      subst he
      rw [q1] at hx
      have ex := cv_v hx
      have hd : P.intKind dst = k' := by simp [Program.intKind, q3]
      have r := run_convert_int (P := P) w src dst k n (by simp [q2]) (by rw [hd]; exact q3)
      rw [hd] at r
      refine fin_v R rfl ?_ hK
      simp only [execOp, ho, ex, Sem.run_bind, r]; rfl
    · rename_i k n d k' q1 q2 q3
      simp only [eV, Option.some.injEq] at he
      subst he
      rw [q1] at hx
      have ex := cv_v hx
      have r := run_convert_int_float (P := P) w src dst k k' n (by simp [q2]) q3
      refine fin_v R rfl ?_ hK
      simp only [execOp, ho, ex, Sem.run_bind, r]; rfl
  · -- fieldAddr
    rename_i t x f ho
    have hx := kn (by simp [ho]) x (by simp [ho, Op.operands])
    split at he <;> try (simp at he; done)
    rename_i fs q2
    split at he <;> try (simp at he; done)
    rename_i fd q3
    split at he <;> try (simp at he; done)
    rename_i q4
    simp only [beq_iff_eq] at q4
    have hz : (sizeOf fd.type).run P w = .ok (sizeT P fd.type) w := by
      unfold sizeT at *
      cases hi : P.info? fd.type with
      | none => simp [hi] at q4
      | some i => simp [sizeOf, typeInfo, hi]
    have run : ∀ b off : Nat, a.eval x = .pointer (some ⟨b, off, none⟩) → (execOp a.eval o).run P w = .ok (.value (.pointer (some ⟨b, off + fd.offset, none⟩))) w := by
      intro b off e1
      simp only [execOp, ho, e1, Sem.run_bind, Instr.fieldAt, run_underlying q2, Result.andThen_ok, q3, Instr.sureAddr, Sem.run_pure, fieldPlace, hz, q4, if_false, Addr.add_lit]
    split at he <;> try (simp at he; done)
    · rename_i m off q1
      simp only [eV, Option.some.injEq] at he
      subst he
      rw [q1] at hx
      exact fin (v := .x (.c (.ptr m (off + fd.offset)))) R (run _ _ (cv_ptr hx)) ⟨hx.1, rfl⟩ hK
    · rename_i m z i off q1
      simp only [eV, Option.some.injEq] at he
      subst he
      rw [q1] at hx
      obtain ⟨h1, h0, b, c, ln, hν, hi, hy⟩ := hx
      exact fin (v := .eptr m z i (off + fd.offset)) R (run _ _ hy) ⟨h1, h0, b, c, ln, hν, hi, by rw [Nat.add_assoc]⟩ hK
    · rename_i z r i off q1
      simp only [eV, Option.some.injEq] at he
      subst he
      rw [q1] at hx
      obtain ⟨h0, b, o', arr, el, fr, hF, h1, hy, h2⟩ := hx
      exact fin (v := .fptr z r i (off + fd.offset)) R (run _ _ hy) ⟨h0, b, o', arr, el, fr, hF, h1, by rw [Nat.add_assoc], h2⟩ hK
  · -- extract
    rename_i x i ho
    have hx := kn (by simp [ho]) x (by simp [ho, Op.operands])
    split at he <;> try (simp at he; done)
    rename_i l q1
    split at he <;> try (simp at he; done)
    rename_i v q2
    simp only [eV, Option.some.injEq] at he
    subst he
    rw [q1] at hx
    obtain ⟨ys, hy, hf⟩ := hx
    obtain ⟨y, e1, e2⟩ := hf.get q2
    refine fin (v := .x v) R (y := y) ?_ e2 hK
    have e1 : ys.toArray[i]? = some y := by simpa using e1
    simp only [execOp, ho, hy, Sem.run_bind, Instr.extract, e1]; rfl
  · -- call
    rename_i c ho
    have hv := kn (by simp [ho])
    split at he
    · rename_i b hcal
      exact builtin_sound R hb ho hv hcal he hok hnw hK
    · split at he <;> try (simp at he; done)
      rename_i f caps hcal
      exact call_sound hO R hb ho hv hcal he hok hnw hK
  · -- build
    rename_i t parts ho
    have hv := kn (by simp [ho])
    split at he <;> try (simp at he; done)
    rename_i l ps pl hz hps hpl
    split at he <;> try (simp at he; done)
    rename_i cells hc
    simp only [eV, Option.some.injEq] at he
    subst he
    obtain ⟨i, z, hi, hiz, hzc, _, hp⟩ := zeroL_spec hz
    have hp1 := partsOf_sound (base := base) (X := X) (F0 := F0) (a := a) (w := w) (E := E) (fun q hq => hv q.2 (by simp only [ho, Op.operands]; exact List.mem_map_of_mem hq)) hps
    obtain ⟨arr, f1, f2⟩ := fill_sound hp1 (arr := z.cells) (by rw [hzc]; exact zeroL_conc hp) hc
    have hbd : P.built t (parts.map fun (i, x) => (i, a.eval x)).toList = some arr := by
      rw [built_eq hpl hi hiz, Array.toList_map]; exact f1
    refine fin (v := .x (.agg cells)) R (y := .agg arr) ?_ ⟨arr.toList, by simp, f2⟩ hK
    simp only [execOp, ho, Sem.run_bind, run_build (P := P) w t _ arr hbd]; rfl
  · -- buildSlice
    rename_i t len parts ho
    have hv := kn (by simp [ho])
    split at he <;> try (simp at he; done)
    rename_i el hu
    split at he <;> try (simp at he; done)
    rename_i l ps hz hps
    split at he <;> try (simp at he; done)
    rename_i hc
    simp only [Bool.and_eq_true, Nat.ble_eq, Nat.blt_eq] at hc
    obtain ⟨⟨c1, c2⟩, c3⟩ := hc
    split at he <;> try (simp at he; done)
    rename_i r hr
    simp only [Option.some.injEq] at he
    subst he
    obtain ⟨hn1, hn2⟩ := hnw rfl
    obtain ⟨i, z, hi, hiz, hzc, hzl, hp⟩ := zeroL_spec hz
    have hs : sizeT P el = i.size := by simp [sizeT, hi]
    rw [hs] at c1 c2 hr
    rw [hs] at hK
    rw [← hzl] at c1 c2 hr hK
    have hp1 := partsOf_sound (base := base) (X := X) (F0 := F0) (a := a) (w := w) (E := E) (fun q hq => hv q.2 (by simp only [ho, Op.operands]; exact List.mem_map_of_mem hq)) hps
    have hz0 : RepRow E.F w l.length len (.zer l) (madeCells l.toArray (len * l.length)).toList := by
      have := RepRow.made (F := E.F) (w := w) hp c2 (len : Int) len (by simp)
      rw [show ((len : Int)).toNat = len by simp, List.take_of_length_le (by rw [Array.length_toList, size_madeCells]; omega)] at this
      exact this
    obtain ⟨arr, f1, f2, f3⟩ := fillR_sound (n := len) hp1 (fun q hq => by have := List.all_eq_true.1 c3 q hq; simpa [Nat.blt_eq] using this) hz0 (size_madeCells _ _) hr
    have hown := World.ownsRow_lit (w := w) (base := base) (e := el) (size := l.length) arr len hb (by simp only [maxLen]; have := Nat.le_trans (Nat.le_mul_of_pos_right len c2) c1; omega) f3
    have T : ∀ k, E.F k → (w.alloc (.cells arr el)).heap[k]? = w.heap[k]? := fun k hk => heap_alloc_old w _ _ (R.frz k hk).1
    obtain ⟨⟨E', R'⟩, kp⟩ := R.new_row hb hn1 hn2 (World.grownBy_alloc w (.cells arr el) none) (u := []) (Or.inl ⟨rfl, rfl⟩) (n := len) (r := r) c2 (by omega) (by simpa using hown) (fun i' j h h' => by obtain ⟨u, q1, q2⟩ := f2 i' j h h'; exact ⟨u, q1, q2.mono (fun _ h => h) T⟩)
      (fun k hk => by simp only [Value.ownBlock, Option.some.injEq] at hk; omega) o.dst p li gen
    refine wp_new ?_ (hK E' _ _ R' kp)
    have hne : ¬ (16777216 < len * i.size) := by rw [← hzl]; omega
    have f1' : Instr.fill (fun k => some (k * i.size, i.size)) ((Array.range (len * i.size)).map (z.cells[· % z.cells.size]!)) (parts.map fun (i, x) => (i, a.eval x)).toList = some arr := by
      rw [hzc, ← hzl, Array.toList_map]; exact f1
    by_cases h0 : len * i.size = 0
    · have f1'' : Instr.fill (fun k => some (k * i.size, i.size)) #[] (parts.map fun (i, x) => (i, a.eval x)).toList = some arr := by
        rw [h0] at f1'; simpa [Array.range_zero'] using f1'
      simp only [Array.toList_map] at f1''
      simp [execOp, ho, Instr.buildSlice, run_underlying hu, sizeOf, typeInfo, hi, hne, h0, f1'', newRow, Array.range_zero']
    · simp only [Array.toList_map] at f1'
      simp [execOp, ho, Instr.buildSlice, run_underlying hu, sizeOf, typeInfo, hi, hne, h0, zeroValue, hiz, f1', newRow]
  · -- makeSlice
    rename_i t l c ho
    have hl := kn (by simp [ho]) l (by simp [ho, Op.operands])
    have hc := kn (by simp [ho]) c (by simp [ho, Op.operands])
    split at he <;> try (simp at he; done)
    rename_i el kl n kc k hu q1 q2
    split at he <;> try (simp at he; done)
    rename_i zs hz
    split at he <;> try (simp at he; done)
    rename_i hsz
    simp only [Nat.blt_eq] at hsz
    simp only [Option.some.injEq] at he
    subst he
    obtain ⟨hn1, hn2⟩ := hnw rfl
    obtain ⟨i, z, hi, hiz, hzc, hzl, hp⟩ := zeroL_spec hz
    have hs : sizeT P el = i.size := by simp [sizeT, hi]
    have hby : bytesT P el = i.bytes := by simp [bytesT, hi]
    rw [hs] at hsz hK
    rw [← hzl] at hsz hK
    simp only [List.mem_cons, List.not_mem_nil, or_false, forall_eq_or_imp, forall_eq, ile, decide_eq_true_eq, imulZ, hby] at hok
    obtain ⟨o1, o2, o3, o4⟩ := hok
    have run := run_make (P := P) w t el i z hu hi hiz kl kc n k o1 o2 (by rw [Int.mul_comm]; omega) (by omega)
    rw [hzc, ← hzl] at run
    have hcap : (madeCells zs.toArray (k.toNat * zs.length)).size = k.toNat * zs.length := size_madeCells _ _
    have hown : (w.alloc (.cells (madeCells zs.toArray (k.toNat * zs.length)) el)).ownsRow base el zs.length (.slice (some ⟨w.heap.size, 0, none⟩) n.toNat k.toNat) n.toNat ((madeCells zs.toArray (k.toNat * zs.length)).toList.take (n.toNat * zs.length)) := by
      refine ⟨?_, .inr ⟨w.heap.size, _, _, rfl, hb, heap_alloc_new w _, by omega, by simp only [maxLen]; omega, hcap, rfl⟩⟩
      have : n.toNat * zs.length ≤ k.toNat * zs.length := Nat.mul_le_mul_right _ (by omega)
      have e : (madeCells zs.toArray (k.toNat * zs.length)).toList.length = k.toNat * zs.length := hcap
      rw [List.length_take, e]; omega
    obtain ⟨⟨E', R'⟩, kp⟩ := R.new_row hb hn1 hn2 (World.grownBy_alloc w (.cells (madeCells zs.toArray (k.toNat * zs.length)) el) none) (u := []) (Or.inl ⟨rfl, rfl⟩) (n := n) (r := .zer zs) hsz o1 hown (RepRow.made hp hsz n k.toNat (by omega))
      (fun k' hk => by simp only [Value.ownBlock, Option.some.injEq] at hk; omega) o.dst p li gen
    refine wp_new ?_ (hK E' _ _ R' kp)
    simp only [execOp, ho, cv_int q1 hl, cv_int q2 hc, Sem.run_bind, run]; rfl
  · -- slice
    rename_i t x lo hh mx ho
    have hv := kn (by simp [ho])
    have hx := hv x (by simp [ho, Op.operands])
    split at he <;> try (simp at he; done)
    rename_i el hu hsl
    have hmh : mx.map a.eval = none ∨ hh.map a.eval ≠ none := by
      cases mx with
      | none => exact Or.inl rfl
      | some y => cases hh with
        | none => simp [slOk] at hsl
        | some y' => exact Or.inr (by simp)
    have asks : ∀ {l h k n : Int}, (∀ q ∈ slAsk mx l h k n, q) → boundOf s n mx = some k → 0 ≤ l ∧ l ≤ h ∧ h ≤ n ∧ (mx.map a.eval = none ∨ ∃ kd k', mx.map a.eval = some (.int kd k') ∧ h ≤ k' ∧ k' ≤ n) := by
      intro l h k n hq hb
      cases mx with
      | none =>
        simp only [slAsk, List.mem_cons, List.not_mem_nil, or_false, forall_eq_or_imp, forall_eq, ile, decide_eq_true_eq] at hq
        exact ⟨hq.1, hq.2.1, hq.2.2, Or.inl rfl⟩
      | some y =>
        simp only [slAsk, List.mem_cons, List.not_mem_nil, or_false, forall_eq_or_imp, forall_eq, ile, decide_eq_true_eq] at hq
        obtain ⟨kd, e⟩ : bound_is k n ((some y).map a.eval) := bound_sound hb fun y' hy => hv y' (by obtain rfl := Option.some.inj hy; simp [ho, Op.operands])
        exact ⟨hq.1, hq.2.1, by omega, Or.inr ⟨kd, k, by rw [Option.map_some, e], hq.2.2.1, hq.2.2.2⟩⟩
    split at he
    · -- a part of a row of one's own
      rename_i m z l0 n rd hps
      split at he <;> try (simp at he; done)
      rename_i l h k hl hh' hkk
      split at he <;> try (simp at he; done)
      rename_i hc
      simp only [Bool.and_eq_true, Nat.beq_eq] at hc
      obtain ⟨hc, hinfo⟩ := hc
      simp only [Option.some.injEq] at he
      subst he
      obtain ⟨o1, o2, o3, o4⟩ := asks hok hkk
      have hpart : live s m ∧ IsPart (E.ν m) z l0 n (a.eval x) := by
        unfold partSrc at hps
        split at hps
        · rename_i m' z' l' n' q
          simp only [Option.some.injEq, Prod.mk.injEq] at hps
          obtain ⟨rfl, rfl, rfl, rfl, rfl⟩ := hps
          rw [q] at hx
          exact hx
        · rename_i m' n' q
          split at hps <;> try (simp at hps; done)
          split at hps <;> try (simp at hps; done)
          rename_i z' N r' hro
          simp only [Option.some.injEq, Prod.mk.injEq] at hps
          obtain ⟨rfl, rfl, rfl, rfl, rfl⟩ := hps
          rw [q] at hx
          obtain ⟨g1, g2, g3, g4⟩ := hx
          refine ⟨g1, Int.le_refl _, g3, ?_⟩
          rcases g4 with ⟨h, rfl⟩ | ⟨b, c, h⟩
          · exact Or.inl ⟨rfl, none, 0, h, fun _ => rfl⟩
          · exact Or.inr ⟨b, c, _, c, by rw [← g2, h], by simp, own_cap R hro (by rw [← g2, h]), by rw [h]; simp⟩
        · simp at hps
      obtain ⟨i, hi⟩ := Option.isSome_iff_exists.1 hinfo
      have hz : (sizeOf el).run P w = .ok z w := by rw [hc]; simp [sizeOf, typeInfo, sizeT, hi]
      have hlv : bound_is l 0 (lo.map a.eval) := bound_sound hl fun y hy => hv y (by subst hy; simp [ho, Op.operands])
      have hhv : bound_is h n (hh.map a.eval) := bound_sound hh' fun y hy => hv y (by subst hy; simp [ho, Op.operands])
      obtain ⟨y, run, hy⟩ := slice_part (P := P) hpart.2 hu hz o1 o2 o3 hlv hhv o4 hmh
      refine fin (v := .view m z (addZ l0 l) (subZ h l)) R (y := y) ?_ ⟨hpart.1, hy⟩ hK
      simp only [execOp, ho, Sem.run_bind, run]; rfl
    split at he <;> try (simp at he; done)
    rename_i ms z n r hsrc
    split at he <;> try (simp at he; done)
    rename_i l h k hl hh' hkk
    split at he <;> try (simp at he; done)
    rename_i hc
    simp only [Bool.and_eq_true, Nat.beq_eq] at hc
    obtain ⟨hc, hinfo⟩ := hc
    simp only [Option.some.injEq] at he
    subst he
    obtain ⟨o1, o2, o3, o4⟩ := asks hok hkk
    have hrep : Rep (callF E s ms) w (.slc z n r) (a.eval x) := by
      unfold sliceSrc at hsrc
      split at hsrc <;> try (simp at hsrc; done)
      rename_i c q
      split at hsrc <;> try (simp at hsrc; done)
      rename_i z' n' r' ms' hres
      simp only [Option.some.injEq, Prod.mk.injEq] at hsrc
      obtain ⟨rfl, rfl, rfl, rfl⟩ := hsrc
      rw [q] at hx
      exact resC_sound R hres (fun _ h => h) hx
    obtain ⟨i, hi⟩ := Option.isSome_iff_exists.1 hinfo
    have hz : (sizeOf el).run P w = .ok z w := by rw [hc]; simp [sizeOf, typeInfo, sizeT, hi]
    have hlv : bound_is l 0 (lo.map a.eval) := bound_sound hl fun y hy => hv y (by subst hy; simp [ho, Op.operands])
    have hhv : bound_is h n (hh.map a.eval) := bound_sound hh' fun y hy => hv y (by subst hy; simp [ho, Op.operands])
    obtain ⟨y, run, hy⟩ := slice_sound (P := P) hrep hu hz o1 o2 o3 hlv hhv o4 hmh
    obtain ⟨⟨R', _⟩, kp⟩ := R.calledE hb (refs := []) (rows := ms) (by simp) (res := [.c (.slc z (subZ h l) (.sub r l))]) (cs := []) (F' := callF E s ms) (w' := w) (v := y) (Keep.refl _ _ _) (fun _ h => h) (fun k hk => ⟨callF_lt R hk, Or.inl hk⟩) hy trivial (u := []) rfl o.dst p li gen
    rw [List.append_nil] at R'
    refine wp_new ?_ (hK _ _ _ R' kp)
    simp only [execOp, ho, Sem.run_bind, run]; rfl
  · -- makeFunc
    rename_i f first caps ho
    split at he <;> try (simp at he; done)
    rename_i hf
    have hf : first = #[] := Array.eq_empty_of_size_eq_zero (Nat.eq_of_beq_eq_true hf)
    subst hf
    split at he <;> try (simp at he; done)
    rename_i l hl
    simp only [eV, Option.some.injEq] at he
    subst he
    have hcap : ∀ (cl : List Operand) (l : List (Nat × Nat)), capsOf s cl = some l → (∀ q ∈ l, live s q.1) ∧ cl.map a.eval = l.map fun q => Value.pointer (some ⟨adr E q.1, q.2, none⟩) := by
      intro cl
      induction cl with
      | nil => intro l h; simp only [capsOf, Option.some.injEq] at h; subst h; exact ⟨by simp, rfl⟩
      | cons x cl ih =>
        intro l h
        unfold capsOf at h
        split at h <;> try (simp at h; done)
        rename_i m off k h1 h2
        simp only [Option.some.injEq] at h
        subst h
        obtain ⟨i1, i2⟩ := ih k h2
        have hx := R.eval x (by rw [h1])
        rw [h1] at hx
        refine ⟨fun q hq => ?_, ?_⟩
        · rcases List.mem_cons.1 hq with rfl | hq
          · exact hx.1
          · exact i1 q hq
        · simp only [List.map_cons, i2, hx.2]
    obtain ⟨i1, i2⟩ := hcap _ _ hl
    refine fin (v := .x (.c (.fn f l))) R (y := .func (.func f) #[] (caps.map a.eval)) ?_ ⟨i1, ?_⟩ hK
    · simp [execOp, ho, Instr.makeFunc]
    · have : caps.map a.eval = (l.map fun q => Value.pointer (some ⟨adr E q.1, q.2, none⟩)).toArray := by
        apply Array.ext'; simpa using i2
      rw [this]
  · -- field
    rename_i t x f ho
    have hx := kn (by simp [ho]) x (by simp [ho, Op.operands])
    split at he <;> try (simp at he; done)
    rename_i l fs q1 q2
    split at he <;> try (simp at he; done)
    rename_i fd q3
    split at he <;> try (simp at he; done)
    rename_i v q4
    simp only [eV, Option.some.injEq] at he
    subst he
    rw [q1] at hx
    obtain ⟨ys, hy, hf⟩ := hx
    obtain ⟨y, e1, e2⟩ := part_conc (P := P) q4 hf
    refine fin (v := .x v) R (y := y) ?_ e2 hK
    simp only [execOp, ho, hy, Sem.run_bind, Instr.field, run_underlying q2, Result.andThen_ok, q3, asAgg, Sem.run_pure, run_partV e1]
  · -- index
    rename_i t x i ho
    have hx := kn (by simp [ho]) x (by simp [ho, Op.operands])
    have hi := kn (by simp [ho]) i (by simp [ho, Op.operands])
    split at he <;> try (simp at he; done)
    · rename_i l k m len el q1 q2 q3
      split at he <;> try (simp at he; done)
      rename_i v q4
      split at he <;> try (simp at he; done)
      rename_i q5
      simp only [Option.some.injEq] at he
      subst he
      simp only [List.mem_cons, List.not_mem_nil, or_false, forall_eq_or_imp, forall_eq, ile, ilt, decide_eq_true_eq] at hok
      rw [q1] at hx
      obtain ⟨ys, hy, hf⟩ := hx
      have ei := cv_int q2 hi
      obtain ⟨y, e1, e2⟩ := part_conc (P := P) q4 hf
      obtain ⟨ie, q5⟩ := Option.isSome_iff_exists.1 q5
      have hz : (sizeOf el).run P w = .ok (sizeT P el) w := by simp [sizeOf, typeInfo, sizeT, q5]
      refine fin (v := .x v) R (y := y) ?_ e2 hK
      simp only [execOp, ho, hy, ei, Sem.run_bind, Instr.index, asIntOf, Sem.run_pure, run_underlying q3, Result.andThen_ok, hok.1, hok.2, and_self, if_true, hz, run_partV e1]
    · rename_i b k m q1 q2 q3
      simp only [Option.some.injEq] at he
      subst he
      simp only [List.mem_cons, List.not_mem_nil, or_false, forall_eq_or_imp, forall_eq, ile, ilt, slenI, decide_eq_true_eq] at hok
      rw [q1] at hx
      have hy := cv_v hx
      have ei := cv_int q2 hi
      have o1 : (0 : Int) ≤ m := hok.1
      have o2 : m < (b.size : Int) := of_decide_eq_true hok.2
      have hlt : m.toNat < b.size := by omega
      have hg : b[m.toNat]? = some b[m.toNat] := getElem?_pos b m.toNat hlt
      refine fin (v := vS (.int .u8 (satI b m))) R (y := .int .u8 (satI b m)) ?_ (.v rfl) hK
      simp only [execOp, ho, hy, ei, Sem.run_bind, Instr.index, asIntOf, Sem.run_pure, run_underlying q3, Result.andThen_ok, hok.1, if_true, hg, satI]
  · -- indexAddr
    rename_i t x i ho
    have hx := kn (by simp [ho]) x (by simp [ho, Op.operands])
    have hi := kn (by simp [ho]) i (by simp [ho, Op.operands])
    split at he <;> try (simp at he; done)
    · -- an array
      rename_i k m len el q2 q3
      split at he <;> try (simp at he; done)
      rename_i q5
      have ei := cv_int q2 hi
      obtain ⟨ie, q5⟩ := Option.isSome_iff_exists.1 q5
      have hz : (sizeOf el).run P w = .ok (sizeT P el) w := by simp [sizeOf, typeInfo, sizeT, q5]
      have run : 0 ≤ m → m < len → ∀ b off : Nat, a.eval x = .pointer (some ⟨b, off, none⟩) → (execOp a.eval o).run P w = .ok (.value (.pointer (some ⟨b, off + m.toNat * sizeT P el, none⟩))) w := by
        intro o1 o2 b off e1
        simp only [execOp, ho, e1, ei, Sem.run_bind, Instr.indexAt, asIntOf, Sem.run_pure, run_underlying q3, Result.andThen_ok, Instr.sureAddr, o1, o2, and_self, if_true, hz, Addr.add_lit]
      split at he <;> try (simp at he; done)
      · rename_i b off q1
        simp only [Option.some.injEq] at he
        subst he
        simp only [List.mem_cons, List.not_mem_nil, or_false, forall_eq_or_imp, forall_eq, ile, ilt, decide_eq_true_eq] at hok
        rw [q1] at hx
        exact fin (v := .x (.c (.ptr b (off + m.toNat * sizeT P el)))) R (run hok.1 hok.2 _ _ (cv_ptr hx)) ⟨hx.1, rfl⟩ hK
      · rename_i b z j off q1
        simp only [Option.some.injEq] at he
        subst he
        simp only [List.mem_cons, List.not_mem_nil, or_false, forall_eq_or_imp, forall_eq, ile, ilt, decide_eq_true_eq] at hok
        rw [q1] at hx
        obtain ⟨h1, h0, b', c, ln, hν, hi', hy⟩ := hx
        exact fin (v := .eptr b z j (off + m.toNat * sizeT P el)) R (run hok.1 hok.2 _ _ hy) ⟨h1, h0, b', c, ln, hν, hi', by rw [Nat.add_assoc]⟩ hK
      · rename_i z r j off q1
        simp only [Option.some.injEq] at he
        subst he
        simp only [List.mem_cons, List.not_mem_nil, or_false, forall_eq_or_imp, forall_eq, ile, ilt, decide_eq_true_eq] at hok
        rw [q1] at hx
        obtain ⟨h0, b', o', arr, el', fr, hF, h1, hy, h2⟩ := hx
        exact fin (v := .fptr z r j (off + m.toNat * sizeT P el)) R (run hok.1 hok.2 _ _ hy) ⟨h0, b', o', arr, el', fr, hF, h1, by rw [Nat.add_assoc], h2⟩ hK
    · -- a slice
      rename_i k m el q2 q3
      split at he <;> try (simp at he; done)
      rename_i q5
      have ei := cv_int q2 hi
      obtain ⟨ie, q5⟩ := Option.isSome_iff_exists.1 q5
      have hz : (sizeOf el).run P w = .ok (sizeT P el) w := by simp [sizeOf, typeInfo, sizeT, q5]
      have run : 0 ≤ m → ∀ b off ln cc : Nat, m < ln → a.eval x = .slice (some ⟨b, off, none⟩) ln cc → (execOp a.eval o).run P w = .ok (.value (.pointer (some ⟨b, off + m.toNat * sizeT P el, none⟩))) w := by
        intro o1 b off ln cc o2 e1
        simp only [execOp, ho, e1, ei, Sem.run_bind, Instr.indexAt, asIntOf, Sem.run_pure, run_underlying q3, Result.andThen_ok, o1, o2, and_self, if_true, hz, Addr.add_lit]
      split at he <;> try (simp at he; done)
      · rename_i b n q1
        simp only [Option.some.injEq] at he
        subst he
        simp only [List.mem_cons, List.not_mem_nil, or_false, forall_eq_or_imp, forall_eq, ile, ilt, decide_eq_true_eq] at hok
        rw [q1] at hx
        obtain ⟨h1, h2, h3, h4⟩ := hx
        rcases h4 with ⟨_, rfl⟩ | ⟨g, cc, h4⟩
        · omega
        · exact fin (v := .eptr b (sizeT P el) m 0) R (run hok.1 g 0 n.toNat cc (by omega) h4) ⟨h1, hok.1, g, cc, n.toNat, by rw [← h2, h4], by omega, by simp⟩ hK
      · rename_i z n r q1
        split at he <;> try (simp at he; done)
        rename_i hzz
        have hzz := Nat.eq_of_beq_eq_true hzz
        subst hzz
        simp only [Option.some.injEq] at he
        subst he
        simp only [List.mem_cons, List.not_mem_nil, or_false, forall_eq_or_imp, forall_eq, ile, ilt, decide_eq_true_eq] at hok
        rw [q1] at hx
        have hx : Rep E.F w (.slc (sizeT P el) n r) (a.eval x) := hx
        generalize hav : a.eval x = av at hx
        cases hx with
        | nil => omega
        | slc u hz' hc hF hh hu hr =>
          rename_i n' b off c arr t' fr
          refine fin (v := .fptr (sizeT P el) r m 0) R (run hok.1 b off n' c hok.2 hav) ⟨hok.1, b, off + m.toNat * sizeT P el, arr, t', _, hF, hh, rfl, fun j hj => ⟨u m.toNat j, hu _ _ (by omega) hj, ?_⟩⟩ hK
          have := hr m.toNat j (by omega) hj
          rw [show ((m.toNat : Nat) : Int) = m by omega] at this; exact this
      · rename_i b z l n q1
        split at he <;> try (simp at he; done)
        rename_i hzz
        have hzz := Nat.eq_of_beq_eq_true hzz
        subst hzz
        simp only [Option.some.injEq] at he
        subst he
        simp only [List.mem_cons, List.not_mem_nil, or_false, forall_eq_or_imp, forall_eq, ile, ilt, decide_eq_true_eq] at hok
        rw [q1] at hx
        obtain ⟨h1, h2, h3, h4⟩ := hx
        rcases h4 with ⟨rfl, _⟩ | ⟨g, cc, ln, c', hν, hle, _, h4⟩
        · omega
        · refine fin (v := .eptr b (sizeT P el) (addZ l m) 0) R (run hok.1 g (l.toNat * sizeT P el) n.toNat c' (by omega) h4) ⟨h1, by unfold addZ; omega, g, cc, ln, hν, by unfold addZ; omega, ?_⟩ hK
          rw [show (addZ l m).toNat = l.toNat + m.toNat by unfold addZ; omega, Nat.add_mul, Nat.add_zero]
  · simp at he
end
end Go.Proofs.Ytdpmigbenkndbaa.QR
namespace Go.Proofs.Ytdpmigbenkndbaa.QR
open Go.RowKit PR
set_option linter.unusedVariables false
set_option linter.unusedSimpArgs false
def Delta.conf (d e : Delta) : Bool :=
  d.up.any (fun p => e.rd.any (Nat.beq p.1) || e.up.any fun q => Nat.beq p.1 q.1) || e.up.any fun p => d.rd.any (Nat.beq p.1)
def litOp (lits : List Tmp) : Operand → Bool
  | .tmp t => lits.any (Nat.beq t)
  | .const _ => true
  | _ => false
def litOf (s : PSt) (lits : List Tmp) (o : Oper) : Bool :=
  match o.op with
  | .move x | .assign x => litOp lits x
  | .pick c a b => match valOf s c with
    | .x (.c (.v (.bool true))) => litOp lits a
    | .x (.c (.v (.bool false))) => litOp lits b
    | _ => false
  | _ => false
def bindL : List CV → (List CV → Prop) → Prop
  | [], k => k []
  | .v (.int kd n) :: l, k => ∀ i : Int, i = n → bindL l fun l' => k (.v (.int kd i) :: l')
  | c :: l, k => bindL l fun l' => k (c :: l')
def bindX : XV → (XV → Prop) → Prop
  | .c (.v (.int kd n)), k => ∀ i : Int, i = n → k (.c (.v (.int kd i)))
  | .c c, k => k (.c c)
  | .agg l, k => bif Nat.ble 20 l.length then k (.agg l) else bindL l fun l' => k (.agg l')
def bindXs : List XV → (List XV → Prop) → Prop
  | [], k => k []
  | v :: l, k => bindX v fun v' => bindXs l fun l' => k (v' :: l')
def bindS : SV → (SV → Prop) → Prop
  | .x v, k => bindX v fun v' => k (.x v')
  | .tup l, k => bindXs l fun l' => k (.tup l')
  | v, k => k v
def ixOf (P : Program) (ops : List Oper) (s : PSt) (o : Oper) : Option (IntKind × Int × Nat) :=
  bif runsB (guardOf s ops o) then match o.op with
    | .index t _ i | .indexAddr t _ i => match asInt' (valOf s i), P.underlying t with
      | some (k, m), some (.array len _) => bif (operand s i).k then some (k, m, len) else none
      | _, _ => none
    | _ => none
  else none
def runOps (P : Program) (O : Oracle) (ops : List Oper) (src : List Nat) (nm : Nat) : Nat → List Oper → PSt → List Delta → List Tmp → (PSt → List Delta → Prop) → Prop
  | _, [], s, ds, lits, k => k ⟨s.tmps, s.mem, s.ok, lits, s.gen⟩ ds.reverse
  | i, o :: rest, s, ds, lits, k => match ixOf P ops s o with
    | some (kd, m, len) => caseIx m 0 len fun j => match stepD P O ops (nm + i) (withIx o kd j) s with
      | none => False
      | some d => runOps P O ops src nm (i + 1) rest (applyD o.dst d s) (d :: ds) (addLit lits o.dst false) k
    | none => match stepD P O ops (nm + i) o s with
      | none => False
      | some d => if src.any (Nat.beq i) && !litOf s lits o then
          match d.g.v with
          | .x (.c (.v (.bool x))) => bcond x (runOps P O ops src nm (i + 1) rest (applyD o.dst ⟨gnow (vS (.bool true)), d.up, d.ok, d.rd⟩ s) (⟨gnow (vS (.bool true)), d.up, d.ok, d.rd⟩ :: ds) (addLit lits o.dst true) k)
              (runOps P O ops src nm (i + 1) rest (applyD o.dst ⟨gnow (vS (.bool false)), d.up, d.ok, d.rd⟩ s) (⟨gnow (vS (.bool false)), d.up, d.ok, d.rd⟩ :: ds) (addLit lits o.dst true) k)
          | .tup _ => runOps P O ops src nm (i + 1) rest (applyD o.dst d s) (d :: ds) (addLit lits o.dst false) k
          | _ => False
        else bif isCall o then bindS d.g.v fun v => runOps P O ops src nm (i + 1) rest (applyD o.dst ⟨⟨d.g.k, v⟩, d.up, d.ok, d.rd⟩ s) (⟨⟨d.g.k, v⟩, d.up, d.ok, d.rd⟩ :: ds) (addLit lits o.dst (litOf s lits o)) k
        else runOps P O ops src nm (i + 1) rest (applyD o.dst d s) (d :: ds) (addLit lits o.dst (litOf s lits o)) k
structure RowO where
  dst : Option Tmp
  looks : List Tmp
  d : Delta
def rowsOf (ops : List Oper) : List Oper → List Delta → List RowO
  | o :: os, d :: ds => ⟨o.dst, looks ops o, d⟩ :: rowsOf ops os ds
  | _, _ => []
def aheadOf (mask : Nat) (y : RowO) : Nat → List RowO → Bool
  | _, [] => true
  | i, x :: xs => (Nat.testBit mask i || (apart x.looks y.looks x.dst y.dst && !x.d.conf y.d)) && aheadOf mask y (i + 1) xs
def anyOrder (done : List RowO) : List Nat → List RowO → Bool
  | m :: ms, y :: ys => aheadOf m y 0 done && anyOrder (done ++ [y]) ms ys
  | _, _ => true
def force : Nat → (Nat → Prop) → Prop
  | 0, k => k 0
  | n + 1, k => force n fun m => k (m + 1)
theorem force_eq : ∀ (n : Nat) (k : Nat → Prop), force n k = k n
  | 0, _ => rfl
  | n + 1, k => force_eq n fun m => k (m + 1)
def runRegion0 (P : Program) (O : Oracle) (id : Nat) (ops : List Oper) (draw : Bool) (s : PSt) (k : PSt → Prop) : Prop :=
  force s.gen fun g => runOps P O ops (sources ops) ((g * 4096 + id) * 1024) 0 ops s [] s.lits fun s' ds => if draw then (if depsBack 0 ops && anyOrder [] (masks [] ops) (rowsOf ops ops ds) then k s' else False) else k s'
def ownN (s : PSt) (t : Tmp) : List Nat :=
  match (s.tmps.getD t (gnow (.tup []))).v with
  | .x (.c (.own m _)) => [m]
  | _ => []
def movedTo (t : Tmp) : List Oper → List Tmp
  | [] => []
  | o :: l => match o.dst, o.op with
    | some d, .move (.tmp b) => if Nat.beq d t then b :: movedTo t l else movedTo t l
    | _, _ => movedTo t l
def ownNs (s : PSt) : List Tmp → List Nat
  | [] => []
  | t :: l => ownN s t ++ ownNs s l
def preF (ops : List Oper) (s : PSt) : List Oper → List Nat
  | [] => []
  | o :: l => match o.op with
    | .slice _ (.tmp a) _ _ _ => ownNs s (movedTo a ops) ++ preF ops s l
    | _ => preF ops s l
def frzS (s : PSt) : List Nat → PSt
  | [] => s
  | m :: l => ⟨s.tmps, applyU s.mem (froze s (m :: l)), s.ok, s.lits, s.gen⟩
def startS (ops : List Oper) (draw : Bool) (s : PSt) : PSt := if draw then frzS s (preF ops s ops) else s
theorem startS_ok (ops : List Oper) (draw : Bool) (s : PSt) : (startS ops draw s).ok = s.ok := by
  unfold startS frzS
  split
  · split <;> rfl
  · rfl
def runRegion (P : Program) (O : Oracle) (id : Nat) (ops : List Oper) (draw : Bool) (s : PSt) (k : PSt → Prop) : Prop :=
  runRegion0 P O id ops draw (startS ops (draw && !viewsOn O) s) k
theorem conjP_iff {l : List Prop} {p : Prop} : conjP l p ↔ (∀ b ∈ l, b) ∧ p := by
  induction l with
  | nil => simp [conjP]
  | cons b l ih => simp only [conjP, ih, List.forall_mem_cons, and_assoc]
section
variable {P : Program} {O : Oracle} {ops : List Oper}
theorem operand_congr {s s' : PSt} {o : Oper} (h : ∀ t ∈ looks ops o, s'.tmps[t]? = s.tmps[t]?) {x : Operand} (hx : x ∈ o.op.operands.toList) : operand s' x = operand s x := by
  cases x with
  | tmp t =>
    have : s'.tmps[t]? = s.tmps[t]? := h t (by
      unfold looks
      refine List.mem_append_left _ (List.mem_filterMap.2 ⟨_, hx, rfl⟩))
    simp [operand, List.getD, this]
  | _ => rfl
theorem guard_congr {s s' : PSt} {o : Oper} (h : ∀ t ∈ looks ops o, s'.tmps[t]? = s.tmps[t]?) : guardOf s' ops o = guardOf s ops o := by
  unfold guardOf
  split
  · rfl
  · rename_i j want hg
    split
    · rename_i d hd
      rw [h d (by unfold looks; rw [hg]; simp only; rw [hd]; exact List.mem_append_right _ (by simp))]
    · rfl
theorem known_congr {s s' : PSt} {o : Oper} (h : ∀ t ∈ looks ops o, s'.tmps[t]? = s.tmps[t]?) : knownOf s' o = knownOf s o := by
  have hv : ∀ x ∈ o.op.operands.toList, operand s' x = operand s x := fun x hx => operand_congr h hx
  unfold knownOf
  split
  · rename_i c a b ho
    rw [ho] at hv
    unfold valOf
    rw [hv c (by simp [Op.operands]), hv a (by simp [Op.operands]), hv b (by simp [Op.operands])]
  · rw [List.map_congr_left hv]
theorem resC_congr {s s' : PSt} {c d : CV} {ms : List Nat} (h : resC s c = some (d, ms)) (hm : ∀ m ∈ ms, s'.mem m = s.mem m) : resC s' c = some (d, ms) := by
  unfold resC at h ⊢
  split at h
  · rename_i m n
    split at h <;> try (simp at h; done)
    rename_i z k r hr
    simp only [Option.some.injEq, Prod.mk.injEq] at h
    obtain ⟨rfl, rfl⟩ := h
    have : rowOf s' m = rowOf s m := by unfold rowOf; rw [hm m (by simp)]
    simp only [this, hr]
  · simp at h
  · simp at h
  · simp at h
  · exact h
theorem resL_congr {s s' : PSt} : ∀ {l d : List CV} {ms : List Nat}, resL s l = some (d, ms) → (∀ m ∈ ms, s'.mem m = s.mem m) → resL s' l = some (d, ms)
  | [], d, ms, h, _ => h
  | c :: l, d, ms, h, hm => by
    unfold resL at h ⊢
    split at h <;> try (simp at h; done)
    rename_i d1 a1 d2 a2 h1 h2
    simp only [Option.some.injEq, Prod.mk.injEq] at h
    obtain ⟨rfl, rfl⟩ := h
    rw [resC_congr h1 fun m hh => hm m (by simp [hh]), resL_congr h2 fun m hh => hm m (by simp [hh])]
theorem argA_congr {s s' : PSt} {v : SV} {g : Arg} (h : argA s v = some g) (h1 : ∀ m ∈ g.rows, s'.mem m = s.mem m) (h2 : ∀ m ∈ g.refs, s'.mem m = s.mem m) : argA s' v = some g := by
  unfold argA at h ⊢
  split at h
  · rename_i m off
    split at h <;> try (simp at h; done)
    rename_i l hl
    split at h <;> try (simp at h; done)
    rename_i k a hr
    simp only [Option.some.injEq] at h
    subst h
    simp only [h2 m (by simp), hl, resL_congr hr h1]
  · split at h <;> try (simp at h; done)
    rename_i d a hr
    simp only [Option.some.injEq] at h
    subst h
    simp only [resC_congr hr h1]
  · split at h <;> try (simp at h; done)
    rename_i d a hr
    simp only [Option.some.injEq] at h
    subst h
    simp only [resL_congr hr h1]
  · rename_i m z l n
    split at h <;> try (simp at h; done)
    rename_i d a hr
    simp only [Option.some.injEq] at h
    subst h
    have hm : viewR s' m z l n = some (d, a) := by
      unfold viewR at hr ⊢
      split at hr <;> try (simp at hr; done)
      rename_i z' N r hro
      split at hr <;> try (simp at hr; done)
      rename_i hz
      simp only [Option.some.injEq, Prod.mk.injEq] at hr
      obtain ⟨rfl, rfl⟩ := hr
      have : rowOf s' m = rowOf s m := by unfold rowOf; rw [h1 m (by simp)]
      simp only [this, hro, hz, if_true]
    simp only [hm]
  · simp at h
theorem argsA_congr {s s' : PSt} : ∀ {l : List SV} {al : List AV} {rows refs : List Nat}, argsA s l = some (al, rows, refs) → (∀ m ∈ rows, s'.mem m = s.mem m) → (∀ m ∈ refs, s'.mem m = s.mem m) → argsA s' l = some (al, rows, refs)
  | [], al, rows, refs, h, _, _ => h
  | v :: l, al, rows, refs, h, h1, h2 => by
    unfold argsA at h ⊢
    split at h <;> try (simp at h; done)
    rename_i g al' rows' refs' e1 e2
    simp only [Option.some.injEq, Prod.mk.injEq] at h
    obtain ⟨rfl, rfl, rfl⟩ := h
    rw [argA_congr e1 (fun m hh => h1 m (by simp [hh])) (fun m hh => h2 m (by simp [hh])), argsA_congr e2 (fun m hh => h1 m (by simp [hh])) (fun m hh => h2 m (by simp [hh]))]
theorem froze_congr {s s' : PSt} : ∀ {rows : List Nat}, (∀ m ∈ rows, s'.mem m = s.mem m) → froze s' rows = froze s rows
  | [], _ => rfl
  | m :: l, h => by
    unfold froze
    rw [h m (by simp), froze_congr fun k hk => h k (by simp [hk])]
theorem effCall_congr {s s' : PSt} {name : Nat} {f : FuncId} {args : List SV} {e : Eff} (h : effCall O name s f args = some e) (hm : ∀ m, m ∈ e.rd → s'.mem m = s.mem m) : effCall O name s' f args = some e := by
  unfold effCall at h ⊢
  split at h <;> try (simp at h; done)
  rename_i al rows refs hargs
  have key : (∀ m ∈ rows, s'.mem m = s.mem m) ∧ (∀ m ∈ refs, s'.mem m = s.mem m) := by
    split at h <;> try (simp at h; done)
    split at h <;> try (simp at h; done)
    split at h
    · unfold effView at h
      split at h <;> try (simp at h; done)
      rename_i hr0
      have hr0 : refs = [] := List.eq_nil_of_length_eq_zero (Nat.eq_of_beq_eq_true hr0)
      subst hr0
      split at h <;> try (simp at h; done)
      · simp only [Option.some.injEq] at h
        subst h
        exact ⟨fun m hh => hm m hh, by simp⟩
      · split at h <;> try (simp at h; done)
        simp only [Option.some.injEq] at h
        subst h
        exact ⟨fun m hh => hm m hh, by simp⟩
      · split at h <;> try (simp at h; done)
        simp only [Option.some.injEq] at h
        subst h
        exact ⟨fun m hh => hm m hh, by simp⟩
    split at h
    · split at h <;> try (simp at h; done)
      rename_i hc
      simp only [Bool.and_eq_true, Nat.beq_eq] at hc
      have hr0 : rows = [] := List.eq_nil_of_length_eq_zero hc.1
      subst hr0
      simp only [Option.some.injEq] at h
      subst h
      exact ⟨by simp, fun m hh => hm m hh⟩
    split at h <;> try (simp at h; done)
    split at h
    · split at h <;> try (simp at h; done)
      split at h
      · rename_i hc
        simp only [Bool.and_eq_true, Nat.beq_eq] at hc
        simp only [Option.some.injEq] at h
        subst h
        have hr0 : refs = [] := List.eq_nil_of_length_eq_zero hc.2
        subst hr0
        exact ⟨fun m hh => hm m hh, by simp⟩
      · simp only [Option.some.injEq] at h
        subst h
        exact ⟨fun m hh => hm m (by simp [hh]), fun m hh => hm m (by simp [hh])⟩
    · split at h <;> try (simp at h; done)
      split at h
      · rename_i hc
        simp only [Bool.and_eq_true, Nat.beq_eq] at hc
        simp only [Option.some.injEq] at h
        subst h
        have hr0 : refs = [] := List.eq_nil_of_length_eq_zero hc.1.2
        subst hr0
        exact ⟨fun m hh => hm m hh, by simp⟩
      simp only [Option.some.injEq] at h
      subst h
      exact ⟨fun m hh => hm m (by simp [hh]), fun m hh => hm m (by simp [hh])⟩
    · simp at h
  rw [argsA_congr hargs key.1 key.2]
  simp only [froze_congr key.1]
  exact h
theorem effBuiltin_congr {s s' : PSt} {name : Nat} {b : Builtin} {tys : List TypeId} {args : List SV} {e : Eff} (h : effBuiltin P name s b tys args = some e) (hm : ∀ m, m ∈ e.rd → s'.mem m = s.mem m) : effBuiltin P name s' b tys args = some e := by
  unfold effBuiltin at h ⊢
  split at h
  · exact h
  · exact h
  · exact h
  · rename_i a c t u
    split at h <;> try (simp at h; done)
    rename_i el hu
    try simp only [hu]
    split at h <;> try (simp at h; done)
    rename_i zs hz
    try simp only [hz]
    split at h <;> try (simp at h; done)
    rename_i hc
    rw [if_pos hc]
    split at h <;> try (simp at h; done)
    rename_i z2 n2 r2 rd hrow
    split at h <;> try (simp at h; done)
    rename_i hz2
    have hrd : ∀ m ∈ rd, s'.mem m = s.mem m := by
      intro m hh
      split at h <;> try (simp at h; done)
      · simp only [Option.some.injEq] at h; subst h; exact hm m hh
      · split at h <;> try (simp at h; done)
        split at h <;> try (simp at h; done)
        simp only [Option.some.injEq] at h; subst h; exact hm m (by simp [hh])
    have hrow' : srcA s' c = some (z2, n2, r2, rd) := by
      unfold srcA at hrow ⊢
      split at hrow
      · rename_i m n
        split at hrow <;> try (simp at hrow; done)
        rename_i z n r hr
        simp only [Option.some.injEq, Prod.mk.injEq] at hrow
        obtain ⟨rfl, rfl, rfl, rfl⟩ := hrow
        have : rowOf s' m = rowOf s m := by unfold rowOf; rw [hrd m (by simp)]
        simp only [this, hr]
      · exact hrow
      · simp at hrow
    rw [hrow']
    simp only
    rw [if_pos hz2]
    split at h <;> try (simp at h; done)
    · exact h
    · rename_i m n
      have : rowW s' m = rowW s m := by
        split at h <;> try (simp at h; done)
        split at h <;> try (simp at h; done)
        simp only [Option.some.injEq] at h; subst h
        unfold rowW; rw [hm m (by simp)]
      simp only [this]
      exact h
  · rename_i d c t u
    split at h <;> try (simp at h; done)
    rename_i el hu
    try simp only [hu]
    split at h <;> try (simp at h; done)
    rename_i hc
    rw [if_pos hc]
    split at h <;> try (simp at h; done)
    rename_i m z l n N r z2 n2 r2 rd hd hsrc
    have hall : ∀ k ∈ m :: rd, s'.mem k = s.mem k := by
      split at h <;> try (simp at h; done)
      simp only [Option.some.injEq] at h; subst h
      exact hm
    have hro : rowW s' m = rowW s m := by unfold rowW; rw [hall m (by simp)]
    have hd' : dstA s' d = some (m, z, l, n, N, r) := by
      unfold dstA at hd ⊢
      split at hd
      · split at hd <;> try (simp at hd; done)
        rename_i k n' _ z' N' r' hr
        simp only [Option.some.injEq, Prod.mk.injEq] at hd
        obtain ⟨rfl, rfl, rfl, rfl, rfl, rfl⟩ := hd
        simp only [hro, hr]
      · split at hd <;> try (simp at hd; done)
        rename_i k z'' l' n' _ z' N' r' hr
        split at hd <;> try (simp at hd; done)
        rename_i hzz
        simp only [Option.some.injEq, Prod.mk.injEq] at hd
        obtain ⟨rfl, rfl, rfl, rfl, rfl, rfl⟩ := hd
        simp only [hro, hr, hzz, if_true]
      · simp at hd
    have hsrc' : srcV s' c = some (z2, n2, r2, rd) := by
      unfold srcV at hsrc ⊢
      split at hsrc
      · unfold srcA at hsrc ⊢
        split at hsrc
        · split at hsrc <;> try (simp at hsrc; done)
          rename_i k n _ z n' r hr
          simp only [Option.some.injEq, Prod.mk.injEq] at hsrc
          obtain ⟨rfl, rfl, rfl, rfl⟩ := hsrc
          have : rowOf s' k = rowOf s k := by unfold rowOf; rw [hall k (by simp)]
          simp only [this, hr]
        · exact hsrc
        · simp at hsrc
      · rename_i k z l n
        split at hsrc <;> try (simp at hsrc; done)
        rename_i z' n' r hr
        split at hsrc <;> try (simp at hsrc; done)
        rename_i hzz
        simp only [Option.some.injEq, Prod.mk.injEq] at hsrc
        obtain ⟨rfl, rfl, rfl, rfl⟩ := hsrc
        have : rowOf s' k = rowOf s k := by unfold rowOf; rw [hall k (by simp)]
        simp only [this, hr, hzz, if_true]
      · simp at hsrc
    rw [hsrc', hd']
    exact h
  · exact h
  · simp at h
theorem partsOf_congr {s s' : PSt} : ∀ {l : List (Nat × Operand)}, (∀ p ∈ l, valOf s' p.2 = valOf s p.2) → partsOf s' l = partsOf s l
  | [], _ => rfl
  | (i, x) :: l, h => by
    unfold partsOf
    rw [h (i, x) (by simp), partsOf_congr fun p hp => h p (by simp [hp])]
theorem capsOf_congr {s s' : PSt} : ∀ {l : List Operand}, (∀ x ∈ l, operand s' x = operand s x) → capsOf s' l = capsOf s l
  | [], _ => rfl
  | x :: l, h => by
    unfold capsOf
    rw [h x (by simp), capsOf_congr fun p hp => h p (by simp [hp])]
theorem effect_congr {s s' : PSt} {o : Oper} {name : Nat} {e : Eff} (h : ∀ t ∈ looks ops o, s'.tmps[t]? = s.tmps[t]?) (he : effect P O name s o = some e) (hm : ∀ m, m ∈ e.rd → s'.mem m = s.mem m) (hu : ∀ p ∈ e.up, s'.mem p.1 = s.mem p.1) : effect P O name s' o = some e := by
  have ho' : ∀ x ∈ o.op.operands.toList, operand s' x = operand s x := fun x hx => operand_congr h hx
  have hv : ∀ x ∈ o.op.operands.toList, valOf s' x = valOf s x := fun x hx => by unfold valOf; rw [operand_congr h hx]
  unfold effect at he ⊢
  split at he
  all_goals first
    | (rename_i ho
       rw [ho] at hv ho'
       simp only [Op.operands] at hv ho')
    | (simp at he; done)
  · rw [hv _ (by simp)]; exact he
  · rw [hv _ (by simp)]; exact he
  · rw [hv _ (by simp)]; exact he
  · rename_i c x y; rw [hv c (by simp), hv x (by simp), hv y (by simp)]; exact he
  · exact he
  · rw [hv _ (by simp)]; exact he
  · -- load
    rename_i t x
    rw [hv x (by simp)]
    split at he <;> try (simp at he; done)
    · rename_i m off q
      have hmm : memC s' m = memC s m := by
        have : s'.mem m = s.mem m := by
          split at he <;> try (simp at he; done)
          split at he <;> try (simp at he; done)
          simp only [Option.some.injEq] at he; subst he
          exact hm m (by simp)
        unfold memC; rw [this]
      simp only [hmm]; exact he
    · rename_i m z i off q
      have hmm : rowOf s' m = rowOf s m := by
        have : s'.mem m = s.mem m := by
          split at he <;> try (simp at he; done)
          split at he <;> try (simp at he; done)
          split at he <;> try (simp at he; done)
          simp only [Option.some.injEq] at he; subst he
          exact hm m (by simp)
        unfold rowOf; rw [this]
      simp only [hmm]; exact he
    · exact he
  · -- store
    rename_i t x y
    rw [hv x (by simp), hv y (by simp)]
    split at he <;> try (simp at he; done)
    · rename_i m off xv q1 q2
      have hmm : s'.mem m = s.mem m := by
        split at he <;> try (simp at he; done)
        split at he <;> try (simp at he; done)
        simp only [Option.some.injEq] at he; subst he
        exact hu _ (List.mem_singleton.2 rfl)
      simp only [hmm]; exact he
    · rename_i m z i off xv q1 q2
      have hmm : rowW s' m = rowW s m := by
        have : s'.mem m = s.mem m := by
          split at he <;> try (simp at he; done)
          split at he <;> try (simp at he; done)
          simp only [Option.some.injEq] at he; subst he
          exact hu _ (List.mem_singleton.2 rfl)
        unfold rowW; rw [this]
      simp only [hmm]; exact he
  · rename_i op t x y yt; rw [hv x (by simp), hv y (by simp)]; exact he
  · rw [hv _ (by simp)]; exact he
  · rw [hv _ (by simp)]; exact he
  · rw [hv _ (by simp)]; exact he
  · rw [hv _ (by simp)]; exact he
  · -- call
    rename_i c
    have hw : c.args.toList.map (valOf s') = c.args.toList.map (valOf s) := List.map_congr_left fun x hx => hv x (by
      simp only [Call.operands, Array.toList_append]
      exact List.mem_append_right _ hx)
    have hc : ∀ cal, c.callee = cal → calleeOf s' cal = calleeOf s cal := by
      intro cal e
      subst e
      unfold calleeOf
      split
      · rename_i x hx
        rw [ho' x (by simp [Call.operands, hx])]
      · rfl
    split at he
    · rename_i b hb
      rw [hw]
      exact effBuiltin_congr he hm
    · rw [hc _ rfl, hw]
      split at he <;> try (simp at he; done)
      exact effCall_congr he hm
  · -- build
    rename_i t parts
    rw [partsOf_congr (s := s) (s' := s') fun p hp => hv p.2 (List.mem_map_of_mem hp)]; exact he
  · -- buildSlice
    rename_i t len parts
    rw [partsOf_congr (s := s) (s' := s') fun p hp => hv p.2 (List.mem_map_of_mem hp)]; exact he
  · rename_i t l c; rw [hv l (by simp), hv c (by simp)]; exact he
  · -- slice
    rename_i t x lo hi mx
    have hx := hv x (by simp)
    have hlo : ∀ d, boundOf s' d lo = boundOf s d lo := by
      intro d; cases lo with
      | none => rfl
      | some y => unfold boundOf; simp only; rw [hv y (by simp)]
    have hhi : ∀ d, boundOf s' d hi = boundOf s d hi := by
      intro d; cases hi with
      | none => rfl
      | some y => unfold boundOf; simp only; rw [hv y (by simp)]
    have hmx : ∀ d, boundOf s' d mx = boundOf s d mx := by
      intro d; cases mx with
      | none => rfl
      | some y => unfold boundOf; simp only; rw [hv y (by simp)]
    rw [hx]
    split at he <;> try (simp at he; done)
    rename_i el q1 q2
    try simp only [q1, q2]
    split at he
    · rename_i m z l0 n rd hps
      have hm' : ∀ m ∈ rd, s'.mem m = s.mem m := by
        split at he <;> try (simp at he; done)
        split at he <;> try (simp at he; done)
        simp only [Option.some.injEq] at he; subst he
        exact hm
      have hps' : partSrc O s' (valOf s x) = some (m, z, l0, n, rd) := by
        unfold partSrc at hps ⊢
        split at hps
        · exact hps
        · rename_i k n' q
          split at hps <;> try (simp at hps; done)
          rename_i hvo
          split at hps <;> try (simp at hps; done)
          rename_i z' N r' hro
          simp only [Option.some.injEq, Prod.mk.injEq] at hps
          obtain ⟨rfl, rfl, rfl, rfl, rfl⟩ := hps
          have : rowOf s' k = rowOf s k := by unfold rowOf; rw [hm' k (by simp)]
          simp only [hvo, if_true, this, hro]
        · simp at hps
      simp only [hps', hlo, hhi, hmx]
      exact he
    · rename_i hps
      have hps' : partSrc O s' (valOf s x) = none := by
        split at he <;> try (simp at he; done)
        rename_i ms z n r hsrc
        have hm' : ∀ m ∈ ms, s'.mem m = s.mem m := by
          split at he <;> try (simp at he; done)
          split at he <;> try (simp at he; done)
          simp only [Option.some.injEq] at he; subst he
          exact hm
        unfold partSrc at hps ⊢
        split at hps
        · simp at hps
        · rename_i k n' q
          rw [q] at hsrc
          unfold sliceSrc resC at hsrc
          cases hr : rowOf s k with
          | none => simp [hr] at hsrc
          | some p =>
            obtain ⟨z', N, r'⟩ := p
            simp only [hr, Option.some.injEq, Prod.mk.injEq] at hsrc
            have : rowOf s' k = rowOf s k := by unfold rowOf; rw [hm' k (by rw [← hsrc.1]; simp)]
            simp only [this]
            exact hps
        · rfl
      simp only [hps']
      split at he <;> try (simp at he; done)
      rename_i ms z n r hsrc
      have hms : ∀ m ∈ ms, s'.mem m = s.mem m := by
        split at he <;> try (simp at he; done)
        split at he <;> try (simp at he; done)
        simp only [Option.some.injEq] at he; subst he
        exact fun m hh => hm m hh
      have hs : sliceSrc s' (valOf s x) = some (ms, z, n, r) := by
        unfold sliceSrc at hsrc ⊢
        split at hsrc <;> try (simp at hsrc; done)
        split at hsrc <;> try (simp at hsrc; done)
        rename_i hres
        simp only [Option.some.injEq, Prod.mk.injEq] at hsrc
        obtain ⟨rfl, rfl, rfl, rfl⟩ := hsrc
        rw [resC_congr hres hms]
      simp only [hs, hlo, hhi, hmx, froze_congr hms]
      exact he
  · -- makeFunc
    rename_i f first caps
    rw [capsOf_congr (s := s) (s' := s') fun x hx => ho' x (by simp only [Array.toList_append]; exact List.mem_append_right _ hx)]; exact he
  · rw [hv _ (by simp)]; exact he
  · rename_i t x i; rw [hv x (by simp), hv i (by simp)]; exact he
  · rename_i t x i; rw [hv x (by simp), hv i (by simp)]; exact he
end
end Go.Proofs.Ytdpmigbenkndbaa.QR
