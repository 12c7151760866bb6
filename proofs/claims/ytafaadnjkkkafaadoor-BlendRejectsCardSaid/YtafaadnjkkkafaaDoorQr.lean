/-
  The pure way of running operations, second edition: cells may hold slices (frozen: with what they hold; own: rows that grow), addresses of the call's own blocks and function literals; calls may be handed blocks by address.
-/
import Derived.Test.YtafaadnjkkkafaaDoorPs
namespace Go.Proofs.YtafaadnjkkkafaaDoor.QR
open Go.RowKit PR
set_option linter.unusedVariables false

mutual
/-- one cell -/
inductive CV where
  | v (x : Value)
  | slc (z : Nat) (n : Int) (r : Row)
  | own (m : Nat) (n : Int)
  | ptr (m off : Nat)
  | fn (f : FuncId) (caps : List (Nat × Nat))
/-- what a row of elements holds -/
inductive Row where
  | fn (g : Int → Nat → CV)
  | zer (l : List Value)
  | col (j : Nat) (f : Int → CV) (r : Row)
  | upd (r : Row) (i : Int) (j : Nat) (c : CV)
  | app (r : Row) (n : Int) (r2 : Row)
  | sub (r : Row) (l : Int)
end

inductive XV where
  | c (x : CV)
  | agg (l : List CV)

inductive SV where
  | x (v : XV)
  | tup (l : List XV)
  | eptr (m z : Nat) (i : Int) (off : Nat)
  | fptr (z : Nat) (r : Row) (i : Int) (off : Nat)

inductive Blk where
  | cells (l : List CV)
  | row (z : Nat) (n : Int) (r : Row)
  | fro (z : Nat) (n : Int) (r : Row)
  | dead

def undefC : CV := .v undef
def nilS : Value := .slice none 0 0

/-- a choice between two strings -/
def ssel (c : Bool) (a b : ByteArray) : ByteArray := bif c then a else b
def csel (c : Bool) : CV → CV → CV
  | .v (.int k a), .v (.int l b) => if k = l then .v (.int k (isel c a b)) else bif c then .v (.int k a) else .v (.int l b)
  | .v (.bool a), .v (.bool b) => .v (.bool (bsel c a b))
  | .v (.string a), .v (.string b) => .v (.string (ssel c a b))
  | x, y => bif c then x else y

/- sums of lengths, by names of their own -/
def addZ (a b : Int) : Int := a + b
def subZ (a b : Int) : Int := a - b
def imulZ (a : Int) (b : Nat) : Int := a * b
def nthV : List Value → Nat → CV
  | [], _ => undefC
  | v :: _, 0 => .v v
  | _ :: l, j + 1 => nthV l j

/-- the j-th cell of the i-th element -/
def den : Row → Int → Nat → CV
  | .fn g, i, j => g i j
  | .zer l, _, j => nthV l j
  | .col k f r, i, j => bif Nat.beq k j then f i else den r i j
  | .upd r a k c, i, j => bif Nat.beq k j then csel (ieq i a) c (den r i j) else den r i j
  | .app r n r2, i, j => csel (ilt i n) (den r i j) (den r2 (subZ i n) j)
  | .sub r l, i, j => den r (addZ i l) j

/-- a slot: k: is anything known of it? -/
structure GV where
  k : Bool
  v : SV

structure PSt where
  tmps : List GV
  mem : Nat → Option Blk
  ok : Prop
  lits : List Tmp
  gen : Nat

def vS (x : Value) : SV := .x (.c (.v x))
def gnow (v : SV) : GV := ⟨true, v⟩
def gunk : GV := ⟨false, .tup []⟩
def slotsOf (n : Nat) (l : List (Nat × SV)) : List GV := (List.range n).map fun t => match l.find? (fun p => Nat.beq p.1 t) with | some p => gnow p.2 | none => gunk
def conjP : List Prop → Prop → Prop
  | [], p => p
  | b :: l, p => b ∧ conjP l p

/-- one cell, no address in it -/
def plainB : Value → Bool
  | .bool _ | .int _ _ | .float _ _ | .complex _ _ _ | .string _ | .pointer none | .map none | .chan none | .nilFunc | .nilIface => true
  | .slice none 0 0 => true
  | .func (.func _) ⟨[]⟩ ⟨[]⟩ => true
  | _ => false

/-- a text, by its bytes -/
def bs (l : List UInt8) : ByteArray := ⟨⟨l⟩⟩
/-- package-level tables: from this name on -/
def GB : Nat := 1000000000000000000
/-- blocks that were handed in: from this name on -/
def PN : Nat := 100000000000000000
theorem PN_lt : PN < GB := by decide
def gtab : Nat → Option (List CV) := (fun m => bif Nat.beq m (GB + 0) then some [.v (.string (bs [])), .v (.string (bs [110, 111, 114, 109, 97, 108])), .v (.string (bs [109, 117, 108, 116, 105, 112, 108, 121])), .v (.string (bs [115, 99, 114, 101, 101, 110])), .v (.string (bs [111, 118, 101, 114, 108, 97, 121])), .v (.string (bs [100, 97, 114, 107, 101, 110])), .v (.string (bs [108, 105, 103, 104, 116, 101, 110])), .v (.string (bs [99, 111, 108, 111, 114, 45, 100, 111, 100, 103, 101])), .v (.string (bs [99, 111, 108, 111, 114, 45, 98, 117, 114, 110])), .v (.string (bs [104, 97, 114, 100, 45, 108, 105, 103, 104, 116])), .v (.string (bs [115, 111, 102, 116, 45, 108, 105, 103, 104, 116])), .v (.string (bs [100, 105, 102, 102, 101, 114, 101, 110, 99, 101])), .v (.string (bs [101, 120, 99, 108, 117, 115, 105, 111, 110]))] else none)

def operand (s : PSt) : Operand → GV
  | .tmp t => s.tmps.getD t (gnow (.tup []))
  | .const v => if plainB v then gnow (vS v) else gunk
  | .func f => gnow (vS (.func (.func f) ⟨[]⟩ ⟨[]⟩))
  | .global g => if (gtab (GB + g)).isSome then gnow (.x (.c (.ptr (GB + g) 0))) else gunk
def valOf (s : PSt) (x : Operand) : SV := (operand s x).v

def cellsOf : XV → List CV
  | .c x => [x]
  | .agg l => l
def toVs : List CV → Option (List Value)
  | [] => some []
  | .v x :: l => match toVs l with | some m => some (x :: m) | none => none
  | _ :: _ => none
/-- cells that a row may hold, or that a call may be handed as they are -/
def isFz : CV → Bool
  | .v x => plainB x
  | .slc _ _ _ => true
  | _ => false
def wfC : CV → Bool
  | .v x => plainB x
  | _ => true

def partX (P : Program) (l : List CV) (t : TypeId) (off : Nat) : Option XV :=
  if isAggT P t then (if Nat.ble (off + sizeT P t) l.length && (P.info? t).isSome then some (.agg ((l.drop off).take (sizeT P t))) else none)
  else match l[off]? with
    | some c => if (P.underlying t).isSome && (P.info? t).isSome then some (.c c) else none
    | none => none
def elemX (P : Program) (t : TypeId) (z : Nat) (r : Row) (i : Int) (off : Nat) : Option XV :=
  if isAggT P t then (if Nat.ble (off + sizeT P t) z && Nat.blt 0 (sizeT P t) && (P.info? t).isSome then some (.agg ((List.range (sizeT P t)).map fun k => den r i (off + k))) else none)
  else if Nat.blt off z && (P.underlying t).isSome then some (.c (den r i off)) else none

def memC (s : PSt) (m : Nat) : Option (List CV) :=
  match s.mem m with
  | some (.cells l) => some l
  | some _ => none
  | none => gtab m
def rowOf (s : PSt) (m : Nat) : Option (Nat × Int × Row) :=
  match s.mem m with
  | some (.row z n r) => some (z, n, r)
  | some (.fro z n r) => some (z, n, r)
  | _ => none
def rowW (s : PSt) (m : Nat) : Option (Nat × Int × Row) :=
  match s.mem m with
  | some (.row z n r) => some (z, n, r)
  | _ => none

def spliceC (cells : List CV) (off : Nat) (vs : List CV) : List CV := cells.take off ++ vs ++ cells.drop (off + vs.length)
def updsR (r : Row) (i : Int) : Nat → List CV → Row
  | _, [] => r
  | j, c :: l => updsR (.upd r i j c) i (j + 1) l

/-- what is handed to a call -/
inductive AV where
  | x (v : XV)
  | ref (off : Nat) (cells : List CV)
structure Ans where
  res : List XV
  upd : List (List CV)
  ask : List Prop
def Oracle := FuncId → List AV → Option Ans
def orc : List (Nat × (List AV → Option Ans)) → Oracle
  | [] => fun _ _ => none
  | (f, g) :: rest => fun h args => bif Nat.beq h f then g args else orc rest h args

/-- rows of the call's own become slices with what they hold; the rows' names -/
def resC (s : PSt) : CV → Option (CV × List Nat)
  | .own m n => match rowOf s m with
    | some (z, k, r) => some (.slc z k r, [m])
    | none => none
  | .ptr _ _ => none
  | .fn _ _ => none
  | c => some (c, [])
def resL (s : PSt) : List CV → Option (List CV × List Nat)
  | [] => some ([], [])
  | c :: l => match resC s c, resL s l with
    | some (d, a), some (m, b) => some (d :: m, a ++ b)
    | _, _ => none
structure Arg where
  a : AV
  rows : List Nat
  refs : List Nat
def argA (s : PSt) : SV → Option Arg
  | .x (.c (.ptr m off)) => match s.mem m with
    | some (.cells l) => match resL s l with
      | some (k, a) => some ⟨.ref off k, a, [m]⟩
      | none => none
    | _ => none
  | .x (.c c) => match resC s c with
    | some (d, a) => some ⟨.x (.c d), a, []⟩
    | none => none
  | .x (.agg l) => match resL s l with
    | some (k, a) => some ⟨.x (.agg k), a, []⟩
    | none => none
  | _ => none
def argsA (s : PSt) : List SV → Option (List AV × List Nat × List Nat)
  | [] => some ([], [], [])
  | v :: l => match argA s v, argsA s l with
    | some g, some (al, rows, refs) => some (g.a :: al, g.rows ++ rows, g.refs ++ refs)
    | _, _ => none
def distinct : List Nat → Bool
  | [] => true
  | m :: l => !(l.any (Nat.beq m)) && distinct l
def isV : CV → Bool
  | .v _ => true
  | _ => false
def allV (l : List XV) : Bool := l.all fun x => (cellsOf x).all isV
def fzX (l : List XV) : Bool := l.all fun x => (cellsOf x).all isFz
def froze (s : PSt) : List Nat → List (Nat × Blk)
  | [] => []
  | m :: l => match s.mem m with
    | some (.row z n r) => (m, .fro z n r) :: froze s l
    | _ => froze s l
def zipU : List Nat → List (List CV) → Option (List (Nat × Blk))
  | [], [] => some []
  | m :: l, c :: k => match zipU l k with | some u => some ((m, .cells c) :: u) | none => none
  | _, _ => none
def lensOk : List AV → List (List CV) → Bool
  | [], [] => true
  | .ref _ c :: l, d :: k => Nat.beq c.length d.length && d.all isFz && lensOk l k
  | .x _ :: l, k => lensOk l k
  | _, _ => false
def resS : List XV → SV
  | [v] => .x v
  | l => .tup l

structure Eff where
  v : SV
  ok : List Prop
  rd : List Nat
  up : List (Nat × Blk)
  nw : Option Blk
def eV (v : SV) : Option Eff := some ⟨v, [], [], [], none⟩

/-- the function that a call calls, and what it has caught -/
def calleeOf (s : PSt) : Callee → Option (FuncId × List (Nat × Nat))
  | .value x => match operand s x with
    | ⟨true, .x (.c (.v (.func (.func f) ⟨[]⟩ ⟨[]⟩)))⟩ => some (f, [])
    | ⟨true, .x (.c (.fn f caps))⟩ => some (f, caps)
    | _ => none
  | _ => none

def zeroL (P : Program) (t : TypeId) : Option (List Value) :=
  match P.info? t with
  | some i => match i.zero with
    | some z => if z.cells.toList.all plainB && Nat.beq z.cells.size i.size then some z.cells.toList else none
    | none => none
  | none => none
def bytesT (P : Program) (t : TypeId) : Nat := match P.info? t with | some i => i.bytes | none => 0

def placeB (P : Program) (t : TypeId) : Option (Nat → Option (Nat × Nat)) :=
  match P.underlying t with
  | some (.array _ e) => match P.info? e with
    | some ie => some fun i => some (i * ie.size, ie.size)
    | none => none
  | some (.struct fs) => match fs.toList.mapM (fun f => (P.info? f.type).map fun i => (f.offset, i.size)) with
    | some pl => some fun i => pl.toArray[i]?
    | none => none
  | _ => none
def fillC (place : Nat → Option (Nat × Nat)) (cells : List CV) : List (Nat × List CV) → Option (List CV)
  | [] => some cells
  | (i, l) :: rest => match place i with
    | some (off, size) => if Nat.beq l.length size && Nat.ble (off + size) cells.length then fillC place (spliceC cells off l) rest else none
    | none => none
def fillR (z : Nat) (r : Row) : List (Nat × List CV) → Option Row
  | [] => some r
  | (i, l) :: rest => if Nat.beq l.length z && l.all isFz then fillR z (updsR r (i : Int) 0 l) rest else none
def partsOf (s : PSt) : List (Nat × Operand) → Option (List (Nat × List CV))
  | [] => some []
  | (i, x) :: l => match valOf s x, partsOf s l with
    | .x v, some m => some ((i, cellsOf v) :: m)
    | _, _ => none

def asInt' : SV → Option (IntKind × Int)
  | .x (.c (.v (.int k n))) => some (k, n)
  | _ => none

def capsOf (s : PSt) : List Operand → Option (List (Nat × Nat))
  | [] => some []
  | x :: l => match operand s x, capsOf s l with
    | ⟨true, .x (.c (.ptr m off))⟩, some k => some ((m, off) :: k)
    | _, _ => none

def sliceSrc (s : PSt) : SV → Option (List Nat × Nat × Int × Row)
  | .x (.c c) => match resC s c with
    | some (.slc z n r, ms) => some (ms, z, n, r)
    | _ => none
  | _ => none
def boundOf (s : PSt) (d : Int) : Option Operand → Option Int
  | none => some d
  | some x => match asInt' (valOf s x) with
    | some (_, n) => some n
    | none => none

/-- strings -/
def seqB (a b : ByteArray) : Bool := a.data.toList == b.data.toList
def strV (op : BinOp) (a b : ByteArray) : Option Value :=
  match op with
  | .eql => some (.bool (seqB a b))
  | .neq => some (.bool (bnot (seqB a b)))
  | _ => none
def slenI (s : ByteArray) : Int := s.size

def effCall (O : Oracle) (s : PSt) (f : FuncId) (args : List SV) : Option Eff :=
  match argsA s args with
  | none => none
  | some (al, rows, refs) =>
    if distinct refs then
      match O f al with
      | none => none
      | some ans => match zipU refs ans.upd with
        | none => none
        | some u =>
          if lensOk al ans.upd && fzX ans.res then
            (if allV ans.res && Nat.beq refs.length 0 then some ⟨resS ans.res, ans.ask, rows, [], none⟩
             else some ⟨resS ans.res, ans.ask, rows ++ refs, froze s rows ++ u, none⟩)
          else none
    else none

def srcA (s : PSt) : CV → Option (Nat × Int × Row × List Nat)
  | .own m _ => match rowOf s m with
    | some (z, n, r) => some (z, n, r, [m])
    | none => none
  | .slc z n r => some (z, n, r, [])
  | _ => none
def effBuiltin (P : Program) (name : Nat) (s : PSt) (b : Builtin) (tys : List TypeId) (args : List SV) : Option Eff :=
  match b, args, tys with
  | .min, [.x (.c (.v (.int k a))), .x (.c (.v (.int _ b)))], _ => eV (vS (.int k (iimin a b)))
  | .max, [.x (.c (.v (.int k a))), .x (.c (.v (.int _ b)))], _ => eV (vS (.int k (iimax a b)))
  | .len, [.x (.c c)], [t] => match P.underlying t, c with
    | some .string, .v (.string b) => eV (vS (.int .i64 (slenI b)))
    | some (.slice _), .v (.slice none 0 0) => eV (vS (.int .i64 0))
    | some (.slice _), .own _ n => eV (vS (.int .i64 n))
    | some (.slice _), .slc _ n _ => eV (vS (.int .i64 n))
    | _, _ => none
  | .append, [a, .x (.c c)], [t, u] => match P.underlying t with
    | some (.slice e) => match zeroL P e with
      | none => none
      | some zs =>
        if Nat.beq t u && Nat.blt 0 (sizeT P e) && Nat.blt 0 (bytesT P e) then
          match srcA s c with
          | some (z2, n2, r2, rd) =>
            if Nat.beq z2 (sizeT P e) then
              match a with
              | .x (.c (.v (.slice none 0 0))) => some ⟨.x (.c (.own name n2)), [ile (imulZ n2 (bytesT P e)) 140737488355328 = true], rd, [], some (.row z2 n2 r2)⟩
              | .x (.c (.own m _)) => match rowW s m with
                | some (z, n, r) => if Nat.beq z z2 then some ⟨.x (.c (.own name (addZ n n2))), [ile (imulZ (addZ n n2) (bytesT P e)) 140737488355328 = true], m :: rd, [(m, .dead)], some (.row z (addZ n n2) (.app r n r2))⟩ else none
                | none => none
              | _ => none
            else none
          | none => none
        else none
    | _ => none
  | _, _, _ => none

/-- what an operation does, its operands' values given -/
def effect (P : Program) (O : Oracle) (name : Nat) (s : PSt) (o : Oper) : Option Eff :=
  match o.op with
  | .move x => eV (valOf s x)
  | .assign x => eV (valOf s x)
  | .nilCheck x => match valOf s x with
    | .x (.c (.ptr m off)) => eV (.x (.c (.ptr m off)))
    | .eptr m z i off => eV (.eptr m z i off)
    | .fptr z r i off => eV (.fptr z r i off)
    | _ => none
  | .pick c a b => match valOf s c with
    | .x (.c (.v (.bool true))) => eV (valOf s a)
    | .x (.c (.v (.bool false))) => eV (valOf s b)
    | _ => none
  | .alloc t => match zeroL P t with
    | some l => some ⟨.x (.c (.ptr name 0)), [], [], [], some (.cells (l.map .v))⟩
    | none => none
  | .box t x => match valOf s x with
    | .x v => some ⟨.x (.c (.ptr name 0)), [], [], [], some (.cells (cellsOf v))⟩
    | _ => none
  | .load t a => match valOf s a with
    | .x (.c (.ptr m off)) => match memC s m with
      | some l => match partX P l t off with
        | some v => some ⟨.x v, [], [m], [], none⟩
        | none => none
      | none => none
    | .eptr m z i off => match rowOf s m with
      | some (z', n, r) => if Nat.beq z z' then match elemX P t z r i off with
          | some v => some ⟨.x v, [], [m], [], none⟩
          | none => none
        else none
      | none => none
    | .fptr z r i off => match elemX P t z r i off with
      | some v => eV (.x v)
      | none => none
    | _ => none
  | .store t a x => match valOf s a, valOf s x with
    | .x (.c (.ptr m off)), .x v => match s.mem m with
      | some (.cells l) => if (P.info? t).isSome && Nat.beq (cellsOf v).length (sizeT P t) && Nat.ble (off + (cellsOf v).length) l.length then some ⟨.tup [], [], [], [(m, .cells (spliceC l off (cellsOf v)))], none⟩ else none
      | _ => none
    | .eptr m z i off, .x v => match rowW s m with
      | some (z', n, r) => if Nat.beq z z' && (P.info? t).isSome && Nat.beq (cellsOf v).length (sizeT P t) && Nat.ble (off + (cellsOf v).length) z && (cellsOf v).all isFz then some ⟨.tup [], [], [], [(m, .row z n (updsR r i off (cellsOf v)))], none⟩ else none
      | none => none
    | _, _ => none
  | .binOp op t x y _ => match valOf s x, valOf s y with
    | .x (.c (.v (.string a))), .x (.c (.v (.string b))) => match P.underlying t, strV op a b with
      | some .string, some v => eV (vS v)
      | _, _ => none
    | .x (.c (.v a)), .x (.c (.v b)) => match binV P op t a b with
      | some (v, l) => if plainB v then some ⟨vS v, l.map (· = true), [], [], none⟩ else none
      | none => none
    | .x (.agg a), .x (.agg b) => match toVs a, toVs b with
      | some a, some b => match binV P op t (.agg a.toArray) (.agg b.toArray) with
        | some (v, l) => if plainB v then some ⟨vS v, l.map (· = true), [], [], none⟩ else none
        | none => none
      | _, _ => none
    | _, _ => none
  | .unOp op _ x => match valOf s x with
    | .x (.c (.v a)) => match unV op a with
      | some (v, l) => if plainB v then some ⟨vS v, l.map (· = true), [], [], none⟩ else none
      | none => none
    | _ => none
  | .convert src dst x => match valOf s x, P.underlying src, P.underlying dst with
    | .x (.c (.v (.int _ n))), some _, some (.int k) => eV (vS (.int k (iconv k n)))
    | .x (.c (.v (.int _ n))), some _, some (.float k) => eV (vS (.float k (fofi k n)))
    | _, _, _ => none
  | .fieldAddr t x f => match P.underlying t with
    | some (.struct fs) => match fs[f]? with
      | some fd => if sizeT P fd.type == 0 then none else match valOf s x with
        | .x (.c (.ptr m off)) => eV (.x (.c (.ptr m (off + fd.offset))))
        | .eptr m z i off => eV (.eptr m z i (off + fd.offset))
        | .fptr z r i off => eV (.fptr z r i (off + fd.offset))
        | _ => none
      | none => none
    | _ => none
  | .extract x i => match valOf s x with
    | .tup l => match l[i]? with
      | some v => eV (.x v)
      | none => none
    | _ => none
  | .call c => match c.callee with
    | .builtin b => effBuiltin P name s b c.argTypes.toList (c.args.toList.map (valOf s))
    | cal => match calleeOf s cal with
      | some (f, caps) => effCall O s f (c.args.toList.map (valOf s) ++ caps.map fun p => .x (.c (.ptr p.1 p.2)))
      | none => none
  | .build t parts => match zeroL P t, partsOf s parts.toList, placeB P t with
    | some l, some ps, some pl => match fillC pl (l.map .v) ps with
      | some cells => eV (.x (.agg cells))
      | none => none
    | _, _, _ => none
  | .buildSlice t len parts => match P.underlying t with
    | some (.slice e) => match zeroL P e, partsOf s parts.toList with
      | some l, some ps => if Nat.ble (len * sizeT P e) 16777216 && Nat.blt 0 (sizeT P e) && ps.all (fun p => Nat.blt p.1 len) then match fillR (sizeT P e) (.zer l) ps with
          | some r => some ⟨.x (.c (.own name len)), [], [], [], some (.row (sizeT P e) len r)⟩
          | none => none
        else none
      | _, _ => none
    | _ => none
  | .makeSlice t l c => match P.underlying t, asInt' (valOf s l), asInt' (valOf s c) with
    | some (.slice e), some (_, n), some (_, k) => match zeroL P e with
      | some zs => if Nat.blt 0 (sizeT P e) then some ⟨.x (.c (.own name n)), [ile 0 n = true, ile n k = true, ile (imulZ k (bytesT P e)) 140737488355328 = true, ile k 140737488355328 = true], [], [], some (.row (sizeT P e) n (.zer zs))⟩ else none
      | none => none
    | _, _, _ => none
  | .slice t x lo hi mx => match P.underlying t, mx, sliceSrc s (valOf s x) with
    | some (.slice e), none, some (ms, z, n, r) => match boundOf s 0 lo, boundOf s n hi with
      | some l, some h => if Nat.beq z (sizeT P e) && (P.info? e).isSome then some ⟨.x (.c (.slc z (subZ h l) (.sub r l))), [ile 0 l = true, ile l h = true, ile h n = true], ms, froze s ms, none⟩ else none
      | _, _ => none
    | _, _, _ => none
  | .makeFunc (.func f) first caps => if Nat.beq first.size 0 then
      match capsOf s caps.toList with
      | some l => eV (.x (.c (.fn f l)))
      | none => none
    else none
  | .field t x f => match valOf s x, P.underlying t with
    | .x (.agg l), some (.struct fs) => match fs[f]? with
      | some fd => match partX P l fd.type fd.offset with
        | some v => eV (.x v)
        | none => none
      | none => none
    | _, _ => none
  | .index t x i => match valOf s x, asInt' (valOf s i), P.underlying t with
    | .x (.agg l), some (_, m), some (.array len e) => match partX P l e (m.toNat * sizeT P e) with
      | some v => if (P.info? e).isSome then some ⟨.x v, [ile 0 m = true, ilt m len = true], [], [], none⟩ else none
      | none => none
    | _, _, _ => none
  | .indexAddr t x i => match asInt' (valOf s i), P.underlying t with
    | some (_, m), some (.array len e) => if (P.info? e).isSome then match valOf s x with
        | .x (.c (.ptr b off)) => some ⟨.x (.c (.ptr b (off + m.toNat * sizeT P e))), [ile 0 m = true, ilt m len = true], [], [], none⟩
        | .eptr b z k off => some ⟨.eptr b z k (off + m.toNat * sizeT P e), [ile 0 m = true, ilt m len = true], [], [], none⟩
        | .fptr z r k off => some ⟨.fptr z r k (off + m.toNat * sizeT P e), [ile 0 m = true, ilt m len = true], [], [], none⟩
        | _ => none
      else none
    | some (_, m), some (.slice e) => if (P.info? e).isSome then match valOf s x with
        | .x (.c (.own b n)) => some ⟨.eptr b (sizeT P e) m 0, [ile 0 m = true, ilt m n = true], [], [], none⟩
        | .x (.c (.slc z n r)) => if Nat.beq z (sizeT P e) then some ⟨.fptr z r m 0, [ile 0 m = true, ilt m n = true], [], [], none⟩ else none
        | _ => none
      else none
    | _, _ => none
  | _ => none

def guardOf (s : PSt) (ops : List Oper) (o : Oper) : Option Bool :=
  match o.guard with
  | none => some true
  | some (j, want) => match (ops[j]?).bind (·.dst) with
    | some d => match s.tmps[d]? with
      | some ⟨true, .x (.c (.v (.bool b)))⟩ => some (bif want then b else !b)
      | some ⟨true, .tup _⟩ => some false
      | _ => none
    | none => none
def allOf : List GV → Bool
  | [] => true
  | g :: l => g.k && allOf l
def knownOf (s : PSt) (o : Oper) : Bool :=
  match o.op with
  | .pick c a b => match valOf s c with
    | .x (.c (.v (.bool true))) => (operand s c).k && (operand s a).k
    | .x (.c (.v (.bool false))) => (operand s c).k && (operand s b).k
    | _ => false
  | op => allOf (op.operands.toList.map (operand s))

def setTmp (l : List GV) : Option Tmp → GV → List GV
  | some d, v => l.set d v
  | none, _ => l
def applyU (m : Nat → Option Blk) : List (Nat × Blk) → Nat → Option Blk
  | [] => m
  | (n, b) :: l => fun k => bif Nat.beq k n then some b else applyU m l k

structure Delta where
  g : GV
  up : List (Nat × Blk)
  ok : List Prop
  rd : List Nat
def upsOf (name : Nat) (e : Eff) : List (Nat × Blk) := match e.nw with | some b => (name, b) :: e.up | none => e.up
def stepD (P : Program) (O : Oracle) (ops : List Oper) (name : Nat) (o : Oper) (s : PSt) : Option Delta :=
  match guardOf s ops o with
  | none => none
  | some false => some ⟨gnow (.tup []), [], [], []⟩
  | some true => if knownOf s o then match effect P O name s o with
    | none => none
    | some e => match e.nw with
      | none => some ⟨gnow e.v, e.up, e.ok, e.rd⟩
      | some b => if (s.mem name).isNone && Nat.blt name PN then some ⟨gnow e.v, (name, b) :: e.up, e.ok, e.rd⟩ else none
    else none
def applyD (dst : Option Tmp) (d : Delta) (s : PSt) : PSt := ⟨setTmp s.tmps dst d.g, applyU s.mem d.up, conjP d.ok s.ok, s.lits, s.gen⟩
end Go.Proofs.YtafaadnjkkkafaaDoor.QR
