/-
  A second, pure way to run the operations of a Go function: slots and blocks are named, calls are answered by given functions, and the order inside a statement does not matter. Soundness follows in the next text.
-/
import Derived.Test.YtafaadnjkkkafaaDoorProg
import Derived.ProofKit
import Derived.Below
import Derived.Orders
import Derived.Laws.Rows
import Derived.Laws.StructEq
import Derived.Laws.FloatArith
namespace Go.Proofs.YtafaadnjkkkafaaDoor.PR
open Go.RowKit
set_option linter.unusedVariables false

/-- a slot: k: is anything known of it? v: what it holds then -/
structure GV where
  k : Bool
  v : Value

/-- the state: slots, blocks by name (their cells), and what has been asked for so far -/
structure PSt where
  tmps : List GV
  mem : Nat → Option (List Value)
  ok : Prop
  lits : List Tmp

def gnow (v : Value) : GV := ⟨true, v⟩
def gunk : GV := ⟨false, undef⟩
/-- slots, the named ones known -/
def slotsOf (n : Nat) (l : List (Nat × Value)) : List GV := (List.range n).map fun t => match l.find? (fun p => Nat.beq p.1 t) with | some p => gnow p.2 | none => gunk
/-- all of the list hold, and p -/
def conjL : List Bool → Prop → Prop
  | [], p => p
  | b :: l, p => b = true ∧ conjL l p

/- arithmetic, by names of its own -/
def iadd (k : IntKind) (a b : Int) : Int := k.wrap (a + b)
def isub (k : IntKind) (a b : Int) : Int := k.wrap (a - b)
def imul (k : IntKind) (a b : Int) : Int := k.wrap (a * b)
def iquo (k : IntKind) (a b : Int) : Int := k.wrap (a.tdiv b)
def irem (a b : Int) : Int := a.tmod b
def iand (k : IntKind) (a b : Int) : Int := bits .and k a b
def ior (k : IntKind) (a b : Int) : Int := bits .or k a b
def ixor (k : IntKind) (a b : Int) : Int := bits .xor k a b
def iandn (k : IntKind) (a b : Int) : Int := bits .andNot k a b
def ishl (k : IntKind) (a b : Int) : Int := k.wrap (a * 2 ^ (min b.toNat k.bits))
def ishr (k : IntKind) (a b : Int) : Int := a.fdiv (2 ^ (min b.toNat k.bits))
def iconv (k : IntKind) (a : Int) : Int := k.wrap a
def ieq (a b : Int) : Bool := a == b
def ine (a b : Int) : Bool := a != b
def ilt (a b : Int) : Bool := decide (a < b)
def ile (a b : Int) : Bool := decide (a ≤ b)
def igt (a b : Int) : Bool := decide (a > b)
def ige (a b : Int) : Bool := decide (a ≥ b)
def beq' (a b : Bool) : Bool := a == b
def band (a b : Bool) : Bool := a && b
def bnot (a : Bool) : Bool := !a
def iimin (a b : Int) : Int := if b < a then b else a
def iimax (a b : Int) : Int := if a < b then b else a
/-- a choice between two integers, two Booleans -/
def isel (c : Bool) (a b : Int) : Int := bif c then a else b
def bsel (c : Bool) (a b : Bool) : Bool := bif c then a else b
def bor (a b : Bool) : Bool := a || b

/- floats, by their bits -/
def fop (op : BinOp) (k : FloatKind) (a b : Nat) : Nat := (floatBits op k a b).getD 0
def fok (op : BinOp) (k : FloatKind) (a b : Nat) : Bool := (floatBits op k a b).isSome
def feq (k : FloatKind) (a b : Nat) : Bool := k.format.order a b == some .eq
def fne (k : FloatKind) (a b : Nat) : Bool := k.format.order a b != some .eq
def flt (k : FloatKind) (a b : Nat) : Bool := k.format.order a b == some .lt
def fle (k : FloatKind) (a b : Nat) : Bool := k.format.order a b == some .lt || k.format.order a b == some .eq
def fgt (k : FloatKind) (a b : Nat) : Bool := k.format.order a b == some .gt
def fge (k : FloatKind) (a b : Nat) : Bool := k.format.order a b == some .gt || k.format.order a b == some .eq
def fofi (k : FloatKind) (n : Int) : Nat := floatOfInt k n

def isAggT (P : Program) (t : TypeId) : Bool := match P.underlying t with | some (.struct _) | some (.array _ _) => true | _ => false
def sizeT (P : Program) (t : TypeId) : Nat := match P.info? t with | some i => i.size | none => 0

/-- a part of a list of cells -/
def partV (P : Program) (t : TypeId) (cs : Array Value) (off : Nat) : Option Value :=
  match P.info? t, P.underlying t with
  | some i, some d => match d with
    | .struct _ | .array _ _ => some (.agg (cs.extract off (off + i.size)))
    | _ => cs[off]?
  | _, _ => none

def eqParts (P : Program) (f : TypeId → Value → Value → Option Bool) (xs ys : Array Value) : List (TypeId × Nat) → Option Bool
  | [] => some true
  | (t, off) :: rest => match partV P t xs off, partV P t ys off with
    | some a, some b => match f t a b with
      | some r => match eqParts P f xs ys rest with
        | some r' => some (band r r')
        | none => none
      | none => none
    | _, _ => none

/-- are two values of a type equal? -/
def eqV (P : Program) : Nat → TypeId → Value → Value → Option Bool
  | 0, _, _, _ => none
  | d + 1, t, x, y => match P.underlying t with
    | some .bool => match x, y with
      | .bool a, .bool b => some (beq' a b)
      | _, _ => none
    | some (.int _) => match x, y with
      | .int k a, .int l b => if k = l then some (ieq a b) else none
      | _, _ => none
    | some (.struct fs) => match x, y with
      | .agg xs, .agg ys => if P.stoodInHeld t then none else eqParts P (eqV P d) xs ys ((fs.toList.filter (·.name != "_")).map fun f => (f.type, f.offset))
      | _, _ => none
    | some (.array n e) => match x, y with
      | .agg xs, .agg ys => if (P.info? e).isNone then none else eqParts P (eqV P d) xs ys ((List.range n).map fun i => (e, i * sizeT P e))
      | _, _ => none
    | _ => none

/-- a binary operation: its value, and what it asks -/
def binV (P : Program) (op : BinOp) (t : TypeId) : Value → Value → Option (Value × List Bool)
  | .int k a, .int l b =>
    match op with
    | .shl => some (.int k (ishl k a b), [ige b 0])
    | .shr => some (.int k (ishr k a b), [ige b 0])
    | _ => if k = l then
      match op with
      | .add => some (.int k (iadd k a b), [])
      | .sub => some (.int k (isub k a b), [])
      | .mul => some (.int k (imul k a b), [])
      | .quo => some (.int k (iquo k a b), [ine b 0])
      | .rem => some (.int k (irem a b), [ine b 0])
      | .and => some (.int k (iand k a b), [])
      | .or => some (.int k (ior k a b), [])
      | .xor => some (.int k (ixor k a b), [])
      | .andNot => some (.int k (iandn k a b), [])
      | .eql => some (.bool (ieq a b), [])
      | .neq => some (.bool (ine a b), [])
      | .lss => some (.bool (ilt a b), [])
      | .leq => some (.bool (ile a b), [])
      | .gtr => some (.bool (igt a b), [])
      | .geq => some (.bool (ige a b), [])
      | _ => none
      else none
  | .bool a, .bool b =>
    match op, P.underlying t with
    | .eql, some .bool => some (.bool (beq' a b), [])
    | .neq, some .bool => some (.bool (bnot (beq' a b)), [])
    | _, _ => none
  | .float k a, .float l b => if k = l then
      match op with
      | .add => some (.float k (fop .add k a b), [fok .add k a b])
      | .sub => some (.float k (fop .sub k a b), [fok .sub k a b])
      | .mul => some (.float k (fop .mul k a b), [fok .mul k a b])
      | .quo => some (.float k (fop .quo k a b), [fok .quo k a b])
      | .eql => some (.bool (feq k a b), [])
      | .neq => some (.bool (fne k a b), [])
      | .lss => some (.bool (flt k a b), [])
      | .leq => some (.bool (fle k a b), [])
      | .gtr => some (.bool (fgt k a b), [])
      | .geq => some (.bool (fge k a b), [])
      | _ => none
      else none
  | .agg xs, .agg ys =>
    if P.eqGuardType P.depth t then none else
    match op, eqV P 10000 t (.agg xs) (.agg ys) with
    | .eql, some r => some (.bool r, [])
    | .neq, some r => some (.bool (bnot r), [])
    | _, _ => none
  | _, _ => none

def unV (op : UnOp) (x : Value) : Option (Value × List Bool) :=
  match op, x with
  | .not, .bool b => some (.bool (bnot b), [])
  | .neg, .int k n => some (.int k (isub k 0 n), [])
  | _, _ => none

/-- one cell: neither a list of cells nor an address -/
def plainA : Value → Bool
  | .pointer (some _) | .agg _ | .tuple _ => false
  | _ => true
def plainC : Value → Bool
  | .agg cs => cs.toList.all plainA
  | v => plainA v
def plainT : Value → Bool
  | .tuple vs => vs.toList.all plainC
  | v => plainC v

def operand (s : PSt) : Operand → GV
  | .tmp t => s.tmps.getD t (gnow undef)
  | .const v => if plainA v then gnow v else gunk
  | .func f => gnow (.func (.func f) ⟨[]⟩ ⟨[]⟩)
  | _ => gunk

/-- what an operation does: a value (what it asks, the block that it reads), a new block, a block written anew -/
inductive Eff where
  | val (v : Value) (ok : List Bool) (rd : Option Nat)
  | new (t : TypeId) (cells : List Value)
  | put (n : Nat) (cells : List Value)

/-- the cells of the part of a list, written anew -/
def splice (cells : List Value) (off : Nat) (vs : List Value) : List Value := cells.take off ++ vs ++ cells.drop (off + vs.length)

def Oracle := FuncId → List Value → Option (Value × List Bool)
/-- the answers of the named functions -/
def orc : List (Nat × (List Value → Option (Value × List Bool))) → Oracle
  | [] => fun _ _ => none
  | (f, g) :: rest => fun h args => bif Nat.beq h f then g args else orc rest h args

def valOf (s : PSt) (x : Operand) : Value := (operand s x).v

/-- the function that a call calls -/
def calleeOf (s : PSt) : Callee → Option FuncId
  | .value x => match operand s x with
    | ⟨true, .func (.func f) ⟨[]⟩ ⟨[]⟩⟩ => some f
    | _ => none
  | _ => none

/-- what an operation does, its operands' values given -/
def effect (P : Program) (O : Oracle) (s : PSt) (o : Oper) : Option Eff :=
  match o.op with
  | .move x => some (.val (valOf s x) [] none)
  | .assign x => some (.val (valOf s x) [] none)
  | .pick c a b => match valOf s c with
    | .bool true => some (.val (valOf s a) [] none)
    | .bool false => some (.val (valOf s b) [] none)
    | _ => none
  | .alloc t => match P.info? t with
    | some i => match i.zero with
      | some z => if z.cells.all Value.oneCell' && z.cells.all plainA then some (.new t z.cells.toList) else none
      | none => none
    | none => none
  | .box t x => if plainC (valOf s x) && (valOf s x).cells.all Value.oneCell' then some (.new t (valOf s x).cells.toList) else none
  | .load t a => match valOf s a with
    | .pointer (some ⟨n, off, none⟩) => match s.mem n with
      | some cells =>
        if isAggT P t then
          if off + sizeT P t ≤ cells.length && (P.info? t).isSome then some (.val (.agg ((cells.drop off).take (sizeT P t)).toArray) [] (some n)) else none
        else match cells[off]? with
          | some v => if (P.underlying t).isSome && plainA v then some (.val v [] (some n)) else none
          | none => none
      | none => none
    | _ => none
  | .store t a x => match valOf s a with
    | .pointer (some ⟨n, off, none⟩) => match s.mem n with
      | some cells =>
        if plainC (valOf s x) && (P.info? t).isSome && (valOf s x).cells.size == sizeT P t && (off + (valOf s x).cells.size ≤ cells.length) && (valOf s x).cells.all Value.oneCell' then some (.put n (splice cells off (valOf s x).cells.toList)) else none
      | none => none
    | _ => none
  | .binOp op t x y _ => match binV P op t (valOf s x) (valOf s y) with
    | some (v, b) => some (.val v b none)
    | none => none
  | .unOp op _ x => match unV op (valOf s x) with
    | some (v, b) => some (.val v b none)
    | none => none
  | .convert src dst x => match valOf s x, P.underlying src, P.underlying dst with
    | .int _ n, some _, some (.int k) => some (.val (.int k (iconv k n)) [] none)
    | .int _ n, some _, some (.float k) => some (.val (.float k (fofi k n)) [] none)
    | _, _, _ => none
  | .fieldAddr t x f => match valOf s x, P.underlying t with
    | .pointer (some ⟨n, off, none⟩), some (.struct fs) => match fs[f]? with
      | some fd => if sizeT P fd.type == 0 then none else some (.val (.pointer (some ⟨n, off + fd.offset, none⟩)) [] none)
      | none => none
    | _, _ => none
  | .extract x i => match valOf s x with
    | .tuple vs => match vs.toList[i]? with
      | some v => if plainC v then some (.val v [] none) else none
      | none => none
    | _ => none
  | .call c => match c.callee with
    | .builtin .min => match c.args.toList.map (valOf s) with
      | [.int k a, .int _ b] => some (.val (.int k (iimin a b)) [] none)
      | _ => none
    | .builtin .max => match c.args.toList.map (valOf s) with
      | [.int k a, .int _ b] => some (.val (.int k (iimax a b)) [] none)
      | _ => none
    | cal => match calleeOf s cal with
      | some f => if (c.args.toList.map (valOf s)).all plainC then match O f (c.args.toList.map (valOf s)) with
        | some (v, b) => if plainT v then some (.val v b none) else none
        | none => none
        else none
      | none => none
  | .build t parts =>
    if (parts.toList.map fun p => valOf s p.2).all plainC then
      match P.built t (parts.toList.map fun p => (p.1, valOf s p.2)) with
      | some cells => some (.val (.agg cells) [] none)
      | none => none
    else none
  | .field t x f => match valOf s x, P.underlying t with
    | .agg cs, some (.struct fs) => match fs[f]? with
      | some fd => match partV P fd.type cs fd.offset with
        | some v => if plainC v then some (.val v [] none) else none
        | none => none
      | none => none
    | _, _ => none
  | .index t x i => match valOf s x, valOf s i, P.underlying t with
    | .agg cs, .int _ m, some (.array len e) => match partV P e cs (m.toNat * sizeT P e) with
      | some v => if plainC v then some (.val v [ile 0 m, ilt m len] none) else none
      | none => none
    | _, _, _ => none
  | .indexAddr t x i => match valOf s x, valOf s i, P.underlying t with
    | .pointer (some ⟨n, off, none⟩), .int _ m, some (.array len e) => if (P.info? e).isSome then some (.val (.pointer (some ⟨n, off + m.toNat * sizeT P e, none⟩)) [ile 0 m, ilt m len] none) else none
    | _, _, _ => none
  | _ => none

/-- does an operation run, its guard given? -/
def guardOf (s : PSt) (ops : List Oper) (o : Oper) : Option Bool :=
  match o.guard with
  | none => some true
  | some (j, want) => match (ops[j]?).bind (·.dst) with
    | some d => match s.tmps[d]? with
      | some ⟨true, .bool b⟩ => some (bif want then b else !b)
      | some ⟨true, .tuple _⟩ => some false
      | _ => none
    | none => none

/-- is everything known that an operation looks at? -/
def allOf : List GV → Bool
  | [] => true
  | g :: l => g.k && allOf l
def knownOf (s : PSt) (o : Oper) : Bool :=
  match o.op with
  | .pick c a b => match valOf s c with
    | .bool true => (operand s c).k && (operand s a).k
    | .bool false => (operand s c).k && (operand s b).k
    | _ => false
  | .call c => allOf (c.args.toList.map (operand s))
  | op => allOf (op.operands.toList.map (operand s))

def setTmp (l : List GV) : Option Tmp → GV → List GV
  | some d, v => l.set d v
  | none, _ => l

/-- what an operation changes: its own slot, one block; what it asks; the block that it reads -/
structure Delta where
  g : GV
  up : Option (Nat × List Value)
  ok : List Bool
  rd : Option Nat

def stepD (P : Program) (O : Oracle) (ops : List Oper) (name : Nat) (o : Oper) (s : PSt) : Option Delta :=
  match guardOf s ops o with
  | none => none
  | some false => some ⟨gnow undef, none, [], none⟩
  | some true => if knownOf s o then match effect P O s o with
    | none => none
    | some (.val v b rd) => some ⟨gnow v, none, b, rd⟩
    | some (.new t cells) => if (s.mem name).isNone then some ⟨gnow (.pointer (some ⟨name, 0, none⟩)), some (name, cells), [], none⟩ else none
    | some (.put n cells) => some ⟨gnow undef, some (n, cells), [], none⟩
    else none

def applyM (m : Nat → Option (List Value)) : Option (Nat × List Value) → Nat → Option (List Value)
  | none => m
  | some (n, x) => fun k => if k = n then some x else m k

def applyD (dst : Option Tmp) (d : Delta) (s : PSt) : PSt := ⟨setTmp s.tmps dst d.g, applyM s.mem d.up, conjL d.ok s.ok, s.lits⟩

/-- two changes that touch one block, and not both by reading -/
def Delta.conf (d e : Delta) : Bool :=
  (match d.up with | some (n, _) => e.rd == some n || (match e.up with | some (m, _) => n == m | none => false) | none => false) ||
  (match e.up with | some (n, _) => d.rd == some n | none => false)

/-- the slots that an operation looks at -/
def looks (ops : List Oper) (o : Oper) : List Tmp :=
  (o.op.operands.toList.filterMap fun x => match x with | .tmp t => some t | _ => none) ++
  (match o.guard with
   | some (g, _) => match (ops[g]?).bind (·.dst) with | some d => [d] | none => []
   | none => [])

def apart (lx ly : List Tmp) (dx dy : Option Tmp) : Bool :=
  (match dx with | some d => !(ly.any fun t => Nat.beq t d) && (match dy with | some e => !Nat.beq d e | none => true) | none => true) &&
  (match dy with | some d => !(lx.any fun t => Nat.beq t d) | none => true)

def deps (o : Oper) : List Nat := o.after.toList.filterMap fun e => if Region.binds .any e then some e.on else none

/-- whatever must come before, as the bits of a number, of each operation -/
def maskOf (tab : List Nat) : List Nat → Nat
  | [] => 0
  | d :: ds => (Nat.lor (Nat.lor (Nat.shiftLeft 1 d) (tab.getD d 0)) (maskOf tab ds))
def masks (tab : List Nat) : List Oper → List Nat
  | [] => tab
  | o :: rest => masks (tab ++ [maskOf tab (deps o)]) rest

/-- the operations that another one's guard names -/
def sources (ops : List Oper) : List Nat := ops.filterMap fun o => match o.guard with | some (j, _) => some j | none => none

/-- a branch -/
def bcond (b : Bool) (p q : Prop) : Prop := cond b p q

/-- is an operation's value one of the slots that hold a plain yes or no? -/
def litOp (lits : List Tmp) : Operand → Bool
  | .tmp t => lits.any (Nat.beq t)
  | .const _ => true
  | _ => false
def litOf (s : PSt) (lits : List Tmp) (o : Oper) : Bool :=
  match o.op with
  | .move x | .assign x => litOp lits x
  | .pick c a b => match valOf s c with
    | .bool true => litOp lits a
    | .bool false => litOp lits b
    | _ => false
  | _ => false
def addLit (lits : List Tmp) : Option Tmp → Bool → List Tmp
  | some d, true => d :: lits
  | some d, false => lits.filter fun t => !Nat.beq t d
  | none, _ => lits

/-- the integers of a value get names -/
def bindC : List Value → (List Value → Prop) → Prop
  | [], k => k []
  | .int kd n :: l, k => ∀ i : Int, i = n → bindC l fun l' => k (.int kd i :: l')
  | v :: l, k => bindC l fun l' => k (v :: l')
def bindL : List Value → (List Value → Prop) → Prop
  | [], k => k []
  | .int kd n :: l, k => ∀ i : Int, i = n → bindL l fun l' => k (.int kd i :: l')
  | .agg ⟨cs⟩ :: l, k => bindC cs fun cs' => bindL l fun l' => k (.agg ⟨cs'⟩ :: l')
  | v :: l, k => bindL l fun l' => k (v :: l')
def bindV : Value → (Value → Prop) → Prop
  | .int kd n, k => ∀ i : Int, i = n → k (.int kd i)
  | .agg ⟨cs⟩, k => bindC cs fun cs' => k (.agg ⟨cs'⟩)
  | .tuple ⟨vs⟩, k => bindL vs fun l => k (.tuple ⟨l⟩)
  | v, k => k v
def isCall (o : Oper) : Bool := match o.op with | .call _ => true | _ => false

def runsB : Option Bool → Bool | some true => true | _ => false
/-- an index into an array: its value, the array's length -/
def ixOf (P : Program) (ops : List Oper) (md : Bool) (s : PSt) (o : Oper) : Option (IntKind × Int × Nat) :=
  bif md && runsB (guardOf s ops o) then match o.op with
    | .index t _ i | .indexAddr t _ i => match valOf s i, P.underlying t with
      | .int k m, some (.array len _) => bif (operand s i).k then some (k, m, len) else none
      | _, _ => none
    | _ => none
  else none
def withIx (o : Oper) (k : IntKind) (j : Nat) : Oper := match o.op with
  | .index t x _ => { o with op := .index t x (.const (.int k j)) }
  | .indexAddr t x _ => { o with op := .indexAddr t x (.const (.int k j)) }
  | _ => o
/-- each of the values of an index -/
def caseIx (m : Int) : Nat → Nat → (Nat → Prop) → Prop
  | _, 0, _ => False
  | j, n + 1, k => bcond (ieq m j) (k j) (caseIx m (j + 1) n k)

/-- the operations in the order in which they stand; where a guard is decided, both ways -/
def runOps (P : Program) (O : Oracle) (ops : List Oper) (src : List Nat) (nm : Nat) (md : Bool) : Nat → List Oper → PSt → List Delta → List Tmp → (PSt → List Delta → Prop) → Prop
  | _, [], s, ds, lits, k => k ⟨s.tmps, s.mem, s.ok, lits⟩ ds.reverse
  | i, o :: rest, s, ds, lits, k => match ixOf P ops md s o with
    | some (kd, m, len) => caseIx m 0 len fun j => match stepD P O ops (nm + i) (withIx o kd j) s with
      | none => False
      | some d => runOps P O ops src nm md (i + 1) rest (applyD o.dst d s) (d :: ds) (addLit lits o.dst false) k
    | none => match stepD P O ops (nm + i) o s with
      | none => False
      | some d => if src.any (Nat.beq i) && !litOf s lits o then
          match d.g.v with
          | .bool x => bcond x (runOps P O ops src nm md (i + 1) rest (applyD o.dst ⟨gnow (.bool true), d.up, d.ok, d.rd⟩ s) (⟨gnow (.bool true), d.up, d.ok, d.rd⟩ :: ds) (addLit lits o.dst true) k)
              (runOps P O ops src nm md (i + 1) rest (applyD o.dst ⟨gnow (.bool false), d.up, d.ok, d.rd⟩ s) (⟨gnow (.bool false), d.up, d.ok, d.rd⟩ :: ds) (addLit lits o.dst true) k)
          | .tuple _ => runOps P O ops src nm md (i + 1) rest (applyD o.dst d s) (d :: ds) (addLit lits o.dst false) k
          | _ => False
        else bif md && isCall o then bindV d.g.v fun v => runOps P O ops src nm md (i + 1) rest (applyD o.dst ⟨⟨d.g.k, v⟩, d.up, d.ok, d.rd⟩ s) (⟨⟨d.g.k, v⟩, d.up, d.ok, d.rd⟩ :: ds) (addLit lits o.dst (litOf s lits o)) k
        else runOps P O ops src nm md (i + 1) rest (applyD o.dst d s) (d :: ds) (addLit lits o.dst (litOf s lits o)) k

structure Row where
  dst : Option Tmp
  looks : List Tmp
  d : Delta
def rowsOf (ops : List Oper) : List Oper → List Delta → List Row
  | o :: os, d :: ds => ⟨o.dst, looks ops o, d⟩ :: rowsOf ops os ds
  | _, _ => []

/-- may operation y be taken ahead of each operation of the list (from place i on) that need not come before it? -/
def aheadOf (mask : Nat) (y : Row) : Nat → List Row → Bool
  | _, [] => true
  | i, x :: xs => (Nat.testBit mask i || (apart x.looks y.looks x.dst y.dst && !x.d.conf y.d)) && aheadOf mask y (i + 1) xs
def anyOrder (done : List Row) : List Nat → List Row → Bool
  | m :: ms, y :: ys => aheadOf m y 0 done && anyOrder (done ++ [y]) ms ys
  | _, _ => true

def depsBack : Nat → List Oper → Bool
  | _, [] => true
  | i, o :: os => (deps o).all (fun d => Nat.blt d i) && depsBack (i + 1) os

def runRegion (P : Program) (O : Oracle) (id : Nat) (ops : List Oper) (draw md : Bool) (s : PSt) (k : PSt → Prop) : Prop :=
  runOps P O ops (sources ops) (id * 1024) md 0 ops s [] s.lits fun s' ds => if draw then (if depsBack 0 ops && anyOrder [] (masks [] ops) (rowsOf ops ops ds) then k s' else False) else k s'

end Go.Proofs.YtafaadnjkkkafaaDoor.PR
