import Derived.Test.YtpjhdjakpbabhaaGreatDoorProg
import Derived.ProofKit
import Derived.Below
import Derived.Orders
import Derived.Laws.Rows
import Derived.Laws.StructEq
import Derived.Laws.FloatArith
import Derived.Laws.CopyRow
import Derived.Laws.Cover2
namespace Go.Proofs.YtpjhdjakpbabhaaGreatDoor.PR
open Go.RowKit
set_option linter.unusedVariables false
structure GV where
  k : Bool
  v : Value
structure PSt where
  tmps : List GV
  mem : Nat → Option (List Value)
  ok : Prop
  lits : List Tmp
def gnow (v : Value) : GV := ⟨true, v⟩
def gunk : GV := ⟨false, undef⟩
def slotsOf (n : Nat) (l : List (Nat × Value)) : List GV := (List.range n).map fun t => match l.find? (fun p => Nat.beq p.1 t) with | some p => gnow p.2 | none => gunk
def conjL : List Bool → Prop → Prop
  | [], p => p
  | b :: l, p => b = true ∧ conjL l p
def iadd (k : IntKind) (a b : Int) : Int := k.wrap (a + b)
def isub (k : IntKind) (a b : Int) : Int := k.wrap (a - b)
def imul (k : IntKind) (a b : Int) : Int := k.wrap (a * b)
def iquo (k : IntKind) (a b : Int) : Int := k.wrap (a.tdiv b)
def irem (a b : Int) : Int := a.tmod b
def iand (k : IntKind) (a b : Int) : Int := bits .and k a b
def ior (k : IntKind) (a b : Int) : Int := bits .or k a b
def ixor (k : IntKind) (a b : Int) : Int := bits .xor k a b
def iandn (k : IntKind) (a b : Int) : Int := bits .andNot k a b
def ishl (k : IntKind) (a b : Int) : Int := k.wrap (a * 2 ^ (min b.toNat k.bits))
def ishr (k : IntKind) (a b : Int) : Int := a.fdiv (2 ^ (min b.toNat k.bits))
def iconv (k : IntKind) (a : Int) : Int := k.wrap a
def ieq (a b : Int) : Bool := a == b
def ine (a b : Int) : Bool := a != b
def ilt (a b : Int) : Bool := decide (a < b)
def ile (a b : Int) : Bool := decide (a ≤ b)
def igt (a b : Int) : Bool := decide (a > b)
def ige (a b : Int) : Bool := decide (a ≥ b)
def beq' (a b : Bool) : Bool := a == b
def band (a b : Bool) : Bool := a && b
def bnot (a : Bool) : Bool := !a
def iimin (a b : Int) : Int := if b < a then b else a
def iimax (a b : Int) : Int := if a < b then b else a
def isel (c : Bool) (a b : Int) : Int := bif c then a else b
def bsel (c : Bool) (a b : Bool) : Bool := bif c then a else b
def fop (op : BinOp) (k : FloatKind) (a b : Nat) : Nat := (floatBits op k a b).getD 0
def fok (op : BinOp) (k : FloatKind) (a b : Nat) : Bool := (floatBits op k a b).isSome
def feq (k : FloatKind) (a b : Nat) : Bool := k.format.order a b == some .eq
def fne (k : FloatKind) (a b : Nat) : Bool := k.format.order a b != some .eq
def flt (k : FloatKind) (a b : Nat) : Bool := k.format.order a b == some .lt
def fle (k : FloatKind) (a b : Nat) : Bool := k.format.order a b == some .lt || k.format.order a b == some .eq
def fgt (k : FloatKind) (a b : Nat) : Bool := k.format.order a b == some .gt
def fge (k : FloatKind) (a b : Nat) : Bool := k.format.order a b == some .gt || k.format.order a b == some .eq
def fofi (k : FloatKind) (n : Int) : Nat := floatOfInt k n
def isAggT (P : Program) (t : TypeId) : Bool := match P.underlying t with | some (.struct _) | some (.array _ _) => true | _ => false
def sizeT (P : Program) (t : TypeId) : Nat := match P.info? t with | some i => i.size | none => 0
def partV (P : Program) (t : TypeId) (cs : Array Value) (off : Nat) : Option Value :=
  match P.info? t, P.underlying t with
  | some i, some d => match d with
    | .struct _ | .array _ _ => some (.agg (cs.extract off (off + i.size)))
    | _ => cs[off]?
  | _, _ => none
def eqParts (P : Program) (f : TypeId → Value → Value → Option Bool) (xs ys : Array Value) : List (TypeId × Nat) → Option Bool
  | [] => some true
  | (t, off) :: rest => match partV P t xs off, partV P t ys off with
    | some a, some b => match f t a b with
      | some r => match eqParts P f xs ys rest with
        | some r' => some (band r r')
        | none => none
      | none => none
    | _, _ => none
def eqV (P : Program) : Nat → TypeId → Value → Value → Option Bool
  | 0, _, _, _ => none
  | d + 1, t, x, y => match P.underlying t with
    | some .bool => match x, y with
      | .bool a, .bool b => some (beq' a b)
      | _, _ => none
    | some (.int _) => match x, y with
      | .int k a, .int l b => if k = l then some (ieq a b) else none
      | _, _ => none
    | some (.struct fs) => match x, y with
      | .agg xs, .agg ys => if P.stoodInHeld t then none else eqParts P (eqV P d) xs ys ((fs.toList.filter (·.name != "_")).map fun f => (f.type, f.offset))
      | _, _ => none
    | some (.array n e) => match x, y with
      | .agg xs, .agg ys => if (P.info? e).isNone then none else eqParts P (eqV P d) xs ys ((List.range n).map fun i => (e, i * sizeT P e))
      | _, _ => none
    | _ => none
def binV (P : Program) (op : BinOp) (t : TypeId) : Value → Value → Option (Value × List Bool)
  | .int k a, .int l b =>
    match op with
    | .shl => some (.int k (ishl k a b), [ige b 0])
    | .shr => some (.int k (ishr k a b), [ige b 0])
    | _ => if k = l then
      match op with
      | .add => some (.int k (iadd k a b), [])
      | .sub => some (.int k (isub k a b), [])
      | .mul => some (.int k (imul k a b), [])
      | .quo => some (.int k (iquo k a b), [ine b 0])
      | .rem => some (.int k (irem a b), [ine b 0])
      | .and => some (.int k (iand k a b), [])
      | .or => some (.int k (ior k a b), [])
      | .xor => some (.int k (ixor k a b), [])
      | .andNot => some (.int k (iandn k a b), [])
      | .eql => some (.bool (ieq a b), [])
      | .neq => some (.bool (ine a b), [])
      | .lss => some (.bool (ilt a b), [])
      | .leq => some (.bool (ile a b), [])
      | .gtr => some (.bool (igt a b), [])
      | .geq => some (.bool (ige a b), [])
      | _ => none
      else none
  | .bool a, .bool b =>
    match op, P.underlying t with
    | .eql, some .bool => some (.bool (beq' a b), [])
    | .neq, some .bool => some (.bool (bnot (beq' a b)), [])
    | _, _ => none
  | .float k a, .float l b => if k = l then
      match op with
      | .add => some (.float k (fop .add k a b), [fok .add k a b])
      | .sub => some (.float k (fop .sub k a b), [fok .sub k a b])
      | .mul => some (.float k (fop .mul k a b), [fok .mul k a b])
      | .quo => some (.float k (fop .quo k a b), [fok .quo k a b])
      | .eql => some (.bool (feq k a b), [])
      | .neq => some (.bool (fne k a b), [])
      | .lss => some (.bool (flt k a b), [])
      | .leq => some (.bool (fle k a b), [])
      | .gtr => some (.bool (fgt k a b), [])
      | .geq => some (.bool (fge k a b), [])
      | _ => none
      else none
  | .agg xs, .agg ys =>
    if P.eqGuardType P.depth t then none else
    match op, eqV P 10000 t (.agg xs) (.agg ys) with
    | .eql, some r => some (.bool r, [])
    | .neq, some r => some (.bool (bnot r), [])
    | _, _ => none
  | _, _ => none
def unV (op : UnOp) (x : Value) : Option (Value × List Bool) :=
  match op, x with
  | .not, .bool b => some (.bool (bnot b), [])
  | .neg, .int k n => some (.int k (isub k 0 n), [])
  | _, _ => none
def plainA : Value → Bool
  | .pointer (some _) | .agg _ | .tuple _ => false
  | _ => true
def plainC : Value → Bool
  | .agg cs => cs.toList.all plainA
  | v => plainA v
def plainT : Value → Bool
  | .tuple vs => vs.toList.all plainC
  | v => plainC v
def operand (s : PSt) : Operand → GV
  | .tmp t => s.tmps.getD t (gnow undef)
  | .const v => if plainA v then gnow v else gunk
  | .func f => gnow (.func (.func f) ⟨[]⟩ ⟨[]⟩)
  | _ => gunk
inductive Eff where
  | val (v : Value) (ok : List Bool) (rd : Option Nat)
  | new (t : TypeId) (cells : List Value)
  | put (n : Nat) (cells : List Value)
def splice (cells : List Value) (off : Nat) (vs : List Value) : List Value := cells.take off ++ vs ++ cells.drop (off + vs.length)
def Oracle := FuncId → List Value → Option (Value × List Bool)
def orc : List (Nat × (List Value → Option (Value × List Bool))) → Oracle
  | [] => fun _ _ => none
  | (f, g) :: rest => fun h args => bif Nat.beq h f then g args else orc rest h args
def valOf (s : PSt) (x : Operand) : Value := (operand s x).v
def calleeOf (s : PSt) : Callee → Option FuncId
  | .value x => match operand s x with
    | ⟨true, .func (.func f) ⟨[]⟩ ⟨[]⟩⟩ => some f
    | _ => none
  | _ => none
def effect (P : Program) (O : Oracle) (s : PSt) (o : Oper) : Option Eff :=
  match o.op with
  | .move x => some (.val (valOf s x) [] none)
  | .assign x => some (.val (valOf s x) [] none)
  | .pick c a b => match valOf s c with
    | .bool true => some (.val (valOf s a) [] none)
    | .bool false => some (.val (valOf s b) [] none)
    | _ => none
  | .alloc t => match P.info? t with
    | some i => match i.zero with
      | some z => if z.cells.all Value.oneCell' && z.cells.all plainA then some (.new t z.cells.toList) else none
      | none => none
    | none => none
  | .box t x => if plainC (valOf s x) && (valOf s x).cells.all Value.oneCell' then some (.new t (valOf s x).cells.toList) else none
  | .load t a => match valOf s a with
    | .pointer (some ⟨n, off, none⟩) => match s.mem n with
      | some cells =>
        if isAggT P t then
          if off + sizeT P t ≤ cells.length && (P.info? t).isSome then some (.val (.agg ((cells.drop off).take (sizeT P t)).toArray) [] (some n)) else none
        else match cells[off]? with
          | some v => if (P.underlying t).isSome && plainA v then some (.val v [] (some n)) else none
          | none => none
      | none => none
    | _ => none
  | .store t a x => match valOf s a with
    | .pointer (some ⟨n, off, none⟩) => match s.mem n with
      | some cells =>
        if plainC (valOf s x) && (P.info? t).isSome && (valOf s x).cells.size == sizeT P t && (off + (valOf s x).cells.size ≤ cells.length) && (valOf s x).cells.all Value.oneCell' then some (.put n (splice cells off (valOf s x).cells.toList)) else none
      | none => none
    | _ => none
  | .binOp op t x y _ => match binV P op t (valOf s x) (valOf s y) with
    | some (v, b) => some (.val v b none)
    | none => none
  | .unOp op _ x => match unV op (valOf s x) with
    | some (v, b) => some (.val v b none)
    | none => none
  | .convert src dst x => match valOf s x, P.underlying src, P.underlying dst with
    | .int _ n, some _, some (.int k) => some (.val (.int k (iconv k n)) [] none)
    | .int _ n, some _, some (.float k) => some (.val (.float k (fofi k n)) [] none)
    | _, _, _ => none
  | .fieldAddr t x f => match valOf s x, P.underlying t with
    | .pointer (some ⟨n, off, none⟩), some (.struct fs) => match fs[f]? with
      | some fd => if sizeT P fd.type == 0 then none else some (.val (.pointer (some ⟨n, off + fd.offset, none⟩)) [] none)
      | none => none
    | _, _ => none
  | .extract x i => match valOf s x with
    | .tuple vs => match vs.toList[i]? with
      | some v => if plainC v then some (.val v [] none) else none
      | none => none
    | _ => none
  | .call c => match c.callee with
    | .builtin .min => match c.args.toList.map (valOf s) with
      | [.int k a, .int _ b] => some (.val (.int k (iimin a b)) [] none)
      | _ => none
    | .builtin .max => match c.args.toList.map (valOf s) with
      | [.int k a, .int _ b] => some (.val (.int k (iimax a b)) [] none)
      | _ => none
    | cal => match calleeOf s cal with
      | some f => if (c.args.toList.map (valOf s)).all plainC then match O f (c.args.toList.map (valOf s)) with
        | some (v, b) => if plainT v then some (.val v b none) else none
        | none => none
        else none
      | none => none
  | .build t parts =>
    if (parts.toList.map fun p => valOf s p.2).all plainC then
      match P.built t (parts.toList.map fun p => (p.1, valOf s p.2)) with
      | some cells => some (.val (.agg cells) [] none)
      | none => none
    else none
  | .field t x f => match valOf s x, P.underlying t with
    | .agg cs, some (.struct fs) => match fs[f]? with
      | some fd => match partV P fd.type cs fd.offset with
        | some v => if plainC v then some (.val v [] none) else none
        | none => none
      | none => none
    | _, _ => none
  | .index t x i => match valOf s x, valOf s i, P.underlying t with
    | .agg cs, .int _ m, some (.array len e) => match partV P e cs (m.toNat * sizeT P e) with
      | some v => if plainC v then some (.val v [ile 0 m, ilt m len] none) else none
      | none => none
    | _, _, _ => none
  | .indexAddr t x i => match valOf s x, valOf s i, P.underlying t with
    | .pointer (some ⟨n, off, none⟩), .int _ m, some (.array len e) => if (P.info? e).isSome then some (.val (.pointer (some ⟨n, off + m.toNat * sizeT P e, none⟩)) [ile 0 m, ilt m len] none) else none
    | _, _, _ => none
  | _ => none
def guardOf (s : PSt) (ops : List Oper) (o : Oper) : Option Bool :=
  match o.guard with
  | none => some true
  | some (j, want) => match (ops[j]?).bind (·.dst) with
    | some d => match s.tmps[d]? with
      | some ⟨true, .bool b⟩ => some (bif want then b else !b)
      | some ⟨true, .tuple _⟩ => some false
      | _ => none
    | none => none
def allOf : List GV → Bool
  | [] => true
  | g :: l => g.k && allOf l
def knownOf (s : PSt) (o : Oper) : Bool :=
  match o.op with
  | .pick c a b => match valOf s c with
    | .bool true => (operand s c).k && (operand s a).k
    | .bool false => (operand s c).k && (operand s b).k
    | _ => false
  | .call c => allOf (c.args.toList.map (operand s))
  | op => allOf (op.operands.toList.map (operand s))
def setTmp (l : List GV) : Option Tmp → GV → List GV
  | some d, v => l.set d v
  | none, _ => l
structure Delta where
  g : GV
  up : Option (Nat × List Value)
  ok : List Bool
  rd : Option Nat
def stepD (P : Program) (O : Oracle) (ops : List Oper) (name : Nat) (o : Oper) (s : PSt) : Option Delta :=
  match guardOf s ops o with
  | none => none
  | some false => some ⟨gnow undef, none, [], none⟩
  | some true => if knownOf s o then match effect P O s o with
    | none => none
    | some (.val v b rd) => some ⟨gnow v, none, b, rd⟩
    | some (.new t cells) => if (s.mem name).isNone then some ⟨gnow (.pointer (some ⟨name, 0, none⟩)), some (name, cells), [], none⟩ else none
    | some (.put n cells) => some ⟨gnow undef, some (n, cells), [], none⟩
    else none
def applyM (m : Nat → Option (List Value)) : Option (Nat × List Value) → Nat → Option (List Value)
  | none => m
  | some (n, x) => fun k => if k = n then some x else m k
def applyD (dst : Option Tmp) (d : Delta) (s : PSt) : PSt := ⟨setTmp s.tmps dst d.g, applyM s.mem d.up, conjL d.ok s.ok, s.lits⟩
def Delta.conf (d e : Delta) : Bool :=
  (match d.up with | some (n, _) => e.rd == some n || (match e.up with | some (m, _) => n == m | none => false) | none => false) ||
  (match e.up with | some (n, _) => d.rd == some n | none => false)
def looks (ops : List Oper) (o : Oper) : List Tmp :=
  (o.op.operands.toList.filterMap fun x => match x with | .tmp t => some t | _ => none) ++
  (match o.guard with
   | some (g, _) => match (ops[g]?).bind (·.dst) with | some d => [d] | none => []
   | none => [])
def apart (lx ly : List Tmp) (dx dy : Option Tmp) : Bool :=
  (match dx with | some d => !(ly.any fun t => Nat.beq t d) && (match dy with | some e => !Nat.beq d e | none => true) | none => true) &&
  (match dy with | some d => !(lx.any fun t => Nat.beq t d) | none => true)
def deps (o : Oper) : List Nat := o.after.toList.filterMap fun e => if Region.binds .any e then some e.on else none
def maskOf (tab : List Nat) : List Nat → Nat
  | [] => 0
  | d :: ds => (Nat.lor (Nat.lor (Nat.shiftLeft 1 d) (tab.getD d 0)) (maskOf tab ds))
def masks (tab : List Nat) : List Oper → List Nat
  | [] => tab
  | o :: rest => masks (tab ++ [maskOf tab (deps o)]) rest
def sources (ops : List Oper) : List Nat := ops.filterMap fun o => match o.guard with | some (j, _) => some j | none => none
def bcond (b : Bool) (p q : Prop) : Prop := cond b p q
def litOp (lits : List Tmp) : Operand → Bool
  | .tmp t => lits.any (Nat.beq t)
  | .const _ => true
  | _ => false
def litOf (s : PSt) (lits : List Tmp) (o : Oper) : Bool :=
  match o.op with
  | .move x | .assign x => litOp lits x
  | .pick c a b => match valOf s c with
    | .bool true => litOp lits a
    | .bool false => litOp lits b
    | _ => false
  | _ => false
def addLit (lits : List Tmp) : Option Tmp → Bool → List Tmp
  | some d, true => d :: lits
  | some d, false => lits.filter fun t => !Nat.beq t d
  | none, _ => lits
def bindC : List Value → (List Value → Prop) → Prop
  | [], k => k []
  | .int kd n :: l, k => ∀ i : Int, i = n → bindC l fun l' => k (.int kd i :: l')
  | v :: l, k => bindC l fun l' => k (v :: l')
def bindL : List Value → (List Value → Prop) → Prop
  | [], k => k []
  | .int kd n :: l, k => ∀ i : Int, i = n → bindL l fun l' => k (.int kd i :: l')
  | .agg ⟨cs⟩ :: l, k => bindC cs fun cs' => bindL l fun l' => k (.agg ⟨cs'⟩ :: l')
  | v :: l, k => bindL l fun l' => k (v :: l')
def bindV : Value → (Value → Prop) → Prop
  | .int kd n, k => ∀ i : Int, i = n → k (.int kd i)
  | .agg ⟨cs⟩, k => bindC cs fun cs' => k (.agg ⟨cs'⟩)
  | .tuple ⟨vs⟩, k => bindL vs fun l => k (.tuple ⟨l⟩)
  | v, k => k v
def isCall (o : Oper) : Bool := match o.op with | .call _ => true | _ => false
def runsB : Option Bool → Bool | some true => true | _ => false
def ixOf (P : Program) (ops : List Oper) (md : Bool) (s : PSt) (o : Oper) : Option (IntKind × Int × Nat) :=
  bif md && runsB (guardOf s ops o) then match o.op with
    | .index t _ i | .indexAddr t _ i => match valOf s i, P.underlying t with
      | .int k m, some (.array len _) => bif (operand s i).k then some (k, m, len) else none
      | _, _ => none
    | _ => none
  else none
def withIx (o : Oper) (k : IntKind) (j : Nat) : Oper := match o.op with
  | .index t x _ => { o with op := .index t x (.const (.int k j)) }
  | .indexAddr t x _ => { o with op := .indexAddr t x (.const (.int k j)) }
  | _ => o
def caseIx (m : Int) : Nat → Nat → (Nat → Prop) → Prop
  | _, 0, _ => False
  | j, n + 1, k => bcond (ieq m j) (k j) (caseIx m (j + 1) n k)
def runOps (P : Program) (O : Oracle) (ops : List Oper) (src : List Nat) (nm : Nat) (md : Bool) : Nat → List Oper → PSt → List Delta → List Tmp → (PSt → List Delta → Prop) → Prop
  | _, [], s, ds, lits, k => k ⟨s.tmps, s.mem, s.ok, lits⟩ ds.reverse
  | i, o :: rest, s, ds, lits, k => match ixOf P ops md s o with
    | some (kd, m, len) => caseIx m 0 len fun j => match stepD P O ops (nm + i) (withIx o kd j) s with
      | none => False
      | some d => runOps P O ops src nm md (i + 1) rest (applyD o.dst d s) (d :: ds) (addLit lits o.dst false) k
    | none => match stepD P O ops (nm + i) o s with
      | none => False
      | some d => if src.any (Nat.beq i) && !litOf s lits o then
          match d.g.v with
          | .bool x => bcond x (runOps P O ops src nm md (i + 1) rest (applyD o.dst ⟨gnow (.bool true), d.up, d.ok, d.rd⟩ s) (⟨gnow (.bool true), d.up, d.ok, d.rd⟩ :: ds) (addLit lits o.dst true) k)
              (runOps P O ops src nm md (i + 1) rest (applyD o.dst ⟨gnow (.bool false), d.up, d.ok, d.rd⟩ s) (⟨gnow (.bool false), d.up, d.ok, d.rd⟩ :: ds) (addLit lits o.dst true) k)
          | .tuple _ => runOps P O ops src nm md (i + 1) rest (applyD o.dst d s) (d :: ds) (addLit lits o.dst false) k
          | _ => False
        else bif md && isCall o then bindV d.g.v fun v => runOps P O ops src nm md (i + 1) rest (applyD o.dst ⟨⟨d.g.k, v⟩, d.up, d.ok, d.rd⟩ s) (⟨⟨d.g.k, v⟩, d.up, d.ok, d.rd⟩ :: ds) (addLit lits o.dst (litOf s lits o)) k
        else runOps P O ops src nm md (i + 1) rest (applyD o.dst d s) (d :: ds) (addLit lits o.dst (litOf s lits o)) k
structure Row where
  dst : Option Tmp
  looks : List Tmp
  d : Delta
def rowsOf (ops : List Oper) : List Oper → List Delta → List Row
  | o :: os, d :: ds => ⟨o.dst, looks ops o, d⟩ :: rowsOf ops os ds
  | _, _ => []
def aheadOf (mask : Nat) (y : Row) : Nat → List Row → Bool
  | _, [] => true
  | i, x :: xs => (Nat.testBit mask i || (apart x.looks y.looks x.dst y.dst && !x.d.conf y.d)) && aheadOf mask y (i + 1) xs
def anyOrder (done : List Row) : List Nat → List Row → Bool
  | m :: ms, y :: ys => aheadOf m y 0 done && anyOrder (done ++ [y]) ms ys
  | _, _ => true
def depsBack : Nat → List Oper → Bool
  | _, [] => true
  | i, o :: os => (deps o).all (fun d => Nat.blt d i) && depsBack (i + 1) os
def runRegion (P : Program) (O : Oracle) (id : Nat) (ops : List Oper) (draw md : Bool) (s : PSt) (k : PSt → Prop) : Prop :=
  runOps P O ops (sources ops) (id * 1024) md 0 ops s [] s.lits fun s' ds => if draw then (if depsBack 0 ops && anyOrder [] (masks [] ops) (rowsOf ops ops ds) then k s' else False) else k s'
end Go.Proofs.YtpjhdjakpbabhaaGreatDoor.PR
namespace Go.Proofs.YtpjhdjakpbabhaaGreatDoor.PR
open Go.RowKit
set_option linter.unusedVariables false
set_option linter.unusedSimpArgs false
def conc (β : Nat → Nat) : Value → Value
  | .pointer (some ⟨n, off, none⟩) => .pointer (some ⟨β n, off, none⟩)
  | v => v
def wfV (s : PSt) : Value → Prop
  | .pointer (some ⟨n, off, none⟩) => (s.mem n).isSome = true
  | .pointer (some ⟨_, _, some _⟩) => False
  | _ => True
structure Rel (base : Nat) (β : Nat → Nat) (s : PSt) (a : Act) (w : World) : Prop where
  defers : a.defers = []
  size : a.tmps.size = s.tmps.length
  slots : ∀ (t : Nat) (g : GV), s.tmps[t]? = some g → g.k = true → a.tmps[t]? = some (conc β g.v)
  wf : ∀ (t : Nat) (g : GV), s.tmps[t]? = some g → g.k = true → wfV s g.v
  mem : ∀ (n : Nat) (cells : List Value), s.mem n = some cells → base ≤ β n ∧ ∃ t, w.heap[β n]? = some (.cells cells.toArray t (0, 0))
  inj : ∀ n m, (s.mem n).isSome = true → (s.mem m).isSome = true → β n = β m → n = m
def Does (P : Program) (f : FuncId) (args : Array Value) (v : Value) : Prop :=
  ∀ w, (∃ w', (callFunc f args).run P w = .ok (.value v) w' ∧ Below w.heap.size w w') ∨
    ((callFunc f args).run P w = .ok (.enter f args) w ∧ Calls P f args w fun e w' => e = .returned v ∧ Below w.heap.size w w')
def OSound (P : Program) (O : Oracle) : Prop := ∀ f args v bs, O f args = some (v, bs) → (∀ b ∈ bs, b = true) → Does P f args.toArray v
theorem conjL_iff {l : List Bool} {p : Prop} : conjL l p ↔ (∀ b ∈ l, b = true) ∧ p := by
  induction l with
  | nil => simp [conjL]
  | cons b l ih => simp [conjL, ih, and_assoc]
theorem conc_plainA {β : Nat → Nat} {v : Value} (h : plainA v = true) : conc β v = v := by
  unfold conc; split
  · simp [plainA] at h
  · rfl
theorem conc_plainC {β : Nat → Nat} {v : Value} (h : plainC v = true) : conc β v = v := by
  unfold conc; split
  · simp [plainC, plainA] at h
  · rfl
theorem conc_plainT {β : Nat → Nat} {v : Value} (h : plainT v = true) : conc β v = v := by
  unfold conc; split
  · simp [plainT, plainC, plainA] at h
  · rfl
theorem wf_plainC {s : PSt} {v : Value} (h : plainC v = true) : wfV s v := by
  unfold wfV; split
  · simp [plainC, plainA] at h
  · simp [plainC, plainA] at h
  · trivial
theorem wf_plainA {s : PSt} {v : Value} (h : plainA v = true) : wfV s v := by
  unfold wfV; split
  · simp [plainA] at h
  · simp [plainA] at h
  · trivial
theorem wf_plainT {s : PSt} {v : Value} (h : plainT v = true) : wfV s v := by
  unfold wfV; split
  · simp [plainT, plainC, plainA] at h
  · simp [plainT, plainC, plainA] at h
  · trivial
theorem conc_agg {β : Nat → Nat} (cs : Array Value) : conc β (.agg cs) = .agg cs := rfl
theorem conc_int {β : Nat → Nat} (k : IntKind) (n : Int) : conc β (.int k n) = .int k n := rfl
theorem conc_bool {β : Nat → Nat} (n : Bool) : conc β (.bool n) = .bool n := rfl
theorem conc_tuple {β : Nat → Nat} (n : Array Value) : conc β (.tuple n) = .tuple n := rfl
section
variable {P : Program} {O : Oracle} {base : Nat} {β : Nat → Nat} {s : PSt} {a : Act} {w : World}
theorem Rel.eval (R : Rel base β s a w) (x : Operand) (hk : (operand s x).k = true) :
    a.eval x = conc β (operand s x).v ∧ wfV s (operand s x).v := by
  cases x with
  | tmp t =>
    simp only [operand, Act.eval] at *
    cases h : s.tmps[t]? with
    | none =>
      have h1 : s.tmps.length ≤ t := by simpa using h
      have h2 : a.tmps[t]? = none := by simp [R.size]; exact h1
      simp [List.getD, h, h2, gnow, undef, conc, wfV]
    | some g =>
      have e : s.tmps.getD t (gnow undef) = g := by simp [List.getD, h]
      rw [e] at hk ⊢
      have h1 := R.slots t g h hk
      refine ⟨by simp [h1], R.wf t g h hk⟩
  | const v =>
    simp only [operand] at *
    split at hk
    · rename_i hp
      rw [if_pos hp]
      exact ⟨(conc_plainA hp).symm, wf_plainA hp⟩
    · simp [gunk] at hk
  | global g => simp [operand, gunk] at hk
  | func f => exact ⟨rfl, trivial⟩
theorem Rel.put (R : Rel base β s a w) (dst : Option Tmp) (g : GV) (v : Value) (hv : g.k = true → v = conc β g.v) (hw : g.k = true → wfV s g.v) (b : Prop) :
    Rel base β ⟨setTmp s.tmps dst g, s.mem, b, s.lits⟩ (a.put dst v) w := by
  cases dst with
  | none => exact ⟨R.defers, R.size, R.slots, R.wf, R.mem, R.inj⟩
  | some d =>
    refine ⟨R.defers, by simp [Act.put, setTmp, R.size], ?_, ?_, R.mem, R.inj⟩
    · intro t g' h hk
      simp only [setTmp, List.getElem?_set] at h
      simp only [Act.put, Array.getElem?_setIfInBounds]
      split at h
      · rename_i hd
        subst hd
        split at h
        · rename_i hl
          simp only [Option.some.injEq] at h
          subst h
          simp [R.size, hl, hv hk]
        · simp at h
      · rename_i hd
        simp only [hd, if_false]
        exact R.slots t g' h hk
    · intro t g' h hk
      simp only [setTmp, List.getElem?_set] at h
      split at h
      · split at h
        · simp only [Option.some.injEq] at h; subst h; exact hw hk
        · simp at h
      · exact R.wf t g' h hk
theorem Rel.ok (R : Rel base β s a w) (b : Prop) : Rel base β { s with ok := b } a w := ⟨R.defers, R.size, R.slots, R.wf, R.mem, R.inj⟩
theorem Rel.lit (R : Rel base β s a w) (l : List Tmp) : Rel base β ⟨s.tmps, s.mem, s.ok, l⟩ a w := ⟨R.defers, R.size, R.slots, R.wf, R.mem, R.inj⟩
theorem Rel.world (R : Rel base β s a w) {w' : World} (h : ∀ n, (s.mem n).isSome = true → w'.heap[β n]? = w.heap[β n]?) : Rel base β s a w' :=
  ⟨R.defers, R.size, R.slots, R.wf, fun n cells hm => ⟨(R.mem n cells hm).1, by rw [h n (by simp [hm])]; exact (R.mem n cells hm).2⟩, R.inj⟩
theorem Rel.lt (R : Rel base β s a w) {n : Nat} (h : (s.mem n).isSome = true) : β n < w.heap.size := by
  obtain ⟨cells, hm⟩ := Option.isSome_iff_exists.1 h
  obtain ⟨_, t, ht⟩ := R.mem n cells hm
  exact (Array.getElem?_eq_some_iff.1 ht).1
theorem Rel.below (R : Rel base β s a w) {w' : World} (h : Below w.heap.size w w') : Rel base β s a w' :=
  R.world fun n hn => h.block _ (R.lt hn)
theorem Rel.alloc (R : Rel base β s a w) (hb : base ≤ w.heap.size) (name : Nat) (hn : (s.mem name).isNone = true) (t : TypeId) (cells : List Value) :
    Rel base (fun n => if n = name then w.heap.size else β n) ⟨s.tmps, fun n => if n = name then some cells else s.mem n, s.ok, s.lits⟩ a (w.alloc (.cells cells.toArray t)) := by
  have cw : ∀ v, wfV s v → conc (fun n => if n = name then w.heap.size else β n) v = conc β v := by
    intro v hv
    unfold conc
    split
    · rename_i n off
      simp only [wfV] at hv
      have : n ≠ name := by intro e; subst e; simp [Option.isNone_iff_eq_none] at hn; simp [hn] at hv
      simp [this]
    · rfl
  refine ⟨R.defers, R.size, ?_, ?_, ?_, ?_⟩
  · intro t g h hk
    rw [R.slots t g h hk, cw _ (R.wf t g h hk)]
  · intro t g h hk
    have := R.wf t g h hk
    revert this
    unfold wfV
    split
    · rename_i n off he
      intro h1
      show (if n = name then some cells else s.mem n).isSome = true
      split
      · rfl
      · exact h1
    · exact id
    · exact id
  · intro n cells' h
    simp only at h ⊢
    split at h
    · rename_i e
      simp only [Option.some.injEq] at h
      subst h
      simp only [e, if_true]
      exact ⟨hb, t, heap_alloc_new w _⟩
    · rename_i e
      simp only [e, if_false]
      have := R.mem n cells' h
      exact ⟨this.1, by rw [heap_alloc_old w _ _ (R.lt (by simp [h]))]; exact this.2⟩
  · intro n m hn' hm' he
    simp only at hn' hm' he
    by_cases e1 : n = name <;> by_cases e2 : m = name
    · rw [e1, e2]
    · simp only [e1, e2, if_true, if_false] at hm' he
      have := R.lt hm'; omega
    · simp only [e1, e2, if_true, if_false] at hn' he
      have := R.lt hn'; omega
    · simp only [e1, e2, if_false] at hn' hm' he
      exact R.inj n m hn' hm' he
theorem Rel.store (R : Rel base β s a w) (n : Nat) (old cells : List Value) (hm : s.mem n = some old) :
    Rel base β ⟨s.tmps, fun m => if m = n then some cells else s.mem m, s.ok, s.lits⟩ a (w.setRow (β n) cells.toArray) := by
  have dom : ∀ m, (if m = n then some cells else s.mem m).isSome = (s.mem m).isSome := by
    intro m; split
    · rename_i e; subst e; simp [hm]
    · rfl
  refine ⟨R.defers, R.size, R.slots, ?_, ?_, ?_⟩
  · intro t g h hk
    have := R.wf t g h hk
    revert this
    unfold wfV
    split
    · intro h1
      simp only [dom]
      exact h1
    · exact id
    · exact id
  · intro m cells' h
    simp only at h
    have hmn := R.mem n old hm
    split at h
    · rename_i e
      simp only [Option.some.injEq] at h
      subst h e
      obtain ⟨h1, t, h2⟩ := hmn
      exact ⟨h1, t, setRow_heap w _ _ _ _ _ h2⟩
    · rename_i e
      have hmm := R.mem m cells' h
      refine ⟨hmm.1, ?_⟩
      rw [setRow_other w _ _ _ (fun e' => e (R.inj m n (by simp [h]) (by simp [hm]) e'))]
      exact hmm.2
  · intro x y hx hy
    simp only [dom] at hx hy
    exact R.inj x y hx hy
theorem allOf_mem : ∀ {l : List GV}, allOf l = true → ∀ {g : GV}, g ∈ l → g.k = true
  | [], _, g, hg => by simp at hg
  | x :: l, h, g, hg => by
    simp only [allOf, Bool.and_eq_true] at h
    rcases List.mem_cons.1 hg with rfl | hg
    · exact h.1
    · exact allOf_mem h.2 hg
theorem known_all {x : Operand} {o : Oper} (hp : ∀ c u v, o.op ≠ .pick c u v) (hc : ∀ c, o.op ≠ .call c) (h : knownOf s o = true) (hx : x ∈ o.op.operands.toList) : (operand s x).k = true := by
  unfold knownOf at h
  split at h
  · rename_i c u v e; exact absurd e (hp c u v)
  · rename_i c e; exact absurd e (hc c)
  · exact allOf_mem h (List.mem_map_of_mem hx)
theorem run_partV {t : TypeId} {cs : Array Value} {off : Nat} {v : Value} (h : partV P t cs off = some v) (w : World) : (part t cs off).run P w = .ok v w := by
  unfold partV at h
  split at h
  · rename_i i d hi hu
    have hs : (sizeOf t).run P w = .ok i.size w := by simp [sizeOf, typeInfo, hi]
    have hagg : (isAgg t).run P w = .ok (match d with | .struct _ | .array _ _ => true | _ => false) w := by
      unfold isAgg
      rw [Sem.run_bind, run_underlying hu w]
      cases d <;> simp
    unfold part
    rw [Sem.run_bind, hagg]
    split at h
    · simp only [Option.some.injEq] at h; subst h; simp [hs]
    · simp only [Option.some.injEq] at h; subst h; simp [hs]
    · rename_i h1 h2
      simp only [Result.andThen_ok]
      split
      · exact absurd rfl (h1 _)
      · exact absurd rfl (h2 _ _)
      · simp [h]
  · simp at h
theorem run_eqFields (d : Nat) (xs ys : Array Value) (ih : ∀ (t : TypeId) (x y : Value) (r : Bool) (w : World), eqV P d t x y = some r → (Op.equalIn d t x y).run P w = .ok r w) :
    ∀ (fs : List Field) (r : Bool) (w : World), eqParts P (eqV P d) xs ys ((fs.filter (·.name != "_")).map fun f => (f.type, f.offset)) = some r → (Op.eqFields d xs ys fs).run P w = .ok r w
  | [], r, w, h => by simp [eqParts] at h; subst h; rfl
  | f :: fs, r, w, h => by
    unfold Op.eqFields
    by_cases hn : f.name = "_"
    · rw [if_neg (by simp [hn])]
      simp only [List.filter_cons, hn, bne_self_eq_false, Bool.false_eq_true, if_false] at h
      exact run_eqFields d xs ys ih fs r w h
    · rw [if_pos hn]
      have hb : (f.name != "_") = true := by simpa using hn
      simp only [List.filter_cons, hb, if_true, List.map_cons, eqParts] at h
      split at h <;> try simp at h
      rename_i a b ha hb'
      split at h <;> try simp at h
      rename_i r1 hr1
      split at h <;> try simp at h
      rename_i r2 hr2
      subst h
      simp only [Sem.run_bind, run_partV ha, run_partV hb', ih _ _ _ _ _ hr1, Result.andThen_ok]
      cases r1
      · simp [band]
      · simpa [band] using run_eqFields d xs ys ih fs r2 w hr2
theorem run_eqElems (d : Nat) (xs ys : Array Value) (e : TypeId) (z : Nat) (ih : ∀ (t : TypeId) (x y : Value) (r : Bool) (w : World), eqV P d t x y = some r → (Op.equalIn d t x y).run P w = .ok r w) :
    ∀ (l : List Nat) (r : Bool) (w : World), eqParts P (eqV P d) xs ys (l.map fun i => (e, i * z)) = some r →
      (Sem.run P (forIn l ((none : Option Bool), ()) fun i s => (do
        let a ← part e xs (i * z)
        let b ← part e ys (i * z)
        let r ← Op.equalIn d e a b
        if (!r) = true then pure (ForInStep.done (some false, ())) else pure (ForInStep.yield (none, ())) : Sem (ForInStep (Option Bool × Unit)))) w) = .ok (bif r then (none, ()) else (some false, ())) w
  | [], r, w, h => by simp [eqParts] at h; subst h; rfl
  | i :: l, r, w, h => by
    simp only [List.map_cons, eqParts] at h
    split at h <;> try (simp at h; done)
    rename_i a b ha hb'
    split at h <;> try (simp at h; done)
    rename_i r1 hr1
    split at h <;> try (simp at h; done)
    rename_i r2 hr2
    simp only [Option.some.injEq] at h
    subst h
    simp only [List.forIn_cons, Sem.run_bind, run_partV ha, run_partV hb', ih _ _ _ _ _ hr1, Result.andThen_ok]
    cases r1
    · simp [band]
    · simpa [band] using run_eqElems d xs ys e z ih l r2 w hr2
theorem run_eqV : ∀ (d : Nat) (t : TypeId) (x y : Value) (r : Bool) (w : World), eqV P d t x y = some r → (Op.equalIn d t x y).run P w = .ok r w
  | 0, t, x, y, r, w, h => by simp [eqV] at h
  | d + 1, t, x, y, r, w, h => by
    unfold eqV at h
    split at h
    · rename_i hu
      split at h <;> try simp at h
      subst h
      exact run_equalIn_bool' w d t _ _ hu
    · rename_i k hu
      split at h <;> try simp at h
      obtain ⟨rfl, rfl⟩ := h
      rw [run_equalIn_int w d t _ _ _ _ hu]; rfl
    · rename_i fs hu
      split at h <;> try simp at h
      obtain ⟨hp, h⟩ := h
      have hf : P.fieldsOf t = fs := by simp [Program.fieldsOf, hu]
      rw [run_equalIn_agg w d t _ _ (by rw [hf]; exact hu) hp, hf]
      exact run_eqFields d _ _ (fun t x y r w h => run_eqV d t x y r w h) _ _ _ h
    · rename_i n e hu
      split at h <;> try simp at h
      rename_i xs ys
      obtain ⟨hi, h⟩ := h
      obtain ⟨i, hi⟩ : ∃ i, P.info? e = some i := by
        cases q : P.info? e with
        | none => exact absurd q hi
        | some i => exact ⟨i, rfl⟩
      have hs : ∀ w, (sizeOf e).run P w = .ok i.size w := fun w => by simp [sizeOf, typeInfo, hi]
      have hz : sizeT P e = i.size := by simp [sizeT, hi]
      rw [hz] at h
      simp only [Op.equalIn, Sem.run_bind, run_underlying hu, Result.andThen_ok, hs, Std.Legacy.Range.forIn_eq_forIn_range', Std.Legacy.Range.size, Nat.sub_zero, Nat.add_sub_cancel, Nat.div_one, ← List.range_eq_range']
      rw [run_eqElems d xs ys e i.size (fun t x y r w h => run_eqV d t x y r w h) (List.range n) r w h]
      cases r <;> rfl
    · simp at h
theorem run_binV {op : BinOp} {x y v : Value} {b : List Bool} {t : TypeId} (h : binV P op t x y = some (v, b)) (hb : ∀ c ∈ b, c = true) (p q : Operand) (w : World) :
    (do eqGuard op t p q x y; binOp op t x y : Sem Value).run P w = .ok v w ∧ plainA v = true := by
  unfold binV at h
  split at h
  · rename_i k a l c
    split at h
    · simp only [Option.some.injEq, Prod.mk.injEq] at h
      obtain ⟨rfl, rfl⟩ := h
      have hb := hb _ (List.mem_singleton.2 rfl)
      simp only [ige, ge_iff_le, decide_eq_true_eq] at hb
      refine ⟨?_, rfl⟩
      simp only [eqGuard_shl, pure_bind, binOp_shl, Op.shift]
      rw [if_neg (by omega)]
      rfl
    · simp only [Option.some.injEq, Prod.mk.injEq] at h
      obtain ⟨rfl, rfl⟩ := h
      have hb := hb _ (List.mem_singleton.2 rfl)
      simp only [ige, ge_iff_le, decide_eq_true_eq] at hb
      refine ⟨?_, rfl⟩
      simp only [eqGuard_shr, pure_bind, binOp_shr, Op.shift]
      rw [if_neg (by omega)]
      rfl
    · split at h
      · rename_i hkl
        subst hkl
        split at h <;> first
          | (simp only [Option.some.injEq, Prod.mk.injEq] at h
             obtain ⟨rfl, rfl⟩ := h
             refine ⟨?_, rfl⟩
             first
               | (have hb := hb _ (List.mem_singleton.2 rfl)
                  simp only [ine, bne_iff_ne, ne_eq] at hb
                  simp [eqGuard_at_int, binOp_quo, binOp_rem, Op.intDiv, hb, iquo, irem]; done)
               | (simp [eqGuard_at_int, binOp_add, binOp_sub, binOp_mul, binOp_and, binOp_or, binOp_xor, binOp_andNot, binOp_eql, binOp_neq, binOp_lss, binOp_leq, binOp_gtr, binOp_geq, Op.intArith, intBits_and, intBits_or, intBits_xor, intBits_andNot, iadd, isub, imul, iand, ior, ixor, iandn, ieq, ine, ilt, ile, igt, ige]; done))
          | simp at h
      · simp at h
  · rename_i a c
    split at h <;> try (simp at h; done)
    · rename_i hu
      simp only [Option.some.injEq, Prod.mk.injEq] at h
      obtain ⟨rfl, rfl⟩ := h
      refine ⟨?_, rfl⟩
      simp only [eqGuard_at_bool, pure_bind]
      exact run_eql_bool w t a c hu
    · rename_i hu
      simp only [Option.some.injEq, Prod.mk.injEq] at h
      obtain ⟨rfl, rfl⟩ := h
      refine ⟨?_, rfl⟩
      simp only [eqGuard_at_bool, pure_bind]
      exact run_neq_bool w t a c hu
  · rename_i k a l c
    split at h
    · rename_i hkl
      subst hkl
      have arith : ∀ op', (op' = .add ∨ op' = .sub ∨ op' = .mul ∨ op' = .quo) → op = op' → fok op' k a c = true → (do eqGuard op t p q (.float k a) (.float k c); binOp op t (.float k a) (.float k c) : Sem Value).run P w = .ok (.float k (fop op' k a c)) w := by
        intro op' ho e hb
        subst e
        obtain ⟨r, hr⟩ := Option.isSome_iff_exists.1 hb
        rw [eqGuard_at_float, pure_bind, run_float_arith w op t k a c r hr]
        simp [fop, hr]
      split at h <;> first
        | (simp only [Option.some.injEq, Prod.mk.injEq] at h
           obtain ⟨rfl, rfl⟩ := h
           refine ⟨?_, rfl⟩
           first
             | (exact arith _ (by simp) rfl (hb _ (List.mem_singleton.2 rfl)); done)
             | (simp [eqGuard_at_float, binOp_float_cmp_eql, binOp_float_cmp_neq, binOp_float_cmp_lss, binOp_float_cmp_leq, binOp_float_cmp_gtr, binOp_float_cmp_geq, feq, fne, flt, fle, fgt, fge]; done))
        | simp at h
    · simp at h
  · rename_i xs ys
    split at h
    · simp at h
    · rename_i hg
      have hg : P.eqGuardType P.depth t = false := by simpa using hg
      split at h <;> try (simp at h; done)
      · rename_i r hr
        simp only [Option.some.injEq, Prod.mk.injEq] at h
        obtain ⟨rfl, rfl⟩ := h
        refine ⟨?_, rfl⟩
        rw [Sem.run_bind, run_eqGuard_agg w _ _ _ _ _ _ hg]
        simp only [Result.andThen_ok]
        rw [run_eql_struct, run_eqV _ _ _ _ _ _ hr]
        rfl
      · rename_i r hr
        simp only [Option.some.injEq, Prod.mk.injEq] at h
        obtain ⟨rfl, rfl⟩ := h
        refine ⟨?_, rfl⟩
        rw [Sem.run_bind, run_eqGuard_agg w _ _ _ _ _ _ hg]
        simp only [Result.andThen_ok]
        rw [run_neq_struct, run_eqV _ _ _ _ _ _ hr]
        rfl
  · simp at h
theorem run_unV {op : UnOp} {x v : Value} {b : List Bool} (h : unV op x = some (v, b)) (w : World) :
    (Op.unary op x).run P w = .ok v w ∧ plainA v = true := by
  unfold unV at h
  split at h <;> first
    | (simp only [Option.some.injEq, Prod.mk.injEq] at h
       obtain ⟨rfl, rfl⟩ := h
       refine ⟨?_, rfl⟩
       simp [Op.unary, Op.intArith, isub, bnot]; done)
    | simp at h
theorem run_load_part {fr : Nat × Nat} (g off : Nat) (t ty : TypeId) (cells : List Value) (hg : w.heap[g]? = some (.cells cells.toArray t fr)) (ha : isAggT P ty = true)
    (hl : off + sizeT P ty ≤ cells.length) (hi : (P.info? ty).isSome = true) :
    (Instr.loadAt ty (.pointer (some ⟨g, off, none⟩))).run P w = .ok (.agg ((cells.drop off).take (sizeT P ty)).toArray) w := by
  obtain ⟨i, hi⟩ := Option.isSome_iff_exists.1 hi
  have hs : sizeT P ty = i.size := by simp [sizeT, hi]
  rw [hs] at hl ⊢
  obtain ⟨d, hu⟩ : ∃ d, P.underlying ty = some d := by
    unfold isAggT at ha
    cases h : P.underlying ty with
    | none => simp [h] at ha
    | some d => exact ⟨d, rfl⟩
  have hagg : (isAgg ty).run P w = .ok true w := by
    unfold isAgg
    rw [Sem.run_bind, run_underlying hu w]
    unfold isAggT at ha
    rw [hu] at ha
    cases d <;> simp_all
  have hc := run_loadCells_list (P := P) w ⟨g, off, none⟩ ((cells.drop off).take i.size) (fun j v hv => by
    have hadd : (⟨g, off, none⟩ : Addr).add j = ⟨g, off + j, none⟩ := by unfold Addr.add; split <;> simp_all
    rw [hadd]
    simp only [World.cell?, hg]
    simp only [List.getElem?_take, List.getElem?_drop] at hv
    split at hv
    · simpa using hv
    · simp at hv)
  have hlen : ((cells.drop off).take i.size).length = i.size := by rw [List.length_take, List.length_drop]; omega
  rw [hlen] at hc
  simp [Instr.loadAt, Instr.sureAddr, loadVar, hagg, sizeOf, typeInfo, hi, hc]
theorem run_load_cell {fr : Nat × Nat} (g off : Nat) (t ty : TypeId) (cells : List Value) (v : Value) (hg : w.heap[g]? = some (.cells cells.toArray t fr)) (ha : isAggT P ty = false)
    (hu : (P.underlying ty).isSome = true) (hv : cells[off]? = some v) : (Instr.loadAt ty (.pointer (some ⟨g, off, none⟩))).run P w = .ok v w := by
  obtain ⟨d, hu⟩ := Option.isSome_iff_exists.1 hu
  have hagg : (isAgg ty).run P w = .ok false w := by
    unfold isAgg
    rw [Sem.run_bind, run_underlying hu w]
    unfold isAggT at ha
    rw [hu] at ha
    cases d <;> simp_all
  have hc : w.cell? ⟨g, off, none⟩ = some v := by simp only [World.cell?, hg]; simpa using hv
  simp [Instr.loadAt, Instr.sureAddr, loadVar, hagg, hc]
theorem run_store_part (g off : Nat) (t ty : TypeId) (cells : List Value) (x : Value) (hg : w.heap[g]? = some (.cells cells.toArray t (0, 0))) (hi : (P.info? ty).isSome = true)
    (hs : x.cells.size = sizeT P ty) (hl : off + x.cells.size ≤ cells.length) (h1 : x.cells.all Value.oneCell' = true) :
    (Instr.storeAt ty (.pointer (some ⟨g, off, none⟩)) x).run P w = .ok () (w.setRow g (splice cells off x.cells.toList).toArray) := by
  obtain ⟨i, hi⟩ := Option.isSome_iff_exists.1 hi
  have hs : x.cells.size = i.size := by simpa [sizeT, hi] using hs
  have := run_storeCells_at (P := P) g off t x.cells.toList 0 cells.toArray w hg (by simpa using hl) (fun v hv => (Array.all_eq_true_iff_forall_mem.1 h1) v (by simpa using hv))
  simp only [Nat.add_zero] at this
  simp [Instr.storeAt, Instr.sureAddr, storeVar, sizeOf, typeInfo, hi, hs, this, splice]
end
end Go.Proofs.YtpjhdjakpbabhaaGreatDoor.PR
namespace Go.Proofs.YtpjhdjakpbabhaaGreatDoor.PR
open Go.RowKit
set_option linter.unusedVariables false
set_option linter.unusedSimpArgs false
section
variable {P : Program} {O : Oracle} {base : Nat} {β : Nat → Nat} {s : PSt} {a : Act} {w : World} {o : Oper}
theorem wp_value {v : Value} (h : (execOp a.eval o).run P w = .ok (.value v) w) {K : Act → World → Prop} {Q : Exit → Act → World → Prop} (hK : K (a.put o.dst v) w) : o.wp P a w K Q := by
  unfold Oper.wp; rw [h]; exact hK
theorem wp_done {v : Value} (h : (execOp a.eval o).run P w = .ok (.value v) w) {v' : Value} (e : v = v') {K : Act → World → Prop} {Q : Exit → Act → World → Prop} (hK : ∀ w', Below w.heap.size w w' → K (a.put o.dst v') w') : o.wp P a w K Q := by
  subst e; exact wp_value h (hK w (Below.refl _ _))
theorem conc_binV {op : BinOp} {t : TypeId} {x y : Value} {r : Value × List Bool} (h : binV P op t x y = some r) : conc β x = x ∧ conc β y = y := by
  unfold binV at h
  split at h
  · exact ⟨rfl, rfl⟩
  · exact ⟨rfl, rfl⟩
  · exact ⟨rfl, rfl⟩
  · exact ⟨rfl, rfl⟩
  · simp at h
theorem call_args (R : Rel base β s a w) {c : Call} (ho : o.op = .call c) (hk : knownOf s o = true) (hp : (c.args.toList.map (valOf s)).all plainC = true) : c.args.map a.eval = (c.args.toList.map (valOf s)).toArray := by
  unfold knownOf at hk
  rw [ho] at hk
  apply Array.ext'
  simp only [Array.toList_map]
  apply List.map_congr_left
  intro x hx
  have k := allOf_mem hk (List.mem_map_of_mem hx)
  rw [(R.eval x k).1]
  exact conc_plainC (List.all_eq_true.1 hp _ (List.mem_map_of_mem hx))
theorem effect_val (hO : OSound P O) (R : Rel base β s a w) {v : Value} {b : List Bool} {rd : Option Nat} (h : effect P O s o = some (.val v b rd)) (hk : knownOf s o = true) (hb : ∀ c ∈ b, c = true) :
    wfV s v ∧ ∀ (K : Act → World → Prop) (Q : Exit → Act → World → Prop), (∀ w', Below w.heap.size w w' → K (a.put o.dst (conc β v)) w') → o.wp P a w K Q := by
  have kn : (∀ c u v, o.op ≠ .pick c u v) → (∀ c, o.op ≠ .call c) → ∀ x ∈ o.op.operands.toList, a.eval x = conc β (valOf s x) ∧ wfV s (valOf s x) :=
    fun hp hc x hx => R.eval x (known_all (o := o) hp hc hk hx)
  unfold effect at h
  split at h
  · -- move
    rename_i x ho
    simp only [Option.some.injEq, Eff.val.injEq] at h
    obtain ⟨rfl, rfl, rfl⟩ := h
    obtain ⟨e, wf⟩ := kn (by simp [ho]) (by simp [ho]) x (by simp [ho, Op.operands])
    exact ⟨wf, fun K Q hK => wp_done (by simp [execOp, ho]) e hK⟩
  · -- assign
    rename_i x ho
    simp only [Option.some.injEq, Eff.val.injEq] at h
    obtain ⟨rfl, rfl, rfl⟩ := h
    obtain ⟨e, wf⟩ := kn (by simp [ho]) (by simp [ho]) x (by simp [ho, Op.operands])
    exact ⟨wf, fun K Q hK => wp_done (by simp [execOp, ho]) e hK⟩
  · -- pick
    rename_i c x y ho
    unfold knownOf at hk
    rw [ho] at hk
    split at h
    · rename_i ht
      simp only [Option.some.injEq, Eff.val.injEq] at h
      obtain ⟨rfl, rfl, rfl⟩ := h
      simp only [ht, Bool.and_eq_true] at hk
      have hc := (R.eval c hk.1).1
      have ht' : (operand s c).v = .bool true := ht
      rw [ht', conc_bool] at hc
      obtain ⟨hy, wf⟩ := R.eval x hk.2
      exact ⟨wf, fun K Q hK => wp_done (v := a.eval x) (by simp [execOp, ho, hc, asBool]) hy hK⟩
    · rename_i ht
      simp only [Option.some.injEq, Eff.val.injEq] at h
      obtain ⟨rfl, rfl, rfl⟩ := h
      simp only [ht, Bool.and_eq_true] at hk
      have hc := (R.eval c hk.1).1
      have ht' : (operand s c).v = .bool false := ht
      rw [ht', conc_bool] at hc
      obtain ⟨hy, wf⟩ := R.eval y hk.2
      exact ⟨wf, fun K Q hK => wp_done (v := a.eval y) (by simp [execOp, ho, hc, asBool]) hy hK⟩
    · simp at h
  · -- alloc
    split at h <;> try (simp at h; done)
    split at h <;> try (simp at h; done)
  · -- box
    split at h <;> simp at h
  · -- load
    rename_i t x ho
    obtain ⟨e, wf⟩ := kn (by simp [ho]) (by simp [ho]) x (by simp [ho, Op.operands])
    split at h <;> try (simp at h; done)
    rename_i n off hp
    rw [hp] at e
    split at h <;> try (simp at h; done)
    rename_i cells hm
    obtain ⟨el, hm⟩ := (R.mem n cells hm).2
    have e : a.eval x = .pointer (some ⟨β n, off, none⟩) := e
    split at h
    · rename_i hag
      split at h <;> try (simp at h; done)
      rename_i hl
      simp only [Option.some.injEq, Eff.val.injEq] at h
      obtain ⟨rfl, rfl, rfl⟩ := h
      simp only [Bool.and_eq_true, decide_eq_true_eq] at hl
      refine ⟨trivial, fun K Q hK => wp_done ?_ rfl hK⟩
      simp only [execOp, ho, e, Sem.run_bind, run_load_part (P := P) (β n) off el t cells hm hag hl.1 hl.2]
      rfl
    · rename_i hag
      split at h <;> try (simp at h; done)
      rename_i u hu
      split at h <;> try (simp at h; done)
      rename_i hc
      simp only [Option.some.injEq, Eff.val.injEq] at h
      obtain ⟨rfl, rfl, rfl⟩ := h
      simp only [Bool.and_eq_true] at hc
      refine ⟨wf_plainA hc.2, fun K Q hK => wp_done ?_ (conc_plainA hc.2).symm hK⟩
      simp only [execOp, ho, e, Sem.run_bind, run_load_cell (P := P) (β n) off el t cells u hm (by simpa using hag) hc.1 hu]
      rfl
  · -- store
    split at h <;> try (simp at h; done)
    split at h <;> try (simp at h; done)
  · -- binOp
    rename_i op t x y yt ho
    obtain ⟨e1, _⟩ := kn (by simp [ho]) (by simp [ho]) x (by simp [ho, Op.operands])
    obtain ⟨e2, _⟩ := kn (by simp [ho]) (by simp [ho]) y (by simp [ho, Op.operands])
    split at h <;> try (simp at h; done)
    rename_i u b' hv
    simp only [Option.some.injEq, Eff.val.injEq] at h
    obtain ⟨rfl, rfl, rfl⟩ := h
    obtain ⟨r, hp⟩ := run_binV hv hb x y w
    obtain ⟨c1, c2⟩ := conc_binV (β := β) hv
    refine ⟨wf_plainA hp, fun K Q hK => wp_done ?_ (conc_plainA hp).symm hK⟩
    rw [c1] at e1; rw [c2] at e2
    simp only [execOp, ho, e1, e2]
    rw [Sem.run_bind, r]
    rfl
  · -- unOp
    rename_i op t x ho
    obtain ⟨e1, _⟩ := kn (by simp [ho]) (by simp [ho]) x (by simp [ho, Op.operands])
    split at h <;> try (simp at h; done)
    rename_i u b' hv
    simp only [Option.some.injEq, Eff.val.injEq] at h
    obtain ⟨rfl, rfl, rfl⟩ := h
    obtain ⟨r, hp⟩ := run_unV hv w (P := P)
    have c1 : conc β (valOf s x) = valOf s x := by
      unfold unV at hv; split at hv <;> first | (simp at hv; done) | (rename_i q1; rw [q1]; rfl)
    rw [c1] at e1
    refine ⟨wf_plainA hp, fun K Q hK => wp_done ?_ (conc_plainA hp).symm hK⟩
    simp only [execOp, ho, e1, Sem.run_bind, r]
    rfl
  · -- convert
    rename_i src dst x ho
    obtain ⟨e1, _⟩ := kn (by simp [ho]) (by simp [ho]) x (by simp [ho, Op.operands])
    split at h <;> try (simp at h; done)
    · rename_i k n d k' q1 q2 q3
      simp only [Option.some.injEq, Eff.val.injEq] at h
      obtain ⟨rfl, rfl, rfl⟩ := h
      rw [q1, conc_int] at e1
      have hd : P.intKind dst = k' := by simp [Program.intKind, q3]
      have r := run_convert_int (P := P) w src dst k n (by simp [q2]) (by rw [hd]; exact q3)
      rw [hd] at r
      refine ⟨trivial, fun K Q hK => wp_done ?_ rfl hK⟩
      simp only [execOp, ho, e1, Sem.run_bind, r]
      rfl
    · rename_i k n d k' q1 q2 q3
      simp only [Option.some.injEq, Eff.val.injEq] at h
      obtain ⟨rfl, rfl, rfl⟩ := h
      rw [q1, conc_int] at e1
      have r := run_convert_int_float (P := P) w src dst k k' n (by simp [q2]) q3
      refine ⟨trivial, fun K Q hK => wp_done ?_ rfl hK⟩
      simp only [execOp, ho, e1, Sem.run_bind, r]
      rfl
  · -- fieldAddr
    rename_i t x f ho
    obtain ⟨e1, wf⟩ := kn (by simp [ho]) (by simp [ho]) x (by simp [ho, Op.operands])
    split at h <;> try (simp at h; done)
    rename_i n off fs q1 q2
    split at h <;> try (simp at h; done)
    rename_i fd q3
    split at h <;> try (simp at h; done)
    rename_i q4
    simp only [Option.some.injEq, Eff.val.injEq] at h
    obtain ⟨rfl, rfl, rfl⟩ := h
    rw [q1] at e1 wf
    have e1 : a.eval x = .pointer (some ⟨β n, off, none⟩) := e1
    refine ⟨wf, fun K Q hK => wp_done (v := .pointer (some ⟨β n, off + fd.offset, none⟩)) ?_ rfl hK⟩
    simp only [beq_iff_eq] at q4
    have hz : (sizeOf fd.type).run P w = .ok (sizeT P fd.type) w := by
      unfold sizeT at *
      cases hi : P.info? fd.type with
      | none => simp [hi] at q4
      | some i => simp [sizeOf, typeInfo, hi]
    simp only [execOp, ho, e1, Sem.run_bind, Instr.fieldAt, run_underlying q2, Result.andThen_ok, q3, Instr.sureAddr, Sem.run_pure, fieldPlace, hz, q4, if_false, Addr.add_lit]
  · -- extract
    rename_i x i ho
    obtain ⟨e1, wf⟩ := kn (by simp [ho]) (by simp [ho]) x (by simp [ho, Op.operands])
    split at h <;> try (simp at h; done)
    rename_i vs q1
    split at h <;> try (simp at h; done)
    rename_i u q2
    split at h <;> try (simp at h; done)
    rename_i q3
    simp only [Option.some.injEq, Eff.val.injEq] at h
    obtain ⟨rfl, rfl, rfl⟩ := h
    rw [q1, conc_tuple] at e1
    refine ⟨wf_plainC q3, fun K Q hK => wp_done ?_ (conc_plainC q3).symm hK⟩
    have q2 : vs[i]? = some u := by simpa using q2
    simp only [execOp, ho, e1, Sem.run_bind, Instr.extract, q2]
    rfl
  · -- call
    rename_i c ho
    split at h <;> try (simp at h; done)
    · -- min
      rename_i hf
      split at h <;> try (simp at h; done)
      rename_i k x l y q1
      simp only [Option.some.injEq, Eff.val.injEq] at h
      obtain ⟨rfl, rfl, rfl⟩ := h
      have hargs := call_args R ho hk (by rw [q1]; rfl)
      rw [q1] at hargs
      refine ⟨trivial, fun K Q hK => wp_done ?_ rfl hK⟩
      simp only [execOp, ho, resolve, hf, Sem.run_bind, Sem.run_pure, Result.andThen_ok, invoke, builtin, hargs, Builtin.min_, List.foldlM_cons, List.foldlM_nil, Builtin.min2, iimin]
      rfl
    · -- max
      rename_i hf
      split at h <;> try (simp at h; done)
      rename_i k x l y q1
      simp only [Option.some.injEq, Eff.val.injEq] at h
      obtain ⟨rfl, rfl, rfl⟩ := h
      have hargs := call_args R ho hk (by rw [q1]; rfl)
      rw [q1] at hargs
      refine ⟨trivial, fun K Q hK => wp_done ?_ rfl hK⟩
      simp only [execOp, ho, resolve, hf, Sem.run_bind, Sem.run_pure, Result.andThen_ok, invoke, builtin, hargs, Builtin.max_, List.foldlM_cons, List.foldlM_nil, Builtin.max2, iimax]
      rfl
    · -- a function
      split at h <;> try (simp at h; done)
      rename_i f hf
      split at h <;> try (simp at h; done)
      rename_i hp
      split at h <;> try (simp at h; done)
      rename_i u b' hO'
      split at h <;> try (simp at h; done)
      rename_i hu
      simp only [Option.some.injEq, Eff.val.injEq] at h
      obtain ⟨rfl, rfl, rfl⟩ := h
      have hargs := call_args R ho hk hp
      refine ⟨wf_plainT hu, fun K Q hK => ?_⟩
      have D := hO f _ u _ hO' hb w
      have hr : (execOp a.eval o).run P w = (callFunc f (c.args.toList.map (valOf s)).toArray).run P w := by
        unfold calleeOf at hf
        split at hf <;> try (simp at hf; done)
        rename_i x hx
        split at hf <;> try (simp at hf; done)
        rename_i g hg
        simp only [Option.some.injEq] at hf
        subst hf
        have he := (R.eval x (by rw [hg])).1
        rw [hg] at he
        simp only [execOp, ho, resolve, hx, he, conc, Deferred.ofValue, Sem.run_bind, Sem.run_pure, Result.andThen_ok, invoke, hargs]
        simp
      unfold Oper.wp
      rw [hr]
      rw [conc_plainT hu] at hK
      rcases D with ⟨w', r, hb⟩ | ⟨r, C⟩
      · rw [r]; exact hK w' hb
      · rw [r]
        refine Calls.mono C ?_
        rintro e w' ⟨rfl, hb⟩
        exact hK w' hb
  · -- build
    rename_i t parts ho
    split at h <;> try (simp at h; done)
    rename_i hp
    split at h <;> try (simp at h; done)
    rename_i cells hc
    simp only [Option.some.injEq, Eff.val.injEq] at h
    obtain ⟨rfl, rfl, rfl⟩ := h
    have hargs : parts.map (fun (i, x) => (i, a.eval x)) = (parts.toList.map fun p => (p.1, valOf s p.2)).toArray := by
      apply Array.ext'
      simp only [Array.toList_map]
      apply List.map_congr_left
      intro p hpm
      obtain ⟨e, _⟩ := kn (by simp [ho]) (by simp [ho]) p.2 (by simp only [ho, Op.operands]; exact List.mem_map_of_mem hpm)
      rw [e, conc_plainC (List.all_eq_true.1 hp _ (List.mem_map_of_mem hpm))]
    refine ⟨trivial, fun K Q hK => wp_done ?_ rfl hK⟩
    have r := run_build (P := P) w t (parts.toList.map fun p => (p.1, valOf s p.2)).toArray cells hc
    simp only [execOp, ho, hargs, Sem.run_bind, r]
    rfl
  · -- field
    rename_i t x f ho
    obtain ⟨e1, _⟩ := kn (by simp [ho]) (by simp [ho]) x (by simp [ho, Op.operands])
    split at h <;> try (simp at h; done)
    rename_i cs fs q1 q2
    split at h <;> try (simp at h; done)
    rename_i fd q3
    split at h <;> try (simp at h; done)
    rename_i u q4
    split at h <;> try (simp at h; done)
    rename_i q5
    simp only [Option.some.injEq, Eff.val.injEq] at h
    obtain ⟨rfl, rfl, rfl⟩ := h
    rw [q1, conc_agg] at e1
    refine ⟨wf_plainC q5, fun K Q hK => wp_done ?_ (conc_plainC q5).symm hK⟩
    simp only [execOp, ho, e1, Sem.run_bind, Instr.field, run_underlying q2, Result.andThen_ok, q3, asAgg, Sem.run_pure, run_partV q4]
  · -- index
    rename_i t x i ho
    obtain ⟨e1, _⟩ := kn (by simp [ho]) (by simp [ho]) x (by simp [ho, Op.operands])
    obtain ⟨e2, _⟩ := kn (by simp [ho]) (by simp [ho]) i (by simp [ho, Op.operands])
    split at h <;> try (simp at h; done)
    rename_i cs k m len e q1 q2 q3
    split at h <;> try (simp at h; done)
    rename_i u q4
    split at h <;> try (simp at h; done)
    rename_i q5
    simp only [Option.some.injEq, Eff.val.injEq] at h
    obtain ⟨rfl, rfl, rfl⟩ := h
    simp only [List.mem_cons, List.not_mem_nil, or_false, forall_eq_or_imp, forall_eq, ile, ilt, decide_eq_true_eq] at hb
    rw [q1, conc_agg] at e1
    rw [q2, conc_int] at e2
    have hz : (sizeOf e).run P w = .ok (sizeT P e) w := by
      unfold partV at q4
      split at q4
      · rename_i i' d hi hu; simp [sizeOf, typeInfo, sizeT, hi]
      · simp at q4
    refine ⟨wf_plainC q5, fun K Q hK => wp_done ?_ (conc_plainC q5).symm hK⟩
    simp only [execOp, ho, e1, e2, Sem.run_bind, Instr.index, asIntOf, Sem.run_pure, run_underlying q3, Result.andThen_ok, hb.1, hb.2, and_self, if_true, hz, run_partV q4]
  · -- indexAddr
    rename_i t x i ho
    obtain ⟨e1, wf⟩ := kn (by simp [ho]) (by simp [ho]) x (by simp [ho, Op.operands])
    obtain ⟨e2, _⟩ := kn (by simp [ho]) (by simp [ho]) i (by simp [ho, Op.operands])
    split at h <;> try (simp at h; done)
    rename_i n off k m len e q1 q2 q3
    split at h <;> try (simp at h; done)
    rename_i q4
    simp only [Option.some.injEq, Eff.val.injEq] at h
    obtain ⟨rfl, rfl, rfl⟩ := h
    simp only [List.mem_cons, List.not_mem_nil, or_false, forall_eq_or_imp, forall_eq, ile, ilt, decide_eq_true_eq] at hb
    rw [q1] at e1 wf
    have e1 : a.eval x = .pointer (some ⟨β n, off, none⟩) := e1
    rw [q2, conc_int] at e2
    obtain ⟨ie, q4⟩ := Option.isSome_iff_exists.1 q4
    have hz : (sizeOf e).run P w = .ok (sizeT P e) w := by simp [sizeOf, typeInfo, sizeT, q4]
    refine ⟨wf, fun K Q hK => wp_done (v := .pointer (some ⟨β n, off + m.toNat * sizeT P e, none⟩)) ?_ rfl hK⟩
    simp only [execOp, ho, e1, e2, Sem.run_bind, Instr.indexAt, asIntOf, Sem.run_pure, run_underlying q3, Result.andThen_ok, Instr.sureAddr, hb.1, hb.2, and_self, if_true, hz, Addr.add_lit]
  · simp at h
theorem effect_new (R : Rel base β s a w) {t : TypeId} {cells : List Value} (h : effect P O s o = some (.new t cells)) (hk : knownOf s o = true) :
    (execOp a.eval o).run P w = .ok (.value (.pointer (some ⟨w.heap.size, 0, none⟩))) (w.alloc (.cells cells.toArray t)) := by
  have kn : (∀ c u v, o.op ≠ .pick c u v) → (∀ c, o.op ≠ .call c) → ∀ x ∈ o.op.operands.toList, a.eval x = conc β (valOf s x) ∧ wfV s (valOf s x) :=
    fun hp hc x hx => R.eval x (known_all (o := o) hp hc hk hx)
  unfold effect at h
  split at h
  · simp at h
  · simp at h
  · split at h <;> simp at h
  · -- alloc
    rename_i t' ho
    split at h <;> try (simp at h; done)
    rename_i i hi
    split at h <;> try (simp at h; done)
    rename_i z hz
    split at h <;> try (simp at h; done)
    simp only [Option.some.injEq, Eff.new.injEq] at h
    obtain ⟨rfl, rfl⟩ := h
    simp [execOp, ho, Instr.alloc, zeroValue, typeInfo, hi, hz, newVar, newRow]
  · -- box
    rename_i t' x ho
    obtain ⟨e, _⟩ := kn (by simp [ho]) (by simp [ho]) x (by simp [ho, Op.operands])
    split at h <;> try (simp at h; done)
    rename_i hp
    simp only [Bool.and_eq_true] at hp
    simp only [Option.some.injEq, Eff.new.injEq] at h
    obtain ⟨rfl, rfl⟩ := h
    rw [conc_plainC hp.1] at e
    simp [execOp, ho, e, Instr.box, newVar, newRow]
  all_goals
    repeat' (split at h <;> try (simp at h; done))
  all_goals try (simp at h; done)
theorem effect_put (R : Rel base β s a w) {n : Nat} {cells : List Value} (h : effect P O s o = some (.put n cells)) (hk : knownOf s o = true) :
    (∃ old, s.mem n = some old) ∧ (execOp a.eval o).run P w = .ok .skip (w.setRow (β n) cells.toArray) := by
  have kn : (∀ c u v, o.op ≠ .pick c u v) → (∀ c, o.op ≠ .call c) → ∀ x ∈ o.op.operands.toList, a.eval x = conc β (valOf s x) ∧ wfV s (valOf s x) :=
    fun hp hc x hx => R.eval x (known_all (o := o) hp hc hk hx)
  unfold effect at h
  split at h
  · simp at h
  · simp at h
  · split at h <;> simp at h
  · split at h <;> try (simp at h; done)
    split at h <;> try (simp at h; done)
  · split at h <;> simp at h
  · repeat' (split at h <;> try (simp at h; done))
  · -- store
    rename_i t' x y ho
    obtain ⟨e1, _⟩ := kn (by simp [ho]) (by simp [ho]) x (by simp [ho, Op.operands])
    obtain ⟨e2, _⟩ := kn (by simp [ho]) (by simp [ho]) y (by simp [ho, Op.operands])
    split at h <;> try (simp at h; done)
    rename_i n' off q1
    split at h <;> try (simp at h; done)
    rename_i old q2
    split at h <;> try (simp at h; done)
    rename_i q3
    simp only [Bool.and_eq_true, beq_iff_eq, decide_eq_true_eq] at q3
    obtain ⟨⟨⟨⟨p1, p2⟩, p3⟩, p4⟩, p5⟩ := q3
    simp only [Option.some.injEq, Eff.put.injEq] at h
    obtain ⟨rfl, rfl⟩ := h
    obtain ⟨el, hg⟩ := (R.mem n' old q2).2
    rw [conc_plainC p1] at e2
    rw [q1] at e1
    have e1 : a.eval x = .pointer (some ⟨β n', off, none⟩) := e1
    refine ⟨⟨old, q2⟩, ?_⟩
    simp only [execOp, ho, e1, e2, Sem.run_bind, run_store_part (P := P) (β n') off el t' old (valOf s y) hg p2 p3 p4 p5]
    rfl
  all_goals
    repeat' (split at h <;> try (simp at h; done))
  all_goals try (simp at h; done)
theorem guard_sound (R : Rel base β s a w) {ops : Array Oper} {γ : Bool} (h : guardOf s ops.toList o = some γ) : Region.wanted o (yielded ops a.tmps) = γ := by
  unfold guardOf at h
  unfold Region.wanted
  split at h
  · rename_i hg
    simp only [Option.some.injEq] at h
    rw [hg]; exact h
  · rename_i j want hg
    rw [hg]
    simp only
    split at h <;> try (simp at h; done)
    rename_i d hd
    have hd : (ops[j]?).bind (·.dst) = some d := by simpa using hd
    unfold yielded
    rw [hd]
    split at h <;> try (simp at h; done)
    · rename_i b hs
      simp only [Option.some.injEq] at h
      have h1 := R.slots d _ hs rfl
      simp only [Option.bind_some, h1]
      subst h
      cases b <;> cases want <;> rfl
    · rename_i vs hs
      simp only [Option.some.injEq] at h
      have h1 := R.slots d _ hs rfl
      simp only [Option.bind_some, h1]
      subst h
      simp [conc]
theorem below_setRow (w : World) (g : Nat) (cs : Array Value) (base : Nat) (h : base ≤ g) : Below base w (w.setRow g cs) :=
  ⟨rfl, rfl, rfl, by simp [World.setRow], fun k hk => setRow_other w g k cs (by omega)⟩
theorem step_sound (hO : OSound P O) (R : Rel base β s a w) (hb : base ≤ w.heap.size) {ops : Array Oper} {i name : Nat} (ho : ops[i]? = some o) {d : Delta} (h : stepD P O ops.toList name o s = some d) (hok : (applyD o.dst d s).ok)
    {K : Act → World → Prop} {Q : Exit → Act → World → Prop} (hK : ∀ β' a' w', Rel base β' (applyD o.dst d s) a' w' → Below base w w' → K a' w') : wpOp P ops Q i K a w := by
  unfold wpOp
  rw [ho]
  simp only
  unfold stepD at h
  split at h <;> try (simp at h; done)
  · rename_i hγ
    rw [guard_sound R hγ]
    simp only [Option.some.injEq] at h
    subst h
    simp only [Bool.false_eq_true, if_false]
    exact hK β _ _ (R.put o.dst _ undef (fun _ => rfl) (fun _ => by simp [gnow, wfV, undef]) _) (Below.refl _ _)
  · rename_i hγ
    rw [guard_sound R hγ]
    simp only [if_true]
    refine Or.inl ?_
    split at h <;> try (simp at h; done)
    rename_i hk
    split at h <;> try (simp at h; done)
    · -- a value
      rename_i v b rd he
      simp only [Option.some.injEq] at h
      subst h
      simp only [applyD, conjL_iff] at hok
      obtain ⟨wf, W⟩ := effect_val hO R he hk hok.1
      refine W _ _ fun w' hbw => hK β _ _ ((R.below hbw).put o.dst _ _ (fun _ => rfl) (fun _ => wf) _) (hbw.mono hb)
    · -- a new block
      rename_i t cells he
      split at h <;> try (simp at h; done)
      rename_i hg
      simp only [Option.some.injEq] at h
      subst h
      have R' := R.alloc hb name hg t cells
      have fin : K (a.put o.dst (.pointer (some ⟨w.heap.size, 0, none⟩))) (w.alloc (.cells cells.toArray t)) := by
        refine hK _ _ _ (Rel.put R' o.dst (gnow (.pointer (some ⟨name, 0, none⟩))) _ (fun _ => ?_) (fun _ => ?_) _) ((Below.refl base w).alloc hb _)
        · simp [gnow, conc]
        · simp [gnow, wfV]
      unfold Oper.wp
      rw [effect_new R he hk]
      exact fin
    · -- a store
      rename_i n cells he
      simp only [Option.some.injEq] at h
      subst h
      obtain ⟨⟨old, hm⟩, hr⟩ := effect_put R he hk
      unfold Oper.wp
      rw [hr]
      have R' := R.store n old cells hm
      exact hK _ _ _ (Rel.put R' o.dst (gnow undef) undef (fun _ => by simp [gnow, conc, undef]) (fun _ => by simp [gnow, wfV, undef]) _) (below_setRow _ _ _ _ (R.mem n old hm).1)
end
end Go.Proofs.YtpjhdjakpbabhaaGreatDoor.PR
namespace Go.Proofs.YtpjhdjakpbabhaaGreatDoor.PR
open Go.RowKit
set_option linter.unusedVariables false
set_option linter.unusedSimpArgs false
section
variable {P : Program} {O : Oracle} {ops : List Oper}
theorem operand_congr {s s' : PSt} {o : Oper} (h : ∀ t ∈ looks ops o, s'.tmps[t]? = s.tmps[t]?) {x : Operand} (hx : x ∈ o.op.operands.toList) : operand s' x = operand s x := by
  cases x with
  | tmp t =>
    have : s'.tmps[t]? = s.tmps[t]? := h t (by
      unfold looks
      refine List.mem_append_left _ (List.mem_filterMap.2 ⟨_, hx, rfl⟩))
    simp [operand, List.getD, this]
  | _ => rfl
theorem guard_congr {s s' : PSt} {o : Oper} (h : ∀ t ∈ looks ops o, s'.tmps[t]? = s.tmps[t]?) : guardOf s' ops o = guardOf s ops o := by
  unfold guardOf
  split
  · rfl
  · rename_i j want hg
    split
    · rename_i d hd
      rw [h d (by unfold looks; rw [hg]; simp only; rw [hd]; exact List.mem_append_right _ (by simp))]
    · rfl
theorem known_congr {s s' : PSt} {o : Oper} (h : ∀ t ∈ looks ops o, s'.tmps[t]? = s.tmps[t]?) : knownOf s' o = knownOf s o := by
  have hv : ∀ x ∈ o.op.operands.toList, operand s' x = operand s x := fun x hx => operand_congr h hx
  unfold knownOf
  split
  · rename_i c a b ho
    rw [ho] at hv
    unfold valOf
    rw [hv c (by simp [Op.operands]), hv a (by simp [Op.operands]), hv b (by simp [Op.operands])]
  · rename_i c ho
    rw [ho] at hv
    rw [List.map_congr_left fun x hx => hv x (by
      simp only [Op.operands, Call.operands, Array.toList_append]
      exact List.mem_append_right _ hx)]
  · rw [List.map_congr_left hv]
def Eff.rd : Eff → Option Nat
  | .val _ _ r => r
  | .new _ _ => none
  | .put n _ => some n
theorem effect_congr {s s' : PSt} {o : Oper} {e : Eff} (h : ∀ t ∈ looks ops o, s'.tmps[t]? = s.tmps[t]?) (he : effect P O s o = some e) (hm : ∀ n, e.rd = some n → s'.mem n = s.mem n) : effect P O s' o = some e := by
  have hv : ∀ x ∈ o.op.operands.toList, valOf s' x = valOf s x := fun x hx => by unfold valOf; rw [operand_congr h hx]
  unfold effect at he ⊢
  split at he
  all_goals first
    | (rename_i ho
       rw [ho] at hv
       simp only [Op.operands] at hv)
    | (simp at he; done)
  · rw [hv _ (by simp)]; exact he
  · rw [hv _ (by simp)]; exact he
  · rename_i c x y; rw [hv c (by simp), hv x (by simp), hv y (by simp)]; exact he
  · exact he
  · rw [hv _ (by simp)]; exact he
  · rename_i t x
    rw [hv x (by simp)]
    split at he <;> try (simp at he; done)
    rename_i n off q1
    cases hq : s.mem n with
    | none => simp [hq] at he
    | some cells =>
      rw [hq] at he
      have hr : e.rd = some n := by
        simp only at he
        split at he
        · split at he <;> try (simp at he; done)
          simp only [Option.some.injEq] at he; subst he; rfl
        · split at he <;> try (simp at he; done)
          split at he <;> try (simp at he; done)
          simp only [Option.some.injEq] at he; subst he; rfl
      rw [hm n hr, hq]
      exact he
  · rename_i t x y
    rw [hv x (by simp), hv y (by simp)]
    split at he <;> try (simp at he; done)
    rename_i n off q1
    cases hq : s.mem n with
    | none => simp [hq] at he
    | some cells =>
      rw [hq] at he
      have hr : e.rd = some n := by
        simp only at he
        split at he <;> try (simp at he; done)
        simp only [Option.some.injEq] at he; subst he; rfl
      rw [hm n hr, hq]
      exact he
  · rename_i op t x y yt; rw [hv x (by simp), hv y (by simp)]; exact he
  · rw [hv _ (by simp)]; exact he
  · rw [hv _ (by simp)]; exact he
  · rw [hv _ (by simp)]; exact he
  · rw [hv _ (by simp)]; exact he
  · rename_i c
    have hw : c.args.toList.map (valOf s') = c.args.toList.map (valOf s) := List.map_congr_left fun x hx => hv x (by
      simp only [Call.operands, Array.toList_append]
      exact List.mem_append_right _ hx)
    have hc : ∀ cal, c.callee = cal → calleeOf s' cal = calleeOf s cal := by
      intro cal e
      subst e
      unfold calleeOf
      split
      · rename_i x hx
        rw [operand_congr h (x := x) (by rw [ho]; simp [Op.operands, Call.operands, hx])]
      · rfl
    rw [hw]
    split at he
    · exact he
    · exact he
    · rw [hc _ rfl]
      exact he
  · rename_i t parts
    have e1 : (parts.toList.map fun p => valOf s' p.2) = parts.toList.map fun p => valOf s p.2 := List.map_congr_left fun p hp => hv p.2 (List.mem_map_of_mem hp)
    have e2 : (parts.toList.map fun p => (p.1, valOf s' p.2)) = parts.toList.map fun p => (p.1, valOf s p.2) := List.map_congr_left fun p hp => by rw [hv p.2 (List.mem_map_of_mem hp)]
    rw [e1, e2]; exact he
  · rw [hv _ (by simp)]; exact he
  · rename_i t x i; rw [hv x (by simp), hv i (by simp)]; exact he
  · rename_i t x i; rw [hv x (by simp), hv i (by simp)]; exact he
theorem stepD_congr {s s' : PSt} {o : Oper} {name : Nat} {d : Delta} (h : ∀ t ∈ looks ops o, s'.tmps[t]? = s.tmps[t]?) (hd : stepD P O ops name o s = some d)
    (hr : ∀ n, d.rd = some n → s'.mem n = s.mem n) (hu : ∀ n x, d.up = some (n, x) → s'.mem n = s.mem n) : stepD P O ops name o s' = some d := by
  unfold stepD at hd ⊢
  rw [guard_congr h, known_congr h]
  split at hd <;> try (simp at hd; done)
  · exact hd
  · split at hd <;> try (simp at hd; done)
    rename_i hk
    rw [if_pos hk]
    split at hd <;> try (simp at hd; done)
    · rename_i v b rd he
      simp only [Option.some.injEq] at hd
      subst hd
      rw [effect_congr h he (fun n hn => hr n hn)]
    · rename_i t cells he
      split at hd <;> try (simp at hd; done)
      rename_i hg
      simp only [Option.some.injEq] at hd
      subst hd
      rw [effect_congr h he (fun n hn => by simp [Eff.rd] at hn)]
      simp only
      rw [hu name _ rfl, if_pos hg]
    · rename_i n cells he
      simp only [Option.some.injEq] at hd
      subst hd
      rw [effect_congr h he (fun m hm => by simp only [Eff.rd, Option.some.injEq] at hm; subst hm; exact hu _ _ rfl)]
theorem setTmp_other {l : List GV} {dst : Option Tmp} {g : GV} {t : Tmp} (h : ∀ d, dst = some d → t ≠ d) : (setTmp l dst g)[t]? = l[t]? := by
  cases dst with
  | none => rfl
  | some d => simp only [setTmp, List.getElem?_set]; rw [if_neg (fun e => h d rfl e.symm)]
theorem setTmp_comm {l : List GV} {x y : Option Tmp} {g k : GV} (h : ∀ d e, x = some d → y = some e → d ≠ e) : setTmp (setTmp l x g) y k = setTmp (setTmp l y k) x g := by
  cases x with
  | none => rfl
  | some d => cases y with
    | none => rfl
    | some e => exact List.set_comm _ _ (h d e rfl rfl)
theorem applyM_other {m : Nat → Option (List Value)} {u : Option (Nat × List Value)} {n : Nat} (h : ∀ k x, u = some (k, x) → n ≠ k) : applyM m u n = m n := by
  cases u with
  | none => rfl
  | some p => obtain ⟨k, x⟩ := p; simp only [applyM]; rw [if_neg (h k x rfl)]
theorem applyM_comm {m : Nat → Option (List Value)} {u v : Option (Nat × List Value)} (h : ∀ n x k y, u = some (n, x) → v = some (k, y) → n ≠ k) : applyM (applyM m u) v = applyM (applyM m v) u := by
  cases u with
  | none => rfl
  | some p => cases v with
    | none => rfl
    | some q =>
      obtain ⟨n, x⟩ := p; obtain ⟨k, y⟩ := q
      have := h n x k y rfl rfl
      clear h
      funext j
      simp only [applyM]
      by_cases e1 : j = n <;> by_cases e2 : j = k <;> simp_all
theorem apart_spec {lx ly : List Tmp} {dx dy : Option Tmp} (h : apart lx ly dx dy = true) : (∀ d, dx = some d → ∀ t ∈ ly, t ≠ d) ∧ (∀ d e, dx = some d → dy = some e → d ≠ e) ∧ (∀ d, dy = some d → ∀ t ∈ lx, t ≠ d) := by
  unfold apart at h
  simp only [Bool.and_eq_true] at h
  obtain ⟨h1, h2⟩ := h
  refine ⟨?_, ?_, ?_⟩
  · intro d e t ht
    subst e
    simp only [Bool.and_eq_true, Bool.not_eq_true', List.any_eq_false, Nat.beq_eq] at h1
    exact h1.1 t ht
  · intro d e e1 e2
    subst e1 e2
    simp only [Bool.and_eq_true, Bool.not_eq_true'] at h1
    intro hc; subst hc
    simp at h1
  · intro d e t ht
    subst e
    simp only [Bool.not_eq_true', List.any_eq_false, Nat.beq_eq] at h2
    exact h2 t ht
theorem step_comm {s : PSt} {x y : Oper} {nx ny : Nat} {dx dy : Delta} (hap : apart (looks ops x) (looks ops y) x.dst y.dst = true) (hcf : dx.conf dy = false)
    (h1 : stepD P O ops nx x s = some dx) (h2 : stepD P O ops ny y (applyD x.dst dx s) = some dy) :
    stepD P O ops ny y s = some dy ∧ stepD P O ops nx x (applyD y.dst dy s) = some dx ∧ applyD x.dst dx (applyD y.dst dy s) = applyD y.dst dy (applyD x.dst dx s) := by
  obtain ⟨a1, a2, a3⟩ := apart_spec hap
  unfold Delta.conf at hcf
  simp only [Bool.or_eq_false_iff] at hcf
  obtain ⟨c1, c2⟩ := hcf
  have u1 : ∀ n p, dx.up = some (n, p) → dy.rd ≠ some n := fun n p e => by rw [e] at c1; simp at c1; exact c1.1
  have u2 : ∀ n p, dy.up = some (n, p) → dx.rd ≠ some n := fun n p e => by rw [e] at c2; simp at c2; exact c2
  have u3 : ∀ n p k q, dx.up = some (n, p) → dy.up = some (k, q) → n ≠ k := fun n p k q e e' => by rw [e, e'] at c1; simp at c1; exact c1.2
  refine ⟨?_, ?_, ?_⟩
  · refine stepD_congr (s := applyD x.dst dx s) (fun t ht => ?_) h2 (fun n hn => ?_) (fun n p hp => ?_)
    · exact (setTmp_other fun d hd => a1 d hd t ht).symm
    · exact (applyM_other fun k q hk e => u1 k q hk (by rw [hn, e])).symm
    · exact (applyM_other fun k q hk e => u3 k q n p hk hp e.symm).symm
  · refine stepD_congr (s := s) (fun t ht => ?_) h1 (fun n hn => ?_) (fun n p hp => ?_)
    · exact setTmp_other fun d hd => a3 d hd t ht
    · exact applyM_other fun k q hk e => u2 k q hk (by rw [hn, e])
    · exact applyM_other fun k q hk e => u3 n p k q hp hk e
  · unfold applyD
    rw [setTmp_comm (x := y.dst) (y := x.dst) (fun d e hd he => fun h => a2 e d he hd h.symm), applyM_comm (u := dy.up) (v := dx.up) (fun n p k q hn hk => fun h => u3 k q n p hk hn h.symm)]
    have e : conjL dx.ok (conjL dy.ok s.ok) = conjL dy.ok (conjL dx.ok s.ok) := propext (by simp only [conjL_iff]; exact and_left_comm)
    rw [e]
inductive RunL (P : Program) (O : Oracle) (ops : List Oper) (nm : Nat) (D : Nat → Delta) : List Nat → PSt → PSt → Prop
  | nil (s : PSt) : RunL P O ops nm D [] s s
  | cons {i : Nat} {l : List Nat} {s s' : PSt} {o : Oper} (ho : ops[i]? = some o) (h : stepD P O ops (nm + i) o s = some (D i)) (t : RunL P O ops nm D l (applyD o.dst (D i) s) s') : RunL P O ops nm D (i :: l) s s'
theorem RunL.ok {nm : Nat} {D : Nat → Delta} {l : List Nat} {s s' : PSt} (h : RunL P O ops nm D l s s') : s'.ok → s.ok := by
  induction h with
  | nil => exact id
  | cons ho h t ih => intro hk; have := ih hk; simp only [applyD, conjL_iff] at this; exact this.2
def Free (ops : List Oper) (D : Nat → Delta) (a i : Nat) : Prop := ∀ x y, ops[a]? = some x → ops[i]? = some y → apart (looks ops x) (looks ops y) x.dst y.dst = true ∧ (D a).conf (D i) = false
theorem RunL.pull {nm : Nat} {D : Nat → Delta} {i : Nat} : ∀ (l : List Nat) (s s' : PSt), l.Pairwise (· < ·) → i ∈ l → (∀ a ∈ l, a < i → Free ops D a i) → RunL P O ops nm D l s s' → RunL P O ops nm D (i :: l.filter (· != i)) s s'
  | [], s, s', _, hi, _, _ => by simp at hi
  | r :: l, s, s', hp, hi, hf, h => by
    cases h with
    | cons ho h1 t =>
      rename_i x
      by_cases e : r = i
      · subst e
        have hl : l.filter (· != r) = l := by
          rw [List.filter_eq_self]
          intro a ha
          have := (List.pairwise_cons.1 hp).1 a ha
          simp; omega
        simp only [List.filter_cons, bne_self_eq_false, Bool.false_eq_true, if_false, hl]
        exact .cons ho h1 t
      · have hil : i ∈ l := by simpa [Ne.symm e] using hi
        have hri : r < i := (List.pairwise_cons.1 hp).1 i hil
        have ih := RunL.pull l _ _ (List.pairwise_cons.1 hp).2 hil (fun a ha hlt => hf a (by simp [ha]) hlt) t
        have hne : (r != i) = true := by simpa using e
        simp only [List.filter_cons, hne, if_true]
        cases ih with
        | cons ho2 h2 t2 =>
          rename_i y
          obtain ⟨ap, cf⟩ := hf r (by simp) hri x y ho ho2
          obtain ⟨k1, k2, k3⟩ := step_comm ap cf h1 h2
          refine .cons ho2 k1 (.cons ho k2 ?_)
          rw [k3]
          exact t2
theorem bcond_iff {b : Bool} {p q : Prop} : bcond b p q ↔ (b = true → p) ∧ (b = false → q) := by cases b <;> simp [bcond]
theorem bindC_elim : ∀ (l : List Value) (k : List Value → Prop), bindC l k → k l := by
  intro l
  induction l with
  | nil => intro k h; exact h
  | cons v l ih =>
    intro k h
    cases v
    case int kd n => exact ih (fun l' => k (.int kd n :: l')) (h n rfl)
    all_goals exact ih (fun l' => k (_ :: l')) h
theorem bindL_elim : ∀ (l : List Value) (k : List Value → Prop), bindL l k → k l := by
  intro l
  induction l with
  | nil => intro k h; exact h
  | cons v l ih =>
    intro k h
    cases v
    case int kd n => exact ih (fun l' => k (.int kd n :: l')) (h n rfl)
    case agg a =>
      obtain ⟨cs⟩ := a
      exact ih (fun l' => k (.agg ⟨cs⟩ :: l')) (bindC_elim cs (fun cs' => bindL l fun l' => k (.agg ⟨cs'⟩ :: l')) h)
    all_goals exact ih (fun l' => k (_ :: l')) h
theorem bindV_elim {v : Value} {k : Value → Prop} (h : bindV v k) : k v := by
  unfold bindV at h
  split at h
  · exact h _ rfl
  · exact bindC_elim _ _ h
  · exact bindL_elim _ _ h
  · exact h
theorem caseIx_elim : ∀ (n j : Nat) (m : Int) (k : Nat → Prop), caseIx m j n k → ∃ i : Nat, m = i ∧ k i
  | 0, _, _, _, h => h.elim
  | n + 1, j, m, k, h => by
    unfold caseIx at h
    rw [bcond_iff] at h
    cases e : ieq m j
    · exact caseIx_elim n (j + 1) m k (h.2 e)
    · exact ⟨j, by simpa [ieq] using e, h.1 e⟩
theorem stepD_ix {md : Bool} {s : PSt} {o : Oper} {nm : Nat} {kd : IntKind} {m : Int} {len : Nat} (h : ixOf P ops md s o = some (kd, m, len)) {j : Nat} (hj : m = j) : stepD P O ops nm (withIx o kd j) s = stepD P O ops nm o s := by
  subst hj
  unfold ixOf at h
  cases hc : (md && runsB (guardOf s ops o))
  · rw [hc] at h; simp at h
  rw [hc] at h
  simp only [cond_true] at h
  have cv : (operand s (.const (.int kd (j : Int)))) = gnow (.int kd j) := rfl
  split at h <;> try (simp at h; done)
  all_goals
    rename_i t x i ho
    split at h <;> try (simp at h; done)
    rename_i k m' l e hv hu
    cases hk : (operand s i).k
    · simp [hk] at h
    rw [hk] at h
    simp only [cond_true, Option.some.injEq, Prod.mk.injEq] at h
    obtain ⟨rfl, rfl, rfl⟩ := h
    have hv' : valOf s (.const (.int k (j : Int))) = valOf s i := by rw [hv]; rfl
    have hw : withIx o k j = { o with op := (withIx o k j).op } := by unfold withIx; rw [ho]
    have g : guardOf s ops (withIx o k j) = guardOf s ops o := by unfold guardOf withIx; rw [ho]
    have kn : knownOf s (withIx o k j) = knownOf s o := by
      unfold knownOf withIx
      simp only [ho]
      simp only [Op.operands, List.map_cons, List.map_nil, allOf, cv, hk, gnow]
    have ef : effect P O s (withIx o k j) = effect P O s o := by
      unfold effect withIx
      simp only [ho, hv']
    unfold stepD
    rw [g, kn, ef]
theorem runOps_run {src : List Nat} {nm : Nat} {md : Bool} {k : PSt → List Delta → Prop} : ∀ (rest : List Oper) (i : Nat) (s : PSt) (ds : List Delta) (lits : List Tmp), (∀ j o, rest[j]? = some o → ops[i + j]? = some o) → ds.length = i →
    runOps P O ops src nm md i rest s ds lits k → ∃ (s' : PSt) (es : List Delta) (l : List Tmp), k ⟨s'.tmps, s'.mem, s'.ok, l⟩ (ds.reverse ++ es) ∧ es.length = rest.length ∧ ∀ D : Nat → Delta, (∀ j d, es[j]? = some d → D (i + j) = d) → RunL P O ops nm D (List.range' i rest.length) s s'
  | [], i, s, ds, lits, _, _, h => ⟨s, [], lits, by simpa [runOps] using h, rfl, fun D _ => .nil _⟩
  | o :: rest, i, s, ds, lits, ho, hl, h => by
    have go0 : ∀ d, stepD P O ops (nm + i) o s = some d → ∀ (e : Delta) (lits' : List Tmp), e = d → runOps P O ops src nm md (i + 1) rest (applyD o.dst e s) (e :: ds) lits' k → ∃ (s' : PSt) (es : List Delta) (l : List Tmp), k ⟨s'.tmps, s'.mem, s'.ok, l⟩ (ds.reverse ++ es) ∧ es.length = (o :: rest).length ∧ ∀ D : Nat → Delta, (∀ j d, es[j]? = some d → D (i + j) = d) → RunL P O ops nm D (List.range' i (o :: rest).length) s s' := by
      intro d hd e lits' he hrun
      subst he
      obtain ⟨s', es, l, h1, h2, h3⟩ := runOps_run rest (i + 1) _ _ _ (fun j x hx => by rw [Nat.add_assoc, Nat.add_comm 1 j]; exact ho (j + 1) x (by simpa using hx)) (by simp [hl]) hrun
      refine ⟨s', e :: es, l, by simpa using h1, by simp [h2], fun D hD => ?_⟩
      have e0 : D i = e := hD 0 e rfl
      rw [List.length_cons, List.range'_succ]
      exact .cons (ho 0 o rfl) (by rw [e0]; exact hd) (by rw [e0]; exact h3 D (fun j d hj => by rw [Nat.add_assoc, Nat.add_comm 1 j]; exact hD (j + 1) d (by simpa using hj)))
    unfold runOps at h
    split at h
    · rename_i kd m len hix
      obtain ⟨j, hj, h⟩ := caseIx_elim _ _ _ _ h
      split at h <;> try (exact h.elim)
      rename_i d hd
      rw [stepD_ix hix hj] at hd
      exact go0 d hd d _ rfl h
    split at h <;> try (exact h.elim)
    rename_i d hd
    have go := go0 d hd
    split at h
    · split at h <;> try (exact h.elim)
      · rename_i x hx
        rw [bcond_iff] at h
        have hk : d.g.k = true := by
          unfold stepD at hd
          split at hd <;> try (simp at hd; done)
          · simp only [Option.some.injEq] at hd; subst hd; rfl
          · split at hd <;> try (simp at hd; done)
            split at hd <;> try (simp at hd; done)
            · simp only [Option.some.injEq] at hd; subst hd; rfl
            · split at hd <;> try (simp at hd; done)
              simp only [Option.some.injEq] at hd; subst hd; rfl
            · simp only [Option.some.injEq] at hd; subst hd; rfl
        have same : ∀ b, x = b → (⟨gnow (.bool b), d.up, d.ok, d.rd⟩ : Delta) = d := by
          intro b hb
          subst hb
          obtain ⟨⟨k0, v0⟩, up, ok, rd⟩ := d
          simp only at hx hk
          subst hx hk
          rfl
        cases hb : x
        · exact go _ _ (same _ hb) (h.2 hb)
        · exact go _ _ (same _ hb) (h.1 hb)
      · exact go d _ rfl h
    · cases hm : (md && isCall o)
      · rw [hm] at h
        exact go d _ rfl h
      · rw [hm] at h
        exact go d _ rfl (bindV_elim h)
end
end Go.Proofs.YtpjhdjakpbabhaaGreatDoor.PR
namespace Go.Proofs.YtpjhdjakpbabhaaGreatDoor.PR
open Go.RowKit
set_option linter.unusedVariables false
set_option linter.unusedSimpArgs false
theorem maskOf_bit {tab : List Nat} {a : Nat} : ∀ {ds : List Nat}, Nat.testBit (maskOf tab ds) a = true → ∃ d ∈ ds, a = d ∨ Nat.testBit (tab.getD d 0) a = true
  | [], h => by simp [maskOf] at h
  | d :: ds, h => by
    unfold maskOf at h
    have h : Nat.testBit ((1 <<< d ||| tab.getD d 0) ||| maskOf tab ds) a = true := h
    rw [Nat.testBit_or, Nat.testBit_or, Bool.or_eq_true, Bool.or_eq_true] at h
    rcases h with (h | h) | h
    · refine ⟨d, by simp, Or.inl ?_⟩
      rw [Nat.shiftLeft_eq, Nat.one_mul, Nat.testBit_two_pow] at h
      simp at h; exact h.symm
    · exact ⟨d, by simp, Or.inr h⟩
    · obtain ⟨e, he, h⟩ := maskOf_bit h
      exact ⟨e, by simp [he], h⟩
section
variable {ops : List Oper}
theorem masks_spec {L : Nat → Prop} (hc : ∀ (j : Nat) (o : Oper), ops[j]? = some o → L j → ∀ d ∈ deps o, L d) :
    ∀ (rest : List Oper) (tab : List Nat), (∀ k o, rest[k]? = some o → ops[tab.length + k]? = some o) → (tab.length + rest.length = ops.length) →
      (∀ (j : Nat) (o : Oper), j < tab.length → ops[j]? = some o → (∀ d ∈ deps o, L d) → ∀ a, Nat.testBit (tab.getD j 0) a = true → L a) →
      ∀ (j : Nat) (o : Oper), ops[j]? = some o → (∀ d ∈ deps o, L d) → ∀ a, Nat.testBit ((masks tab rest).getD j 0) a = true → L a
  | [], tab, _, hl, h, j, o, ho => h j o (by
      have := (List.getElem?_eq_some_iff.1 ho).1
      simp at hl; omega) ho
  | x :: rest, tab, hx, hl, h, j, o, ho => by
    unfold masks
    refine masks_spec hc rest _ (fun k o hk => ?_) (by simp at hl ⊢; omega) (fun j o hj ho hd a ha => ?_) j o ho
    · have := hx (k + 1) o (by simpa using hk)
      rw [List.length_append, List.length_singleton, Nat.add_assoc, Nat.add_comm 1 k]; exact this
    · by_cases e : j < tab.length
      · rw [List.getD_eq_getElem?_getD, List.getElem?_append_left e, ← List.getD_eq_getElem?_getD] at ha
        exact h j o e ho hd a ha
      · have e : j = tab.length := by simp at hj; omega
        subst e
        rw [List.getD_eq_getElem?_getD, List.getElem?_concat_length] at ha
        have hox : ops[tab.length]? = some x := hx 0 x rfl
        rw [ho] at hox
        obtain rfl : o = x := by simpa using hox
        obtain ⟨d, hdm, hd'⟩ := maskOf_bit ha
        rcases hd' with rfl | hb
        · exact hd _ hdm
        · by_cases hlt : d < tab.length
          · obtain ⟨od, hod⟩ : ∃ od, ops[d]? = some od := ⟨_, List.getElem?_eq_getElem (by omega)⟩
            exact h d od hlt hod (hc d od hod (hd d hdm)) a hb
          · rw [List.getD_eq_getElem?_getD, List.getElem?_eq_none (by omega)] at hb
            simp at hb
theorem masks_length : ∀ (rest : List Oper) (tab : List Nat), (masks tab rest).length = tab.length + rest.length
  | [], tab => rfl
  | x :: rest, tab => by unfold masks; rw [masks_length]; simp; omega
theorem aheadOf_spec {m : Nat} {y : Row} : ∀ (l : List Row) (i : Nat), aheadOf m y i l = true → ∀ k x, l[k]? = some x → Nat.testBit m (i + k) = true ∨ (apart x.looks y.looks x.dst y.dst = true ∧ x.d.conf y.d = false)
  | [], i, _, k, x, hx => by simp at hx
  | z :: l, i, h, k, x, hx => by
    unfold aheadOf at h
    simp only [Bool.and_eq_true, Bool.or_eq_true, Bool.not_eq_true'] at h
    cases k with
    | zero => simp at hx; subst hx; exact h.1
    | succ k =>
      have := aheadOf_spec l (i + 1) h.2 k x (by simpa using hx)
      rw [Nat.add_assoc, Nat.add_comm 1 k] at this
      exact this
theorem anyOrder_spec : ∀ (ys : List Row) (ms : List Nat) (done : List Row), anyOrder done ms ys = true → ∀ j y m, ys[j]? = some y → ms[j]? = some m →
      ∀ i x, (done ++ ys)[i]? = some x → i < done.length + j → Nat.testBit m i = true ∨ (apart x.looks y.looks x.dst y.dst = true ∧ x.d.conf y.d = false)
  | [], ms, done, _, j, y, m, hy, _, _, _, _, _ => by simp at hy
  | z :: ys, [], done, _, j, y, m, _, hm, _, _, _, _ => by simp at hm
  | z :: ys, n :: ms, done, h, j, y, m, hy, hm, i, x, hx, hlt => by
    unfold anyOrder at h
    simp only [Bool.and_eq_true] at h
    cases j with
    | zero =>
      simp at hy hm; subst hy hm
      rw [List.getElem?_append_left (by omega)] at hx
      have := aheadOf_spec done 0 h.1 i x hx
      simpa using this
    | succ j =>
      refine anyOrder_spec ys ms (done ++ [z]) h.2 j y m (by simpa using hy) (by simpa using hm) i x ?_ (by simp; omega)
      simpa using hx
theorem rowsOf_get {all : List Oper} : ∀ (os : List Oper) (ds : List Delta) (j : Nat) (o : Oper) (d : Delta), os[j]? = some o → ds[j]? = some d → (rowsOf all os ds)[j]? = some ⟨o.dst, looks all o, d⟩
  | [], ds, j, o, d, h, _ => by simp at h
  | x :: os, [], j, o, d, _, h => by simp at h
  | x :: os, e :: ds, j, o, d, h, k => by
    cases j with
    | zero => simp at h k; subst h k; rfl
    | succ j =>
      simp at h k
      simp only [rowsOf, List.getElem?_cons_succ]
      exact rowsOf_get os ds j o d h k
theorem depsBack_spec : ∀ (os : List Oper) (i : Nat), depsBack i os = true → ∀ j o, os[j]? = some o → ∀ d ∈ deps o, d < i + j
  | [], i, _, j, o, h => by simp at h
  | x :: os, i, h, j, o, ho => by
    unfold depsBack at h
    simp only [Bool.and_eq_true] at h
    cases j with
    | zero =>
      simp at ho; subst ho
      intro d hd
      have := List.all_eq_true.1 h.1 d hd
      simpa [Nat.blt_eq] using this
    | succ j =>
      intro d hd
      have := depsBack_spec os (i + 1) h.2 j o (by simpa using ho) d hd
      omega
end
section
variable {P : Program} {O : Oracle} {base : Nat} {β : Nat → Nat} {ops : Array Oper} {Q : Exit → Act → World → Prop}
theorem gd (l : Array Bool) (i : Nat) (b : Bool) (h : i < l.size) : l.getD i b = l[i] := by simp [Array.getD, h]
theorem gs (l : Array Bool) (i j : Nat) (b : Bool) (h : j < l.size) : (l.setIfInBounds i true).getD j b = if i = j then true else l[j] := by
  rw [gd _ _ _ (by simpa using h), Array.getElem_setIfInBounds]
theorem region_any (hO : OSound P O) (nm : Nat) (D : Nat → Delta) (s' : PSt) (hok : s'.ok)
    (hfree : ∀ L : Nat → Prop, (∀ (j : Nat) (o : Oper), ops.toList[j]? = some o → L j → ∀ d ∈ deps o, L d) → ∀ (i : Nat) (o : Oper), ops.toList[i]? = some o → (∀ d ∈ deps o, L d) → ∀ a, a < i → ¬ L a → Free ops.toList D a i)
    (hback : ∀ (i : Nat) (o : Oper), ops.toList[i]? = some o → ∀ d ∈ deps o, d < i) (w0 : World) (hQ : ∀ β' a' w', Rel base β' s' a' w' → Below base w0 w' → Q .normal a' w') :
    ∀ (fuel : Nat) (listed : Array Bool) (β : Nat → Nat) (s : PSt) (a : Act) (w : World), listed.size = ops.size →
      (∀ (j : Nat) (o : Oper), ops.toList[j]? = some o → listed.getD j false = true → ∀ d ∈ deps o, listed.getD d false = true) →
      ((List.range ops.size).filter fun i => !listed.getD i true).length ≤ fuel →
      RunL P O ops.toList nm D ((List.range ops.size).filter fun i => !listed.getD i true) s s' → Rel base β s a w → base ≤ w.heap.size → Below base w0 w → wpAny P .any ops Q fuel listed a w := by
  intro fuel
  induction fuel with
  | zero =>
    intro listed β s a w hsz hcl hlen hrun R hb hbel
    have hnil : ((List.range ops.size).filter fun i => !listed.getD i true) = [] := List.eq_nil_of_length_eq_zero (by omega)
    rw [hnil] at hrun
    cases hrun
    refine ⟨?_, hQ _ _ _ R hbel⟩
    rw [List.eq_nil_iff_forall_not_mem]
    intro i hi
    unfold Region.ready at hi
    simp only [List.mem_filter, Bool.and_eq_true] at hi
    have : i ∈ ((List.range ops.size).filter fun i => !listed.getD i true) := List.mem_filter.2 ⟨hi.1, hi.2.1⟩
    rw [hnil] at this
    simp at this
  | succ fuel ih =>
    intro listed β s a w hsz hcl hlen hrun R hb hbel
    refine ⟨fun hr => ?_, fun i hi => ?_⟩
    · -- nothing is ready: everything has come up
      cases hl : ((List.range ops.size).filter fun i => !listed.getD i true) with
      | nil => rw [hl] at hrun; cases hrun; exact hQ _ _ _ R hbel
      | cons r rest =>
        exfalso
        have hpw : ((List.range ops.size).filter fun i => !listed.getD i true).Pairwise (· < ·) := List.Pairwise.filter _ List.pairwise_lt_range
        rw [hl] at hpw
        have hr0 : r ∈ ((List.range ops.size).filter fun i => !listed.getD i true) := by rw [hl]; simp
        have hrm := List.mem_filter.1 hr0
        have hrn : r < ops.size := List.mem_range.1 hrm.1
        have hor : ops[r]? = some ops[r] := Array.getElem?_eq_getElem hrn
        have : r ∈ Region.ready .any ops listed := by
          unfold Region.ready
          refine List.mem_filter.2 ⟨hrm.1, ?_⟩
          rw [hor]
          simp only [hrm.2, Bool.true_and, Option.map_some, Option.getD_some]
          rw [Array.all_eq_true_iff_forall_mem]
          intro e he
          by_cases hbd : Region.binds .any e = true
          · have hd : e.on ∈ deps ops[r] := by
              unfold deps
              exact List.mem_filterMap.2 ⟨e, by simpa using he, by simp [hbd]⟩
            have hlt := hback r ops[r] (by simp) e.on hd
            have : e.on ∉ ((List.range ops.size).filter fun i => !listed.getD i true) := by
              rw [hl]
              intro hm
              rcases List.mem_cons.1 hm with h | h
              · omega
              · have := (List.pairwise_cons.1 hpw).1 _ h; omega
            have h2 : ¬ (!listed.getD e.on true) = true := fun h => this (List.mem_filter.2 ⟨List.mem_range.2 (by omega), h⟩)
            have hz : e.on < listed.size := by omega
            rw [gd _ _ _ hz] at h2 ⊢
            have h2 : listed[e.on] = true := by cases hq : listed[e.on] <;> simp [hq] at h2 ⊢
            simp [h2]
          · simp [hbd]
        rw [hr] at this
        simp at this
    · unfold Region.ready at hi
      have hi := List.mem_filter.1 hi
      have hin : i < ops.size := List.mem_range.1 hi.1
      have hoi : ops[i]? = some ops[i] := Array.getElem?_eq_getElem hin
      obtain ⟨hi1, hi2⟩ := hi
      rw [hoi] at hi2
      simp only [Option.map_some, Option.getD_some, Bool.and_eq_true] at hi2
      have hmem : i ∈ ((List.range ops.size).filter fun i => !listed.getD i true) := List.mem_filter.2 ⟨hi1, hi2.1⟩
      have hdl : ∀ d ∈ deps ops[i], listed.getD d false = true := by
        intro d hd
        unfold deps at hd
        obtain ⟨e, he, hed⟩ := List.mem_filterMap.1 hd
        split at hed <;> try (simp at hed; done)
        rename_i hbd
        simp only [Option.some.injEq] at hed
        subst hed
        have := (Array.all_eq_true_iff_forall_mem.1 hi2.2) e (by simpa using he)
        simpa [hbd] using this
      have hpw : ((List.range ops.size).filter fun i => !listed.getD i true).Pairwise (· < ·) := List.Pairwise.filter _ List.pairwise_lt_range
      have hp := RunL.pull (i := i) _ _ _ hpw hmem (fun b hbm hlt => by
        refine hfree (fun j => listed.getD j false = true) hcl i ops[i] (by simp) hdl b hlt ?_
        have hbm := List.mem_filter.1 hbm
        have hz : b < listed.size := by have := List.mem_range.1 hbm.1; omega
        have h2 := hbm.2
        rw [gd _ _ _ hz] at h2 ⊢
        cases hq : listed[b] <;> simp [hq] at h2 ⊢) hrun
      cases hp with
      | cons ho h t =>
        rename_i o
        have ho' : ops[i]? = some o := by simpa using ho
        have hzi : i < listed.size := by omega
        have hfe : ((List.range ops.size).filter fun j => !(listed.setIfInBounds i true).getD j true) = ((List.range ops.size).filter fun i => !listed.getD i true).filter (· != i) := by
          rw [List.filter_filter]
          apply List.filter_congr
          intro j hj
          have hjz : j < listed.size := by have := List.mem_range.1 hj; omega
          rw [gs _ _ _ _ hjz, gd _ _ _ hjz]
          by_cases e : i = j
          · subst e; simp
          · have : (j != i) = true := by simpa using fun h => e h.symm
            simp [e, this]
        refine step_sound hO R hb ho' h (RunL.ok t hok) (fun β' a' w' R' hb' => ih (listed.setIfInBounds i true) β' _ a' w' (by simpa using hsz) ?_ ?_ ?_ R' (Nat.le_trans hb hb'.size) (hbel.trans hb'))
        · intro j oj hoj hj d hd
          have keep : ∀ d, listed.getD d false = true → (listed.setIfInBounds i true).getD d false = true := by
            intro d hd
            by_cases hz : d < listed.size
            · rw [gd _ _ _ hz] at hd
              rw [gs _ _ _ _ hz]
              split
              · rfl
              · exact hd
            · simp [Array.getD, hz] at hd
          by_cases e : i = j
          · subst e
            have : oj = ops[i] := by
              have h1 : ops.toList[i]? = some ops[i] := by simp
              rw [h1] at hoj; simpa using hoj.symm
            subst this
            exact keep d (hdl d hd)
          · refine keep d (hcl j oj hoj ?_ d hd)
            by_cases hz : j < listed.size
            · rw [gs _ _ _ _ hz, if_neg e] at hj
              rw [gd _ _ _ hz]; exact hj
            · simp [Array.getD, hz] at hj
        · rw [hfe]
          have hlt : (((List.range ops.size).filter fun i => !listed.getD i true).filter (· != i)).length < ((List.range ops.size).filter fun i => !listed.getD i true).length := by
            refine List.length_filter_lt_length_iff_exists.2 ⟨i, hmem, by simp⟩
          omega
        · rw [hfe]; exact t
end
end Go.Proofs.YtpjhdjakpbabhaaGreatDoor.PR
namespace Go.Proofs.YtpjhdjakpbabhaaGreatDoor.PR
open Go.RowKit
set_option linter.unusedVariables false
set_option linter.unusedSimpArgs false
inductive Ex where
  | normal
  | exit (id : Nat)
  | ret
def exOf : Ex → Exit
  | .normal => .normal
  | .exit id => .exit id
  | .ret => .ret
def leT : List GV → List GV → Prop
  | [], [] => True
  | g :: l, h :: m => match h.k with
    | true => (g.k = true ∧ g.v = h.v) ∧ leT l m
    | false => leT l m
  | _, _ => False
def leM (m : Nat → Option (List Value)) : List (Nat × List Value) → Prop
  | [] => True
  | (n, x) :: rest => m n = some x ∧ leM m rest
def memOf : List (Nat × List Value) → Nat → Option (List Value)
  | [], _ => none
  | (m, x) :: rest, n => if n = m then some x else memOf rest n
structure Inv where
  ι : Type
  good : ι → Prop
  slots : ι → List GV
  blocks : ι → List (Nat × List Value)
  μ : ι → Nat
def Inv.st (I : Inv) (i : I.ι) : PSt := ⟨I.slots i, memOf (I.blocks i), True, []⟩
def wfB (blocks : List (Nat × List Value)) : List GV → Prop
  | [] => True
  | g :: l => match g.k with
    | true => match g.v with
      | .pointer (some ⟨n, _, none⟩) => (memOf blocks n).isSome = true ∧ wfB blocks l
      | .pointer (some ⟨_, _, some _⟩) => False
      | _ => wfB blocks l
    | false => wfB blocks l
def Inv.meets (I : Inv) (s : PSt) (i : I.ι) : Prop :=
  s.ok ∧ leT s.tmps (I.slots i) ∧ leM s.mem (I.blocks i) ∧ wfB (I.blocks i) (I.slots i)
def forgetG (keep : Nat → Bool) (g : GV) : GV :=
  match g.v with
  | .pointer (some ⟨n, _, none⟩) => bif keep n then g else gunk
  | .pointer (some ⟨_, _, some _⟩) => gunk
  | _ => g
def forget (keep : Nat → Bool) (s : PSt) : PSt :=
  ⟨s.tmps.map (forgetG keep),
   fun n => bif keep n then s.mem n else none, s.ok, []⟩
def unroll (keep : Nat → Bool) (f : (Ex → PSt → Prop) → PSt → Prop) (k : Ex → PSt → Prop) : Nat → PSt → Prop
  | 0, _ => False
  | n + 1, s => f (fun e s' => match e with
    | .normal => unroll keep f k n (forget keep s')
    | .exit m => k (.exit m) s'
    | .ret => k .ret s') s
inductive Ann where
  | inv (I : Inv)
  | rounds (n : Nat)
  | named
def modeKey : Nat := 1000000
def modeOf (L : Nat → Option Ann) : Bool := match L modeKey with | some .named => true | _ => false
def flush (k : PSt → Prop) (s : PSt) : Prop := s.ok ∧ k ⟨s.tmps, s.mem, True, s.lits⟩
def named : Nat → Option Ann := fun n => bif Nat.beq n 1000000 then some .named else none
def keyOf : Code → Nat
  | .region id _ _ => id
  | .seq a _ => keyOf a
  | .block _ c => keyOf c
  | .loop c => keyOf c
  | _ => 0
def evalCode (P : Program) (O : Oracle) (L : Nat → Option Ann) : Code → (Ex → PSt → Prop) → PSt → Prop
  | .skip, k, s => k .normal s
  | .label _, k, s => k .normal s
  | .region id ops draw, k, s => runRegion P O id ops.toList draw (modeOf L) s (bif modeOf L then flush (k .normal) else k .normal)
  | .seq a b, k, s => evalCode P O L a (fun e s' => match e with
    | .normal => evalCode P O L b k s'
    | .exit id => k (.exit id) s'
    | .ret => k .ret s') s
  | .cond c x y, k, s => match operand s c with
    | ⟨true, .bool b⟩ => if litOp s.lits c then (match b with | true => evalCode P O L x k s | false => evalCode P O L y k s) else bcond b (evalCode P O L x k s) (evalCode P O L y k s)
    | _ => False
  | .loop body, k, s => match L (keyOf body) with
    | some (.rounds n) => unroll (fun n => (s.mem n).isSome) (fun k s => evalCode P O L body k s) k n s
    | some (.inv I) => (∃ i, I.good i ∧ I.meets s i) ∧ ∀ i, I.good i → evalCode P O L body (fun e s' => match e with
      | .normal => ∃ j, I.good j ∧ I.meets s' j ∧ I.μ j < I.μ i
      | .exit m => k (.exit m) s'
      | .ret => k .ret s') (I.st i)
    | some .named => False
    | none => False
  | .block id c, k, s => evalCode P O L c (fun e s' => match e with
    | .normal => k .normal s'
    | .exit m => if m = id then k .normal s' else k (.exit m) s'
    | .ret => k .ret s') s
  | .exit id, k, s => k (.exit id) s
  | .ret, k, s => k .ret s
  | _, _, _ => False
theorem wp_loop' {P : Program} {c : Code} {Q : Exit → Act → World → Prop} {ι : Type} (I : ι → Act → World → Prop) (μ : ι → Nat) {a : Act} {w : World} (i0 : ι) (h₀ : I i0 a w)
    (round : ∀ i a w, I i a w → c.wp P (Exit.then (fun a' w' => ∃ j, I j a' w' ∧ μ j < μ i) Q) a w) : (Code.loop c).wp P Q a w := by
  intro b k cs
  have key : ∀ n i a w, μ i = n → I i a w →
      ∃ e a' w', Q e a' w' ∧ Arrives P (lone (b.at a (.code c :: .inLoop c :: k)) cs w) b k cs e a' w' := by
    intro n
    induction n using Nat.strongRecOn with
    | _ n ih =>
      intro i a w hn hI
      obtain ⟨e, a₁, w₁, hq, harr⟩ := round i a w hI b (.inLoop c :: k) cs
      cases e with
      | normal =>
        obtain ⟨j, hI₁, hlt⟩ := hq
        obtain ⟨e₂, a₂, w₂, hq₂, harr₂⟩ := ih (μ j) (hn ▸ hlt) j a₁ w₁ rfl hI₁
        exact ⟨e₂, a₂, w₂, hq₂, .of_steps (Steps.trans harr (.one step_inLoop)) harr₂⟩
      | exit id => exact ⟨_, a₁, w₁, hq, .pass (x := .inLoop c) rfl (fun _ _ => .inl (by simp)) harr⟩
      | goto l => exact ⟨_, a₁, w₁, hq, .pass (x := .inLoop c) rfl (fun _ _ => .inl (by simp)) harr⟩
      | ret => exact ⟨_, a₁, w₁, hq, .pass (x := .inLoop c) rfl (fun _ _ => .inl (by simp)) harr⟩
      | panic ch => exact ⟨_, a₁, w₁, hq, .pass (x := .inLoop c) rfl (fun _ _ => .inl (by simp)) harr⟩
      | outgrown => exact ⟨_, a₁, w₁, hq, .pass (x := .inLoop c) rfl (fun _ _ => .inl (by simp)) harr⟩
  obtain ⟨e, a', w', hq, harr⟩ := key _ i0 a w rfl h₀
  exact ⟨e, a', w', hq, .of_steps (.one step_loop) harr⟩
section
variable {P : Program} {O : Oracle} {base : Nat}
theorem RunL.wp (hO : OSound P O) {ops : Array Oper} {nm : Nat} {D : Nat → Delta} {Q : Exit → Act → World → Prop} {w0 : World} {s' : PSt} (hok : s'.ok) (hQ : ∀ β' a' w', Rel base β' s' a' w' → Below base w0 w' → Q .normal a' w') :
    ∀ (l : List Nat) (β : Nat → Nat) (s : PSt) (a : Act) (w : World), RunL P O ops.toList nm D l s s' → Rel base β s a w → base ≤ w.heap.size → Below base w0 w → wpOps P ops Q l a w
  | [], β, s, a, w, h, R, hb, hbel => by cases h; exact hQ _ _ _ R hbel
  | i :: l, β, s, a, w, h, R, hb, hbel => by
    cases h with
    | cons ho h t =>
      rw [wpOps_cons]
      exact step_sound hO R hb (by simpa using ho) h (RunL.ok t hok) fun β' a' w' R' hb' => RunL.wp hO hok hQ l β' _ a' w' t R' (Nat.le_trans hb hb'.size) (hbel.trans hb')
theorem region_sound (hO : OSound P O) (hm : P.follows .mixedOrders = true) {id : Nat} {ops : Array Oper} {draw md : Bool} {β : Nat → Nat} {s : PSt} {a : Act} {w w0 : World} {Q : Exit → Act → World → Prop} {k : PSt → Prop} (hk : ∀ s, k s → s.ok)
    (h : runRegion P O id ops.toList draw md s k) (R : Rel base β s a w) (hb : base ≤ w.heap.size) (hbel : Below base w0 w) (hQ : ∀ s' β' a' w', Rel base β' s' a' w' → Below base w0 w' → k s' → Q .normal a' w') :
    (Code.region id ops draw).wp P Q a w := by
  unfold runRegion at h
  obtain ⟨s1, ds, lits, hend, hlen, run⟩ := runOps_run (ops := ops.toList) ops.toList 0 s [] s.lits (fun j o ho => by rw [Nat.zero_add]; exact ho) rfl h
  rw [show ([] : List Delta).reverse ++ ds = ds from rfl] at hend
  have run := run (fun i => ds.getD i ⟨gunk, none, [], none⟩) (fun j d hd => by simp [List.getD, hd])
  rw [← List.range_eq_range'] at run
  have hsz : ops.toList.length = ops.size := by simp
  split at hend
  · rename_i hd
    subst hd
    have hc : (depsBack 0 ops.toList && anyOrder [] (masks [] ops.toList) (rowsOf ops.toList ops.toList ds)) = true := by
      by_cases hc : (depsBack 0 ops.toList && anyOrder [] (masks [] ops.toList) (rowsOf ops.toList ops.toList ds)) = true
      · exact hc
      · rw [if_neg hc] at hend; exact hend.elim
    rw [if_pos hc] at hend
    have hok := hk _ hend
    simp only [Bool.and_eq_true] at hc
    obtain ⟨hc1, hc2⟩ := hc
    refine wp_region_any hm ?_
    refine region_any hO (id * 1024) (fun i => ds.getD i ⟨gunk, none, [], none⟩) s1 hok ?_ ?_ w0 (fun β' a' w' R' hb' => hQ _ β' a' w' (R'.lit lits) hb' hend) ops.size _ β s a _ (by simp) ?_ ?_ ?_ (R.world fun _ _ => rfl) hb ⟨hbel.os, hbel.tape, hbel.output, hbel.size, hbel.block⟩
    · intro L hL i o ho hd b hbi hnb x y hx hy
      have ey : y = o := by rw [hy] at ho; simpa using ho
      subst ey
      have hi : i < ops.toList.length := (List.getElem?_eq_some_iff.1 ho).1
      have hmlen : (masks [] ops.toList).length = ops.toList.length := by rw [masks_length]; simp
      have hdi : ds[i]? = some (ds.getD i ⟨gunk, none, [], none⟩) := by rw [List.getD, List.getElem?_eq_getElem (by omega)]; rfl
      have hdb : ds[b]? = some (ds.getD b ⟨gunk, none, [], none⟩) := by rw [List.getD, List.getElem?_eq_getElem (by omega)]; rfl
      have hmi : (masks [] ops.toList)[i]? = some ((masks [] ops.toList).getD i 0) := by rw [List.getD, List.getElem?_eq_getElem (by omega)]; rfl
      have := anyOrder_spec _ _ _ hc2 i _ _ (rowsOf_get _ _ i y _ hy hdi) hmi b _ (by simpa using rowsOf_get _ _ b x _ hx hdb) (by simpa using hbi)
      rcases this with h | h
      · exact absurd (masks_spec hL ops.toList [] (fun k o hk => by simpa using hk) (by simp) (fun j o hj => by simp at hj) i y hy hd b h) hnb
      · exact h
    · intro i o ho d hd
      have := depsBack_spec _ _ hc1 i o ho d hd
      omega
    · intro j o _ hj
      exfalso
      by_cases hz : j < ops.size
      · simp [Array.getD, hz] at hj
      · simp [Array.getD, hz] at hj
    · refine Nat.le_trans (List.length_filter_le _ _) (by simp)
    · have : ((List.range ops.size).filter fun i => !(Array.replicate ops.size false).getD i true) = List.range ops.size := by
        rw [List.filter_eq_self]
        intro i hi
        have := List.mem_range.1 hi
        simp [Array.getD, this]
      rw [this, ← hsz]
      exact run
  · rename_i hd
    simp only [Bool.not_eq_true] at hd
    subst hd
    refine wp_region ?_
    rw [← hsz]
    exact RunL.wp (s' := s1) hO (show (⟨s1.tmps, s1.mem, s1.ok, lits⟩ : PSt).ok from hk _ hend) (fun β' a' w' R' hb' => hQ _ β' a' w' (R'.lit lits) hb' hend) _ β s a w run R hb hbel
theorem leT_get : ∀ {l m : List GV}, leT l m → l.length = m.length ∧ ∀ (t : Nat) (h : GV), m[t]? = some h → h.k = true → ∃ g, l[t]? = some g ∧ g.k = true ∧ g.v = h.v
  | [], [], _ => ⟨rfl, fun t h e => by simp at e⟩
  | g :: l, h :: m, hl => by
    unfold leT at hl
    cases hk : h.k
    · simp only [hk] at hl
      obtain ⟨i1, i2⟩ := leT_get hl
      refine ⟨by simp [i1], fun t x e hx => ?_⟩
      cases t with
      | zero => simp at e; subst e; rw [hk] at hx; simp at hx
      | succ t => exact i2 t x (by simpa using e) hx
    · simp only [hk] at hl
      obtain ⟨h1, h2⟩ := hl
      obtain ⟨i1, i2⟩ := leT_get h2
      refine ⟨by simp [i1], fun t x e hx => ?_⟩
      cases t with
      | zero => simp at e; subst e; exact ⟨g, rfl, h1⟩
      | succ t => exact i2 t x (by simpa using e) hx
  | [], _ :: _, h => h.elim
  | _ :: _, [], h => h.elim
theorem leM_mem {m : Nat → Option (List Value)} : ∀ {l : List (Nat × List Value)}, leM m l → ∀ p ∈ l, m p.1 = some p.2
  | [], _, p, hp => by simp at hp
  | (n, x) :: l, h, p, hp => by
    rcases List.mem_cons.1 hp with rfl | hp
    · exact h.1
    · exact leM_mem h.2 p hp
theorem wfB_mem {b : List (Nat × List Value)} : ∀ {l : List GV}, wfB b l → ∀ g ∈ l, g.k = true → match g.v with
      | .pointer (some ⟨n, _, none⟩) => (memOf b n).isSome = true
      | .pointer (some ⟨_, _, some _⟩) => False
      | _ => True
  | [], _, g, hg, _ => by simp at hg
  | h :: l, hw, g, hg, hk => by
    have rest : wfB b l := by
      unfold wfB at hw
      split at hw
      · split at hw
        · exact hw.2
        · exact hw.elim
        · exact hw
      · exact hw
    rcases List.mem_cons.1 hg with rfl | hg
    · unfold wfB at hw
      rw [hk] at hw
      simp only at hw
      split at hw
      · rename_i e; exact hw.1
      · exact hw.elim
      · trivial
    · exact wfB_mem rest g hg hk
theorem memOf_mem : ∀ {l : List (Nat × List Value)} {n : Nat} {x : List Value}, memOf l n = some x → (n, x) ∈ l
  | [], n, x, h => by simp [memOf] at h
  | (m, y) :: l, n, x, h => by
    unfold memOf at h
    split at h
    · rename_i e; simp at h; subst h e; simp
    · exact List.mem_cons_of_mem _ (memOf_mem h)
theorem Inv.rel {I : Inv} {s : PSt} {i : I.ι} (h : I.meets s i) {β : Nat → Nat} {a : Act} {w : World} (R : Rel base β s a w) : Rel base β (I.st i) a w := by
  obtain ⟨_, hl, hm, hw⟩ := h
  obtain ⟨l1, l2⟩ := leT_get hl
  have hmem : ∀ n x, memOf (I.blocks i) n = some x → s.mem n = some x := fun n x e => leM_mem hm (n, x) (memOf_mem e)
  refine ⟨R.defers, by rw [R.size]; exact l1, ?_, ?_, ?_, ?_⟩
  · intro t g e hk
    obtain ⟨g', e', k', v'⟩ := l2 t g e hk
    rw [R.slots t g' e' k', v']
  · intro t g e hk
    have hg := wfB_mem hw g (List.mem_of_getElem? e) hk
    unfold wfV
    split at hg
    · first | exact hg | (rename_i n off e'; rw [e']; exact hg)
    · exact hg.elim
    · rename_i h1 h2
      first
        | trivial
        | (split
           · rename_i n off e'; exact absurd e' (h1 _ _)
           · rename_i n off x e'; exact absurd e' (h2 _ _ _)
           · trivial)
  · intro n cells e; exact R.mem n cells (hmem n _ e)
  · intro n m hn hm' he
    obtain ⟨x, ex⟩ := Option.isSome_iff_exists.1 hn
    obtain ⟨y, ey⟩ := Option.isSome_iff_exists.1 hm'
    exact R.inj n m (by rw [hmem n x ex]; rfl) (by rw [hmem m y ey]; rfl) he
theorem unroll_ok {keep : Nat → Bool} {f : (Ex → PSt → Prop) → PSt → Prop} {k : Ex → PSt → Prop} (hf : ∀ k s, (∀ e s, k e s → s.ok) → f k s → s.ok) : ∀ (n : Nat) (s : PSt), (∀ e s, k e s → s.ok) → unroll keep f k n s → s.ok
  | 0, s, _, h => h.elim
  | n + 1, s, hk, h => hf _ s (fun e s' he => by
      cases e with
      | normal => exact unroll_ok (keep := keep) (f := f) hf n (forget keep s') hk he
      | exit m => exact hk _ _ he
      | ret => exact hk _ _ he) h
theorem forgetG_cases (keep : Nat → Bool) (g : GV) : forgetG keep g = gunk ∨ (forgetG keep g = g ∧ ∀ n off, g.v = .pointer (some ⟨n, off, none⟩) → keep n = true) := by
  unfold forgetG
  split
  · rename_i n off e
    cases hk : keep n
    · exact Or.inl rfl
    · refine Or.inr ⟨rfl, fun n' off' e' => ?_⟩
      rw [e] at e'; simp at e'; rw [← e'.1]; exact hk
  · exact Or.inl rfl
  · rename_i h1 h2
    exact Or.inr ⟨rfl, fun n off e => absurd e (h1 _ _)⟩
theorem Rel.forget {β : Nat → Nat} {s : PSt} {a : Act} {w : World} (R : Rel base β s a w) (keep : Nat → Bool) : Rel base β (forget keep s) a w := by
  refine ⟨R.defers, by simp [PR.forget, R.size], ?_, ?_, ?_, ?_⟩
  · intro t g hg hk
    simp only [PR.forget, List.getElem?_map, Option.map_eq_some_iff] at hg
    obtain ⟨h, hh, rfl⟩ := hg
    rcases forgetG_cases keep h with e | ⟨e, _⟩
    · rw [e] at hk; simp [gunk] at hk
    · rw [e] at hk ⊢; exact R.slots t h hh hk
  · intro t g hg hk
    simp only [PR.forget, List.getElem?_map, Option.map_eq_some_iff] at hg
    obtain ⟨h, hh, rfl⟩ := hg
    rcases forgetG_cases keep h with e | ⟨e, h1⟩
    · rw [e] at hk; simp [gunk] at hk
    · rw [e] at hk ⊢
      have := R.wf t h hh hk
      revert this
      unfold wfV
      split
      · rename_i n off e'; intro h2; simp only [PR.forget, h1 n off e', cond_true]; exact h2
      · exact id
      · exact id
  · intro n cells e
    simp only [PR.forget] at e
    cases hkn : keep n
    · simp [hkn] at e
    · simp only [hkn, cond_true] at e; exact R.mem n cells e
  · intro n m hn hm he
    simp only [PR.forget] at hn hm
    refine R.inj n m ?_ ?_ he
    · cases hkn : keep n
      · simp [hkn] at hn
      · simpa [hkn] using hn
    · cases hkn : keep m
      · simp [hkn] at hm
      · simpa [hkn] using hm
theorem evalCode_ok {L : Nat → Option Ann} : ∀ (c : Code) (k : Ex → PSt → Prop) (s : PSt), (∀ e s, k e s → s.ok) → evalCode P O L c k s → s.ok
  | .skip, k, s, hk, h => hk _ _ (by simpa [evalCode] using h)
  | .label _, k, s, hk, h => hk _ _ (by simpa [evalCode] using h)
  | .exit _, k, s, hk, h => hk _ _ (by simpa [evalCode] using h)
  | .ret, k, s, hk, h => hk _ _ (by simpa [evalCode] using h)
  | .region id ops draw, k, s, hk, h => by
    have hk' : ∀ s, (bif modeOf L then flush (k .normal) else k .normal) s → s.ok := fun s hs => by
      cases hm : modeOf L
      · rw [hm] at hs; exact hk _ _ hs
      · rw [hm] at hs; exact hs.1
    unfold evalCode runRegion at h
    obtain ⟨s1, ds, lits, hend, hlen, run⟩ := runOps_run (ops := ops.toList) ops.toList 0 s [] s.lits (fun j o ho => by rw [Nat.zero_add]; exact ho) rfl h
    have run := run (fun i => ds.getD i ⟨gunk, none, [], none⟩) (fun j d hd => by simp [List.getD, hd])
    refine RunL.ok run (show (⟨s1.tmps, s1.mem, s1.ok, lits⟩ : PSt).ok from ?_)
    split at hend
    · by_cases hc : (depsBack 0 ops.toList && anyOrder [] (masks [] ops.toList) (rowsOf ops.toList ops.toList ([].reverse ++ ds))) = true
      · rw [if_pos hc] at hend; exact hk' _ hend
      · rw [if_neg hc] at hend; exact hend.elim
    · exact hk' _ hend
  | .seq a b, k, s, hk, h => by
    unfold evalCode at h
    refine evalCode_ok a _ s (fun e s' he => ?_) h
    cases e with
    | normal => exact evalCode_ok b k s' hk he
    | exit id => exact hk _ _ he
    | ret => exact hk _ _ he
  | .cond c x y, k, s, hk, h => by
    unfold evalCode at h
    split at h <;> try (exact h.elim)
    rename_i b hb
    split at h
    · cases b
      · exact evalCode_ok y k _ hk h
      · exact evalCode_ok x k _ hk h
    · cases b
      · exact evalCode_ok y k _ hk h
      · exact evalCode_ok x k _ hk h
  | .loop body, k, s, hk, h => by
    unfold evalCode at h
    split at h <;> try (exact h.elim)
    · rename_i n _
      exact unroll_ok (fun k s hk h => evalCode_ok body k s hk h) n s hk h
    · obtain ⟨⟨i, _, hi⟩, _⟩ := h
      exact hi.1
  | .block id c, k, s, hk, h => by
    unfold evalCode at h
    refine evalCode_ok c _ s (fun e s' he => ?_) h
    cases e with
    | normal => exact hk _ _ he
    | exit m => simp only at he; split at he <;> exact hk _ _ he
    | ret => exact hk _ _ he
  | .rangeFunc .., k, s, hk, h => by unfold evalCode at h; exact h.elim
  | .scope _, k, s, hk, h => by unfold evalCode at h; exact h.elim
  | .goto _, k, s, hk, h => by unfold evalCode at h; exact h.elim
  | .refuse _, k, s, hk, h => by unfold evalCode at h; exact h.elim
theorem evalCode_sound (hO : OSound P O) (hm : P.follows .mixedOrders = true) {L : Nat → Option Ann} (w0 : World) (hb0 : base ≤ w0.heap.size) : ∀ (c : Code) (k : Ex → PSt → Prop) (Q : Exit → Act → World → Prop) (s : PSt) (β : Nat → Nat) (a : Act) (w : World),
    (∀ e s, k e s → s.ok) → (∀ e s β a w, Rel base β s a w → Below base w0 w → base ≤ w.heap.size → k e s → Q (exOf e) a w) →
    Rel base β s a w → Below base w0 w → base ≤ w.heap.size → evalCode P O L c k s → c.wp P Q a w
  | .skip, k, Q, s, β, a, w, hk, hq, R, hbel, hb, h => wp_skip (hq .normal s β a w R hbel hb h)
  | .label _, k, Q, s, β, a, w, hk, hq, R, hbel, hb, h => wp_label (hq .normal s β a w R hbel hb h)
  | .exit id, k, Q, s, β, a, w, hk, hq, R, hbel, hb, h => wp_exit (hq (.exit id) s β a w R hbel hb h)
  | .ret, k, Q, s, β, a, w, hk, hq, R, hbel, hb, h => wp_ret (hq .ret s β a w R hbel hb h)
  | .region id ops draw, k, Q, s, β, a, w, hk, hq, R, hbel, hb, h => by
    unfold evalCode at h
    refine region_sound hO hm (fun s hs => ?_) h R hb hbel fun s' β' a' w' R' hb' h => ?_
    · cases hm : modeOf L
      · rw [hm] at hs; exact hk _ _ hs
      · rw [hm] at hs; exact hs.1
    · cases hm : modeOf L
      · rw [hm] at h; exact hq .normal s' β' a' w' R' hb' (Nat.le_trans hb0 hb'.size) h
      · rw [hm] at h; exact hq .normal ⟨s'.tmps, s'.mem, True, s'.lits⟩ β' a' w' ⟨R'.defers, R'.size, R'.slots, R'.wf, R'.mem, R'.inj⟩ hb' (Nat.le_trans hb0 hb'.size) h.2
  | .seq x y, k, Q, s, β, a, w, hk, hq, R, hbel, hb, h => by
    unfold evalCode at h
    refine wp_seq (evalCode_sound hO hm w0 hb0 x _ _ s β a w (fun e s' he => ?_) (fun e s' β' a' w' R' hb' hb2 he => ?_) R hbel hb h)
    · cases e with
      | normal => exact evalCode_ok y k s' hk he
      | exit id => exact hk _ _ he
      | ret => exact hk _ _ he
    · cases e with
      | normal => exact evalCode_sound hO hm w0 hb0 y k Q s' β' a' w' hk hq R' hb' hb2 he
      | exit id => exact hq _ s' β' a' w' R' hb' hb2 he
      | ret => exact hq _ s' β' a' w' R' hb' hb2 he
  | .cond c x y, k, Q, s, β, a, w, hk, hq, R, hbel, hb, h => by
    unfold evalCode at h
    split at h <;> try (exact h.elim)
    rename_i b hb'
    have ev := (R.eval c (by rw [hb'])).1
    rw [hb'] at ev
    have h : bcond b (evalCode P O L x k s) (evalCode P O L y k s) := by
      split at h
      · cases b <;> exact h
      · exact h
    rw [bcond_iff] at h
    refine wp_cond_split (t := b) ev (fun e => ?_) (fun e => ?_)
    · exact evalCode_sound hO hm w0 hb0 x k Q _ β a w hk hq R hbel hb (h.1 e)
    · exact evalCode_sound hO hm w0 hb0 y k Q _ β a w hk hq R hbel hb (h.2 e)
  | .loop body, k, Q, s, β, a, w, hk, hq, R, hbel, hb, h => by
    unfold evalCode at h
    split at h <;> try (exact h.elim)
    · rename_i n _
      refine wp_loop' (fun i a w => ∃ β s', Rel base β s' a w ∧ Below base w0 w ∧ base ≤ w.heap.size ∧ unroll (fun n => (s.mem n).isSome) (fun k s => evalCode P O L body k s) k i s') (fun i => i) n ⟨β, s, R, hbel, hb, h⟩ (fun i a w hi => ?_)
      obtain ⟨β, s1, R, hbel, hb, h⟩ := hi
      cases i with
      | zero => exact h.elim
      | succ i =>
        refine evalCode_sound hO hm w0 hb0 body _ _ s1 β a w (fun e s' he => ?_) (fun e s' β' a' w' R' hb' hb2 he => ?_) R hbel hb h
        · cases e with
          | normal => exact unroll_ok (fun k s hk h => evalCode_ok body k s hk h) i (forget _ s') hk he
          | exit m => exact hk _ _ he
          | ret => exact hk _ _ he
        · cases e with
          | normal => exact ⟨i, ⟨β', _, R'.forget _, hb', hb2, he⟩, Nat.lt_succ_self i⟩
          | exit m => exact hq (.exit m) s' β' a' w' R' hb' hb2 he
          | ret => exact hq .ret s' β' a' w' R' hb' hb2 he
    rename_i I hI
    obtain ⟨⟨i0, hg0, hi0⟩, hround⟩ := h
    refine wp_loop' (fun i a w => I.good i ∧ (∃ β, Rel base β (I.st i) a w) ∧ Below base w0 w ∧ base ≤ w.heap.size) I.μ i0 ⟨hg0, ⟨β, Inv.rel hi0 R⟩, hbel, hb⟩ (fun i a w hi => ?_)
    obtain ⟨hg, ⟨β, R⟩, hbel, hb⟩ := hi
    refine evalCode_sound hO hm w0 hb0 body _ _ (I.st i) β a w (fun e s' he => ?_) (fun e s' β' a' w' R' hb' hb2 he => ?_) R hbel hb (hround i hg)
    · cases e with
      | normal => obtain ⟨j, _, hj, _⟩ := he; exact hj.1
      | exit m => exact hk _ _ he
      | ret => exact hk _ _ he
    · cases e with
      | normal =>
        obtain ⟨j, hgj, hj, hlt⟩ := he
        exact ⟨j, ⟨hgj, ⟨β', Inv.rel hj R'⟩, hb', hb2⟩, hlt⟩
      | exit m => exact hq (.exit m) s' β' a' w' R' hb' hb2 he
      | ret => exact hq .ret s' β' a' w' R' hb' hb2 he
  | .block id c, k, Q, s, β, a, w, hk, hq, R, hbel, hb, h => by
    unfold evalCode at h
    refine wp_block (evalCode_sound hO hm w0 hb0 c _ _ s β a w (fun e s' he => ?_) (fun e s' β' a' w' R' hb' hb2 he => ?_) R hbel hb h)
    · cases e with
      | normal => exact hk _ _ he
      | exit m => simp only at he; split at he <;> exact hk _ _ he
      | ret => exact hk _ _ he
    · cases e with
      | normal => exact hq .normal s' β' a' w' R' hb' hb2 he
      | exit m =>
        simp only at he
        simp only [exOf, Exit.inBlock]
        split
        · rename_i e; rw [if_pos e] at he; exact hq .normal s' β' a' w' R' hb' hb2 he
        · rename_i e; rw [if_neg e] at he; exact hq (.exit m) s' β' a' w' R' hb' hb2 he
      | ret => exact hq .ret s' β' a' w' R' hb' hb2 he
  | .rangeFunc .., k, Q, s, β, a, w, hk, hq, R, hbel, hb, h => by unfold evalCode at h; exact h.elim
  | .scope _, k, Q, s, β, a, w, hk, hq, R, hbel, hb, h => by unfold evalCode at h; exact h.elim
  | .goto _, k, Q, s, β, a, w, hk, hq, R, hbel, hb, h => by unfold evalCode at h; exact h.elim
  | .refuse _, k, Q, s, β, a, w, hk, hq, R, hbel, hb, h => by unfold evalCode at h; exact h.elim
end
end Go.Proofs.YtpjhdjakpbabhaaGreatDoor.PR
namespace Go.Proofs.YtpjhdjakpbabhaaGreatDoor.PR
open Go.RowKit
set_option linter.unusedVariables false
set_option linter.unusedSimpArgs false
def resultOf (P : Program) (s : PSt) : ResultVar → Option Value
  | .tmp t => match s.tmps.getD t (gnow undef) with
    | ⟨true, v⟩ => if plainC v then some v else none
    | _ => none
  | .cell t ty => match s.tmps.getD t (gnow undef) with
    | ⟨true, .pointer (some ⟨n, off, none⟩)⟩ => match s.mem n with
      | some cells =>
        if isAggT P ty then
          if off + sizeT P ty ≤ cells.length && (P.info? ty).isSome then some (.agg ((cells.drop off).take (sizeT P ty)).toArray) else none
        else match cells[off]? with
          | some v => if (P.underlying ty).isSome && plainA v then some v else none
          | none => none
      | none => none
    | _ => none
def resultsOf (P : Program) (s : PSt) : List ResultVar → Option (List Value)
  | [] => some []
  | r :: rs => match resultOf P s r with
    | none => none
    | some v => match resultsOf P s rs with
      | none => none
      | some vs => some (v :: vs)
def noLoops : Nat → Option Ann := fun _ => none
def atEnd (P : Program) (rs : List ResultVar) (V : Value → Prop) (s : PSt) : Prop :=
  match resultsOf P s rs with
  | some [v] => s.ok ∧ V v
  | some vs => s.ok ∧ V (.tuple vs.toArray)
  | none => False
def entry (n : Nat) (args : List Value) : PSt := ⟨args.map gnow ++ List.replicate (n - args.length) (gnow undef), fun _ => none, True, []⟩
def evalBody (P : Program) (O : Oracle) (L : Nat → Option Ann) (c : Code) (rs : List ResultVar) (n : Nat) (args : List Value) (V : Value → Prop) : Prop :=
  evalCode P O L c (fun e s => match e with | .normal => atEnd P rs V s | .ret => atEnd P rs V s | .exit _ => False) (entry n args)
section
variable {P : Program} {O : Oracle} {base : Nat} {β : Nat → Nat} {s : PSt} {a : Act} {w : World}
theorem slot_val (R : Rel base β s a w) (t : Tmp) (hk : (s.tmps.getD t (gnow undef)).k = true) : a.tmps.getD t undef = conc β (s.tmps.getD t (gnow undef)).v :=
  (R.eval (.tmp t) hk).1
theorem resultOf_sound (R : Rel base β s a w) {r : ResultVar} {v : Value} (h : resultOf P s r = some v) :
    (match r with | .tmp t => (pure (a.tmps.getD t undef) : Sem Value) | .cell x t => (do loadVar t (← asAddr (a.tmps.getD x undef)) : Sem Value)).run P w = .ok v w := by
  cases r with
  | tmp t =>
    simp only [resultOf] at h
    split at h <;> try (simp at h; done)
    rename_i u hg
    split at h <;> try (simp at h; done)
    rename_i hp
    simp only [Option.some.injEq] at h
    subst h
    have := slot_val R t (by rw [hg])
    rw [hg] at this
    rw [conc_plainC hp] at this
    simp only [this, Sem.run_pure]
  | cell x t =>
    simp only [resultOf] at h
    split at h <;> try (simp at h; done)
    rename_i n off hp
    split at h <;> try (simp at h; done)
    rename_i cells hm
    obtain ⟨e, hg⟩ := (R.mem n cells hm).2
    have fin : a.tmps.getD x undef = .pointer (some ⟨β n, off, none⟩) := by
      have := slot_val R x (by rw [hp])
      rw [hp] at this; exact this
    split at h
    · rename_i hag
      split at h <;> try (simp at h; done)
      rename_i hl
      simp only [Option.some.injEq] at h
      subst h
      simp only [Bool.and_eq_true, decide_eq_true_eq] at hl
      have := run_load_part (P := P) (β n) off _ t cells hg hag hl.1 hl.2
      simp only [Instr.loadAt, Instr.sureAddr, Sem.run_bind, Sem.run_pure, Result.andThen_ok] at this
      simp only [fin, asAddr, Sem.run_bind, Sem.run_pure, Result.andThen_ok, this]
    · rename_i hag
      split at h <;> try (simp at h; done)
      rename_i u hu
      split at h <;> try (simp at h; done)
      rename_i hc
      simp only [Option.some.injEq] at h
      subst h
      simp only [Bool.and_eq_true] at hc
      have := run_load_cell (P := P) (β n) off _ t cells u hg (by simpa using hag) hc.1 hu
      simp only [Instr.loadAt, Instr.sureAddr, Sem.run_bind, Sem.run_pure, Result.andThen_ok] at this
      simp only [fin, asAddr, Sem.run_bind, Sem.run_pure, Result.andThen_ok, this]
theorem resultsOf_sound (R : Rel base β s a w) : ∀ {rs : List ResultVar} {vs : List Value}, resultsOf P s rs = some vs →
    (rs.mapM (m := Sem) fun r => match r with | .tmp t => pure (a.tmps.getD t undef) | .cell x t => do loadVar t (← asAddr (a.tmps.getD x undef))).run P w = .ok vs w
  | [], vs, h => by simp [resultsOf] at h; subst h; rfl
  | r :: rs, vs, h => by
    unfold resultsOf at h
    split at h <;> try (simp at h; done)
    rename_i v h1
    split at h <;> try (simp at h; done)
    rename_i vs1 h2
    simp only [Option.some.injEq] at h
    subst h
    rw [List.mapM_cons]
    simp only [Sem.run_bind, resultOf_sound R h1, Result.andThen_ok, resultsOf_sound R h2, Sem.run_pure]
theorem results_run (R : Rel base β s a w) {fn : Func} {vs : List Value} (h : resultsOf P s fn.results.toList = some vs) :
    (results fn a.tmps).run P w = .ok (if h : vs.length = 1 then vs[0] else .tuple vs.toArray) w := by
  have := resultsOf_sound R h
  unfold results
  rw [Sem.run_bind]
  rw [Array.mapM_eq_mapM_toList]
  rw [Sem.run_map]
  erw [this]
  simp
theorem atEnd_sound (R : Rel base β s a w) (w0 : World) (hbel : Below w0.heap.size w0 w) {fn : Func} {V : Value → Prop} (h : atEnd P fn.results.toList V s) :
    a.defers = [] ∧ ∃ v, (results fn a.tmps).run P w = .ok v w ∧ (∃ u, V u ∧ Ending.returned v = .returned u) ∧ Below w0.heap.size w0 w := by
  refine ⟨R.defers, ?_⟩
  unfold atEnd at h
  split at h
  · rename_i v hr
    exact ⟨v, by rw [results_run R hr]; rfl, ⟨v, h.2, rfl⟩, hbel⟩
  · rename_i vs hne hr
    refine ⟨.tuple vs.toArray, ?_, ⟨_, h.2, rfl⟩, hbel⟩
    rw [results_run R hr]
    have : ¬ vs.length = 1 := by
      intro e
      match vs, e with
      | [v], _ => exact hne v rfl
    rw [dif_neg this]
  · exact h.elim
theorem evalBody_sound (hO : OSound P O) (hm : P.follows .mixedOrders = true) {L : Nat → Option Ann} {f : FuncId} {fn : Func} {c : Code} (hf : P.funcs[f]? = some fn) (hb : fn.body = some c) {args : List Value} (hp : args.all plainC = true) {V : Value → Prop}
    (h : evalBody P O L c fn.results.toList fn.ntmps args V) (w : World) : Calls P f args.toArray w fun e w' => (∃ v, V v ∧ e = .returned v) ∧ Below w.heap.size w w' := by
  refine calls_of_wp hf hb ?_
  refine evalCode_sound (base := w.heap.size) (β := fun n => n) hO hm w (Nat.le_refl _) c _ _ (entry fn.ntmps args) _ w (fun e s he => ?_) (fun e s β a w' R hbel hsz he => ?_) ?_ (Below.refl _ _) (Nat.le_refl _) h
  · have at_ok : atEnd P fn.results.toList V s → s.ok := by
      intro h
      unfold atEnd at h
      split at h
      · exact h.1
      · exact h.1
      · exact h.elim
    cases e with
    | normal => exact at_ok he
    | ret => exact at_ok he
    | exit id => exact he.elim
  · have fin : atEnd P fn.results.toList V s → bodyPost P fn (fun e w'' => (∃ v, V v ∧ e = .returned v) ∧ Below w.heap.size w w'') .normal a w' := fun he => by
      obtain ⟨h1, v, h2, ⟨u, h3, h4⟩, h5⟩ := atEnd_sound R w hbel he
      exact ⟨h1, v, h2, ⟨u, h3, h4⟩, h5⟩
    cases e with
    | normal => exact fin he
    | ret => exact fin he
    | exit id => exact he.elim
  · refine ⟨rfl, by simp [entry], ?_, ?_, ?_, ?_⟩
    · intro t g hg hk
      simp only [entry, List.getElem?_append, List.length_map] at hg
      split at hg
      · rename_i hlt
        simp only [List.getElem?_map, Option.map_eq_some_iff] at hg
        obtain ⟨v, hv, rfl⟩ := hg
        have hpv := List.all_eq_true.1 hp v (List.mem_of_getElem? hv)
        simp only [gnow, conc_plainC hpv]
        rw [Array.getElem?_append_left (by simpa using hlt)]
        simpa using hv
      · rename_i hlt
        rw [List.getElem?_replicate] at hg
        split at hg <;> try (simp at hg; done)
        rename_i hl2
        simp only [Option.some.injEq] at hg
        subst hg
        simp only [gnow]
        rw [Array.getElem?_append_right (by simpa using hlt)]
        simp only [List.size_toArray, Array.getElem?_replicate, hl2, if_true]
        rfl
    · intro t g hg hk
      simp only [entry, List.getElem?_append, List.length_map] at hg
      split at hg
      · simp only [List.getElem?_map, Option.map_eq_some_iff] at hg
        obtain ⟨v, hv, rfl⟩ := hg
        exact wf_plainC (List.all_eq_true.1 hp v (List.mem_of_getElem? hv))
      · rw [List.getElem?_replicate] at hg
        split at hg <;> try (simp at hg; done)
        simp only [Option.some.injEq] at hg
        subst hg
        simp [gnow, undef, wfV]
    · intro n cells e; simp [entry] at e
    · intro n m e; simp [entry] at e
def AnswersP (P : Program) (f : Nat) (s : List Value → Option (Value × List Bool)) : Prop := ∀ args v bs, s args = some (v, bs) → conjL bs True → Does P f args.toArray v
theorem orc_nil : OSound P (orc []) := fun f args v bs h => by simp [orc] at h
theorem orc_cons {f : Nat} {g : List Value → Option (Value × List Bool)} {l : List (Nat × (List Value → Option (Value × List Bool)))} (h : AnswersP P f g) (k : OSound P (orc l)) : OSound P (orc ((f, g) :: l)) := by
  intro h' args v bs e hbs
  unfold orc at e
  by_cases hf : h' = f
  · subst hf
    simp only [Nat.beq_refl, cond_true] at e
    exact h args v bs e (conjL_iff.2 ⟨hbs, trivial⟩)
  · have : Nat.beq h' f = false := by
      cases hq : Nat.beq h' f
      · rfl
      · exact absurd (Nat.eq_of_beq_eq_true hq) hf
    simp only [this, cond_false] at e
    exact k h' args v bs e hbs
theorem call_enter {f : FuncId} {fn : Func} {c : Code} (hf : P.funcs[f]? = some fn) (hname : (fn.name == "runtime.NumGoroutine") = false) (hb : fn.body = some c) (args : Array Value) (w : World) :
    (callFunc f args).run P w = .ok (.enter f args) w := by
  have h1 : fn.name ≠ "runtime.NumGoroutine" := by simpa using hname
  simp [callFunc, hf, h1, hb]
theorem does_of_eval (hO : OSound P O) (hm : P.follows .mixedOrders = true) (L : Nat → Option Ann) {f : FuncId} {fn : Func} (hf : P.funcs[f]? = some fn) (hn : (fn.name == "runtime.NumGoroutine") = false) (hb : fn.body = some (fn.body.getD .skip)) {args : List Value} (hp : args.all plainC = true) {v : Value}
    (h : evalBody P O L (fn.body.getD .skip) fn.results.toList fn.ntmps args (fun u => u = v)) : Does P f args.toArray v := by
  intro w
  refine Or.inr ⟨call_enter hf hn hb _ w, (evalBody_sound hO hm hf hb hp h w).mono ?_⟩
  rintro e w' ⟨⟨u, rfl, rfl⟩, hbel⟩
  exact ⟨rfl, hbel⟩
theorem does_of_calls {f : FuncId} {fn : Func} (hf : P.funcs[f]? = some fn) (hn : (fn.name == "runtime.NumGoroutine") = false) (hb : fn.body = some (fn.body.getD .skip)) {args : Array Value} {v : Value}
    (h : ∀ w, Calls P f args w fun e w' => e = .returned v ∧ Below w.heap.size w w') : Does P f args v :=
  fun w => Or.inr ⟨call_enter hf hn hb _ w, h w⟩
end
end Go.Proofs.YtpjhdjakpbabhaaGreatDoor.PR
