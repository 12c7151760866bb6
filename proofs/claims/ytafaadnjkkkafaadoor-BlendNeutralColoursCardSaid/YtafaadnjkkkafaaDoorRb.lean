/-
  The second edition of the pure way: whole functions' code; loops.
-/
import Derived.Test.YtafaadnjkkkafaaDoorRa
import Derived.Test.YtafaadnjkkkafaaDoorPx
namespace Go.Proofs.YtafaadnjkkkafaaDoor.QR
open Go.RowKit PR
set_option linter.unusedVariables false
set_option linter.unusedSimpArgs false

/-- cells that stand for the same -/
inductive EqC : CV → CV → Prop
  | v (a : Value) : EqC (.v a) (.v a)
  | slc {z : Nat} {n : Int} {r r' : Row} : (∀ i j : Nat, (i : Int) < n → j < z → EqC (den r i j) (den r' i j)) → EqC (.slc z n r) (.slc z n r')
theorem Rep.eq {F : Nat → Prop} {w : World} {c c' : CV} (h : EqC c c') : ∀ {y : Value}, Rep F w c y → Rep F w c' y := by
  induction h with
  | v a => intro y h; exact h
  | slc _ ih =>
    intro y h
    cases h with
    | nil h1 h2 => exact .nil h1 h2
    | slc u h1 hc h2 h3 h4 h5 => exact .slc u h1 hc h2 h3 h4 fun i j hi hj => ih i j (by omega) hj (h5 i j hi hj)

def veq : Value → Value → Prop
  | .int k a, .int l b => k = l ∧ a = b
  | .bool a, .bool b => a = b
  | .string a, .string b => a = b
  | a, b => a = b
theorem veq_eq {a b : Value} (h : veq a b) : a = b := by
  unfold veq at h
  split at h
  · rw [h.1, h.2]
  · rw [h]
  · rw [h]
  · exact h
def eqc : CV → CV → Prop
  | .v a, .v b => veq a b
  | .slc z n r, .slc z' n' r' => EqC (.slc z n r) (.slc z' n' r')
  | _, _ => False
theorem eqc_eq {a b : CV} (h : eqc a b) : EqC a b := by
  unfold eqc at h
  split at h
  · rw [veq_eq h]; exact .v _
  · exact h
  · exact h.elim
def allJ : Nat → (Nat → Prop) → Prop
  | 0, _ => True
  | n + 1, p => allJ n p ∧ p n
theorem allJ_get : ∀ {n : Nat} {p : Nat → Prop}, allJ n p → ∀ j, j < n → p j
  | 0, _, _, j, h => by omega
  | n + 1, p, h, j, hj => by
    by_cases e : j = n
    · subst e; exact h.2
    · exact allJ_get h.1 j (by omega)
/-- rows that hold the same -/
def eqRow (z : Nat) (n : Int) (r r' : Row) : Prop := allJ z fun j => ∀ i : Nat, (i : Int) < n → eqc (den r i j) (den r' i j)
theorem eqRow_get {z : Nat} {n : Int} {r r' : Row} (h : eqRow z n r r') (i j : Nat) (hi : (i : Int) < n) (hj : j < z) : EqC (den r i j) (den r' i j) := eqc_eq (allJ_get h j hj i hi)

/-- a cell of a state, and what is said of it; names by ρ -/
def leC (ρ : Nat → Nat) : CV → CV → Prop
  | .v a, .v b => veq a b
  | .slc z n r, .slc z' n' r' => z = z' ∧ n = n' ∧ eqRow z n r r'
  | .own m n, .own m' n' => m = ρ m' ∧ n = n'
  | .ptr m off, .ptr m' off' => m = ρ m' ∧ off = off'
  | .fn f l, .fn g k => f = g ∧ l = k.map fun p => (ρ p.1, p.2)
  | _, _ => False
def leL (ρ : Nat → Nat) : List CV → List CV → Prop
  | [], [] => True
  | a :: l, b :: m => leC ρ a b ∧ leL ρ l m
  | _, _ => False
def leX (ρ : Nat → Nat) : XV → XV → Prop
  | .c a, .c b => leC ρ a b
  | .agg l, .agg m => leL ρ l m
  | _, _ => False
def leXs (ρ : Nat → Nat) : List XV → List XV → Prop
  | [], [] => True
  | a :: l, b :: m => leX ρ a b ∧ leXs ρ l m
  | _, _ => False
def leS (ρ : Nat → Nat) : SV → SV → Prop
  | .x a, .x b => leX ρ a b
  | .tup l, .tup m => leXs ρ l m
  | _, _ => False
def leT (ρ : Nat → Nat) : List GV → List GV → Prop
  | [], [] => True
  | g :: l, h :: m => match h.k with
    | true => (g.k = true ∧ leS ρ g.v h.v) ∧ leT ρ l m
    | false => leT ρ l m
  | _, _ => False
def leB (ρ : Nat → Nat) : Option Blk → Blk → Prop
  | some (.cells l), .cells m => leL ρ l m
  | some (.row z n r), .row z' n' r' => z = z' ∧ n = n' ∧ eqRow z n r r'
  | some (.fro z n r), .fro z' n' r' => z = z' ∧ n = n' ∧ eqRow z n r r'
  | _, _ => False
def leM (ρ : Nat → Nat) (mem : Nat → Option Blk) : List (Nat × Blk) → Prop
  | [] => True
  | (n, b) :: l => leB ρ (mem (ρ n)) b ∧ leM ρ mem l
def memOf : List (Nat × Blk) → Nat → Option Blk
  | [], _ => none
  | (m, x) :: rest, n => bif Nat.beq n m then some x else memOf rest n

/-- whose name is whose: by the slots, and by the cells of blocks -/
def renC : CV → CV → List (Nat × Nat)
  | .own m _, .own m' _ => [(m', m)]
  | .ptr m _, .ptr m' _ => [(m', m)]
  | _, _ => []
def renL : List CV → List CV → List (Nat × Nat)
  | a :: l, b :: m => renC a b ++ renL l m
  | _, _ => []
def renS : SV → SV → List (Nat × Nat)
  | .x (.c a), .x (.c b) => renC a b
  | .x (.agg l), .x (.agg m) => renL l m
  | _, _ => []
def renT : List GV → List GV → List (Nat × Nat)
  | g :: l, h :: m => bif h.k then renS g.v h.v ++ renT l m else renT l m
  | _, _ => []
def renB (mem : Nat → Option Blk) : List (Nat × Nat) → List (Nat × Blk) → List (Nat × Nat)
  | ren, [] => []
  | ren, (m', .cells l') :: rest => (match mem (look ren m') with | some (.cells l) => renL l l' | _ => []) ++ renB mem ren rest
  | ren, _ :: rest => renB mem ren rest
where look : List (Nat × Nat) → Nat → Nat
  | [], k => k
  | (a, b) :: l, k => bif Nat.beq k a then b else look l k
def rename (s : PSt) (slots : List GV) (blocks : List (Nat × Blk)) : List (Nat × Nat) := renT s.tmps slots ++ renB s.mem (renT s.tmps slots) blocks
def rho (l : List (Nat × Nat)) (k : Nat) : Nat := bif Nat.ble GB k then k else renB.look l k

/-- what is said of the state at a loop's head -/
structure Inv where
  ι : Type
  good : ι → Prop
  slots : ι → List GV
  blocks : ι → List (Nat × Blk)
  μ : ι → Nat
def ist (I : Inv) (i : I.ι) (gen : Nat) : PSt := ⟨I.slots i, memOf (I.blocks i), True, [], gen⟩

def nameOk (blocks : List (Nat × Blk)) (m : Nat) : Bool := bif Nat.ble GB m then (gtab m).isSome else (memOf blocks m).isSome
def wfC' (blocks : List (Nat × Blk)) : CV → Bool
  | .own m _ => nameOk blocks m
  | .ptr m _ => nameOk blocks m
  | .fn _ l => l.all fun p => nameOk blocks p.1
  | _ => true
def wfX (blocks : List (Nat × Blk)) : XV → Bool
  | .c c => wfC' blocks c
  | .agg l => l.all (wfC' blocks)
def wfS (blocks : List (Nat × Blk)) : SV → Bool
  | .x v => wfX blocks v
  | .tup l => l.all (wfX blocks)
  | _ => false
def wfB (blocks : List (Nat × Blk)) : Blk → Bool
  | .cells l => l.all (wfC' blocks)
  | _ => true
def wfI (blocks : List (Nat × Blk)) (slots : List GV) (ρ : Nat → Nat) : Bool :=
  slots.all (fun g => bif g.k then wfS blocks g.v else true) && blocks.all (fun p => wfB blocks p.2 && Nat.blt p.1 GB && Nat.blt (ρ p.1) GB && (bif Nat.ble PN p.1 then Nat.beq (ρ p.1) p.1 else true)) && distinct (blocks.map fun p => ρ p.1) && distinct (blocks.map (·.1))

/-- the state at a loop's head is one of those that are told -/
def imeets (I : Inv) (s : PSt) (i : I.ι) : Prop :=
  s.ok ∧ wfI (I.blocks i) (I.slots i) (rho (rename s (I.slots i) (I.blocks i))) = true ∧ leT (rho (rename s (I.slots i) (I.blocks i))) s.tmps (I.slots i) ∧ leM (rho (rename s (I.slots i) (I.blocks i))) s.mem (I.blocks i)

def bump (s : PSt) : PSt := ⟨s.tmps, s.mem, s.ok, [], s.gen + 1⟩
/-- round by round -/
def unroll (f : (Ex → PSt → Prop) → PSt → Prop) (k : Ex → PSt → Prop) : Nat → PSt → Prop
  | 0, _ => False
  | n + 1, s => f (fun e s' => match e with
    | .normal => unroll f k n (bump s')
    | .exit m => k (.exit m) s'
    | .ret => k .ret s') s

inductive Ann where
  | inv (I : Inv)
  | rounds (n : Nat)
def flush (k : PSt → Prop) (s : PSt) : Prop := s.ok ∧ k ⟨s.tmps, s.mem, True, s.lits, s.gen⟩
def noLoops : Nat → Option Ann := fun _ => none

def evalCode (P : Program) (O : Oracle) (L : Nat → Option Ann) : Code → (Ex → PSt → Prop) → PSt → Prop
  | .skip, k, s => k .normal s
  | .label _, k, s => k .normal s
  | .region id ops draw, k, s => runRegion P O id ops.toList draw s (flush (k .normal))
  | .seq a b, k, s => evalCode P O L a (fun e s' => match e with
    | .normal => evalCode P O L b k s'
    | .exit id => k (.exit id) s'
    | .ret => k .ret s') s
  | .cond c x y, k, s => match operand s c with
    | ⟨true, .x (.c (.v (.bool b)))⟩ => if litOp s.lits c then (match b with | true => evalCode P O L x k s | false => evalCode P O L y k s) else bcond b (evalCode P O L x k s) (evalCode P O L y k s)
    | _ => False
  | .loop body, k, s => match L (PR.keyOf body) with
    | some (.rounds n) => unroll (fun k s => evalCode P O L body k s) k n s
    | some (.inv I) => (∃ i, I.good i ∧ imeets I s i) ∧ ∀ i, I.good i → evalCode P O L body (fun e s' => match e with
      | .normal => ∃ j, I.good j ∧ imeets I s' j ∧ I.μ j < I.μ i
      | .exit m => k (.exit m) s'
      | .ret => k .ret s') (ist I i (s.gen + 1))
    | none => False
  | .block id c, k, s => evalCode P O L c (fun e s' => match e with
    | .normal => k .normal s'
    | .exit m => if m = id then k .normal s' else k (.exit m) s'
    | .ret => k .ret s') s
  | .exit id, k, s => k (.exit id) s
  | .ret, k, s => k .ret s
  | _, _, _ => False

section
variable {P : Program} {O : Oracle} {base : Nat} {X F0 : Nat → Prop} {B : Nat → Nat}

theorem Rel.lit {s : PSt} {a : Act} {w : World} (R : Rel base X F0 B s a w) (p : Prop) (l : List Tmp) (gen : Nat) : Rel base X F0 B ⟨s.tmps, s.mem, p, l, gen⟩ a w := by
  obtain ⟨E, R⟩ := R
  exact ⟨E, R.defers, R.size, R.slots, R.mem, R.sep, R.frz, R.sub, R.glob, R.old, R.pin⟩

theorem RunL.wp (hO : OSound P O) {ops : Array Oper} {nm : Nat} {D : Nat → Delta} {Q : Exit → Act → World → Prop} {w0 : World} {s' : PSt} (hok : s'.ok) (hQ : ∀ a' w', Rel base X F0 B s' a' w' → Keep base X w0 w' → Q .normal a' w') :
    ∀ (l : List Nat) (s : PSt) (a : Act) (w : World), RunL P O ops.toList nm D l s s' → Rel base X F0 B s a w → base ≤ w.heap.size → Keep base X w0 w → wpOps P ops Q l a w
  | [], s, a, w, h, R, hb, hbel => by cases h; exact hQ _ _ R hbel
  | i :: l, s, a, w, h, R, hb, hbel => by
    cases h with
    | cons ho h t =>
      rw [wpOps_cons]
      exact step_sound hO R hb (by simpa using ho) h (RunL.ok t hok) fun a' w' R' hb' => RunL.wp hO hok hQ l _ a' w' t R' (Nat.le_trans hb hb'.size) (hbel.trans hb')

theorem Rel.drew {s : PSt} {a : Act} {w w' : World} (R : Rel base X F0 B s a w) (h : w'.heap = w.heap := by rfl) : Rel base X F0 B s a w' := by
  obtain ⟨E, R⟩ := R
  have T : Later (live s) E E w w' := ⟨fun _ h => h, fun _ _ => by rw [h], fun _ _ _ => rfl, fun _ _ _ => rfl⟩
  refine ⟨E, R.defers, R.size, fun t g e hk => ?_, fun m b hm => ?_, R.sep, fun k hk => by rw [h]; exact R.frz k hk, R.sub, Laid.later T R.glob, fun k hk => by rw [h]; exact R.old k hk, R.pin⟩
  · obtain ⟨y, h1, h2⟩ := R.slots t g e hk
    exact ⟨y, h1, ConcS.later T (fun _ _ => rfl) (fun _ h => h) h2⟩
  · obtain ⟨h1, h2⟩ := R.mem m b hm
    exact ⟨h1, BlkOK.later T (fun _ _ => rfl) (fun _ h => h) (Or.inl (by rw [hm]; rfl)) h1 h2 fun k hk => ⟨by rw [h], blockOf_nF h2 hk⟩⟩

theorem region_sound (hO : OSound P O) (hm : P.follows .mixedOrders = true) {id : Nat} {ops : Array Oper} {draw : Bool} {s : PSt} {a : Act} {w w0 : World} {Q : Exit → Act → World → Prop} {k : PSt → Prop} (hk : ∀ s, k s → s.ok)
    (h : runRegion P O id ops.toList draw s k) (R : Rel base X F0 B s a w) (hb : base ≤ w.heap.size) (hbel : Keep base X w0 w) (hQ : ∀ s' a' w', Rel base X F0 B s' a' w' → Keep base X w0 w' → k s' → Q .normal a' w') :
    (Code.region id ops draw).wp P Q a w := by
  unfold runRegion at h
  rw [force_eq] at h
  obtain ⟨s1, ds, lits, hend, hlen, run⟩ := runOps_run (ops := ops.toList) ops.toList 0 s [] s.lits (fun j o ho => by rw [Nat.zero_add]; exact ho) rfl h
  rw [show ([] : List Delta).reverse ++ ds = ds from rfl] at hend
  have run := run (fun i => ds.getD i ⟨gunk, [], [], []⟩) (fun j d hd => by simp [List.getD, hd])
  rw [← List.range_eq_range'] at run
  have hsz : ops.toList.length = ops.size := by simp
  split at hend
  · rename_i hd
    subst hd
    have hc : (depsBack 0 ops.toList && anyOrder [] (masks [] ops.toList) (rowsOf ops.toList ops.toList ds)) = true := by
      by_cases hc : (depsBack 0 ops.toList && anyOrder [] (masks [] ops.toList) (rowsOf ops.toList ops.toList ds)) = true
      · exact hc
      · rw [if_neg hc] at hend; exact hend.elim
    rw [if_pos hc] at hend
    have hok := hk _ hend
    simp only [Bool.and_eq_true] at hc
    obtain ⟨hc1, hc2⟩ := hc
    refine wp_region_any hm ?_
    refine region_any hO ((s.gen * 4096 + id) * 1024) (fun i => ds.getD i ⟨gunk, [], [], []⟩) s1 hok ?_ ?_ w0 (fun a' w' R' hb' => hQ _ a' w' (R'.lit s1.ok lits s1.gen) hb' hend) ops.size _ s a _ (by simp) ?_ ?_ ?_ (R.drew) hb ⟨hbel.os, hbel.tape, hbel.output, hbel.size, hbel.block⟩
    · intro L hL i o ho hd b hbi hnb x y hx hy
      have ey : y = o := by rw [hy] at ho; simpa using ho
      subst ey
      have hi : i < ops.toList.length := (List.getElem?_eq_some_iff.1 ho).1
      have hmlen : (masks [] ops.toList).length = ops.toList.length := by rw [masks_length]; simp
      have hdi : ds[i]? = some (ds.getD i ⟨gunk, [], [], []⟩) := by rw [List.getD, List.getElem?_eq_getElem (by omega)]; rfl
      have hdb : ds[b]? = some (ds.getD b ⟨gunk, [], [], []⟩) := by rw [List.getD, List.getElem?_eq_getElem (by omega)]; rfl
      have hmi : (masks [] ops.toList)[i]? = some ((masks [] ops.toList).getD i 0) := by rw [List.getD, List.getElem?_eq_getElem (by omega)]; rfl
      have := anyOrder_spec _ _ _ hc2 i _ _ (rowsOf_get _ _ i y _ hy hdi) hmi b _ (by simpa using rowsOf_get _ _ b x _ hx hdb) (by simpa using hbi)
      rcases this with h | h
      · exact absurd (masks_spec hL ops.toList [] (fun k o hk => by simpa using hk) (by simp) (fun j o hj => by simp at hj) i y hy hd b h) hnb
      · exact h
    · intro i o ho d hd
      have := depsBack_spec _ _ hc1 i o ho d hd
      omega
    · intro j o _ hj
      exfalso
      by_cases hz : j < ops.size
      · simp [Array.getD, hz] at hj
      · simp [Array.getD, hz] at hj
    · refine Nat.le_trans (List.length_filter_le _ _) (by simp)
    · have : ((List.range ops.size).filter fun i => !(Array.replicate ops.size false).getD i true) = List.range ops.size := by
        rw [List.filter_eq_self]
        intro i hi
        have := List.mem_range.1 hi
        simp [Array.getD, this]
      rw [this, ← hsz]
      exact run
  · rename_i hd
    simp only [Bool.not_eq_true] at hd
    subst hd
    refine wp_region ?_
    rw [← hsz]
    exact RunL.wp (s' := s1) hO (show (⟨s1.tmps, s1.mem, s1.ok, lits, s1.gen⟩ : PSt).ok from hk _ hend) (fun a' w' R' hb' => hQ _ a' w' (R'.lit s1.ok lits s1.gen) hb' hend) _ s a w run R hb hbel


theorem leT_get {ρ : Nat → Nat} : ∀ {l m : List GV}, leT ρ l m → l.length = m.length ∧ ∀ (t : Nat) (h : GV), m[t]? = some h → h.k = true → ∃ g, l[t]? = some g ∧ g.k = true ∧ leS ρ g.v h.v
  | [], [], _ => ⟨rfl, fun t h e => by simp at e⟩
  | g :: l, h :: m, hl => by
    unfold leT at hl
    cases hk : h.k
    · simp only [hk] at hl
      obtain ⟨i1, i2⟩ := leT_get hl
      refine ⟨by simp [i1], fun t x e hx => ?_⟩
      cases t with
      | zero => simp at e; subst e; rw [hk] at hx; simp at hx
      | succ t => exact i2 t x (by simpa using e) hx
    · simp only [hk] at hl
      obtain ⟨h1, h2⟩ := hl
      obtain ⟨i1, i2⟩ := leT_get h2
      refine ⟨by simp [i1], fun t x e hx => ?_⟩
      cases t with
      | zero => simp at e; subst e; exact ⟨g, rfl, h1⟩
      | succ t => exact i2 t x (by simpa using e) hx
  | [], _ :: _, h => h.elim
  | _ :: _, [], h => h.elim
theorem memOf_mem : ∀ {l : List (Nat × Blk)} {n : Nat} {x : Blk}, memOf l n = some x → (n, x) ∈ l
  | [], n, x, h => by simp [memOf] at h
  | (m, y) :: l, n, x, h => by
    unfold memOf at h
    cases e : Nat.beq n m
    · rw [e] at h; exact List.mem_cons_of_mem _ (memOf_mem h)
    · rw [e] at h
      have := Nat.eq_of_beq_eq_true e
      subst this
      simp at h; subst h; simp
theorem leM_mem {ρ : Nat → Nat} {mem : Nat → Option Blk} : ∀ {l : List (Nat × Blk)}, leM ρ mem l → ∀ p ∈ l, leB ρ (mem (ρ p.1)) p.2
  | [], _, p, hp => by simp at hp
  | (n, x) :: l, h, p, hp => by
    rcases List.mem_cons.1 hp with rfl | hp
    · exact h.1
    · exact leM_mem h.2 p hp
theorem ble_t {a b : Nat} (h : a ≤ b) : Nat.ble a b = true := by rw [Nat.ble_eq]; exact h
theorem ble_le {a b : Nat} (h : Nat.ble a b = true) : a ≤ b := by rw [Nat.ble_eq] at h; exact h
theorem distinct_ne : ∀ {l : List Nat}, distinct l = true → ∀ (i j a b : Nat), i < j → l[i]? = some a → l[j]? = some b → a ≠ b
  | [], _, i, j, a, b, _, h, _ => by simp at h
  | x :: l, h, i, j, a, b, hij, hi, hj => by
    simp only [distinct, Bool.and_eq_true, Bool.not_eq_true', List.any_eq_false] at h
    cases j with
    | zero => omega
    | succ j =>
      cases i with
      | zero =>
        simp at hi hj
        subst hi
        have := h.1 b (List.mem_of_getElem? hj)
        intro e; subst e; rw [Nat.beq_refl] at this; simp at this
      | succ i => exact distinct_ne h.2 i j a b (by omega) (by simpa using hi) (by simpa using hj)
theorem rho_inj {ρ : Nat → Nat} {l : List (Nat × Blk)} (h : distinct (l.map fun p => ρ p.1) = true) {p q : Nat × Blk} (hp : p ∈ l) (hq : q ∈ l) (hne : p.1 ≠ q.1) : ρ p.1 ≠ ρ q.1 := by
  obtain ⟨i, hi, ei⟩ := List.getElem_of_mem hp
  obtain ⟨j, hj, ej⟩ := List.getElem_of_mem hq
  have gi : (l.map fun p => ρ p.1)[i]? = some (ρ p.1) := by rw [List.getElem?_map, List.getElem?_eq_getElem hi, ei]; rfl
  have gj : (l.map fun p => ρ p.1)[j]? = some (ρ q.1) := by rw [List.getElem?_map, List.getElem?_eq_getElem hj, ej]; rfl
  rcases Nat.lt_trichotomy i j with h' | h' | h'
  · exact distinct_ne h i j _ _ h' gi gj
  · subst h'
    exact absurd (by rw [← ei, ← ej]) hne
  · exact fun e => distinct_ne h j i _ _ h' gj gi e.symm

theorem Inv.rel {I : Inv} {s : PSt} {i : I.ι} (h : imeets I s i) {a : Act} {w : World} (gen : Nat) (R : Rel base X F0 B s a w) : Rel base X F0 B (ist I i gen) a w := by
  obtain ⟨E, R⟩ := R
  obtain ⟨_, hwf, hl, hm⟩ := h
  generalize hρ : rho (rename s (I.slots i) (I.blocks i)) = ρ at hwf hl hm
  have ρG : ∀ k, GB ≤ k → ρ k = k := by
    intro k hk
    rw [← hρ]; unfold rho
    rw [show Nat.ble GB k = true from ble_t hk]; rfl
  simp only [wfI, Bool.and_eq_true, List.all_eq_true] at hwf
  obtain ⟨⟨⟨w1, w2⟩, w3⟩, w4⟩ := hwf
  obtain ⟨l1, l2⟩ := leT_get hl
  have blk : ∀ m b, memOf (I.blocks i) m = some b → m < GB ∧ ρ m < GB ∧ leB ρ (s.mem (ρ m)) b ∧ wfB (I.blocks i) b = true ∧ (PN ≤ m → ρ m = m) := by
    intro m b hb
    have hmem := memOf_mem hb
    have := w2 _ hmem
    simp only [Nat.blt_eq] at this
    obtain ⟨⟨⟨t1, t2⟩, t3⟩, t4⟩ := this
    refine ⟨t2, t3, leM_mem hm _ hmem, t1, fun hP => ?_⟩
    rw [show Nat.ble PN m = true from ble_t hP] at t4
    exact Nat.eq_of_beq_eq_true t4
  have some_of : ∀ m b, memOf (I.blocks i) m = some b → ∃ b0, s.mem (ρ m) = some b0 := by
    intro m b hb
    have := (blk m b hb).2.2.1
    cases hs : s.mem (ρ m) with
    | none => rw [hs] at this; cases b <;> exact this.elim
    | some b0 => exact ⟨b0, rfl⟩
  let E' : Env := ⟨E.F, fun m => if GB ≤ m then E.β m else E.β (ρ m), fun m => if GB ≤ m then E.ν m else E.ν (ρ m)⟩
  have eβ : ∀ m, m < GB → E'.β m = E.β (ρ m) := fun m hm => by show (if GB ≤ m then _ else _) = _; rw [if_neg (by omega)]
  have eν : ∀ m, m < GB → E'.ν m = E.ν (ρ m) := fun m hm => by show (if GB ≤ m then _ else _) = _; rw [if_neg (by omega)]
  have nOk : ∀ m, nameOk (I.blocks i) m = true → live (ist I i gen) m ∧ adr E' m = adr E (ρ m) ∧ (live s (ρ m) → E'.ν m = E.ν (ρ m)) := by
    intro m hm
    unfold nameOk at hm
    by_cases hG : GB ≤ m
    · rw [show Nat.ble GB m = true from ble_t hG] at hm
      refine ⟨Or.inr ⟨hG, hm⟩, ?_, fun _ => ?_⟩
      · rw [ρG m hG]; unfold adr; rw [if_pos hG, if_pos hG]
      · rw [ρG m hG]; show (if GB ≤ m then _ else _) = _; rw [if_pos hG]
    · have hb : Nat.ble GB m = false := by
        cases h : Nat.ble GB m
        · rfl
        · exact absurd (ble_le h) hG
      rw [hb] at hm
      obtain ⟨b, hb⟩ := Option.isSome_iff_exists.1 hm
      obtain ⟨h1, h2, _⟩ := blk m b hb
      refine ⟨Or.inl hm, ?_, fun _ => eν m h1⟩
      unfold adr
      rw [if_neg (by omega), if_neg (by omega), eβ m h1]
  have cC : ∀ {c d : CV} {y : Value}, leC ρ c d → wfC' (I.blocks i) d = true → ConcC (live s) E w c y → ConcC (live (ist I i gen)) E' w d y := by
    intro c d y h hw hc
    unfold leC at h
    split at h
    · have hc : Rep E.F w _ y := hc
      rw [veq_eq h] at hc; exact hc
    · obtain ⟨rfl, rfl, h⟩ := h
      exact Rep.eq (.slc fun i j hi hj => eqRow_get h i j hi hj) hc
    · obtain ⟨rfl, rfl⟩ := h
      obtain ⟨h1, _, h3⟩ := nOk _ hw
      exact ⟨h1, by rw [h3 hc.1]; exact hc.2.1, hc.2.2⟩
    · obtain ⟨rfl, rfl⟩ := h
      obtain ⟨h1, h2, _⟩ := nOk _ hw
      exact ⟨h1, by rw [h2]; exact hc.2⟩
    · rename_i f l g k
      obtain ⟨rfl, rfl⟩ := h
      have hw : ∀ p ∈ k, nameOk (I.blocks i) p.1 = true := List.all_eq_true.1 hw
      refine ⟨fun p hp => (nOk _ (hw p hp)).1, ?_⟩
      rw [hc.2]
      congr 2
      rw [List.map_map]
      refine List.map_congr_left fun p hp => ?_
      simp only [Function.comp]
      rw [(nOk _ (hw p hp)).2.1]
    · exact h.elim
  have cL : ∀ {l m : List CV} {ys : List Value}, leL ρ l m → m.all (wfC' (I.blocks i)) = true → Fa2 (ConcC (live s) E w) l ys → Fa2 (ConcC (live (ist I i gen)) E' w) m ys := by
    intro l
    induction l with
    | nil =>
      intro m ys h hw hc
      cases m with
      | nil => cases ys with
        | nil => trivial
        | cons => exact hc.elim
      | cons => exact h.elim
    | cons c l ih =>
      intro m ys h hw hc
      cases m with
      | nil => exact h.elim
      | cons d m =>
        cases ys with
        | nil => exact hc.elim
        | cons y ys =>
          simp only [List.all_cons, Bool.and_eq_true] at hw
          exact ⟨cC h.1 hw.1 hc.1, ih h.2 hw.2 hc.2⟩
  have cX : ∀ {c d : XV} {y : Value}, leX ρ c d → wfX (I.blocks i) d = true → ConcX (live s) E w c y → ConcX (live (ist I i gen)) E' w d y := by
    intro c d y h hw hc
    unfold leX at h
    split at h
    · exact cC h hw hc
    · obtain ⟨ys, e, hc⟩ := hc; exact ⟨ys, e, cL h hw hc⟩
    · exact h.elim
  have cXs : ∀ {l m : List XV} {ys : List Value}, leXs ρ l m → m.all (wfX (I.blocks i)) = true → Fa2 (ConcX (live s) E w) l ys → Fa2 (ConcX (live (ist I i gen)) E' w) m ys := by
    intro l
    induction l with
    | nil =>
      intro m ys h hw hc
      cases m with
      | nil => cases ys with
        | nil => trivial
        | cons => exact hc.elim
      | cons => exact h.elim
    | cons c l ih =>
      intro m ys h hw hc
      cases m with
      | nil => exact h.elim
      | cons d m =>
        cases ys with
        | nil => exact hc.elim
        | cons y ys =>
          simp only [List.all_cons, Bool.and_eq_true] at hw
          exact ⟨cX h.1 hw.1 hc.1, ih h.2 hw.2 hc.2⟩
  have cS : ∀ {c d : SV} {y : Value}, leS ρ c d → wfS (I.blocks i) d = true → ConcS (live s) E w c y → ConcS (live (ist I i gen)) E' w d y := by
    intro c d y h hw hc
    unfold leS at h
    split at h
    · exact cX h hw hc
    · obtain ⟨ys, e, hc⟩ := hc; exact ⟨ys, e, cXs h hw hc⟩
    · exact h.elim
  have bo : ∀ m b k, memOf (I.blocks i) m = some b → blockOf E' m b = some k → ∃ b0, s.mem (ρ m) = some b0 ∧ blockOf E (ρ m) b0 = some k := by
    intro m b k hb hk
    obtain ⟨h1, h2, h3, h4⟩ := blk m b hb
    unfold leB at h3
    split at h3
    · rename_i l m' e; exact ⟨_, e, by simpa [blockOf, eβ m h1] using hk⟩
    · rename_i z n r z' n' r' e; exact ⟨_, e, by simpa [blockOf, eν m h1] using hk⟩
    · simp [blockOf] at hk
    · exact h3.elim
  refine ⟨E', R.defers, by rw [R.size]; exact l1, ?_, ?_, ?_, R.frz, R.sub, R.glob, R.old, ?_⟩
  · intro t h e hk
    obtain ⟨g, e', k', v'⟩ := l2 t h e hk
    obtain ⟨y, h1, h2⟩ := R.slots t g e' k'
    have hw := w1 h (List.mem_of_getElem? e)
    rw [hk] at hw
    exact ⟨y, h1, cS v' hw h2⟩
  · intro m b hb
    replace hb : memOf (I.blocks i) m = some b := hb
    obtain ⟨h1, h2, h3, h4, h5⟩ := blk m b hb
    refine ⟨h1, ?_⟩
    unfold leB at h3
    split at h3
    · rename_i l m' e
      obtain ⟨_, k1, k2, arr, t, k3, k4⟩ := R.mem _ _ e
      unfold BlkOK
      rw [eβ m h1]
      exact ⟨k1, k2, arr, t, k3, cL h3 h4 k4⟩
    · rename_i z n r z' n' r' e
      obtain ⟨rfl, rfl, h3⟩ := h3
      obtain ⟨_, k0, k1, k2, el, xs, k3, k4⟩ := R.mem _ _ e
      unfold BlkOK
      rw [eν m h1]
      refine ⟨k0, k1, k2, el, xs, k3, fun i j hi hj => ?_⟩
      obtain ⟨u, e1, e2⟩ := k4 i j hi hj
      exact ⟨u, e1, Rep.eq (eqRow_get h3 i j hi hj) e2⟩
    · rename_i z n r z' n' r' e
      obtain ⟨rfl, rfl, h3⟩ := h3
      have hr : Rep E.F w (.slc z n r) (E.ν (ρ m)) := (R.mem _ _ e).2
      unfold BlkOK
      rw [eν m h1]
      exact Rep.eq (.slc fun i j hi hj => eqRow_get h3 i j hi hj) hr
    · exact h3.elim
  · intro m m' b b' hb hb' hne k hk hk'
    obtain ⟨b0, e0, f0⟩ := bo m b k hb hk
    obtain ⟨b1, e1, f1⟩ := bo m' b' k hb' hk'
    exact R.sep _ _ b0 b1 e0 e1 (rho_inj w3 (memOf_mem hb) (memOf_mem hb') hne) k f0 f1
  · intro m hP hb
    obtain ⟨b, hb⟩ := Option.isSome_iff_exists.1 hb
    replace hb : memOf (I.blocks i) m = some b := hb
    obtain ⟨h1, h2, _, _, h5⟩ := blk m b hb
    obtain ⟨b0, e0⟩ := some_of m b hb
    rw [eβ m h1]
    have := h5 hP
    rw [this] at e0 ⊢
    exact R.pin m hP (by rw [e0]; rfl)

theorem unroll_ok {f : (Ex → PSt → Prop) → PSt → Prop} {k : Ex → PSt → Prop} (hf : ∀ k s, (∀ e s, k e s → s.ok) → f k s → s.ok) : ∀ (n : Nat) (s : PSt), (∀ e s, k e s → s.ok) → unroll f k n s → s.ok
  | 0, s, _, h => h.elim
  | n + 1, s, hk, h => hf _ s (fun e s' he => by
      cases e with
      | normal => exact unroll_ok (f := f) hf n (bump s') hk he
      | exit m => exact hk _ _ he
      | ret => exact hk _ _ he) h

theorem evalCode_ok {L : Nat → Option Ann} : ∀ (c : Code) (k : Ex → PSt → Prop) (s : PSt), (∀ e s, k e s → s.ok) → evalCode P O L c k s → s.ok
  | .skip, k, s, hk, h => hk _ _ (by simpa [evalCode] using h)
  | .label _, k, s, hk, h => hk _ _ (by simpa [evalCode] using h)
  | .exit _, k, s, hk, h => hk _ _ (by simpa [evalCode] using h)
  | .ret, k, s, hk, h => hk _ _ (by simpa [evalCode] using h)
  | .region id ops draw, k, s, hk, h => by
    unfold evalCode runRegion at h
    rw [force_eq] at h
    obtain ⟨s1, ds, lits, hend, hlen, run⟩ := runOps_run (ops := ops.toList) ops.toList 0 s [] s.lits (fun j o ho => by rw [Nat.zero_add]; exact ho) rfl h
    have run := run (fun i => ds.getD i ⟨gunk, [], [], []⟩) (fun j d hd => by simp [List.getD, hd])
    refine RunL.ok run (show (⟨s1.tmps, s1.mem, s1.ok, lits, s1.gen⟩ : PSt).ok from ?_)
    split at hend
    · by_cases hc : (depsBack 0 ops.toList && anyOrder [] (masks [] ops.toList) (rowsOf ops.toList ops.toList ([].reverse ++ ds))) = true
      · rw [if_pos hc] at hend; exact hend.1
      · rw [if_neg hc] at hend; exact hend.elim
    · exact hend.1
  | .seq a b, k, s, hk, h => by
    unfold evalCode at h
    refine evalCode_ok a _ s (fun e s' he => ?_) h
    cases e with
    | normal => exact evalCode_ok b k s' hk he
    | exit id => exact hk _ _ he
    | ret => exact hk _ _ he
  | .cond c x y, k, s, hk, h => by
    unfold evalCode at h
    split at h <;> try (exact h.elim)
    rename_i b hb
    split at h
    · cases b
      · exact evalCode_ok y k _ hk h
      · exact evalCode_ok x k _ hk h
    · cases b
      · exact evalCode_ok y k _ hk h
      · exact evalCode_ok x k _ hk h
  | .loop body, k, s, hk, h => by
    unfold evalCode at h
    split at h <;> try (exact h.elim)
    · rename_i n _
      exact unroll_ok (fun k s hk h => evalCode_ok body k s hk h) n s hk h
    · obtain ⟨⟨i, _, hi⟩, _⟩ := h
      exact hi.1
  | .block id c, k, s, hk, h => by
    unfold evalCode at h
    refine evalCode_ok c _ s (fun e s' he => ?_) h
    cases e with
    | normal => exact hk _ _ he
    | exit m => simp only at he; split at he <;> exact hk _ _ he
    | ret => exact hk _ _ he
  | .rangeFunc .., k, s, hk, h => by unfold evalCode at h; exact h.elim
  | .scope _, k, s, hk, h => by unfold evalCode at h; exact h.elim
  | .goto _, k, s, hk, h => by unfold evalCode at h; exact h.elim
  | .refuse _, k, s, hk, h => by unfold evalCode at h; exact h.elim

/-- THE CONDITION SUFFICES -/
theorem evalCode_sound (hO : OSound P O) (hm : P.follows .mixedOrders = true) {L : Nat → Option Ann} (w0 : World) (hb0 : base ≤ w0.heap.size) : ∀ (c : Code) (k : Ex → PSt → Prop) (Q : Exit → Act → World → Prop) (s : PSt) (a : Act) (w : World),
    (∀ e s, k e s → s.ok) → (∀ e s a w, Rel base X F0 B s a w → Keep base X w0 w → base ≤ w.heap.size → k e s → Q (exOf e) a w) →
    Rel base X F0 B s a w → Keep base X w0 w → base ≤ w.heap.size → evalCode P O L c k s → c.wp P Q a w
  | .skip, k, Q, s, a, w, hk, hq, R, hbel, hb, h => wp_skip (hq .normal s a w R hbel hb h)
  | .label _, k, Q, s, a, w, hk, hq, R, hbel, hb, h => wp_label (hq .normal s a w R hbel hb h)
  | .exit id, k, Q, s, a, w, hk, hq, R, hbel, hb, h => wp_exit (hq (.exit id) s a w R hbel hb h)
  | .ret, k, Q, s, a, w, hk, hq, R, hbel, hb, h => wp_ret (hq .ret s a w R hbel hb h)
  | .region id ops draw, k, Q, s, a, w, hk, hq, R, hbel, hb, h => by
    unfold evalCode at h
    refine region_sound hO hm (fun s hs => hs.1) h R hb hbel fun s' a' w' R' hb' h => ?_
    exact hq .normal _ a' w' (R'.lit True s'.lits s'.gen) hb' (Nat.le_trans hb0 hb'.size) h.2
  | .seq x y, k, Q, s, a, w, hk, hq, R, hbel, hb, h => by
    unfold evalCode at h
    refine wp_seq (evalCode_sound hO hm w0 hb0 x _ _ s a w (fun e s' he => ?_) (fun e s' a' w' R' hb' hb2 he => ?_) R hbel hb h)
    · cases e with
      | normal => exact evalCode_ok y k s' hk he
      | exit id => exact hk _ _ he
      | ret => exact hk _ _ he
    · cases e with
      | normal => exact evalCode_sound hO hm w0 hb0 y k Q s' a' w' hk hq R' hb' hb2 he
      | exit id => exact hq _ s' a' w' R' hb' hb2 he
      | ret => exact hq _ s' a' w' R' hb' hb2 he
  | .cond c x y, k, Q, s, a, w, hk, hq, R, hbel, hb, h => by
    unfold evalCode at h
    split at h <;> try (exact h.elim)
    rename_i b hb'
    have ev : a.eval c = .bool b := by
      obtain ⟨E, R⟩ := R
      have := R.eval c (by rw [hb'])
      rw [hb'] at this
      exact cv_v this
    have h : bcond b (evalCode P O L x k s) (evalCode P O L y k s) := by
      split at h
      · cases b <;> exact h
      · exact h
    rw [bcond_iff] at h
    refine wp_cond_split (t := b) ev (fun e => ?_) (fun e => ?_)
    · exact evalCode_sound hO hm w0 hb0 x k Q _ a w hk hq R hbel hb (h.1 e)
    · exact evalCode_sound hO hm w0 hb0 y k Q _ a w hk hq R hbel hb (h.2 e)
  | .loop body, k, Q, s, a, w, hk, hq, R, hbel, hb, h => by
    unfold evalCode at h
    split at h <;> try (exact h.elim)
    · rename_i n _
      refine wp_loop' (fun i a w => ∃ s', Rel base X F0 B s' a w ∧ Keep base X w0 w ∧ base ≤ w.heap.size ∧ unroll (fun k s => evalCode P O L body k s) k i s') (fun i => i) n ⟨s, R, hbel, hb, h⟩ (fun i a w hi => ?_)
      obtain ⟨s1, R, hbel, hb, h⟩ := hi
      cases i with
      | zero => exact h.elim
      | succ i =>
        refine evalCode_sound hO hm w0 hb0 body _ _ s1 a w (fun e s' he => ?_) (fun e s' a' w' R' hb' hb2 he => ?_) R hbel hb h
        · cases e with
          | normal => exact unroll_ok (fun k s hk h => evalCode_ok body k s hk h) i (bump s') hk he
          | exit m => exact hk _ _ he
          | ret => exact hk _ _ he
        · cases e with
          | normal => exact ⟨i, ⟨bump s', R'.lit _ _ _, hb', hb2, he⟩, Nat.lt_succ_self i⟩
          | exit m => exact hq (.exit m) s' a' w' R' hb' hb2 he
          | ret => exact hq .ret s' a' w' R' hb' hb2 he
    rename_i I hI
    obtain ⟨⟨i0, hg0, hi0⟩, hround⟩ := h
    refine wp_loop' (fun i a w => I.good i ∧ Rel base X F0 B (ist I i (s.gen + 1)) a w ∧ Keep base X w0 w ∧ base ≤ w.heap.size) I.μ i0 ⟨hg0, Inv.rel hi0 _ R, hbel, hb⟩ (fun i a w hi => ?_)
    obtain ⟨hg, R, hbel, hb⟩ := hi
    refine evalCode_sound hO hm w0 hb0 body _ _ (ist I i (s.gen + 1)) a w (fun e s' he => ?_) (fun e s' a' w' R' hb' hb2 he => ?_) R hbel hb (hround i hg)
    · cases e with
      | normal => obtain ⟨j, _, hj, _⟩ := he; exact hj.1
      | exit m => exact hk _ _ he
      | ret => exact hk _ _ he
    · cases e with
      | normal =>
        obtain ⟨j, hgj, hj, hlt⟩ := he
        exact ⟨j, ⟨hgj, Inv.rel hj _ R', hb', hb2⟩, hlt⟩
      | exit m => exact hq (.exit m) s' a' w' R' hb' hb2 he
      | ret => exact hq .ret s' a' w' R' hb' hb2 he
  | .block id c, k, Q, s, a, w, hk, hq, R, hbel, hb, h => by
    unfold evalCode at h
    refine wp_block (evalCode_sound hO hm w0 hb0 c _ _ s a w (fun e s' he => ?_) (fun e s' a' w' R' hb' hb2 he => ?_) R hbel hb h)
    · cases e with
      | normal => exact hk _ _ he
      | exit m => simp only at he; split at he <;> exact hk _ _ he
      | ret => exact hk _ _ he
    · cases e with
      | normal => exact hq .normal s' a' w' R' hb' hb2 he
      | exit m =>
        simp only at he
        simp only [exOf, Exit.inBlock]
        split
        · rename_i e; rw [if_pos e] at he; exact hq .normal s' a' w' R' hb' hb2 he
        · rename_i e; rw [if_neg e] at he; exact hq (.exit m) s' a' w' R' hb' hb2 he
      | ret => exact hq .ret s' a' w' R' hb' hb2 he
  | .rangeFunc .., k, Q, s, a, w, hk, hq, R, hbel, hb, h => by unfold evalCode at h; exact h.elim
  | .scope _, k, Q, s, a, w, hk, hq, R, hbel, hb, h => by unfold evalCode at h; exact h.elim
  | .goto _, k, Q, s, a, w, hk, hq, R, hbel, hb, h => by unfold evalCode at h; exact h.elim
  | .refuse _, k, Q, s, a, w, hk, hq, R, hbel, hb, h => by unfold evalCode at h; exact h.elim
end
end Go.Proofs.YtafaadnjkkkafaaDoor.QR
