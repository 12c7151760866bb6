/-
  Soundness of the pure way of running operations, one operation at a time.
-/
import Derived.Test.YtafaadnjkkkafaaDoorPr
import Derived.Laws.CopyRow
import Derived.Laws.Cover2
namespace Go.Proofs.YtafaadnjkkkafaaDoor.PR
open Go.RowKit
set_option linter.unusedVariables false
set_option linter.unusedSimpArgs false

/-- the value that a slot's value stands for, the blocks' numbers given -/
def conc (β : Nat → Nat) : Value → Value
  | .pointer (some ⟨n, off, none⟩) => .pointer (some ⟨β n, off, none⟩)
  | v => v

def wfV (s : PSt) : Value → Prop
  | .pointer (some ⟨n, off, none⟩) => (s.mem n).isSome = true
  | .pointer (some ⟨_, _, some _⟩) => False
  | _ => True

structure Rel (base : Nat) (β : Nat → Nat) (s : PSt) (a : Act) (w : World) : Prop where
  defers : a.defers = []
  size : a.tmps.size = s.tmps.length
  slots : ∀ (t : Nat) (g : GV), s.tmps[t]? = some g → g.k = true → a.tmps[t]? = some (conc β g.v)
  wf : ∀ (t : Nat) (g : GV), s.tmps[t]? = some g → g.k = true → wfV s g.v
  mem : ∀ (n : Nat) (cells : List Value), s.mem n = some cells → base ≤ β n ∧ ∃ t, w.heap[β n]? = some (.cells cells.toArray t (0, 0))
  inj : ∀ n m, (s.mem n).isSome = true → (s.mem m).isSome = true → β n = β m → n = m

/-- a call of f answers v and leaves alone what was there -/
def Does (P : Program) (f : FuncId) (args : Array Value) (v : Value) : Prop :=
  ∀ w, (∃ w', (callFunc f args).run P w = .ok (.value v) w' ∧ Below w.heap.size w w') ∨
    ((callFunc f args).run P w = .ok (.enter f args) w ∧ Calls P f args w fun e w' => e = .returned v ∧ Below w.heap.size w w')

def OSound (P : Program) (O : Oracle) : Prop := ∀ f args v bs, O f args = some (v, bs) → (∀ b ∈ bs, b = true) → Does P f args.toArray v

theorem conjL_iff {l : List Bool} {p : Prop} : conjL l p ↔ (∀ b ∈ l, b = true) ∧ p := by
  induction l with
  | nil => simp [conjL]
  | cons b l ih => simp [conjL, ih, and_assoc]

theorem conc_plainA {β : Nat → Nat} {v : Value} (h : plainA v = true) : conc β v = v := by
  unfold conc; split
  · simp [plainA] at h
  · rfl
theorem conc_plainC {β : Nat → Nat} {v : Value} (h : plainC v = true) : conc β v = v := by
  unfold conc; split
  · simp [plainC, plainA] at h
  · rfl
theorem conc_plainT {β : Nat → Nat} {v : Value} (h : plainT v = true) : conc β v = v := by
  unfold conc; split
  · simp [plainT, plainC, plainA] at h
  · rfl
theorem wf_plainC {s : PSt} {v : Value} (h : plainC v = true) : wfV s v := by
  unfold wfV; split
  · simp [plainC, plainA] at h
  · simp [plainC, plainA] at h
  · trivial
theorem wf_plainA {s : PSt} {v : Value} (h : plainA v = true) : wfV s v := by
  unfold wfV; split
  · simp [plainA] at h
  · simp [plainA] at h
  · trivial
theorem wf_plainT {s : PSt} {v : Value} (h : plainT v = true) : wfV s v := by
  unfold wfV; split
  · simp [plainT, plainC, plainA] at h
  · simp [plainT, plainC, plainA] at h
  · trivial
theorem conc_agg {β : Nat → Nat} (cs : Array Value) : conc β (.agg cs) = .agg cs := rfl
theorem conc_int {β : Nat → Nat} (k : IntKind) (n : Int) : conc β (.int k n) = .int k n := rfl
theorem conc_bool {β : Nat → Nat} (n : Bool) : conc β (.bool n) = .bool n := rfl
theorem conc_tuple {β : Nat → Nat} (n : Array Value) : conc β (.tuple n) = .tuple n := rfl

/-- the value that stands behind, if it is no local address -/
theorem of_conc_int {β : Nat → Nat} {v : Value} {k : IntKind} {n : Int} (h : v = .int k n) : conc β v = .int k n := by subst h; rfl

section
variable {P : Program} {O : Oracle} {base : Nat} {β : Nat → Nat} {s : PSt} {a : Act} {w : World}

theorem Rel.eval (R : Rel base β s a w) (x : Operand) (hk : (operand s x).k = true) :
    a.eval x = conc β (operand s x).v ∧ wfV s (operand s x).v := by
  cases x with
  | tmp t =>
    simp only [operand, Act.eval] at *
    cases h : s.tmps[t]? with
    | none =>
      have h1 : s.tmps.length ≤ t := by simpa using h
      have h2 : a.tmps[t]? = none := by simp [R.size]; exact h1
      simp [List.getD, h, h2, gnow, undef, conc, wfV]
    | some g =>
      have e : s.tmps.getD t (gnow undef) = g := by simp [List.getD, h]
      rw [e] at hk ⊢
      have h1 := R.slots t g h hk
      refine ⟨by simp [h1], R.wf t g h hk⟩
  | const v =>
    simp only [operand] at *
    split at hk
    · rename_i hp
      rw [if_pos hp]
      exact ⟨(conc_plainA hp).symm, wf_plainA hp⟩
    · simp [gunk] at hk
  | global g => simp [operand, gunk] at hk
  | func f => exact ⟨rfl, trivial⟩

theorem Rel.put (R : Rel base β s a w) (dst : Option Tmp) (g : GV) (v : Value) (hv : g.k = true → v = conc β g.v) (hw : g.k = true → wfV s g.v) (b : Prop) :
    Rel base β ⟨setTmp s.tmps dst g, s.mem, b, s.lits⟩ (a.put dst v) w := by
  cases dst with
  | none => exact ⟨R.defers, R.size, R.slots, R.wf, R.mem, R.inj⟩
  | some d =>
    refine ⟨R.defers, by simp [Act.put, setTmp, R.size], ?_, ?_, R.mem, R.inj⟩
    · intro t g' h hk
      simp only [setTmp, List.getElem?_set] at h
      simp only [Act.put, Array.getElem?_setIfInBounds]
      split at h
      · rename_i hd
        subst hd
        split at h
        · rename_i hl
          simp only [Option.some.injEq] at h
          subst h
          simp [R.size, hl, hv hk]
        · simp at h
      · rename_i hd
        simp only [hd, if_false]
        exact R.slots t g' h hk
    · intro t g' h hk
      simp only [setTmp, List.getElem?_set] at h
      split at h
      · split at h
        · simp only [Option.some.injEq] at h; subst h; exact hw hk
        · simp at h
      · exact R.wf t g' h hk

theorem Rel.ok (R : Rel base β s a w) (b : Prop) : Rel base β { s with ok := b } a w := ⟨R.defers, R.size, R.slots, R.wf, R.mem, R.inj⟩

theorem Rel.lit (R : Rel base β s a w) (l : List Tmp) : Rel base β ⟨s.tmps, s.mem, s.ok, l⟩ a w := ⟨R.defers, R.size, R.slots, R.wf, R.mem, R.inj⟩

/-- only what stood in the blocks from base on, and they as they were, counts -/
theorem Rel.world (R : Rel base β s a w) {w' : World} (h : ∀ n, (s.mem n).isSome = true → w'.heap[β n]? = w.heap[β n]?) : Rel base β s a w' :=
  ⟨R.defers, R.size, R.slots, R.wf, fun n cells hm => ⟨(R.mem n cells hm).1, by rw [h n (by simp [hm])]; exact (R.mem n cells hm).2⟩, R.inj⟩

theorem Rel.lt (R : Rel base β s a w) {n : Nat} (h : (s.mem n).isSome = true) : β n < w.heap.size := by
  obtain ⟨cells, hm⟩ := Option.isSome_iff_exists.1 h
  obtain ⟨_, t, ht⟩ := R.mem n cells hm
  exact (Array.getElem?_eq_some_iff.1 ht).1

theorem Rel.below (R : Rel base β s a w) {w' : World} (h : Below w.heap.size w w') : Rel base β s a w' :=
  R.world fun n hn => h.block _ (R.lt hn)

/-- a new block -/
theorem Rel.alloc (R : Rel base β s a w) (hb : base ≤ w.heap.size) (name : Nat) (hn : (s.mem name).isNone = true) (t : TypeId) (cells : List Value) :
    Rel base (fun n => if n = name then w.heap.size else β n) ⟨s.tmps, fun n => if n = name then some cells else s.mem n, s.ok, s.lits⟩ a (w.alloc (.cells cells.toArray t)) := by
  have cw : ∀ v, wfV s v → conc (fun n => if n = name then w.heap.size else β n) v = conc β v := by
    intro v hv
    unfold conc
    split
    · rename_i n off
      simp only [wfV] at hv
      have : n ≠ name := by intro e; subst e; simp [Option.isNone_iff_eq_none] at hn; simp [hn] at hv
      simp [this]
    · rfl
  refine ⟨R.defers, R.size, ?_, ?_, ?_, ?_⟩
  · intro t g h hk
    rw [R.slots t g h hk, cw _ (R.wf t g h hk)]
  · intro t g h hk
    have := R.wf t g h hk
    revert this
    unfold wfV
    split
    · rename_i n off he
      intro h1
      show (if n = name then some cells else s.mem n).isSome = true
      split
      · rfl
      · exact h1
    · exact id
    · exact id
  · intro n cells' h
    simp only at h ⊢
    split at h
    · rename_i e
      simp only [Option.some.injEq] at h
      subst h
      simp only [e, if_true]
      exact ⟨hb, t, heap_alloc_new w _⟩
    · rename_i e
      simp only [e, if_false]
      have := R.mem n cells' h
      exact ⟨this.1, by rw [heap_alloc_old w _ _ (R.lt (by simp [h]))]; exact this.2⟩
  · intro n m hn' hm' he
    simp only at hn' hm' he
    by_cases e1 : n = name <;> by_cases e2 : m = name
    · rw [e1, e2]
    · simp only [e1, e2, if_true, if_false] at hm' he
      have := R.lt hm'; omega
    · simp only [e1, e2, if_true, if_false] at hn' he
      have := R.lt hn'; omega
    · simp only [e1, e2, if_false] at hn' hm' he
      exact R.inj n m hn' hm' he

/-- a store -/
theorem Rel.store (R : Rel base β s a w) (n : Nat) (old cells : List Value) (hm : s.mem n = some old) :
    Rel base β ⟨s.tmps, fun m => if m = n then some cells else s.mem m, s.ok, s.lits⟩ a (w.setRow (β n) cells.toArray) := by
  have dom : ∀ m, (if m = n then some cells else s.mem m).isSome = (s.mem m).isSome := by
    intro m; split
    · rename_i e; subst e; simp [hm]
    · rfl
  refine ⟨R.defers, R.size, R.slots, ?_, ?_, ?_⟩
  · intro t g h hk
    have := R.wf t g h hk
    revert this
    unfold wfV
    split
    · intro h1
      simp only [dom]
      exact h1
    · exact id
    · exact id
  · intro m cells' h
    simp only at h
    have hmn := R.mem n old hm
    split at h
    · rename_i e
      simp only [Option.some.injEq] at h
      subst h e
      obtain ⟨h1, t, h2⟩ := hmn
      exact ⟨h1, t, setRow_heap w _ _ _ _ _ h2⟩
    · rename_i e
      have hmm := R.mem m cells' h
      refine ⟨hmm.1, ?_⟩
      rw [setRow_other w _ _ _ (fun e' => e (R.inj m n (by simp [h]) (by simp [hm]) e'))]
      exact hmm.2
  · intro x y hx hy
    simp only [dom] at hx hy
    exact R.inj x y hx hy

theorem allOf_mem : ∀ {l : List GV}, allOf l = true → ∀ {g : GV}, g ∈ l → g.k = true
  | [], _, g, hg => by simp at hg
  | x :: l, h, g, hg => by
    simp only [allOf, Bool.and_eq_true] at h
    rcases List.mem_cons.1 hg with rfl | hg
    · exact h.1
    · exact allOf_mem h.2 hg

theorem known_all {x : Operand} {o : Oper} (hp : ∀ c u v, o.op ≠ .pick c u v) (hc : ∀ c, o.op ≠ .call c) (h : knownOf s o = true) (hx : x ∈ o.op.operands.toList) : (operand s x).k = true := by
  unfold knownOf at h
  split at h
  · rename_i c u v e; exact absurd e (hp c u v)
  · rename_i c e; exact absurd e (hc c)
  · exact allOf_mem h (List.mem_map_of_mem hx)

theorem run_partV {t : TypeId} {cs : Array Value} {off : Nat} {v : Value} (h : partV P t cs off = some v) (w : World) : (part t cs off).run P w = .ok v w := by
  unfold partV at h
  split at h
  · rename_i i d hi hu
    have hs : (sizeOf t).run P w = .ok i.size w := by simp [sizeOf, typeInfo, hi]
    have hagg : (isAgg t).run P w = .ok (match d with | .struct _ | .array _ _ => true | _ => false) w := by
      unfold isAgg
      rw [Sem.run_bind, run_underlying hu w]
      cases d <;> simp
    unfold part
    rw [Sem.run_bind, hagg]
    split at h
    · simp only [Option.some.injEq] at h; subst h; simp [hs]
    · simp only [Option.some.injEq] at h; subst h; simp [hs]
    · rename_i h1 h2
      simp only [Result.andThen_ok]
      split
      · exact absurd rfl (h1 _)
      · exact absurd rfl (h2 _ _)
      · simp [h]
  · simp at h

theorem run_eqFields (d : Nat) (xs ys : Array Value) (ih : ∀ (t : TypeId) (x y : Value) (r : Bool) (w : World), eqV P d t x y = some r → (Op.equalIn d t x y).run P w = .ok r w) :
    ∀ (fs : List Field) (r : Bool) (w : World), eqParts P (eqV P d) xs ys ((fs.filter (·.name != "_")).map fun f => (f.type, f.offset)) = some r → (Op.eqFields d xs ys fs).run P w = .ok r w
  | [], r, w, h => by simp [eqParts] at h; subst h; rfl
  | f :: fs, r, w, h => by
    unfold Op.eqFields
    by_cases hn : f.name = "_"
    · rw [if_neg (by simp [hn])]
      simp only [List.filter_cons, hn, bne_self_eq_false, Bool.false_eq_true, if_false] at h
      exact run_eqFields d xs ys ih fs r w h
    · rw [if_pos hn]
      have hb : (f.name != "_") = true := by simpa using hn
      simp only [List.filter_cons, hb, if_true, List.map_cons, eqParts] at h
      split at h <;> try simp at h
      rename_i a b ha hb'
      split at h <;> try simp at h
      rename_i r1 hr1
      split at h <;> try simp at h
      rename_i r2 hr2
      subst h
      simp only [Sem.run_bind, run_partV ha, run_partV hb', ih _ _ _ _ _ hr1, Result.andThen_ok]
      cases r1
      · simp [band]
      · simpa [band] using run_eqFields d xs ys ih fs r2 w hr2

theorem run_eqElems (d : Nat) (xs ys : Array Value) (e : TypeId) (z : Nat) (ih : ∀ (t : TypeId) (x y : Value) (r : Bool) (w : World), eqV P d t x y = some r → (Op.equalIn d t x y).run P w = .ok r w) :
    ∀ (l : List Nat) (r : Bool) (w : World), eqParts P (eqV P d) xs ys (l.map fun i => (e, i * z)) = some r →
      (Sem.run P (forIn l ((none : Option Bool), ()) fun i s => (do
        let a ← part e xs (i * z)
        let b ← part e ys (i * z)
        let r ← Op.equalIn d e a b
        if (!r) = true then pure (ForInStep.done (some false, ())) else pure (ForInStep.yield (none, ())) : Sem (ForInStep (Option Bool × Unit)))) w) = .ok (bif r then (none, ()) else (some false, ())) w
  | [], r, w, h => by simp [eqParts] at h; subst h; rfl
  | i :: l, r, w, h => by
    simp only [List.map_cons, eqParts] at h
    split at h <;> try (simp at h; done)
    rename_i a b ha hb'
    split at h <;> try (simp at h; done)
    rename_i r1 hr1
    split at h <;> try (simp at h; done)
    rename_i r2 hr2
    simp only [Option.some.injEq] at h
    subst h
    simp only [List.forIn_cons, Sem.run_bind, run_partV ha, run_partV hb', ih _ _ _ _ _ hr1, Result.andThen_ok]
    cases r1
    · simp [band]
    · simpa [band] using run_eqElems d xs ys e z ih l r2 w hr2

theorem run_eqV : ∀ (d : Nat) (t : TypeId) (x y : Value) (r : Bool) (w : World), eqV P d t x y = some r → (Op.equalIn d t x y).run P w = .ok r w
  | 0, t, x, y, r, w, h => by simp [eqV] at h
  | d + 1, t, x, y, r, w, h => by
    unfold eqV at h
    split at h
    · rename_i hu
      split at h <;> try simp at h
      subst h
      exact run_equalIn_bool' w d t _ _ hu
    · rename_i k hu
      split at h <;> try simp at h
      obtain ⟨rfl, rfl⟩ := h
      rw [run_equalIn_int w d t _ _ _ _ hu]; rfl
    · rename_i fs hu
      split at h <;> try simp at h
      obtain ⟨hp, h⟩ := h
      have hf : P.fieldsOf t = fs := by simp [Program.fieldsOf, hu]
      rw [run_equalIn_agg w d t _ _ (by rw [hf]; exact hu) hp, hf]
      exact run_eqFields d _ _ (fun t x y r w h => run_eqV d t x y r w h) _ _ _ h
    · rename_i n e hu
      split at h <;> try simp at h
      rename_i xs ys
      obtain ⟨hi, h⟩ := h
      obtain ⟨i, hi⟩ : ∃ i, P.info? e = some i := by
        cases q : P.info? e with
        | none => exact absurd q hi
        | some i => exact ⟨i, rfl⟩
      have hs : ∀ w, (sizeOf e).run P w = .ok i.size w := fun w => by simp [sizeOf, typeInfo, hi]
      have hz : sizeT P e = i.size := by simp [sizeT, hi]
      rw [hz] at h
      simp only [Op.equalIn, Sem.run_bind, run_underlying hu, Result.andThen_ok, hs, Std.Legacy.Range.forIn_eq_forIn_range', Std.Legacy.Range.size, Nat.sub_zero, Nat.add_sub_cancel, Nat.div_one, ← List.range_eq_range']
      rw [run_eqElems d xs ys e i.size (fun t x y r w h => run_eqV d t x y r w h) (List.range n) r w h]
      cases r <;> rfl
    · simp at h

/-- a binary operation of two plain values -/
theorem run_binV {op : BinOp} {x y v : Value} {b : List Bool} {t : TypeId} (h : binV P op t x y = some (v, b)) (hb : ∀ c ∈ b, c = true) (p q : Operand) (w : World) :
    (do eqGuard op t p q x y; binOp op t x y : Sem Value).run P w = .ok v w ∧ plainA v = true := by
  unfold binV at h
  split at h
  · rename_i k a l c
    split at h
    · simp only [Option.some.injEq, Prod.mk.injEq] at h
      obtain ⟨rfl, rfl⟩ := h
      have hb := hb _ (List.mem_singleton.2 rfl)
      simp only [ige, ge_iff_le, decide_eq_true_eq] at hb
      refine ⟨?_, rfl⟩
      simp only [eqGuard_shl, pure_bind, binOp_shl, Op.shift]
      rw [if_neg (by omega)]
      rfl
    · simp only [Option.some.injEq, Prod.mk.injEq] at h
      obtain ⟨rfl, rfl⟩ := h
      have hb := hb _ (List.mem_singleton.2 rfl)
      simp only [ige, ge_iff_le, decide_eq_true_eq] at hb
      refine ⟨?_, rfl⟩
      simp only [eqGuard_shr, pure_bind, binOp_shr, Op.shift]
      rw [if_neg (by omega)]
      rfl
    · split at h
      · rename_i hkl
        subst hkl
        split at h <;> first
          | (simp only [Option.some.injEq, Prod.mk.injEq] at h
             obtain ⟨rfl, rfl⟩ := h
             refine ⟨?_, rfl⟩
             first
               | (have hb := hb _ (List.mem_singleton.2 rfl)
                  simp only [ine, bne_iff_ne, ne_eq] at hb
                  simp [eqGuard_at_int, binOp_quo, binOp_rem, Op.intDiv, hb, iquo, irem]; done)
               | (simp [eqGuard_at_int, binOp_add, binOp_sub, binOp_mul, binOp_and, binOp_or, binOp_xor, binOp_andNot, binOp_eql, binOp_neq, binOp_lss, binOp_leq, binOp_gtr, binOp_geq, Op.intArith, intBits_and, intBits_or, intBits_xor, intBits_andNot, iadd, isub, imul, iand, ior, ixor, iandn, ieq, ine, ilt, ile, igt, ige]; done))
          | simp at h
      · simp at h
  · rename_i a c
    split at h <;> try (simp at h; done)
    · rename_i hu
      simp only [Option.some.injEq, Prod.mk.injEq] at h
      obtain ⟨rfl, rfl⟩ := h
      refine ⟨?_, rfl⟩
      simp only [eqGuard_at_bool, pure_bind]
      exact run_eql_bool w t a c hu
    · rename_i hu
      simp only [Option.some.injEq, Prod.mk.injEq] at h
      obtain ⟨rfl, rfl⟩ := h
      refine ⟨?_, rfl⟩
      simp only [eqGuard_at_bool, pure_bind]
      exact run_neq_bool w t a c hu
  · rename_i k a l c
    split at h
    · rename_i hkl
      subst hkl
      have arith : ∀ op', (op' = .add ∨ op' = .sub ∨ op' = .mul ∨ op' = .quo) → op = op' → fok op' k a c = true → (do eqGuard op t p q (.float k a) (.float k c); binOp op t (.float k a) (.float k c) : Sem Value).run P w = .ok (.float k (fop op' k a c)) w := by
        intro op' ho e hb
        subst e
        obtain ⟨r, hr⟩ := Option.isSome_iff_exists.1 hb
        rw [eqGuard_at_float, pure_bind, run_float_arith w op t k a c r hr]
        simp [fop, hr]
      split at h <;> first
        | (simp only [Option.some.injEq, Prod.mk.injEq] at h
           obtain ⟨rfl, rfl⟩ := h
           refine ⟨?_, rfl⟩
           first
             | (exact arith _ (by simp) rfl (hb _ (List.mem_singleton.2 rfl)); done)
             | (simp [eqGuard_at_float, binOp_float_cmp_eql, binOp_float_cmp_neq, binOp_float_cmp_lss, binOp_float_cmp_leq, binOp_float_cmp_gtr, binOp_float_cmp_geq, feq, fne, flt, fle, fgt, fge]; done))
        | simp at h
    · simp at h
  · rename_i xs ys
    split at h
    · simp at h
    · rename_i hg
      have hg : P.eqGuardType P.depth t = false := by simpa using hg
      split at h <;> try (simp at h; done)
      · rename_i r hr
        simp only [Option.some.injEq, Prod.mk.injEq] at h
        obtain ⟨rfl, rfl⟩ := h
        refine ⟨?_, rfl⟩
        rw [Sem.run_bind, run_eqGuard_agg w _ _ _ _ _ _ hg]
        simp only [Result.andThen_ok]
        rw [run_eql_struct, run_eqV _ _ _ _ _ _ hr]
        rfl
      · rename_i r hr
        simp only [Option.some.injEq, Prod.mk.injEq] at h
        obtain ⟨rfl, rfl⟩ := h
        refine ⟨?_, rfl⟩
        rw [Sem.run_bind, run_eqGuard_agg w _ _ _ _ _ _ hg]
        simp only [Result.andThen_ok]
        rw [run_neq_struct, run_eqV _ _ _ _ _ _ hr]
        rfl
  · simp at h

theorem run_unV {op : UnOp} {x v : Value} {b : List Bool} (h : unV op x = some (v, b)) (w : World) :
    (Op.unary op x).run P w = .ok v w ∧ plainA v = true := by
  unfold unV at h
  split at h <;> first
    | (simp only [Option.some.injEq, Prod.mk.injEq] at h
       obtain ⟨rfl, rfl⟩ := h
       refine ⟨?_, rfl⟩
       simp [Op.unary, Op.intArith, isub, bnot]; done)
    | simp at h

theorem run_load_part (g off : Nat) (t ty : TypeId) (cells : List Value) (hg : w.heap[g]? = some (.cells cells.toArray t (0, 0))) (ha : isAggT P ty = true)
    (hl : off + sizeT P ty ≤ cells.length) (hi : (P.info? ty).isSome = true) :
    (Instr.loadAt ty (.pointer (some ⟨g, off, none⟩))).run P w = .ok (.agg ((cells.drop off).take (sizeT P ty)).toArray) w := by
  obtain ⟨i, hi⟩ := Option.isSome_iff_exists.1 hi
  have hs : sizeT P ty = i.size := by simp [sizeT, hi]
  rw [hs] at hl ⊢
  obtain ⟨d, hu⟩ : ∃ d, P.underlying ty = some d := by
    unfold isAggT at ha
    cases h : P.underlying ty with
    | none => simp [h] at ha
    | some d => exact ⟨d, rfl⟩
  have hagg : (isAgg ty).run P w = .ok true w := by
    unfold isAgg
    rw [Sem.run_bind, run_underlying hu w]
    unfold isAggT at ha
    rw [hu] at ha
    cases d <;> simp_all
  have hc := run_loadCells_list (P := P) w ⟨g, off, none⟩ ((cells.drop off).take i.size) (fun j v hv => by
    have hadd : (⟨g, off, none⟩ : Addr).add j = ⟨g, off + j, none⟩ := by unfold Addr.add; split <;> simp_all
    rw [hadd]
    simp only [World.cell?, hg]
    simp only [List.getElem?_take, List.getElem?_drop] at hv
    split at hv
    · simpa using hv
    · simp at hv)
  have hlen : ((cells.drop off).take i.size).length = i.size := by rw [List.length_take, List.length_drop]; omega
  rw [hlen] at hc
  simp [Instr.loadAt, Instr.sureAddr, loadVar, hagg, sizeOf, typeInfo, hi, hc]

theorem run_load_cell (g off : Nat) (t ty : TypeId) (cells : List Value) (v : Value) (hg : w.heap[g]? = some (.cells cells.toArray t (0, 0))) (ha : isAggT P ty = false)
    (hu : (P.underlying ty).isSome = true) (hv : cells[off]? = some v) : (Instr.loadAt ty (.pointer (some ⟨g, off, none⟩))).run P w = .ok v w := by
  obtain ⟨d, hu⟩ := Option.isSome_iff_exists.1 hu
  have hagg : (isAgg ty).run P w = .ok false w := by
    unfold isAgg
    rw [Sem.run_bind, run_underlying hu w]
    unfold isAggT at ha
    rw [hu] at ha
    cases d <;> simp_all
  have hc : w.cell? ⟨g, off, none⟩ = some v := by simp only [World.cell?, hg]; simpa using hv
  simp [Instr.loadAt, Instr.sureAddr, loadVar, hagg, hc]

theorem run_store_part (g off : Nat) (t ty : TypeId) (cells : List Value) (x : Value) (hg : w.heap[g]? = some (.cells cells.toArray t (0, 0))) (hi : (P.info? ty).isSome = true)
    (hs : x.cells.size = sizeT P ty) (hl : off + x.cells.size ≤ cells.length) (h1 : x.cells.all Value.oneCell' = true) :
    (Instr.storeAt ty (.pointer (some ⟨g, off, none⟩)) x).run P w = .ok () (w.setRow g (splice cells off x.cells.toList).toArray) := by
  obtain ⟨i, hi⟩ := Option.isSome_iff_exists.1 hi
  have hs : x.cells.size = i.size := by simpa [sizeT, hi] using hs
  have := run_storeCells_at (P := P) g off t x.cells.toList 0 cells.toArray w hg (by simpa using hl) (fun v hv => (Array.all_eq_true_iff_forall_mem.1 h1) v (by simpa using hv))
  simp only [Nat.add_zero] at this
  simp [Instr.storeAt, Instr.sureAddr, storeVar, sizeOf, typeInfo, hi, hs, this, splice]
end
end Go.Proofs.YtafaadnjkkkafaaDoor.PR
