/-
  The second edition of the pure way: a whole region, in whatever order.
-/
import Derived.Test.YtafaadnjkkkafaaDoorQx
import Derived.Test.YtafaadnjkkkafaaDoorPv
namespace Go.Proofs.YtafaadnjkkkafaaDoor.QR
open Go.RowKit PR
set_option linter.unusedVariables false
set_option linter.unusedSimpArgs false

/-- two changes that touch one block, and not both by reading -/
def Delta.conf (d e : Delta) : Bool :=
  d.up.any (fun p => e.rd.any (Nat.beq p.1) || e.up.any fun q => Nat.beq p.1 q.1) || e.up.any fun p => d.rd.any (Nat.beq p.1)

def litOp (lits : List Tmp) : Operand → Bool
  | .tmp t => lits.any (Nat.beq t)
  | .const _ => true
  | _ => false
def litOf (s : PSt) (lits : List Tmp) (o : Oper) : Bool :=
  match o.op with
  | .move x | .assign x => litOp lits x
  | .pick c a b => match valOf s c with
    | .x (.c (.v (.bool true))) => litOp lits a
    | .x (.c (.v (.bool false))) => litOp lits b
    | _ => false
  | _ => false

/-- the integers of a value get names -/
def bindL : List CV → (List CV → Prop) → Prop
  | [], k => k []
  | .v (.int kd n) :: l, k => ∀ i : Int, i = n → bindL l fun l' => k (.v (.int kd i) :: l')
  | c :: l, k => bindL l fun l' => k (c :: l')
def bindX : XV → (XV → Prop) → Prop
  | .c (.v (.int kd n)), k => ∀ i : Int, i = n → k (.c (.v (.int kd i)))
  | .c c, k => k (.c c)
  | .agg l, k => bindL l fun l' => k (.agg l')
def bindXs : List XV → (List XV → Prop) → Prop
  | [], k => k []
  | v :: l, k => bindX v fun v' => bindXs l fun l' => k (v' :: l')
def bindS : SV → (SV → Prop) → Prop
  | .x v, k => bindX v fun v' => k (.x v')
  | .tup l, k => bindXs l fun l' => k (.tup l')
  | v, k => k v

def ixOf (P : Program) (ops : List Oper) (s : PSt) (o : Oper) : Option (IntKind × Int × Nat) :=
  bif runsB (guardOf s ops o) then match o.op with
    | .index t _ i | .indexAddr t _ i => match asInt' (valOf s i), P.underlying t with
      | some (k, m), some (.array len _) => bif (operand s i).k then some (k, m, len) else none
      | _, _ => none
    | _ => none
  else none

/-- the operations in the order in which they stand; where a guard is decided, both ways -/
def runOps (P : Program) (O : Oracle) (ops : List Oper) (src : List Nat) (nm : Nat) : Nat → List Oper → PSt → List Delta → List Tmp → (PSt → List Delta → Prop) → Prop
  | _, [], s, ds, lits, k => k ⟨s.tmps, s.mem, s.ok, lits, s.gen⟩ ds.reverse
  | i, o :: rest, s, ds, lits, k => match ixOf P ops s o with
    | some (kd, m, len) => caseIx m 0 len fun j => match stepD P O ops (nm + i) (withIx o kd j) s with
      | none => False
      | some d => runOps P O ops src nm (i + 1) rest (applyD o.dst d s) (d :: ds) (addLit lits o.dst false) k
    | none => match stepD P O ops (nm + i) o s with
      | none => False
      | some d => if src.any (Nat.beq i) && !litOf s lits o then
          match d.g.v with
          | .x (.c (.v (.bool x))) => bcond x (runOps P O ops src nm (i + 1) rest (applyD o.dst ⟨gnow (vS (.bool true)), d.up, d.ok, d.rd⟩ s) (⟨gnow (vS (.bool true)), d.up, d.ok, d.rd⟩ :: ds) (addLit lits o.dst true) k)
              (runOps P O ops src nm (i + 1) rest (applyD o.dst ⟨gnow (vS (.bool false)), d.up, d.ok, d.rd⟩ s) (⟨gnow (vS (.bool false)), d.up, d.ok, d.rd⟩ :: ds) (addLit lits o.dst true) k)
          | .tup _ => runOps P O ops src nm (i + 1) rest (applyD o.dst d s) (d :: ds) (addLit lits o.dst false) k
          | _ => False
        else bif isCall o then bindS d.g.v fun v => runOps P O ops src nm (i + 1) rest (applyD o.dst ⟨⟨d.g.k, v⟩, d.up, d.ok, d.rd⟩ s) (⟨⟨d.g.k, v⟩, d.up, d.ok, d.rd⟩ :: ds) (addLit lits o.dst (litOf s lits o)) k
        else runOps P O ops src nm (i + 1) rest (applyD o.dst d s) (d :: ds) (addLit lits o.dst (litOf s lits o)) k

structure RowO where
  dst : Option Tmp
  looks : List Tmp
  d : Delta
def rowsOf (ops : List Oper) : List Oper → List Delta → List RowO
  | o :: os, d :: ds => ⟨o.dst, looks ops o, d⟩ :: rowsOf ops os ds
  | _, _ => []
def aheadOf (mask : Nat) (y : RowO) : Nat → List RowO → Bool
  | _, [] => true
  | i, x :: xs => (Nat.testBit mask i || (apart x.looks y.looks x.dst y.dst && !x.d.conf y.d)) && aheadOf mask y (i + 1) xs
def anyOrder (done : List RowO) : List Nat → List RowO → Bool
  | m :: ms, y :: ys => aheadOf m y 0 done && anyOrder (done ++ [y]) ms ys
  | _, _ => true
/-- a small number is reckoned ahead -/
def force : Nat → (Nat → Prop) → Prop
  | 0, k => k 0
  | n + 1, k => force n fun m => k (m + 1)
theorem force_eq : ∀ (n : Nat) (k : Nat → Prop), force n k = k n
  | 0, _ => rfl
  | n + 1, k => force_eq n fun m => k (m + 1)
def runRegion (P : Program) (O : Oracle) (id : Nat) (ops : List Oper) (draw : Bool) (s : PSt) (k : PSt → Prop) : Prop :=
  force s.gen fun g => runOps P O ops (sources ops) ((g * 4096 + id) * 1024) 0 ops s [] s.lits fun s' ds => if draw then (if depsBack 0 ops && anyOrder [] (masks [] ops) (rowsOf ops ops ds) then k s' else False) else k s'

theorem conjP_iff {l : List Prop} {p : Prop} : conjP l p ↔ (∀ b ∈ l, b) ∧ p := by
  induction l with
  | nil => simp [conjP]
  | cons b l ih => simp only [conjP, ih, List.forall_mem_cons, and_assoc]

section
variable {P : Program} {O : Oracle} {ops : List Oper}

theorem operand_congr {s s' : PSt} {o : Oper} (h : ∀ t ∈ looks ops o, s'.tmps[t]? = s.tmps[t]?) {x : Operand} (hx : x ∈ o.op.operands.toList) : operand s' x = operand s x := by
  cases x with
  | tmp t =>
    have : s'.tmps[t]? = s.tmps[t]? := h t (by
      unfold looks
      refine List.mem_append_left _ (List.mem_filterMap.2 ⟨_, hx, rfl⟩))
    simp [operand, List.getD, this]
  | _ => rfl
theorem guard_congr {s s' : PSt} {o : Oper} (h : ∀ t ∈ looks ops o, s'.tmps[t]? = s.tmps[t]?) : guardOf s' ops o = guardOf s ops o := by
  unfold guardOf
  split
  · rfl
  · rename_i j want hg
    split
    · rename_i d hd
      rw [h d (by unfold looks; rw [hg]; simp only; rw [hd]; exact List.mem_append_right _ (by simp))]
    · rfl
theorem known_congr {s s' : PSt} {o : Oper} (h : ∀ t ∈ looks ops o, s'.tmps[t]? = s.tmps[t]?) : knownOf s' o = knownOf s o := by
  have hv : ∀ x ∈ o.op.operands.toList, operand s' x = operand s x := fun x hx => operand_congr h hx
  unfold knownOf
  split
  · rename_i c a b ho
    rw [ho] at hv
    unfold valOf
    rw [hv c (by simp [Op.operands]), hv a (by simp [Op.operands]), hv b (by simp [Op.operands])]
  · rw [List.map_congr_left hv]

theorem resC_congr {s s' : PSt} {c d : CV} {ms : List Nat} (h : resC s c = some (d, ms)) (hm : ∀ m ∈ ms, s'.mem m = s.mem m) : resC s' c = some (d, ms) := by
  unfold resC at h ⊢
  split at h
  · rename_i m n
    split at h <;> try (simp at h; done)
    rename_i z k r hr
    simp only [Option.some.injEq, Prod.mk.injEq] at h
    obtain ⟨rfl, rfl⟩ := h
    have : rowOf s' m = rowOf s m := by unfold rowOf; rw [hm m (by simp)]
    simp only [this, hr]
  · simp at h
  · simp at h
  · exact h
theorem resL_congr {s s' : PSt} : ∀ {l d : List CV} {ms : List Nat}, resL s l = some (d, ms) → (∀ m ∈ ms, s'.mem m = s.mem m) → resL s' l = some (d, ms)
  | [], d, ms, h, _ => h
  | c :: l, d, ms, h, hm => by
    unfold resL at h ⊢
    split at h <;> try (simp at h; done)
    rename_i d1 a1 d2 a2 h1 h2
    simp only [Option.some.injEq, Prod.mk.injEq] at h
    obtain ⟨rfl, rfl⟩ := h
    rw [resC_congr h1 fun m hh => hm m (by simp [hh]), resL_congr h2 fun m hh => hm m (by simp [hh])]
theorem argA_congr {s s' : PSt} {v : SV} {g : Arg} (h : argA s v = some g) (h1 : ∀ m ∈ g.rows, s'.mem m = s.mem m) (h2 : ∀ m ∈ g.refs, s'.mem m = s.mem m) : argA s' v = some g := by
  unfold argA at h ⊢
  split at h
  · rename_i m off
    split at h <;> try (simp at h; done)
    rename_i l hl
    split at h <;> try (simp at h; done)
    rename_i k a hr
    simp only [Option.some.injEq] at h
    subst h
    simp only [h2 m (by simp), hl, resL_congr hr h1]
  · split at h <;> try (simp at h; done)
    rename_i d a hr
    simp only [Option.some.injEq] at h
    subst h
    simp only [resC_congr hr h1]
  · split at h <;> try (simp at h; done)
    rename_i d a hr
    simp only [Option.some.injEq] at h
    subst h
    simp only [resL_congr hr h1]
  · simp at h
theorem argsA_congr {s s' : PSt} : ∀ {l : List SV} {al : List AV} {rows refs : List Nat}, argsA s l = some (al, rows, refs) → (∀ m ∈ rows, s'.mem m = s.mem m) → (∀ m ∈ refs, s'.mem m = s.mem m) → argsA s' l = some (al, rows, refs)
  | [], al, rows, refs, h, _, _ => h
  | v :: l, al, rows, refs, h, h1, h2 => by
    unfold argsA at h ⊢
    split at h <;> try (simp at h; done)
    rename_i g al' rows' refs' e1 e2
    simp only [Option.some.injEq, Prod.mk.injEq] at h
    obtain ⟨rfl, rfl, rfl⟩ := h
    rw [argA_congr e1 (fun m hh => h1 m (by simp [hh])) (fun m hh => h2 m (by simp [hh])), argsA_congr e2 (fun m hh => h1 m (by simp [hh])) (fun m hh => h2 m (by simp [hh]))]
theorem froze_congr {s s' : PSt} : ∀ {rows : List Nat}, (∀ m ∈ rows, s'.mem m = s.mem m) → froze s' rows = froze s rows
  | [], _ => rfl
  | m :: l, h => by
    unfold froze
    rw [h m (by simp), froze_congr fun k hk => h k (by simp [hk])]

theorem effCall_congr {s s' : PSt} {f : FuncId} {args : List SV} {e : Eff} (h : effCall O s f args = some e) (hm : ∀ m, m ∈ e.rd → s'.mem m = s.mem m) : effCall O s' f args = some e := by
  unfold effCall at h ⊢
  split at h <;> try (simp at h; done)
  rename_i al rows refs hargs
  have key : (∀ m ∈ rows, s'.mem m = s.mem m) ∧ (∀ m ∈ refs, s'.mem m = s.mem m) := by
    split at h <;> try (simp at h; done)
    split at h <;> try (simp at h; done)
    split at h <;> try (simp at h; done)
    split at h <;> try (simp at h; done)
    split at h
    · rename_i hc
      simp only [Bool.and_eq_true, Nat.beq_eq] at hc
      simp only [Option.some.injEq] at h
      subst h
      have hr0 : refs = [] := List.eq_nil_of_length_eq_zero hc.2
      subst hr0
      exact ⟨fun m hh => hm m hh, by simp⟩
    · simp only [Option.some.injEq] at h
      subst h
      exact ⟨fun m hh => hm m (by simp [hh]), fun m hh => hm m (by simp [hh])⟩
  rw [argsA_congr hargs key.1 key.2]
  simp only [froze_congr key.1]
  exact h

theorem effBuiltin_congr {s s' : PSt} {name : Nat} {b : Builtin} {tys : List TypeId} {args : List SV} {e : Eff} (h : effBuiltin P name s b tys args = some e) (hm : ∀ m, m ∈ e.rd → s'.mem m = s.mem m) : effBuiltin P name s' b tys args = some e := by
  unfold effBuiltin at h ⊢
  split at h
  · exact h
  · exact h
  · exact h
  · rename_i a c t u
    split at h <;> try (simp at h; done)
    rename_i el hu
    try simp only [hu]
    split at h <;> try (simp at h; done)
    rename_i zs hz
    try simp only [hz]
    split at h <;> try (simp at h; done)
    rename_i hc
    rw [if_pos hc]
    split at h <;> try (simp at h; done)
    rename_i z2 n2 r2 rd hrow
    split at h <;> try (simp at h; done)
    rename_i hz2
    -- what is read of the second one
    have hrd : ∀ m ∈ rd, s'.mem m = s.mem m := by
      intro m hh
      split at h <;> try (simp at h; done)
      · simp only [Option.some.injEq] at h; subst h; exact hm m hh
      · split at h <;> try (simp at h; done)
        split at h <;> try (simp at h; done)
        simp only [Option.some.injEq] at h; subst h; exact hm m (by simp [hh])
    have hrow' : srcA s' c = some (z2, n2, r2, rd) := by
      unfold srcA at hrow ⊢
      split at hrow
      · rename_i m n
        split at hrow <;> try (simp at hrow; done)
        rename_i z n r hr
        simp only [Option.some.injEq, Prod.mk.injEq] at hrow
        obtain ⟨rfl, rfl, rfl, rfl⟩ := hrow
        have : rowOf s' m = rowOf s m := by unfold rowOf; rw [hrd m (by simp)]
        simp only [this, hr]
      · exact hrow
      · simp at hrow
    rw [hrow']
    simp only
    rw [if_pos hz2]
    split at h <;> try (simp at h; done)
    · exact h
    · rename_i m n
      have : rowW s' m = rowW s m := by
        split at h <;> try (simp at h; done)
        split at h <;> try (simp at h; done)
        simp only [Option.some.injEq] at h; subst h
        unfold rowW; rw [hm m (by simp)]
      simp only [this]
      exact h
  · simp at h

theorem partsOf_congr {s s' : PSt} : ∀ {l : List (Nat × Operand)}, (∀ p ∈ l, valOf s' p.2 = valOf s p.2) → partsOf s' l = partsOf s l
  | [], _ => rfl
  | (i, x) :: l, h => by
    unfold partsOf
    rw [h (i, x) (by simp), partsOf_congr fun p hp => h p (by simp [hp])]
theorem capsOf_congr {s s' : PSt} : ∀ {l : List Operand}, (∀ x ∈ l, operand s' x = operand s x) → capsOf s' l = capsOf s l
  | [], _ => rfl
  | x :: l, h => by
    unfold capsOf
    rw [h x (by simp), capsOf_congr fun p hp => h p (by simp [hp])]

theorem effect_congr {s s' : PSt} {o : Oper} {name : Nat} {e : Eff} (h : ∀ t ∈ looks ops o, s'.tmps[t]? = s.tmps[t]?) (he : effect P O name s o = some e) (hm : ∀ m, m ∈ e.rd → s'.mem m = s.mem m) (hu : ∀ p ∈ e.up, s'.mem p.1 = s.mem p.1) : effect P O name s' o = some e := by
  have ho' : ∀ x ∈ o.op.operands.toList, operand s' x = operand s x := fun x hx => operand_congr h hx
  have hv : ∀ x ∈ o.op.operands.toList, valOf s' x = valOf s x := fun x hx => by unfold valOf; rw [operand_congr h hx]
  unfold effect at he ⊢
  split at he
  all_goals first
    | (rename_i ho
       rw [ho] at hv ho'
       simp only [Op.operands] at hv ho')
    | (simp at he; done)
  · rw [hv _ (by simp)]; exact he
  · rw [hv _ (by simp)]; exact he
  · rw [hv _ (by simp)]; exact he
  · rename_i c x y; rw [hv c (by simp), hv x (by simp), hv y (by simp)]; exact he
  · exact he
  · rw [hv _ (by simp)]; exact he
  · -- load
    rename_i t x
    rw [hv x (by simp)]
    split at he <;> try (simp at he; done)
    · rename_i m off q
      have hmm : memC s' m = memC s m := by
        have : s'.mem m = s.mem m := by
          split at he <;> try (simp at he; done)
          split at he <;> try (simp at he; done)
          simp only [Option.some.injEq] at he; subst he
          exact hm m (by simp)
        unfold memC; rw [this]
      simp only [hmm]; exact he
    · rename_i m z i off q
      have hmm : rowOf s' m = rowOf s m := by
        have : s'.mem m = s.mem m := by
          split at he <;> try (simp at he; done)
          split at he <;> try (simp at he; done)
          split at he <;> try (simp at he; done)
          simp only [Option.some.injEq] at he; subst he
          exact hm m (by simp)
        unfold rowOf; rw [this]
      simp only [hmm]; exact he
    · exact he
  · -- store
    rename_i t x y
    rw [hv x (by simp), hv y (by simp)]
    split at he <;> try (simp at he; done)
    · rename_i m off xv q1 q2
      have hmm : s'.mem m = s.mem m := by
        split at he <;> try (simp at he; done)
        split at he <;> try (simp at he; done)
        simp only [Option.some.injEq] at he; subst he
        exact hu _ (List.mem_singleton.2 rfl)
      simp only [hmm]; exact he
    · rename_i m z i off xv q1 q2
      have hmm : rowW s' m = rowW s m := by
        have : s'.mem m = s.mem m := by
          split at he <;> try (simp at he; done)
          split at he <;> try (simp at he; done)
          simp only [Option.some.injEq] at he; subst he
          exact hu _ (List.mem_singleton.2 rfl)
        unfold rowW; rw [this]
      simp only [hmm]; exact he
  · rename_i op t x y yt; rw [hv x (by simp), hv y (by simp)]; exact he
  · rw [hv _ (by simp)]; exact he
  · rw [hv _ (by simp)]; exact he
  · rw [hv _ (by simp)]; exact he
  · rw [hv _ (by simp)]; exact he
  · -- call
    rename_i c
    have hw : c.args.toList.map (valOf s') = c.args.toList.map (valOf s) := List.map_congr_left fun x hx => hv x (by
      simp only [Call.operands, Array.toList_append]
      exact List.mem_append_right _ hx)
    have hc : ∀ cal, c.callee = cal → calleeOf s' cal = calleeOf s cal := by
      intro cal e
      subst e
      unfold calleeOf
      split
      · rename_i x hx
        rw [ho' x (by simp [Call.operands, hx])]
      · rfl
    split at he
    · rename_i b hb
      rw [hw]
      exact effBuiltin_congr he hm
    · rw [hc _ rfl, hw]
      split at he <;> try (simp at he; done)
      exact effCall_congr he hm
  · -- build
    rename_i t parts
    rw [partsOf_congr (s := s) (s' := s') fun p hp => hv p.2 (List.mem_map_of_mem hp)]; exact he
  · -- buildSlice
    rename_i t len parts
    rw [partsOf_congr (s := s) (s' := s') fun p hp => hv p.2 (List.mem_map_of_mem hp)]; exact he
  · rename_i t l c; rw [hv l (by simp), hv c (by simp)]; exact he
  · -- slice
    rename_i t x lo hi mx
    have hx := hv x (by simp)
    have hlo : ∀ d, boundOf s' d lo = boundOf s d lo := by
      intro d; cases lo with
      | none => rfl
      | some y => unfold boundOf; simp only; rw [hv y (by simp)]
    have hhi : ∀ d, boundOf s' d hi = boundOf s d hi := by
      intro d; cases hi with
      | none => rfl
      | some y => unfold boundOf; simp only; rw [hv y (by simp)]
    rw [hx]
    split at he <;> try (simp at he; done)
    rename_i el ms z n r q1 q2
    have hms : ∀ m ∈ ms, s'.mem m = s.mem m := by
      split at he <;> try (simp at he; done)
      split at he <;> try (simp at he; done)
      simp only [Option.some.injEq] at he; subst he
      exact fun m hh => hm m hh
    have hs : sliceSrc s' (valOf s x) = some (ms, z, n, r) := by
      unfold sliceSrc at q2 ⊢
      split at q2 <;> try (simp at q2; done)
      split at q2 <;> try (simp at q2; done)
      rename_i hres
      simp only [Option.some.injEq, Prod.mk.injEq] at q2
      obtain ⟨rfl, rfl, rfl, rfl⟩ := q2
      rw [resC_congr hres hms]
    rw [hs, q1]
    simp only [hlo, hhi, froze_congr hms]
    exact he
  · -- makeFunc
    rename_i f first caps
    rw [capsOf_congr (s := s) (s' := s') fun x hx => ho' x (by simp only [Array.toList_append]; exact List.mem_append_right _ hx)]; exact he
  · rw [hv _ (by simp)]; exact he
  · rename_i t x i; rw [hv x (by simp), hv i (by simp)]; exact he
  · rename_i t x i; rw [hv x (by simp), hv i (by simp)]; exact he

end
end Go.Proofs.YtafaadnjkkkafaaDoor.QR
