/-
  Soundness of the pure way of running operations: a whole region, in whatever order.
-/
import Derived.Test.YtafaadnjkkkafaaDoorPt
namespace Go.Proofs.YtafaadnjkkkafaaDoor.PR
open Go.RowKit
set_option linter.unusedVariables false
set_option linter.unusedSimpArgs false

section
variable {P : Program} {O : Oracle} {ops : List Oper}

theorem operand_congr {s s' : PSt} {o : Oper} (h : ∀ t ∈ looks ops o, s'.tmps[t]? = s.tmps[t]?) {x : Operand} (hx : x ∈ o.op.operands.toList) : operand s' x = operand s x := by
  cases x with
  | tmp t =>
    have : s'.tmps[t]? = s.tmps[t]? := h t (by
      unfold looks
      refine List.mem_append_left _ (List.mem_filterMap.2 ⟨_, hx, rfl⟩))
    simp [operand, List.getD, this]
  | _ => rfl

theorem guard_congr {s s' : PSt} {o : Oper} (h : ∀ t ∈ looks ops o, s'.tmps[t]? = s.tmps[t]?) : guardOf s' ops o = guardOf s ops o := by
  unfold guardOf
  split
  · rfl
  · rename_i j want hg
    split
    · rename_i d hd
      rw [h d (by unfold looks; rw [hg]; simp only; rw [hd]; exact List.mem_append_right _ (by simp))]
    · rfl

theorem known_congr {s s' : PSt} {o : Oper} (h : ∀ t ∈ looks ops o, s'.tmps[t]? = s.tmps[t]?) : knownOf s' o = knownOf s o := by
  have hv : ∀ x ∈ o.op.operands.toList, operand s' x = operand s x := fun x hx => operand_congr h hx
  unfold knownOf
  split
  · rename_i c a b ho
    rw [ho] at hv
    unfold valOf
    rw [hv c (by simp [Op.operands]), hv a (by simp [Op.operands]), hv b (by simp [Op.operands])]
  · rename_i c ho
    rw [ho] at hv
    rw [List.map_congr_left fun x hx => hv x (by
      simp only [Op.operands, Call.operands, Array.toList_append]
      exact List.mem_append_right _ hx)]
  · rw [List.map_congr_left hv]

/-- the block that an effect reads -/
def Eff.rd : Eff → Option Nat
  | .val _ _ r => r
  | .new _ _ => none
  | .put n _ => some n

theorem effect_congr {s s' : PSt} {o : Oper} {e : Eff} (h : ∀ t ∈ looks ops o, s'.tmps[t]? = s.tmps[t]?) (he : effect P O s o = some e) (hm : ∀ n, e.rd = some n → s'.mem n = s.mem n) : effect P O s' o = some e := by
  have hv : ∀ x ∈ o.op.operands.toList, valOf s' x = valOf s x := fun x hx => by unfold valOf; rw [operand_congr h hx]
  unfold effect at he ⊢
  split at he
  all_goals first
    | (rename_i ho
       rw [ho] at hv
       simp only [Op.operands] at hv)
    | (simp at he; done)
  · rw [hv _ (by simp)]; exact he
  · rw [hv _ (by simp)]; exact he
  · rename_i c x y; rw [hv c (by simp), hv x (by simp), hv y (by simp)]; exact he
  · exact he
  · rw [hv _ (by simp)]; exact he
  · rename_i t x
    rw [hv x (by simp)]
    split at he <;> try (simp at he; done)
    rename_i n off q1
    cases hq : s.mem n with
    | none => simp [hq] at he
    | some cells =>
      rw [hq] at he
      have hr : e.rd = some n := by
        simp only at he
        split at he
        · split at he <;> try (simp at he; done)
          simp only [Option.some.injEq] at he; subst he; rfl
        · split at he <;> try (simp at he; done)
          split at he <;> try (simp at he; done)
          simp only [Option.some.injEq] at he; subst he; rfl
      rw [hm n hr, hq]
      exact he
  · rename_i t x y
    rw [hv x (by simp), hv y (by simp)]
    split at he <;> try (simp at he; done)
    rename_i n off q1
    cases hq : s.mem n with
    | none => simp [hq] at he
    | some cells =>
      rw [hq] at he
      have hr : e.rd = some n := by
        simp only at he
        split at he <;> try (simp at he; done)
        simp only [Option.some.injEq] at he; subst he; rfl
      rw [hm n hr, hq]
      exact he
  · rename_i op t x y yt; rw [hv x (by simp), hv y (by simp)]; exact he
  · rw [hv _ (by simp)]; exact he
  · rw [hv _ (by simp)]; exact he
  · rw [hv _ (by simp)]; exact he
  · rw [hv _ (by simp)]; exact he
  · rename_i c
    have hw : c.args.toList.map (valOf s') = c.args.toList.map (valOf s) := List.map_congr_left fun x hx => hv x (by
      simp only [Call.operands, Array.toList_append]
      exact List.mem_append_right _ hx)
    have hc : ∀ cal, c.callee = cal → calleeOf s' cal = calleeOf s cal := by
      intro cal e
      subst e
      unfold calleeOf
      split
      · rename_i x hx
        rw [operand_congr h (x := x) (by rw [ho]; simp [Op.operands, Call.operands, hx])]
      · rfl
    rw [hw]
    split at he
    · exact he
    · exact he
    · rw [hc _ rfl]
      exact he
  · rename_i t parts
    have e1 : (parts.toList.map fun p => valOf s' p.2) = parts.toList.map fun p => valOf s p.2 := List.map_congr_left fun p hp => hv p.2 (List.mem_map_of_mem hp)
    have e2 : (parts.toList.map fun p => (p.1, valOf s' p.2)) = parts.toList.map fun p => (p.1, valOf s p.2) := List.map_congr_left fun p hp => by rw [hv p.2 (List.mem_map_of_mem hp)]
    rw [e1, e2]; exact he
  · rw [hv _ (by simp)]; exact he
  · rename_i t x i; rw [hv x (by simp), hv i (by simp)]; exact he
  · rename_i t x i; rw [hv x (by simp), hv i (by simp)]; exact he

theorem stepD_congr {s s' : PSt} {o : Oper} {name : Nat} {d : Delta} (h : ∀ t ∈ looks ops o, s'.tmps[t]? = s.tmps[t]?) (hd : stepD P O ops name o s = some d)
    (hr : ∀ n, d.rd = some n → s'.mem n = s.mem n) (hu : ∀ n x, d.up = some (n, x) → s'.mem n = s.mem n) : stepD P O ops name o s' = some d := by
  unfold stepD at hd ⊢
  rw [guard_congr h, known_congr h]
  split at hd <;> try (simp at hd; done)
  · exact hd
  · split at hd <;> try (simp at hd; done)
    rename_i hk
    rw [if_pos hk]
    split at hd <;> try (simp at hd; done)
    · rename_i v b rd he
      simp only [Option.some.injEq] at hd
      subst hd
      rw [effect_congr h he (fun n hn => hr n hn)]
    · rename_i t cells he
      split at hd <;> try (simp at hd; done)
      rename_i hg
      simp only [Option.some.injEq] at hd
      subst hd
      rw [effect_congr h he (fun n hn => by simp [Eff.rd] at hn)]
      simp only
      rw [hu name _ rfl, if_pos hg]
    · rename_i n cells he
      simp only [Option.some.injEq] at hd
      subst hd
      rw [effect_congr h he (fun m hm => by simp only [Eff.rd, Option.some.injEq] at hm; subst hm; exact hu _ _ rfl)]

theorem setTmp_other {l : List GV} {dst : Option Tmp} {g : GV} {t : Tmp} (h : ∀ d, dst = some d → t ≠ d) : (setTmp l dst g)[t]? = l[t]? := by
  cases dst with
  | none => rfl
  | some d => simp only [setTmp, List.getElem?_set]; rw [if_neg (fun e => h d rfl e.symm)]

theorem setTmp_comm {l : List GV} {x y : Option Tmp} {g k : GV} (h : ∀ d e, x = some d → y = some e → d ≠ e) : setTmp (setTmp l x g) y k = setTmp (setTmp l y k) x g := by
  cases x with
  | none => rfl
  | some d => cases y with
    | none => rfl
    | some e => exact List.set_comm _ _ (h d e rfl rfl)

theorem applyM_other {m : Nat → Option (List Value)} {u : Option (Nat × List Value)} {n : Nat} (h : ∀ k x, u = some (k, x) → n ≠ k) : applyM m u n = m n := by
  cases u with
  | none => rfl
  | some p => obtain ⟨k, x⟩ := p; simp only [applyM]; rw [if_neg (h k x rfl)]

theorem applyM_comm {m : Nat → Option (List Value)} {u v : Option (Nat × List Value)} (h : ∀ n x k y, u = some (n, x) → v = some (k, y) → n ≠ k) : applyM (applyM m u) v = applyM (applyM m v) u := by
  cases u with
  | none => rfl
  | some p => cases v with
    | none => rfl
    | some q =>
      obtain ⟨n, x⟩ := p; obtain ⟨k, y⟩ := q
      have := h n x k y rfl rfl
      clear h
      funext j
      simp only [applyM]
      by_cases e1 : j = n <;> by_cases e2 : j = k <;> simp_all

theorem apart_spec {lx ly : List Tmp} {dx dy : Option Tmp} (h : apart lx ly dx dy = true) : (∀ d, dx = some d → ∀ t ∈ ly, t ≠ d) ∧ (∀ d e, dx = some d → dy = some e → d ≠ e) ∧ (∀ d, dy = some d → ∀ t ∈ lx, t ≠ d) := by
  unfold apart at h
  simp only [Bool.and_eq_true] at h
  obtain ⟨h1, h2⟩ := h
  refine ⟨?_, ?_, ?_⟩
  · intro d e t ht
    subst e
    simp only [Bool.and_eq_true, Bool.not_eq_true', List.any_eq_false, Nat.beq_eq] at h1
    exact h1.1 t ht
  · intro d e e1 e2
    subst e1 e2
    simp only [Bool.and_eq_true, Bool.not_eq_true'] at h1
    intro hc; subst hc
    simp at h1
  · intro d e t ht
    subst e
    simp only [Bool.not_eq_true', List.any_eq_false, Nat.beq_eq] at h2
    exact h2 t ht

/-- two operations that have nothing to do with each other change places -/
theorem step_comm {s : PSt} {x y : Oper} {nx ny : Nat} {dx dy : Delta} (hap : apart (looks ops x) (looks ops y) x.dst y.dst = true) (hcf : dx.conf dy = false)
    (h1 : stepD P O ops nx x s = some dx) (h2 : stepD P O ops ny y (applyD x.dst dx s) = some dy) :
    stepD P O ops ny y s = some dy ∧ stepD P O ops nx x (applyD y.dst dy s) = some dx ∧ applyD x.dst dx (applyD y.dst dy s) = applyD y.dst dy (applyD x.dst dx s) := by
  obtain ⟨a1, a2, a3⟩ := apart_spec hap
  unfold Delta.conf at hcf
  simp only [Bool.or_eq_false_iff] at hcf
  obtain ⟨c1, c2⟩ := hcf
  have u1 : ∀ n p, dx.up = some (n, p) → dy.rd ≠ some n := fun n p e => by rw [e] at c1; simp at c1; exact c1.1
  have u2 : ∀ n p, dy.up = some (n, p) → dx.rd ≠ some n := fun n p e => by rw [e] at c2; simp at c2; exact c2
  have u3 : ∀ n p k q, dx.up = some (n, p) → dy.up = some (k, q) → n ≠ k := fun n p k q e e' => by rw [e, e'] at c1; simp at c1; exact c1.2
  refine ⟨?_, ?_, ?_⟩
  · refine stepD_congr (s := applyD x.dst dx s) (fun t ht => ?_) h2 (fun n hn => ?_) (fun n p hp => ?_)
    · exact (setTmp_other fun d hd => a1 d hd t ht).symm
    · exact (applyM_other fun k q hk e => u1 k q hk (by rw [hn, e])).symm
    · exact (applyM_other fun k q hk e => u3 k q n p hk hp e.symm).symm
  · refine stepD_congr (s := s) (fun t ht => ?_) h1 (fun n hn => ?_) (fun n p hp => ?_)
    · exact setTmp_other fun d hd => a3 d hd t ht
    · exact applyM_other fun k q hk e => u2 k q hk (by rw [hn, e])
    · exact applyM_other fun k q hk e => u3 n p k q hp hk e
  · unfold applyD
    rw [setTmp_comm (x := y.dst) (y := x.dst) (fun d e hd he => fun h => a2 e d he hd h.symm), applyM_comm (u := dy.up) (v := dx.up) (fun n p k q hn hk => fun h => u3 k q n p hk hn h.symm)]
    have e : conjL dx.ok (conjL dy.ok s.ok) = conjL dy.ok (conjL dx.ok s.ok) := propext (by simp only [conjL_iff]; exact and_left_comm)
    rw [e]

/-- the operations of a list of places, one after the other, each with the change that is told -/
inductive RunL (P : Program) (O : Oracle) (ops : List Oper) (nm : Nat) (D : Nat → Delta) : List Nat → PSt → PSt → Prop
  | nil (s : PSt) : RunL P O ops nm D [] s s
  | cons {i : Nat} {l : List Nat} {s s' : PSt} {o : Oper} (ho : ops[i]? = some o) (h : stepD P O ops (nm + i) o s = some (D i)) (t : RunL P O ops nm D l (applyD o.dst (D i) s) s') : RunL P O ops nm D (i :: l) s s'

theorem RunL.ok {nm : Nat} {D : Nat → Delta} {l : List Nat} {s s' : PSt} (h : RunL P O ops nm D l s s') : s'.ok → s.ok := by
  induction h with
  | nil => exact id
  | cons ho h t ih => intro hk; have := ih hk; simp only [applyD, conjL_iff] at this; exact this.2

def Free (ops : List Oper) (D : Nat → Delta) (a i : Nat) : Prop := ∀ x y, ops[a]? = some x → ops[i]? = some y → apart (looks ops x) (looks ops y) x.dst y.dst = true ∧ (D a).conf (D i) = false

/-- an operation that is free of all that stand ahead of it comes first -/
theorem RunL.pull {nm : Nat} {D : Nat → Delta} {i : Nat} : ∀ (l : List Nat) (s s' : PSt), l.Pairwise (· < ·) → i ∈ l → (∀ a ∈ l, a < i → Free ops D a i) → RunL P O ops nm D l s s' → RunL P O ops nm D (i :: l.filter (· != i)) s s'
  | [], s, s', _, hi, _, _ => by simp at hi
  | r :: l, s, s', hp, hi, hf, h => by
    cases h with
    | cons ho h1 t =>
      rename_i x
      by_cases e : r = i
      · subst e
        have hl : l.filter (· != r) = l := by
          rw [List.filter_eq_self]
          intro a ha
          have := (List.pairwise_cons.1 hp).1 a ha
          simp; omega
        simp only [List.filter_cons, bne_self_eq_false, Bool.false_eq_true, if_false, hl]
        exact .cons ho h1 t
      · have hil : i ∈ l := by simpa [Ne.symm e] using hi
        have hri : r < i := (List.pairwise_cons.1 hp).1 i hil
        have ih := RunL.pull l _ _ (List.pairwise_cons.1 hp).2 hil (fun a ha hlt => hf a (by simp [ha]) hlt) t
        have hne : (r != i) = true := by simpa using e
        simp only [List.filter_cons, hne, if_true]
        cases ih with
        | cons ho2 h2 t2 =>
          rename_i y
          obtain ⟨ap, cf⟩ := hf r (by simp) hri x y ho ho2
          obtain ⟨k1, k2, k3⟩ := step_comm ap cf h1 h2
          refine .cons ho2 k1 (.cons ho k2 ?_)
          rw [k3]
          exact t2

theorem bcond_iff {b : Bool} {p q : Prop} : bcond b p q ↔ (b = true → p) ∧ (b = false → q) := by cases b <;> simp [bcond]

/-- one way through the branches of a region -/
theorem bindC_elim : ∀ (l : List Value) (k : List Value → Prop), bindC l k → k l := by
  intro l
  induction l with
  | nil => intro k h; exact h
  | cons v l ih =>
    intro k h
    cases v
    case int kd n => exact ih (fun l' => k (.int kd n :: l')) (h n rfl)
    all_goals exact ih (fun l' => k (_ :: l')) h
theorem bindL_elim : ∀ (l : List Value) (k : List Value → Prop), bindL l k → k l := by
  intro l
  induction l with
  | nil => intro k h; exact h
  | cons v l ih =>
    intro k h
    cases v
    case int kd n => exact ih (fun l' => k (.int kd n :: l')) (h n rfl)
    case agg a =>
      obtain ⟨cs⟩ := a
      exact ih (fun l' => k (.agg ⟨cs⟩ :: l')) (bindC_elim cs (fun cs' => bindL l fun l' => k (.agg ⟨cs'⟩ :: l')) h)
    all_goals exact ih (fun l' => k (_ :: l')) h
theorem bindV_elim {v : Value} {k : Value → Prop} (h : bindV v k) : k v := by
  unfold bindV at h
  split at h
  · exact h _ rfl
  · exact bindC_elim _ _ h
  · exact bindL_elim _ _ h
  · exact h

theorem caseIx_elim : ∀ (n j : Nat) (m : Int) (k : Nat → Prop), caseIx m j n k → ∃ i : Nat, m = i ∧ k i
  | 0, _, _, _, h => h.elim
  | n + 1, j, m, k, h => by
    unfold caseIx at h
    rw [bcond_iff] at h
    cases e : ieq m j
    · exact caseIx_elim n (j + 1) m k (h.2 e)
    · exact ⟨j, by simpa [ieq] using e, h.1 e⟩

theorem stepD_ix {md : Bool} {s : PSt} {o : Oper} {nm : Nat} {kd : IntKind} {m : Int} {len : Nat} (h : ixOf P ops md s o = some (kd, m, len)) {j : Nat} (hj : m = j) : stepD P O ops nm (withIx o kd j) s = stepD P O ops nm o s := by
  subst hj
  unfold ixOf at h
  cases hc : (md && runsB (guardOf s ops o))
  · rw [hc] at h; simp at h
  rw [hc] at h
  simp only [cond_true] at h
  have cv : (operand s (.const (.int kd (j : Int)))) = gnow (.int kd j) := rfl
  split at h <;> try (simp at h; done)
  all_goals
    rename_i t x i ho
    split at h <;> try (simp at h; done)
    rename_i k m' l e hv hu
    cases hk : (operand s i).k
    · simp [hk] at h
    rw [hk] at h
    simp only [cond_true, Option.some.injEq, Prod.mk.injEq] at h
    obtain ⟨rfl, rfl, rfl⟩ := h
    have hv' : valOf s (.const (.int k (j : Int))) = valOf s i := by rw [hv]; rfl
    have hw : withIx o k j = { o with op := (withIx o k j).op } := by unfold withIx; rw [ho]
    have g : guardOf s ops (withIx o k j) = guardOf s ops o := by unfold guardOf withIx; rw [ho]
    have kn : knownOf s (withIx o k j) = knownOf s o := by
      unfold knownOf withIx
      simp only [ho]
      simp only [Op.operands, List.map_cons, List.map_nil, allOf, cv, hk, gnow]
    have ef : effect P O s (withIx o k j) = effect P O s o := by
      unfold effect withIx
      simp only [ho, hv']
    unfold stepD
    rw [g, kn, ef]

theorem runOps_run {src : List Nat} {nm : Nat} {md : Bool} {k : PSt → List Delta → Prop} : ∀ (rest : List Oper) (i : Nat) (s : PSt) (ds : List Delta) (lits : List Tmp), (∀ j o, rest[j]? = some o → ops[i + j]? = some o) → ds.length = i →
    runOps P O ops src nm md i rest s ds lits k → ∃ (s' : PSt) (es : List Delta) (l : List Tmp), k ⟨s'.tmps, s'.mem, s'.ok, l⟩ (ds.reverse ++ es) ∧ es.length = rest.length ∧ ∀ D : Nat → Delta, (∀ j d, es[j]? = some d → D (i + j) = d) → RunL P O ops nm D (List.range' i rest.length) s s'
  | [], i, s, ds, lits, _, _, h => ⟨s, [], lits, by simpa [runOps] using h, rfl, fun D _ => .nil _⟩
  | o :: rest, i, s, ds, lits, ho, hl, h => by
    have go0 : ∀ d, stepD P O ops (nm + i) o s = some d → ∀ (e : Delta) (lits' : List Tmp), e = d → runOps P O ops src nm md (i + 1) rest (applyD o.dst e s) (e :: ds) lits' k → ∃ (s' : PSt) (es : List Delta) (l : List Tmp), k ⟨s'.tmps, s'.mem, s'.ok, l⟩ (ds.reverse ++ es) ∧ es.length = (o :: rest).length ∧ ∀ D : Nat → Delta, (∀ j d, es[j]? = some d → D (i + j) = d) → RunL P O ops nm D (List.range' i (o :: rest).length) s s' := by
      intro d hd e lits' he hrun
      subst he
      obtain ⟨s', es, l, h1, h2, h3⟩ := runOps_run rest (i + 1) _ _ _ (fun j x hx => by rw [Nat.add_assoc, Nat.add_comm 1 j]; exact ho (j + 1) x (by simpa using hx)) (by simp [hl]) hrun
      refine ⟨s', e :: es, l, by simpa using h1, by simp [h2], fun D hD => ?_⟩
      have e0 : D i = e := hD 0 e rfl
      rw [List.length_cons, List.range'_succ]
      exact .cons (ho 0 o rfl) (by rw [e0]; exact hd) (by rw [e0]; exact h3 D (fun j d hj => by rw [Nat.add_assoc, Nat.add_comm 1 j]; exact hD (j + 1) d (by simpa using hj)))
    unfold runOps at h
    split at h
    · rename_i kd m len hix
      obtain ⟨j, hj, h⟩ := caseIx_elim _ _ _ _ h
      split at h <;> try (exact h.elim)
      rename_i d hd
      rw [stepD_ix hix hj] at hd
      exact go0 d hd d _ rfl h
    split at h <;> try (exact h.elim)
    rename_i d hd
    have go := go0 d hd
    split at h
    · split at h <;> try (exact h.elim)
      · rename_i x hx
        rw [bcond_iff] at h
        have hk : d.g.k = true := by
          unfold stepD at hd
          split at hd <;> try (simp at hd; done)
          · simp only [Option.some.injEq] at hd; subst hd; rfl
          · split at hd <;> try (simp at hd; done)
            split at hd <;> try (simp at hd; done)
            · simp only [Option.some.injEq] at hd; subst hd; rfl
            · split at hd <;> try (simp at hd; done)
              simp only [Option.some.injEq] at hd; subst hd; rfl
            · simp only [Option.some.injEq] at hd; subst hd; rfl
        have same : ∀ b, x = b → (⟨gnow (.bool b), d.up, d.ok, d.rd⟩ : Delta) = d := by
          intro b hb
          subst hb
          obtain ⟨⟨k0, v0⟩, up, ok, rd⟩ := d
          simp only at hx hk
          subst hx hk
          rfl
        cases hb : x
        · exact go _ _ (same _ hb) (h.2 hb)
        · exact go _ _ (same _ hb) (h.1 hb)
      · exact go d _ rfl h
    · cases hm : (md && isCall o)
      · rw [hm] at h
        exact go d _ rfl h
      · rw [hm] at h
        exact go d _ rfl (bindV_elim h)
end
end Go.Proofs.YtafaadnjkkkafaaDoor.PR
