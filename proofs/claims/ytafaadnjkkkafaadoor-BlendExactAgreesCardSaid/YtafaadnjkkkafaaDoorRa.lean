/-
  The second edition of the pure way: a region that draws its order.
-/
import Derived.Test.YtafaadnjkkkafaaDoorQy
namespace Go.Proofs.YtafaadnjkkkafaaDoor.QR
open Go.RowKit PR
set_option linter.unusedVariables false
set_option linter.unusedSimpArgs false

section
variable {P : Program} {O : Oracle} {ops : List Oper}

theorem stepD_congr {s s' : PSt} {o : Oper} {name : Nat} {d : Delta} (h : ∀ t ∈ looks ops o, s'.tmps[t]? = s.tmps[t]?) (hd : stepD P O ops name o s = some d)
    (hr : ∀ m, m ∈ d.rd → s'.mem m = s.mem m) (hu : ∀ p ∈ d.up, s'.mem p.1 = s.mem p.1) : stepD P O ops name o s' = some d := by
  unfold stepD at hd ⊢
  rw [guard_congr h, known_congr h]
  split at hd <;> try (simp at hd; done)
  · exact hd
  · split at hd <;> try (simp at hd; done)
    rename_i hk
    rw [if_pos hk]
    split at hd <;> try (simp at hd; done)
    rename_i e he
    split at hd
    · rename_i hn
      simp only [Option.some.injEq] at hd
      subst hd
      rw [effect_congr h he hr hu]
      simp only [hn]
    · rename_i b hn
      split at hd <;> try (simp at hd; done)
      rename_i hg
      simp only [Option.some.injEq] at hd
      subst hd
      rw [effect_congr h he hr (fun p hp => hu p (by simp [hp]))]
      simp only [hn]
      have := hu (name, b) (by simp)
      simp only at this
      rw [this, if_pos hg]

theorem setTmp_other {l : List GV} {dst : Option Tmp} {g : GV} {t : Tmp} (h : ∀ d, dst = some d → t ≠ d) : (setTmp l dst g)[t]? = l[t]? := by
  cases dst with
  | none => rfl
  | some d => simp only [setTmp, List.getElem?_set]; rw [if_neg (fun e => h d rfl e.symm)]

theorem setTmp_comm {l : List GV} {x y : Option Tmp} {g k : GV} (h : ∀ d e, x = some d → y = some e → d ≠ e) : setTmp (setTmp l x g) y k = setTmp (setTmp l y k) x g := by
  cases x with
  | none => rfl
  | some d => cases y with
    | none => rfl
    | some e => exact List.set_comm _ _ (h d e rfl rfl)

def findU : List (Nat × Blk) → Nat → Option Blk
  | [], _ => none
  | (n, b) :: l, k => bif Nat.beq k n then some b else findU l k
theorem applyU_find (m : Nat → Option Blk) : ∀ (u : List (Nat × Blk)) (k : Nat), applyU m u k = match findU u k with | some b => some b | none => m k
  | [], k => rfl
  | (n, b) :: l, k => by
    show (bif Nat.beq k n then some b else applyU m l k) = match (bif Nat.beq k n then some b else findU l k) with | some b => some b | none => m k
    cases Nat.beq k n
    · exact applyU_find m l k
    · rfl
theorem findU_mem : ∀ {u : List (Nat × Blk)} {k : Nat} {b : Blk}, findU u k = some b → ∃ c, (k, c) ∈ u
  | [], k, b, h => by simp [findU] at h
  | (n, c) :: l, k, b, h => by
    unfold findU at h
    cases hb : Nat.beq k n
    · rw [hb] at h
      obtain ⟨c', hc'⟩ := findU_mem (u := l) h
      exact ⟨c', by simp [hc']⟩
    · have := Nat.eq_of_beq_eq_true hb
      subst this
      exact ⟨c, by simp⟩
theorem applyU_other {m : Nat → Option Blk} {u : List (Nat × Blk)} {n : Nat} (h : ∀ p ∈ u, n ≠ p.1) : applyU m u n = m n := by
  rw [applyU_find]
  cases hf : findU u n with
  | none => rfl
  | some b =>
    obtain ⟨c, hc⟩ := findU_mem hf
    exact absurd rfl (h _ hc)
theorem applyU_comm {m : Nat → Option Blk} {u v : List (Nat × Blk)} (h : ∀ p ∈ u, ∀ q ∈ v, p.1 ≠ q.1) : applyU (applyU m u) v = applyU (applyU m v) u := by
  funext k
  simp only [applyU_find]
  cases hu : findU u k with
  | none => rfl
  | some b =>
    cases hv : findU v k with
    | none => rfl
    | some c =>
      obtain ⟨b', hb⟩ := findU_mem hu
      obtain ⟨c', hc⟩ := findU_mem hv
      exact absurd rfl (h (k, b') hb (k, c') hc)
theorem conf_spec {d e : Delta} (h : d.conf e = false) : (∀ p ∈ d.up, ∀ m ∈ e.rd, p.1 ≠ m) ∧ (∀ p ∈ d.up, ∀ q ∈ e.up, p.1 ≠ q.1) ∧ (∀ p ∈ e.up, ∀ m ∈ d.rd, p.1 ≠ m) := by
  unfold Delta.conf at h
  simp only [Bool.or_eq_false_iff, List.any_eq_false, Bool.or_eq_true, List.any_eq_true, not_or, not_exists, not_and] at h
  obtain ⟨h1, h2⟩ := h
  refine ⟨fun p hp m hm e' => ?_, fun p hp q hq e' => ?_, fun p hp m hm e' => ?_⟩
  · exact (h1 p hp).1 m hm (by rw [e', Nat.beq_refl])
  · exact (h1 p hp).2 q hq (by rw [e', Nat.beq_refl])
  · exact h2 p hp m hm (by rw [e', Nat.beq_refl])

/-- two operations that have nothing to do with each other change places -/
theorem step_comm {s : PSt} {x y : Oper} {nx ny : Nat} {dx dy : Delta} (hap : apart (looks ops x) (looks ops y) x.dst y.dst = true) (hcf : dx.conf dy = false)
    (h1 : stepD P O ops nx x s = some dx) (h2 : stepD P O ops ny y (applyD x.dst dx s) = some dy) :
    stepD P O ops ny y s = some dy ∧ stepD P O ops nx x (applyD y.dst dy s) = some dx ∧ applyD x.dst dx (applyD y.dst dy s) = applyD y.dst dy (applyD x.dst dx s) := by
  obtain ⟨a1, a2, a3⟩ := apart_spec hap
  obtain ⟨c1, c2, c3⟩ := conf_spec hcf
  refine ⟨?_, ?_, ?_⟩
  · refine stepD_congr (s := applyD x.dst dx s) (fun t ht => ?_) h2 (fun m hm => ?_) (fun p hp => ?_)
    · exact (setTmp_other fun d hd => a1 d hd t ht).symm
    · exact (applyU_other fun q hq e => c1 q hq m hm e.symm).symm
    · exact (applyU_other fun q hq e => c2 q hq p hp e.symm).symm
  · refine stepD_congr (s := s) (fun t ht => ?_) h1 (fun m hm => ?_) (fun p hp => ?_)
    · exact setTmp_other fun d hd => a3 d hd t ht
    · exact applyU_other fun q hq e => c3 q hq m hm e.symm
    · exact applyU_other fun q hq e => c2 p hp q hq e
  · unfold applyD
    rw [setTmp_comm (x := y.dst) (y := x.dst) (fun d e hd he => fun h => a2 e d he hd h.symm), applyU_comm (u := dy.up) (v := dx.up) (fun p hp q hq => fun h => c2 q hq p hp h.symm)]
    have e : conjP dx.ok (conjP dy.ok s.ok) = conjP dy.ok (conjP dx.ok s.ok) := propext (by simp only [conjP_iff]; exact and_left_comm)
    rw [e]

/-- the operations of a list of places, one after the other, each with the change that is told -/
inductive RunL (P : Program) (O : Oracle) (ops : List Oper) (nm : Nat) (D : Nat → Delta) : List Nat → PSt → PSt → Prop
  | nil (s : PSt) : RunL P O ops nm D [] s s
  | cons {i : Nat} {l : List Nat} {s s' : PSt} {o : Oper} (ho : ops[i]? = some o) (h : stepD P O ops (nm + i) o s = some (D i)) (t : RunL P O ops nm D l (applyD o.dst (D i) s) s') : RunL P O ops nm D (i :: l) s s'

theorem RunL.ok {nm : Nat} {D : Nat → Delta} {l : List Nat} {s s' : PSt} (h : RunL P O ops nm D l s s') : s'.ok → s.ok := by
  induction h with
  | nil => exact id
  | cons ho h t ih => intro hk; have := ih hk; simp only [applyD, conjP_iff] at this; exact this.2

def Free (ops : List Oper) (D : Nat → Delta) (a i : Nat) : Prop := ∀ x y, ops[a]? = some x → ops[i]? = some y → apart (looks ops x) (looks ops y) x.dst y.dst = true ∧ (D a).conf (D i) = false

/-- an operation that is free of all that stand ahead of it comes first -/
theorem RunL.pull {nm : Nat} {D : Nat → Delta} {i : Nat} : ∀ (l : List Nat) (s s' : PSt), l.Pairwise (· < ·) → i ∈ l → (∀ a ∈ l, a < i → Free ops D a i) → RunL P O ops nm D l s s' → RunL P O ops nm D (i :: l.filter (· != i)) s s'
  | [], s, s', _, hi, _, _ => by simp at hi
  | r :: l, s, s', hp, hi, hf, h => by
    cases h with
    | cons ho h1 t =>
      rename_i x
      by_cases e : r = i
      · subst e
        have hl : l.filter (· != r) = l := by
          rw [List.filter_eq_self]
          intro a ha
          have := (List.pairwise_cons.1 hp).1 a ha
          simp; omega
        simp only [List.filter_cons, bne_self_eq_false, Bool.false_eq_true, if_false, hl]
        exact .cons ho h1 t
      · have hil : i ∈ l := by simpa [Ne.symm e] using hi
        have hri : r < i := (List.pairwise_cons.1 hp).1 i hil
        have ih := RunL.pull l _ _ (List.pairwise_cons.1 hp).2 hil (fun a ha hlt => hf a (by simp [ha]) hlt) t
        have hne : (r != i) = true := by simpa using e
        simp only [List.filter_cons, hne, if_true]
        cases ih with
        | cons ho2 h2 t2 =>
          rename_i y
          obtain ⟨ap, cf⟩ := hf r (by simp) hri x y ho ho2
          obtain ⟨k1, k2, k3⟩ := step_comm ap cf h1 h2
          refine .cons ho2 k1 (.cons ho k2 ?_)
          rw [k3]
          exact t2


theorem bindL_elim : ∀ (l : List CV) (k : List CV → Prop), bindL l k → k l := by
  intro l
  induction l with
  | nil => intro k h; exact h
  | cons c l ih =>
    intro k h
    cases c with
    | v x => cases x with
      | int kd n => exact ih (fun l' => k (.v (.int kd n) :: l')) (h n rfl)
      | _ => exact ih (fun l' => k (_ :: l')) h
    | _ => exact ih (fun l' => k (_ :: l')) h
theorem bindX_elim {v : XV} {k : XV → Prop} (h : bindX v k) : k v := by
  unfold bindX at h
  split at h
  · exact h _ rfl
  · exact h
  · exact bindL_elim _ _ h
theorem bindXs_elim : ∀ (l : List XV) (k : List XV → Prop), bindXs l k → k l
  | [], k, h => h
  | v :: l, k, h => bindXs_elim l (fun l' => k (v :: l')) (bindX_elim (k := fun v' => bindXs l fun l' => k (v' :: l')) h)
theorem bindS_elim {v : SV} {k : SV → Prop} (h : bindS v k) : k v := by
  unfold bindS at h
  split at h
  · exact bindX_elim h
  · exact bindXs_elim _ _ h
  · exact h

theorem asInt_of {v : SV} {k : IntKind} {n : Int} (h : asInt' v = some (k, n)) : v = vS (.int k n) := by
  unfold asInt' at h
  split at h <;> try (simp at h; done)
  simp only [Option.some.injEq, Prod.mk.injEq] at h
  obtain ⟨rfl, rfl⟩ := h
  rfl
theorem stepD_ix {s : PSt} {o : Oper} {nm : Nat} {kd : IntKind} {m : Int} {len : Nat} (h : ixOf P ops s o = some (kd, m, len)) {j : Nat} (hj : m = j) : stepD P O ops nm (withIx o kd j) s = stepD P O ops nm o s := by
  subst hj
  unfold ixOf at h
  cases hc : runsB (guardOf s ops o)
  · rw [hc] at h; simp at h
  rw [hc] at h
  simp only [cond_true] at h
  have cv : (operand s (.const (.int kd (j : Int)))) = gnow (vS (.int kd j)) := rfl
  split at h <;> try (simp at h; done)
  all_goals
    rename_i t x i ho
    split at h <;> try (simp at h; done)
    rename_i k m' l e hv hu
    cases hk : (operand s i).k
    · simp [hk] at h
    rw [hk] at h
    simp only [cond_true, Option.some.injEq, Prod.mk.injEq] at h
    obtain ⟨rfl, rfl, rfl⟩ := h
    have hv := asInt_of hv
    have hv' : valOf s (.const (.int k (j : Int))) = valOf s i := by rw [hv]; rfl
    have g : guardOf s ops (withIx o k j) = guardOf s ops o := by unfold guardOf withIx; rw [ho]
    have kn : knownOf s (withIx o k j) = knownOf s o := by
      unfold knownOf withIx
      simp only [ho]
      simp only [Op.operands, List.map_cons, List.map_nil, allOf, cv, hk, gnow]
    have ef : effect P O nm s (withIx o k j) = effect P O nm s o := by
      unfold effect withIx
      simp only [ho, hv']
    unfold stepD
    rw [g, kn, ef]

theorem stepD_k {s : PSt} {o : Oper} {name : Nat} {d : Delta} (hd : stepD P O ops name o s = some d) : d.g.k = true := by
  unfold stepD at hd
  split at hd <;> try (simp at hd; done)
  · simp only [Option.some.injEq] at hd; subst hd; rfl
  · split at hd <;> try (simp at hd; done)
    split at hd <;> try (simp at hd; done)
    split at hd
    · simp only [Option.some.injEq] at hd; subst hd; rfl
    · split at hd <;> try (simp at hd; done)
      simp only [Option.some.injEq] at hd; subst hd; rfl

theorem runOps_run {src : List Nat} {nm : Nat} {k : PSt → List Delta → Prop} : ∀ (rest : List Oper) (i : Nat) (s : PSt) (ds : List Delta) (lits : List Tmp), (∀ j o, rest[j]? = some o → ops[i + j]? = some o) → ds.length = i →
    runOps P O ops src nm i rest s ds lits k → ∃ (s' : PSt) (es : List Delta) (l : List Tmp), k ⟨s'.tmps, s'.mem, s'.ok, l, s'.gen⟩ (ds.reverse ++ es) ∧ es.length = rest.length ∧ ∀ D : Nat → Delta, (∀ j d, es[j]? = some d → D (i + j) = d) → RunL P O ops nm D (List.range' i rest.length) s s'
  | [], i, s, ds, lits, _, _, h => ⟨s, [], lits, by simpa [runOps] using h, rfl, fun D _ => .nil _⟩
  | o :: rest, i, s, ds, lits, ho, hl, h => by
    have go0 : ∀ d, stepD P O ops (nm + i) o s = some d → ∀ (e : Delta) (lits' : List Tmp), e = d → runOps P O ops src nm (i + 1) rest (applyD o.dst e s) (e :: ds) lits' k → ∃ (s' : PSt) (es : List Delta) (l : List Tmp), k ⟨s'.tmps, s'.mem, s'.ok, l, s'.gen⟩ (ds.reverse ++ es) ∧ es.length = (o :: rest).length ∧ ∀ D : Nat → Delta, (∀ j d, es[j]? = some d → D (i + j) = d) → RunL P O ops nm D (List.range' i (o :: rest).length) s s' := by
      intro d hd e lits' he hrun
      subst he
      obtain ⟨s', es, l, h1, h2, h3⟩ := runOps_run rest (i + 1) _ _ _ (fun j x hx => by rw [Nat.add_assoc, Nat.add_comm 1 j]; exact ho (j + 1) x (by simpa using hx)) (by simp [hl]) hrun
      refine ⟨s', e :: es, l, by simpa using h1, by simp [h2], fun D hD => ?_⟩
      have e0 : D i = e := hD 0 e rfl
      rw [List.length_cons, List.range'_succ]
      exact .cons (ho 0 o rfl) (by rw [e0]; exact hd) (by rw [e0]; exact h3 D (fun j d hj => by rw [Nat.add_assoc, Nat.add_comm 1 j]; exact hD (j + 1) d (by simpa using hj)))
    unfold runOps at h
    split at h
    · rename_i kd m len hix
      obtain ⟨j, hj, h⟩ := caseIx_elim _ _ _ _ h
      split at h <;> try (exact h.elim)
      rename_i d hd
      rw [stepD_ix hix hj] at hd
      exact go0 d hd d _ rfl h
    split at h <;> try (exact h.elim)
    rename_i d hd
    have go := go0 d hd
    split at h
    · split at h <;> try (exact h.elim)
      · rename_i x hx
        rw [bcond_iff] at h
        have hk : d.g.k = true := stepD_k hd
        have same : ∀ b, x = b → (⟨gnow (vS (.bool b)), d.up, d.ok, d.rd⟩ : Delta) = d := by
          intro b hb
          subst hb
          obtain ⟨⟨k0, v0⟩, up, ok, rd⟩ := d
          simp only at hx hk
          subst hx hk
          rfl
        cases hb : x
        · exact go _ _ (same _ hb) (h.2 hb)
        · exact go _ _ (same _ hb) (h.1 hb)
      · exact go d _ rfl h
    · cases hm : isCall o
      · rw [hm] at h
        exact go d _ rfl h
      · rw [hm] at h
        exact go d _ rfl (bindS_elim h)
end

theorem guard_sound {base : Nat} {X F0 : Nat → Prop} {B : Nat → Nat} {E : Env} {s : PSt} {a : Act} {w : World} {o : Oper} (R : RelE base X F0 B E s a w) {ops : Array Oper} {γ : Bool} (h : guardOf s ops.toList o = some γ) : Region.wanted o (yielded ops a.tmps) = γ := by
  unfold guardOf at h
  unfold Region.wanted
  split at h
  · rename_i hg
    simp only [Option.some.injEq] at h
    rw [hg]; exact h
  · rename_i j want hg
    rw [hg]
    simp only
    split at h <;> try (simp at h; done)
    rename_i d hd
    have hd : (ops[j]?).bind (·.dst) = some d := by simpa using hd
    unfold yielded
    rw [hd]
    split at h <;> try (simp at h; done)
    · rename_i b hs
      simp only [Option.some.injEq] at h
      obtain ⟨y, h1, h2⟩ := R.slots d _ hs rfl
      obtain rfl := cv_v h2
      simp only [Option.bind_some, h1]
      subst h
      cases b <;> cases want <;> rfl
    · rename_i vs hs
      simp only [Option.some.injEq] at h
      obtain ⟨y, h1, ys, rfl, _⟩ := R.slots d _ hs rfl
      simp only [Option.bind_some, h1]
      subst h
      rfl

section
variable {P : Program} {O : Oracle} {base : Nat} {X F0 : Nat → Prop} {B : Nat → Nat}
def Rel (base : Nat) (X F0 : Nat → Prop) (B : Nat → Nat) (s : PSt) (a : Act) (w : World) : Prop := ∃ E, RelE base X F0 B E s a w

theorem step_sound {s : PSt} {a : Act} {w : World} {o : Oper} (hO : OSound P O) (R : Rel base X F0 B s a w) (hb : base ≤ w.heap.size) {ops : Array Oper} {i name : Nat} (ho : ops[i]? = some o) {d : Delta} (h : stepD P O ops.toList name o s = some d) (hok : (applyD o.dst d s).ok)
    {K : Act → World → Prop} {Q : Exit → Act → World → Prop} (hK : ∀ a' w', Rel base X F0 B (applyD o.dst d s) a' w' → Keep base X w w' → K a' w') : wpOp P ops Q i K a w := by
  obtain ⟨E, R⟩ := R
  unfold wpOp
  rw [ho]
  simp only
  unfold stepD at h
  split at h <;> try (simp at h; done)
  · rename_i hγ
    rw [guard_sound R hγ]
    simp only [Option.some.injEq] at h
    subst h
    simp only [Bool.false_eq_true, if_false]
    exact hK _ _ ⟨E, R.go o.dst (gnow (.tup [])) undef _ s.lits s.gen (Later.refl _ _ _) (fun _ _ => rfl) (fun _ h => h) (fun _ => ⟨[], rfl, trivial⟩) R.mem R.sep R.frz (Nat.le_refl _) (fun _ _ h => h)⟩ (Keep.refl _ _ _)
  · rename_i hγ
    rw [guard_sound R hγ]
    simp only [if_true]
    refine Or.inl ?_
    split at h <;> try (simp at h; done)
    rename_i hk
    split at h <;> try (simp at h; done)
    rename_i e he
    split at h
    · rename_i hn
      simp only [Option.some.injEq] at h
      subst h
      simp only [applyD, conjP_iff] at hok
      refine effect_sound hO R hb he hk hok.1 (fun h => by rw [hn] at h; simp at h) (p := conjP e.ok s.ok) (li := s.lits) (gen := s.gen) fun E' a' w' R' k => hK a' w' ⟨E', ?_⟩ k
      have : upsOf name e = e.up := by unfold upsOf; rw [hn]
      rw [this] at R'
      exact R'
    · rename_i b hn
      split at h <;> try (simp at h; done)
      rename_i hg
      simp only [Bool.and_eq_true, Option.isNone_iff_eq_none, Nat.blt_eq] at hg
      simp only [Option.some.injEq] at h
      subst h
      simp only [applyD, conjP_iff] at hok
      refine effect_sound hO R hb he hk hok.1 (fun _ => hg) (p := conjP e.ok s.ok) (li := s.lits) (gen := s.gen) fun E' a' w' R' k => hK a' w' ⟨E', ?_⟩ k
      have : upsOf name e = (name, b) :: e.up := by unfold upsOf; rw [hn]
      rw [this] at R'
      exact R'
end

section
variable {ops : List Oper}
theorem aheadOf_spec {m : Nat} {y : RowO} : ∀ (l : List RowO) (i : Nat), aheadOf m y i l = true → ∀ k x, l[k]? = some x → Nat.testBit m (i + k) = true ∨ (apart x.looks y.looks x.dst y.dst = true ∧ x.d.conf y.d = false)
  | [], i, _, k, x, hx => by simp at hx
  | z :: l, i, h, k, x, hx => by
    unfold aheadOf at h
    simp only [Bool.and_eq_true, Bool.or_eq_true, Bool.not_eq_true'] at h
    cases k with
    | zero => simp at hx; subst hx; exact h.1
    | succ k =>
      have := aheadOf_spec l (i + 1) h.2 k x (by simpa using hx)
      rw [Nat.add_assoc, Nat.add_comm 1 k] at this
      exact this

theorem anyOrder_spec : ∀ (ys : List RowO) (ms : List Nat) (done : List RowO), anyOrder done ms ys = true → ∀ j y m, ys[j]? = some y → ms[j]? = some m →
      ∀ i x, (done ++ ys)[i]? = some x → i < done.length + j → Nat.testBit m i = true ∨ (apart x.looks y.looks x.dst y.dst = true ∧ x.d.conf y.d = false)
  | [], ms, done, _, j, y, m, hy, _, _, _, _, _ => by simp at hy
  | z :: ys, [], done, _, j, y, m, _, hm, _, _, _, _ => by simp at hm
  | z :: ys, n :: ms, done, h, j, y, m, hy, hm, i, x, hx, hlt => by
    unfold anyOrder at h
    simp only [Bool.and_eq_true] at h
    cases j with
    | zero =>
      simp at hy hm; subst hy hm
      rw [List.getElem?_append_left (by omega)] at hx
      have := aheadOf_spec done 0 h.1 i x hx
      simpa using this
    | succ j =>
      refine anyOrder_spec ys ms (done ++ [z]) h.2 j y m (by simpa using hy) (by simpa using hm) i x ?_ (by simp; omega)
      simpa using hx

theorem rowsOf_get {all : List Oper} : ∀ (os : List Oper) (ds : List Delta) (j : Nat) (o : Oper) (d : Delta), os[j]? = some o → ds[j]? = some d → (rowsOf all os ds)[j]? = some ⟨o.dst, looks all o, d⟩
  | [], ds, j, o, d, h, _ => by simp at h
  | x :: os, [], j, o, d, _, h => by simp at h
  | x :: os, e :: ds, j, o, d, h, k => by
    cases j with
    | zero => simp at h k; subst h k; rfl
    | succ j =>
      simp at h k
      simp only [rowsOf, List.getElem?_cons_succ]
      exact rowsOf_get os ds j o d h k

end
section
variable {P : Program} {O : Oracle} {base : Nat} {X F0 : Nat → Prop} {B : Nat → Nat} {ops : Array Oper} {Q : Exit → Act → World → Prop}

theorem region_any (hO : OSound P O) (nm : Nat) (D : Nat → Delta) (s' : PSt) (hok : s'.ok)
    (hfree : ∀ L : Nat → Prop, (∀ (j : Nat) (o : Oper), ops.toList[j]? = some o → L j → ∀ d ∈ deps o, L d) → ∀ (i : Nat) (o : Oper), ops.toList[i]? = some o → (∀ d ∈ deps o, L d) → ∀ a, a < i → ¬ L a → Free ops.toList D a i)
    (hback : ∀ (i : Nat) (o : Oper), ops.toList[i]? = some o → ∀ d ∈ deps o, d < i) (w0 : World) (hQ : ∀ a' w', Rel base X F0 B s' a' w' → Keep base X w0 w' → Q .normal a' w') :
    ∀ (fuel : Nat) (listed : Array Bool) (s : PSt) (a : Act) (w : World), listed.size = ops.size →
      (∀ (j : Nat) (o : Oper), ops.toList[j]? = some o → listed.getD j false = true → ∀ d ∈ deps o, listed.getD d false = true) →
      ((List.range ops.size).filter fun i => !listed.getD i true).length ≤ fuel →
      RunL P O ops.toList nm D ((List.range ops.size).filter fun i => !listed.getD i true) s s' → Rel base X F0 B s a w → base ≤ w.heap.size → Keep base X w0 w → wpAny P .any ops Q fuel listed a w := by
  intro fuel
  induction fuel with
  | zero =>
    intro listed s a w hsz hcl hlen hrun R hb hbel
    have hnil : ((List.range ops.size).filter fun i => !listed.getD i true) = [] := List.eq_nil_of_length_eq_zero (by omega)
    rw [hnil] at hrun
    cases hrun
    refine ⟨?_, hQ _ _ R hbel⟩
    rw [List.eq_nil_iff_forall_not_mem]
    intro i hi
    unfold Region.ready at hi
    simp only [List.mem_filter, Bool.and_eq_true] at hi
    have : i ∈ ((List.range ops.size).filter fun i => !listed.getD i true) := List.mem_filter.2 ⟨hi.1, hi.2.1⟩
    rw [hnil] at this
    simp at this
  | succ fuel ih =>
    intro listed s a w hsz hcl hlen hrun R hb hbel
    refine ⟨fun hr => ?_, fun i hi => ?_⟩
    · -- nothing is ready: everything has come up
      cases hl : ((List.range ops.size).filter fun i => !listed.getD i true) with
      | nil => rw [hl] at hrun; cases hrun; exact hQ _ _ R hbel
      | cons r rest =>
        exfalso
        have hpw : ((List.range ops.size).filter fun i => !listed.getD i true).Pairwise (· < ·) := List.Pairwise.filter _ List.pairwise_lt_range
        rw [hl] at hpw
        have hr0 : r ∈ ((List.range ops.size).filter fun i => !listed.getD i true) := by rw [hl]; simp
        have hrm := List.mem_filter.1 hr0
        have hrn : r < ops.size := List.mem_range.1 hrm.1
        have hor : ops[r]? = some ops[r] := Array.getElem?_eq_getElem hrn
        have : r ∈ Region.ready .any ops listed := by
          unfold Region.ready
          refine List.mem_filter.2 ⟨hrm.1, ?_⟩
          rw [hor]
          simp only [hrm.2, Bool.true_and, Option.map_some, Option.getD_some]
          rw [Array.all_eq_true_iff_forall_mem]
          intro e he
          by_cases hbd : Region.binds .any e = true
          · have hd : e.on ∈ deps ops[r] := by
              unfold deps
              exact List.mem_filterMap.2 ⟨e, by simpa using he, by simp [hbd]⟩
            have hlt := hback r ops[r] (by simp) e.on hd
            have : e.on ∉ ((List.range ops.size).filter fun i => !listed.getD i true) := by
              rw [hl]
              intro hm
              rcases List.mem_cons.1 hm with h | h
              · omega
              · have := (List.pairwise_cons.1 hpw).1 _ h; omega
            have h2 : ¬ (!listed.getD e.on true) = true := fun h => this (List.mem_filter.2 ⟨List.mem_range.2 (by omega), h⟩)
            have hz : e.on < listed.size := by omega
            rw [gd _ _ _ hz] at h2 ⊢
            have h2 : listed[e.on] = true := by cases hq : listed[e.on] <;> simp [hq] at h2 ⊢
            simp [h2]
          · simp [hbd]
        rw [hr] at this
        simp at this
    · unfold Region.ready at hi
      have hi := List.mem_filter.1 hi
      have hin : i < ops.size := List.mem_range.1 hi.1
      have hoi : ops[i]? = some ops[i] := Array.getElem?_eq_getElem hin
      obtain ⟨hi1, hi2⟩ := hi
      rw [hoi] at hi2
      simp only [Option.map_some, Option.getD_some, Bool.and_eq_true] at hi2
      have hmem : i ∈ ((List.range ops.size).filter fun i => !listed.getD i true) := List.mem_filter.2 ⟨hi1, hi2.1⟩
      have hdl : ∀ d ∈ deps ops[i], listed.getD d false = true := by
        intro d hd
        unfold deps at hd
        obtain ⟨e, he, hed⟩ := List.mem_filterMap.1 hd
        split at hed <;> try (simp at hed; done)
        rename_i hbd
        simp only [Option.some.injEq] at hed
        subst hed
        have := (Array.all_eq_true_iff_forall_mem.1 hi2.2) e (by simpa using he)
        simpa [hbd] using this
      have hpw : ((List.range ops.size).filter fun i => !listed.getD i true).Pairwise (· < ·) := List.Pairwise.filter _ List.pairwise_lt_range
      have hp := RunL.pull (i := i) _ _ _ hpw hmem (fun b hbm hlt => by
        refine hfree (fun j => listed.getD j false = true) hcl i ops[i] (by simp) hdl b hlt ?_
        have hbm := List.mem_filter.1 hbm
        have hz : b < listed.size := by have := List.mem_range.1 hbm.1; omega
        have h2 := hbm.2
        rw [gd _ _ _ hz] at h2 ⊢
        cases hq : listed[b] <;> simp [hq] at h2 ⊢) hrun
      cases hp with
      | cons ho h t =>
        rename_i o
        have ho' : ops[i]? = some o := by simpa using ho
        have hzi : i < listed.size := by omega
        have hfe : ((List.range ops.size).filter fun j => !(listed.setIfInBounds i true).getD j true) = ((List.range ops.size).filter fun i => !listed.getD i true).filter (· != i) := by
          rw [List.filter_filter]
          apply List.filter_congr
          intro j hj
          have hjz : j < listed.size := by have := List.mem_range.1 hj; omega
          rw [gs _ _ _ _ hjz, gd _ _ _ hjz]
          by_cases e : i = j
          · subst e; simp
          · have : (j != i) = true := by simpa using fun h => e h.symm
            simp [e, this]
        refine step_sound hO R hb ho' h (RunL.ok t hok) (fun a' w' R' hb' => ih (listed.setIfInBounds i true) _ a' w' (by simpa using hsz) ?_ ?_ ?_ R' (Nat.le_trans hb hb'.size) (hbel.trans hb'))
        · intro j oj hoj hj d hd
          have keep : ∀ d, listed.getD d false = true → (listed.setIfInBounds i true).getD d false = true := by
            intro d hd
            by_cases hz : d < listed.size
            · rw [gd _ _ _ hz] at hd
              rw [gs _ _ _ _ hz]
              split
              · rfl
              · exact hd
            · simp [Array.getD, hz] at hd
          by_cases e : i = j
          · subst e
            have : oj = ops[i] := by
              have h1 : ops.toList[i]? = some ops[i] := by simp
              rw [h1] at hoj; simpa using hoj.symm
            subst this
            exact keep d (hdl d hd)
          · refine keep d (hcl j oj hoj ?_ d hd)
            by_cases hz : j < listed.size
            · rw [gs _ _ _ _ hz, if_neg e] at hj
              rw [gd _ _ _ hz]; exact hj
            · simp [Array.getD, hz] at hj
        · rw [hfe]
          have hlt : (((List.range ops.size).filter fun i => !listed.getD i true).filter (· != i)).length < ((List.range ops.size).filter fun i => !listed.getD i true).length := by
            refine List.length_filter_lt_length_iff_exists.2 ⟨i, hmem, by simp⟩
          omega
        · rw [hfe]; exact t
end
end Go.Proofs.YtafaadnjkkkafaaDoor.QR
