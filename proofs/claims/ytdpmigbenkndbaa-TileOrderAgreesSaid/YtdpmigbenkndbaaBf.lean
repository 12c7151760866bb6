import Derived.Test.YtdpmigbenkndbaaBe
import Derived.Test.YtdpmigbenkndbaaBc
import Derived.RangeFuncLeaves
import Derived.RangeFuncFrom
import Derived.RangeFuncCalls
import Derived.Test.YtdpmigbenkndbaaBd
import Derived.Test.YtdpmigbenkndbaaRows
import Derived.OpenShut
import Derived.LaidMore
namespace Go.Proofs.Ytdpmigbenkndbaa.QR
open Go.RowKit PR
set_option linter.unusedVariables false
set_option linter.unusedSimpArgs false
section
variable {P : Program} {O : Oracle} {ops : List Oper}
theorem stepD_congr {s s' : PSt} {o : Oper} {name : Nat} {d : Delta} (h : ∀ t ∈ looks ops o, s'.tmps[t]? = s.tmps[t]?) (hd : stepD P O ops name o s = some d)
    (hr : ∀ m, m ∈ d.rd → s'.mem m = s.mem m) (hu : ∀ p ∈ d.up, s'.mem p.1 = s.mem p.1) : stepD P O ops name o s' = some d := by
  unfold stepD at hd ⊢
  rw [guard_congr h, known_congr h]
  split at hd <;> try (simp at hd; done)
  · exact hd
  · split at hd <;> try (simp at hd; done)
    rename_i hk
    rw [if_pos hk]
    split at hd <;> try (simp at hd; done)
    rename_i e he
    split at hd
    · rename_i hn
      simp only [Option.some.injEq] at hd
      subst hd
      rw [effect_congr h he hr hu]
      simp only [hn]
    · rename_i b hn
      split at hd <;> try (simp at hd; done)
      rename_i hg
      simp only [Option.some.injEq] at hd
      subst hd
      rw [effect_congr h he hr (fun p hp => hu p (by simp [hp]))]
      simp only [hn]
      have := hu (name, b) (by simp)
      simp only at this
      rw [this, if_pos hg]
theorem setTmp_other {l : List GV} {dst : Option Tmp} {g : GV} {t : Tmp} (h : ∀ d, dst = some d → t ≠ d) : (setTmp l dst g)[t]? = l[t]? := by
  cases dst with
  | none => rfl
  | some d => simp only [setTmp, List.getElem?_set]; rw [if_neg (fun e => h d rfl e.symm)]
theorem setTmp_comm {l : List GV} {x y : Option Tmp} {g k : GV} (h : ∀ d e, x = some d → y = some e → d ≠ e) : setTmp (setTmp l x g) y k = setTmp (setTmp l y k) x g := by
  cases x with
  | none => rfl
  | some d => cases y with
    | none => rfl
    | some e => exact List.set_comm _ _ (h d e rfl rfl)
def findU : List (Nat × Blk) → Nat → Option Blk
  | [], _ => none
  | (n, b) :: l, k => bif Nat.beq k n then some b else findU l k
theorem applyU_find (m : Nat → Option Blk) : ∀ (u : List (Nat × Blk)) (k : Nat), applyU m u k = match findU u k with | some b => some b | none => m k
  | [], k => rfl
  | (n, b) :: l, k => by
    show (bif Nat.beq k n then some b else applyU m l k) = match (bif Nat.beq k n then some b else findU l k) with | some b => some b | none => m k
    cases Nat.beq k n
    · exact applyU_find m l k
    · rfl
theorem findU_mem : ∀ {u : List (Nat × Blk)} {k : Nat} {b : Blk}, findU u k = some b → ∃ c, (k, c) ∈ u
  | [], k, b, h => by simp [findU] at h
  | (n, c) :: l, k, b, h => by
    unfold findU at h
    cases hb : Nat.beq k n
    · rw [hb] at h
      obtain ⟨c', hc'⟩ := findU_mem (u := l) h
      exact ⟨c', by simp [hc']⟩
    · have := Nat.eq_of_beq_eq_true hb
      subst this
      exact ⟨c, by simp⟩
theorem applyU_other {m : Nat → Option Blk} {u : List (Nat × Blk)} {n : Nat} (h : ∀ p ∈ u, n ≠ p.1) : applyU m u n = m n := by
  rw [applyU_find]
  cases hf : findU u n with
  | none => rfl
  | some b =>
    obtain ⟨c, hc⟩ := findU_mem hf
    exact absurd rfl (h _ hc)
theorem applyU_comm {m : Nat → Option Blk} {u v : List (Nat × Blk)} (h : ∀ p ∈ u, ∀ q ∈ v, p.1 ≠ q.1) : applyU (applyU m u) v = applyU (applyU m v) u := by
  funext k
  simp only [applyU_find]
  cases hu : findU u k with
  | none => rfl
  | some b =>
    cases hv : findU v k with
    | none => rfl
    | some c =>
      obtain ⟨b', hb⟩ := findU_mem hu
      obtain ⟨c', hc⟩ := findU_mem hv
      exact absurd rfl (h (k, b') hb (k, c') hc)
theorem conf_spec {d e : Delta} (h : d.conf e = false) : (∀ p ∈ d.up, ∀ m ∈ e.rd, p.1 ≠ m) ∧ (∀ p ∈ d.up, ∀ q ∈ e.up, p.1 ≠ q.1) ∧ (∀ p ∈ e.up, ∀ m ∈ d.rd, p.1 ≠ m) := by
  unfold Delta.conf at h
  simp only [Bool.or_eq_false_iff, List.any_eq_false, Bool.or_eq_true, List.any_eq_true, not_or, not_exists, not_and] at h
  obtain ⟨h1, h2⟩ := h
  refine ⟨fun p hp m hm e' => ?_, fun p hp q hq e' => ?_, fun p hp m hm e' => ?_⟩
  · exact (h1 p hp).1 m hm (by rw [e', Nat.beq_refl])
  · exact (h1 p hp).2 q hq (by rw [e', Nat.beq_refl])
  · exact h2 p hp m hm (by rw [e', Nat.beq_refl])
theorem step_comm {s : PSt} {x y : Oper} {nx ny : Nat} {dx dy : Delta} (hap : apart (looks ops x) (looks ops y) x.dst y.dst = true) (hcf : dx.conf dy = false)
    (h1 : stepD P O ops nx x s = some dx) (h2 : stepD P O ops ny y (applyD x.dst dx s) = some dy) :
    stepD P O ops ny y s = some dy ∧ stepD P O ops nx x (applyD y.dst dy s) = some dx ∧ applyD x.dst dx (applyD y.dst dy s) = applyD y.dst dy (applyD x.dst dx s) := by
  obtain ⟨a1, a2, a3⟩ := apart_spec hap
  obtain ⟨c1, c2, c3⟩ := conf_spec hcf
  refine ⟨?_, ?_, ?_⟩
  · refine stepD_congr (s := applyD x.dst dx s) (fun t ht => ?_) h2 (fun m hm => ?_) (fun p hp => ?_)
    · exact (setTmp_other fun d hd => a1 d hd t ht).symm
    · exact (applyU_other fun q hq e => c1 q hq m hm e.symm).symm
    · exact (applyU_other fun q hq e => c2 q hq p hp e.symm).symm
  · refine stepD_congr (s := s) (fun t ht => ?_) h1 (fun m hm => ?_) (fun p hp => ?_)
    · exact setTmp_other fun d hd => a3 d hd t ht
    · exact applyU_other fun q hq e => c3 q hq m hm e.symm
    · exact applyU_other fun q hq e => c2 p hp q hq e
  · unfold applyD
    rw [setTmp_comm (x := y.dst) (y := x.dst) (fun d e hd he => fun h => a2 e d he hd h.symm), applyU_comm (u := dy.up) (v := dx.up) (fun p hp q hq => fun h => c2 q hq p hp h.symm)]
    have e : conjP dx.ok (conjP dy.ok s.ok) = conjP dy.ok (conjP dx.ok s.ok) := propext (by simp only [conjP_iff]; exact and_left_comm)
    rw [e]
inductive RunL (P : Program) (O : Oracle) (ops : List Oper) (nm : Nat) (D : Nat → Delta) : List Nat → PSt → PSt → Prop
  | nil (s : PSt) : RunL P O ops nm D [] s s
  | cons {i : Nat} {l : List Nat} {s s' : PSt} {o : Oper} (ho : ops[i]? = some o) (h : stepD P O ops (nm + i) o s = some (D i)) (t : RunL P O ops nm D l (applyD o.dst (D i) s) s') : RunL P O ops nm D (i :: l) s s'
theorem RunL.ok {nm : Nat} {D : Nat → Delta} {l : List Nat} {s s' : PSt} (h : RunL P O ops nm D l s s') : s'.ok → s.ok := by
  induction h with
  | nil => exact id
  | cons ho h t ih => intro hk; have := ih hk; simp only [applyD, conjP_iff] at this; exact this.2
def Free (ops : List Oper) (D : Nat → Delta) (a i : Nat) : Prop := ∀ x y, ops[a]? = some x → ops[i]? = some y → apart (looks ops x) (looks ops y) x.dst y.dst = true ∧ (D a).conf (D i) = false
theorem RunL.pull {nm : Nat} {D : Nat → Delta} {i : Nat} : ∀ (l : List Nat) (s s' : PSt), l.Pairwise (· < ·) → i ∈ l → (∀ a ∈ l, a < i → Free ops D a i) → RunL P O ops nm D l s s' → RunL P O ops nm D (i :: l.filter (· != i)) s s'
  | [], s, s', _, hi, _, _ => by simp at hi
  | r :: l, s, s', hp, hi, hf, h => by
    cases h with
    | cons ho h1 t =>
      rename_i x
      by_cases e : r = i
      · subst e
        have hl : l.filter (· != r) = l := by
          rw [List.filter_eq_self]
          intro a ha
          have := (List.pairwise_cons.1 hp).1 a ha
          simp; omega
        simp only [List.filter_cons, bne_self_eq_false, Bool.false_eq_true, if_false, hl]
        exact .cons ho h1 t
      · have hil : i ∈ l := by simpa [Ne.symm e] using hi
        have hri : r < i := (List.pairwise_cons.1 hp).1 i hil
        have ih := RunL.pull l _ _ (List.pairwise_cons.1 hp).2 hil (fun a ha hlt => hf a (by simp [ha]) hlt) t
        have hne : (r != i) = true := by simpa using e
        simp only [List.filter_cons, hne, if_true]
        cases ih with
        | cons ho2 h2 t2 =>
          rename_i y
          obtain ⟨ap, cf⟩ := hf r (by simp) hri x y ho ho2
          obtain ⟨k1, k2, k3⟩ := step_comm ap cf h1 h2
          refine .cons ho2 k1 (.cons ho k2 ?_)
          rw [k3]
          exact t2
theorem bindL_elim : ∀ (l : List CV) (k : List CV → Prop), bindL l k → k l := by
  intro l
  induction l with
  | nil => intro k h; exact h
  | cons c l ih =>
    intro k h
    cases c with
    | v x => cases x with
      | int kd n => exact ih (fun l' => k (.v (.int kd n) :: l')) (h n rfl)
      | _ => exact ih (fun l' => k (_ :: l')) h
    | _ => exact ih (fun l' => k (_ :: l')) h
theorem bindX_elim {v : XV} {k : XV → Prop} (h : bindX v k) : k v := by
  unfold bindX at h
  split at h
  · exact h _ rfl
  · exact h
  · rename_i l
    cases hl : Nat.ble 20 l.length
    · rw [hl, cond_false] at h; exact bindL_elim _ _ h
    · rw [hl, cond_true] at h; exact h
theorem bindXs_elim : ∀ (l : List XV) (k : List XV → Prop), bindXs l k → k l
  | [], k, h => h
  | v :: l, k, h => bindXs_elim l (fun l' => k (v :: l')) (bindX_elim (k := fun v' => bindXs l fun l' => k (v' :: l')) h)
theorem bindS_elim {v : SV} {k : SV → Prop} (h : bindS v k) : k v := by
  unfold bindS at h
  split at h
  · exact bindX_elim h
  · exact bindXs_elim _ _ h
  · exact h
theorem asInt_of {v : SV} {k : IntKind} {n : Int} (h : asInt' v = some (k, n)) : v = vS (.int k n) := by
  unfold asInt' at h
  split at h <;> try (simp at h; done)
  simp only [Option.some.injEq, Prod.mk.injEq] at h
  obtain ⟨rfl, rfl⟩ := h
  rfl
theorem stepD_ix {s : PSt} {o : Oper} {nm : Nat} {kd : IntKind} {m : Int} {len : Nat} (h : ixOf P ops s o = some (kd, m, len)) {j : Nat} (hj : m = j) : stepD P O ops nm (withIx o kd j) s = stepD P O ops nm o s := by
  subst hj
  unfold ixOf at h
  cases hc : runsB (guardOf s ops o)
  · rw [hc] at h; simp at h
  rw [hc] at h
  simp only [cond_true] at h
  have cv : (operand s (.const (.int kd (j : Int)))) = gnow (vS (.int kd j)) := rfl
  split at h <;> try (simp at h; done)
  all_goals
    rename_i t x i ho
    split at h <;> try (simp at h; done)
    rename_i k m' l e hv hu
    cases hk : (operand s i).k
    · simp [hk] at h
    rw [hk] at h
    simp only [cond_true, Option.some.injEq, Prod.mk.injEq] at h
    obtain ⟨rfl, rfl, rfl⟩ := h
    have hv := asInt_of hv
    have hv' : valOf s (.const (.int k (j : Int))) = valOf s i := by rw [hv]; rfl
    have g : guardOf s ops (withIx o k j) = guardOf s ops o := by unfold guardOf withIx; rw [ho]
    have kn : knownOf s (withIx o k j) = knownOf s o := by
      unfold knownOf withIx
      simp only [ho]
      simp only [Op.operands, List.map_cons, List.map_nil, allOf, cv, hk, gnow]
    have ef : effect P O nm s (withIx o k j) = effect P O nm s o := by
      unfold effect withIx
      simp only [ho, hv']
    unfold stepD
    rw [g, kn, ef]
theorem stepD_k {s : PSt} {o : Oper} {name : Nat} {d : Delta} (hd : stepD P O ops name o s = some d) : d.g.k = true := by
  unfold stepD at hd
  split at hd <;> try (simp at hd; done)
  · simp only [Option.some.injEq] at hd; subst hd; rfl
  · split at hd <;> try (simp at hd; done)
    split at hd <;> try (simp at hd; done)
    split at hd
    · simp only [Option.some.injEq] at hd; subst hd; rfl
    · split at hd <;> try (simp at hd; done)
      simp only [Option.some.injEq] at hd; subst hd; rfl
theorem runOps_run {src : List Nat} {nm : Nat} {k : PSt → List Delta → Prop} : ∀ (rest : List Oper) (i : Nat) (s : PSt) (ds : List Delta) (lits : List Tmp), (∀ j o, rest[j]? = some o → ops[i + j]? = some o) → ds.length = i →
    runOps P O ops src nm i rest s ds lits k → ∃ (s' : PSt) (es : List Delta) (l : List Tmp), k ⟨s'.tmps, s'.mem, s'.ok, l, s'.gen⟩ (ds.reverse ++ es) ∧ es.length = rest.length ∧ ∀ D : Nat → Delta, (∀ j d, es[j]? = some d → D (i + j) = d) → RunL P O ops nm D (List.range' i rest.length) s s'
  | [], i, s, ds, lits, _, _, h => ⟨s, [], lits, by simpa [runOps] using h, rfl, fun D _ => .nil _⟩
  | o :: rest, i, s, ds, lits, ho, hl, h => by
    have go0 : ∀ d, stepD P O ops (nm + i) o s = some d → ∀ (e : Delta) (lits' : List Tmp), e = d → runOps P O ops src nm (i + 1) rest (applyD o.dst e s) (e :: ds) lits' k → ∃ (s' : PSt) (es : List Delta) (l : List Tmp), k ⟨s'.tmps, s'.mem, s'.ok, l, s'.gen⟩ (ds.reverse ++ es) ∧ es.length = (o :: rest).length ∧ ∀ D : Nat → Delta, (∀ j d, es[j]? = some d → D (i + j) = d) → RunL P O ops nm D (List.range' i (o :: rest).length) s s' := by
      intro d hd e lits' he hrun
      subst he
      obtain ⟨s', es, l, h1, h2, h3⟩ := runOps_run rest (i + 1) _ _ _ (fun j x hx => by rw [Nat.add_assoc, Nat.add_comm 1 j]; exact ho (j + 1) x (by simpa using hx)) (by simp [hl]) hrun
      refine ⟨s', e :: es, l, by simpa using h1, by simp [h2], fun D hD => ?_⟩
      have e0 : D i = e := hD 0 e rfl
      rw [List.length_cons, List.range'_succ]
      exact .cons (ho 0 o rfl) (by rw [e0]; exact hd) (by rw [e0]; exact h3 D (fun j d hj => by rw [Nat.add_assoc, Nat.add_comm 1 j]; exact hD (j + 1) d (by simpa using hj)))
    unfold runOps at h
    split at h
    · rename_i kd m len hix
      obtain ⟨j, hj, h⟩ := caseIx_elim _ _ _ _ h
      split at h <;> try (exact h.elim)
      rename_i d hd
      rw [stepD_ix hix hj] at hd
      exact go0 d hd d _ rfl h
    split at h <;> try (exact h.elim)
    rename_i d hd
    have go := go0 d hd
    split at h
    · split at h <;> try (exact h.elim)
      · rename_i x hx
        rw [bcond_iff] at h
        have hk : d.g.k = true := stepD_k hd
        have same : ∀ b, x = b → (⟨gnow (vS (.bool b)), d.up, d.ok, d.rd⟩ : Delta) = d := by
          intro b hb
          subst hb
          obtain ⟨⟨k0, v0⟩, up, ok, rd⟩ := d
          simp only at hx hk
          subst hx hk
          rfl
        cases hb : x
        · exact go _ _ (same _ hb) (h.2 hb)
        · exact go _ _ (same _ hb) (h.1 hb)
      · exact go d _ rfl h
    · cases hm : isCall o
      · rw [hm] at h
        exact go d _ rfl h
      · rw [hm] at h
        exact go d _ rfl (bindS_elim h)
end
theorem guard_sound {base : Nat} {X F0 : Nat → Prop} {B : Nat → (Nat × Value) × Bool} {E : Env} {s : PSt} {a : Act} {w : World} {o : Oper} (R : RelE base X F0 B E s a w) {ops : Array Oper} {γ : Bool} (h : guardOf s ops.toList o = some γ) : Region.wanted o (yielded ops a.tmps) = γ := by
  unfold guardOf at h
  unfold Region.wanted
  split at h
  · rename_i hg
    simp only [Option.some.injEq] at h
    rw [hg]; exact h
  · rename_i j want hg
    rw [hg]
    simp only
    split at h <;> try (simp at h; done)
    rename_i d hd
    have hd : (ops[j]?).bind (·.dst) = some d := by simpa using hd
    unfold yielded
    rw [hd]
    split at h <;> try (simp at h; done)
    · rename_i b hs
      simp only [Option.some.injEq] at h
      obtain ⟨y, h1, h2⟩ := R.slots d _ hs rfl
      obtain rfl := cv_v h2
      simp only [Option.bind_some, h1]
      subst h
      cases b <;> cases want <;> rfl
    · rename_i vs hs
      simp only [Option.some.injEq] at h
      obtain ⟨y, h1, ys, rfl, _⟩ := R.slots d _ hs rfl
      simp only [Option.bind_some, h1]
      subst h
      rfl
section
variable {P : Program} {O : Oracle} {base : Nat} {X F0 : Nat → Prop} {B : Nat → (Nat × Value) × Bool}
def Rel (base : Nat) (X F0 : Nat → Prop) (B : Nat → (Nat × Value) × Bool) (s : PSt) (a : Act) (w : World) : Prop := ∃ E, RelE base X F0 B E s a w
theorem step_sound {s : PSt} {a : Act} {w : World} {o : Oper} (hO : OSound P O) (R : Rel base X F0 B s a w) (hb : base ≤ w.heap.size) {ops : Array Oper} {i name : Nat} (ho : ops[i]? = some o) {d : Delta} (h : stepD P O ops.toList name o s = some d) (hok : (applyD o.dst d s).ok)
    {K : Act → World → Prop} {Q : Exit → Act → World → Prop} (hK : ∀ a' w', Rel base X F0 B (applyD o.dst d s) a' w' → KeepF base X F0 w w' → K a' w') : wpOp P ops Q i K a w := by
  obtain ⟨E, R⟩ := R
  unfold wpOp
  rw [ho]
  simp only
  unfold stepD at h
  split at h <;> try (simp at h; done)
  · rename_i hγ
    rw [guard_sound R hγ]
    simp only [Option.some.injEq] at h
    subst h
    simp only [Bool.false_eq_true, if_false]
    exact hK _ _ ⟨E, R.go o.dst (gnow (.tup [])) undef _ s.lits s.gen (Later.refl _ _ _) (fun _ _ => rfl) (fun _ h => h) (fun _ => ⟨[], rfl, trivial⟩) R.mem R.sep R.frz (Nat.le_refl _) (fun _ _ h => h)⟩ (KeepF.refl _ _ _ _)
  · rename_i hγ
    rw [guard_sound R hγ]
    simp only [if_true]
    refine Or.inl ?_
    split at h <;> try (simp at h; done)
    rename_i hk
    split at h <;> try (simp at h; done)
    rename_i e he
    split at h
    · rename_i hn
      simp only [Option.some.injEq] at h
      subst h
      simp only [applyD, conjP_iff] at hok
      refine effect_sound hO R hb he hk hok.1 (fun h => by rw [hn] at h; simp at h) (p := conjP e.ok s.ok) (li := s.lits) (gen := s.gen) fun E' a' w' R' k => hK a' w' ⟨E', ?_⟩ k
      have : upsOf name e = e.up := by unfold upsOf; rw [hn]
      rw [this] at R'
      exact R'
    · rename_i b hn
      split at h <;> try (simp at h; done)
      rename_i hg
      simp only [Bool.and_eq_true, Option.isNone_iff_eq_none, Nat.blt_eq] at hg
      simp only [Option.some.injEq] at h
      subst h
      simp only [applyD, conjP_iff] at hok
      refine effect_sound hO R hb he hk hok.1 (fun _ => hg) (p := conjP e.ok s.ok) (li := s.lits) (gen := s.gen) fun E' a' w' R' k => hK a' w' ⟨E', ?_⟩ k
      have : upsOf name e = (name, b) :: e.up := by unfold upsOf; rw [hn]
      rw [this] at R'
      exact R'
end
section
variable {ops : List Oper}
theorem aheadOf_spec {m : Nat} {y : RowO} : ∀ (l : List RowO) (i : Nat), aheadOf m y i l = true → ∀ k x, l[k]? = some x → Nat.testBit m (i + k) = true ∨ (apart x.looks y.looks x.dst y.dst = true ∧ x.d.conf y.d = false)
  | [], i, _, k, x, hx => by simp at hx
  | z :: l, i, h, k, x, hx => by
    unfold aheadOf at h
    simp only [Bool.and_eq_true, Bool.or_eq_true, Bool.not_eq_true'] at h
    cases k with
    | zero => simp at hx; subst hx; exact h.1
    | succ k =>
      have := aheadOf_spec l (i + 1) h.2 k x (by simpa using hx)
      rw [Nat.add_assoc, Nat.add_comm 1 k] at this
      exact this
theorem anyOrder_spec : ∀ (ys : List RowO) (ms : List Nat) (done : List RowO), anyOrder done ms ys = true → ∀ j y m, ys[j]? = some y → ms[j]? = some m →
      ∀ i x, (done ++ ys)[i]? = some x → i < done.length + j → Nat.testBit m i = true ∨ (apart x.looks y.looks x.dst y.dst = true ∧ x.d.conf y.d = false)
  | [], ms, done, _, j, y, m, hy, _, _, _, _, _ => by simp at hy
  | z :: ys, [], done, _, j, y, m, _, hm, _, _, _, _ => by simp at hm
  | z :: ys, n :: ms, done, h, j, y, m, hy, hm, i, x, hx, hlt => by
    unfold anyOrder at h
    simp only [Bool.and_eq_true] at h
    cases j with
    | zero =>
      simp at hy hm; subst hy hm
      rw [List.getElem?_append_left (by omega)] at hx
      have := aheadOf_spec done 0 h.1 i x hx
      simpa using this
    | succ j =>
      refine anyOrder_spec ys ms (done ++ [z]) h.2 j y m (by simpa using hy) (by simpa using hm) i x ?_ (by simp; omega)
      simpa using hx
theorem rowsOf_get {all : List Oper} : ∀ (os : List Oper) (ds : List Delta) (j : Nat) (o : Oper) (d : Delta), os[j]? = some o → ds[j]? = some d → (rowsOf all os ds)[j]? = some ⟨o.dst, looks all o, d⟩
  | [], ds, j, o, d, h, _ => by simp at h
  | x :: os, [], j, o, d, _, h => by simp at h
  | x :: os, e :: ds, j, o, d, h, k => by
    cases j with
    | zero => simp at h k; subst h k; rfl
    | succ j =>
      simp at h k
      simp only [rowsOf, List.getElem?_cons_succ]
      exact rowsOf_get os ds j o d h k
end
section
variable {P : Program} {O : Oracle} {base : Nat} {X F0 : Nat → Prop} {B : Nat → (Nat × Value) × Bool} {ops : Array Oper} {Q : Exit → Act → World → Prop}
theorem region_any (hO : OSound P O) (nm : Nat) (D : Nat → Delta) (s' : PSt) (hok : s'.ok)
    (hfree : ∀ L : Nat → Prop, (∀ (j : Nat) (o : Oper), ops.toList[j]? = some o → L j → ∀ d ∈ deps o, L d) → ∀ (i : Nat) (o : Oper), ops.toList[i]? = some o → (∀ d ∈ deps o, L d) → ∀ a, a < i → ¬ L a → Free ops.toList D a i)
    (hback : ∀ (i : Nat) (o : Oper), ops.toList[i]? = some o → ∀ d ∈ deps o, d < i) (w0 : World) (hQ : ∀ a' w', Rel base X F0 B s' a' w' → KeepF base X F0 w0 w' → Q .normal a' w') :
    ∀ (fuel : Nat) (listed : Array Bool) (s : PSt) (a : Act) (w : World), listed.size = ops.size →
      (∀ (j : Nat) (o : Oper), ops.toList[j]? = some o → listed.getD j false = true → ∀ d ∈ deps o, listed.getD d false = true) →
      ((List.range ops.size).filter fun i => !listed.getD i true).length ≤ fuel →
      RunL P O ops.toList nm D ((List.range ops.size).filter fun i => !listed.getD i true) s s' → Rel base X F0 B s a w → base ≤ w.heap.size → KeepF base X F0 w0 w → wpAny P .any ops Q fuel listed a w := by
  intro fuel
  induction fuel with
  | zero =>
    intro listed s a w hsz hcl hlen hrun R hb hbel
    have hnil : ((List.range ops.size).filter fun i => !listed.getD i true) = [] := List.eq_nil_of_length_eq_zero (by omega)
    rw [hnil] at hrun
    cases hrun
    refine ⟨?_, hQ _ _ R hbel⟩
    rw [List.eq_nil_iff_forall_not_mem]
    intro i hi
    unfold Region.ready at hi
    simp only [List.mem_filter, Bool.and_eq_true] at hi
    have : i ∈ ((List.range ops.size).filter fun i => !listed.getD i true) := List.mem_filter.2 ⟨hi.1, hi.2.1⟩
    rw [hnil] at this
    simp at this
  | succ fuel ih =>
    intro listed s a w hsz hcl hlen hrun R hb hbel
    refine ⟨fun hr => ?_, fun i hi => ?_⟩
    · -- nothing is ready: everything has come up
      cases hl : ((List.range ops.size).filter fun i => !listed.getD i true) with
      | nil => rw [hl] at hrun; cases hrun; exact hQ _ _ R hbel
      | cons r rest =>
        exfalso
        have hpw : ((List.range ops.size).filter fun i => !listed.getD i true).Pairwise (· < ·) := List.Pairwise.filter _ List.pairwise_lt_range
        rw [hl] at hpw
        have hr0 : r ∈ ((List.range ops.size).filter fun i => !listed.getD i true) := by rw [hl]; simp
        have hrm := List.mem_filter.1 hr0
        have hrn : r < ops.size := List.mem_range.1 hrm.1
        have hor : ops[r]? = some ops[r] := Array.getElem?_eq_getElem hrn
        have : r ∈ Region.ready .any ops listed := by
          unfold Region.ready
          refine List.mem_filter.2 ⟨hrm.1, ?_⟩
          rw [hor]
          simp only [hrm.2, Bool.true_and, Option.map_some, Option.getD_some]
          rw [Array.all_eq_true_iff_forall_mem]
          intro e he
          by_cases hbd : Region.binds .any e = true
          · have hd : e.on ∈ deps ops[r] := by
              unfold deps
              exact List.mem_filterMap.2 ⟨e, by simpa using he, by simp [hbd]⟩
            have hlt := hback r ops[r] (by simp) e.on hd
            have : e.on ∉ ((List.range ops.size).filter fun i => !listed.getD i true) := by
              rw [hl]
              intro hm
              rcases List.mem_cons.1 hm with h | h
              · omega
              · have := (List.pairwise_cons.1 hpw).1 _ h; omega
            have h2 : ¬ (!listed.getD e.on true) = true := fun h => this (List.mem_filter.2 ⟨List.mem_range.2 (by omega), h⟩)
            have hz : e.on < listed.size := by omega
            rw [gd _ _ _ hz] at h2 ⊢
            have h2 : listed[e.on] = true := by cases hq : listed[e.on] <;> simp [hq] at h2 ⊢
            simp [h2]
          · simp [hbd]
        rw [hr] at this
        simp at this
    · unfold Region.ready at hi
      have hi := List.mem_filter.1 hi
      have hin : i < ops.size := List.mem_range.1 hi.1
      have hoi : ops[i]? = some ops[i] := Array.getElem?_eq_getElem hin
      obtain ⟨hi1, hi2⟩ := hi
      rw [hoi] at hi2
      simp only [Option.map_some, Option.getD_some, Bool.and_eq_true] at hi2
      have hmem : i ∈ ((List.range ops.size).filter fun i => !listed.getD i true) := List.mem_filter.2 ⟨hi1, hi2.1⟩
      have hdl : ∀ d ∈ deps ops[i], listed.getD d false = true := by
        intro d hd
        unfold deps at hd
        obtain ⟨e, he, hed⟩ := List.mem_filterMap.1 hd
        split at hed <;> try (simp at hed; done)
        rename_i hbd
        simp only [Option.some.injEq] at hed
        subst hed
        have := (Array.all_eq_true_iff_forall_mem.1 hi2.2) e (by simpa using he)
        simpa [hbd] using this
      have hpw : ((List.range ops.size).filter fun i => !listed.getD i true).Pairwise (· < ·) := List.Pairwise.filter _ List.pairwise_lt_range
      have hp := RunL.pull (i := i) _ _ _ hpw hmem (fun b hbm hlt => by
        refine hfree (fun j => listed.getD j false = true) hcl i ops[i] (by simp) hdl b hlt ?_
        have hbm := List.mem_filter.1 hbm
        have hz : b < listed.size := by have := List.mem_range.1 hbm.1; omega
        have h2 := hbm.2
        rw [gd _ _ _ hz] at h2 ⊢
        cases hq : listed[b] <;> simp [hq] at h2 ⊢) hrun
      cases hp with
      | cons ho h t =>
        rename_i o
        have ho' : ops[i]? = some o := by simpa using ho
        have hzi : i < listed.size := by omega
        have hfe : ((List.range ops.size).filter fun j => !(listed.setIfInBounds i true).getD j true) = ((List.range ops.size).filter fun i => !listed.getD i true).filter (· != i) := by
          rw [List.filter_filter]
          apply List.filter_congr
          intro j hj
          have hjz : j < listed.size := by have := List.mem_range.1 hj; omega
          rw [gs _ _ _ _ hjz, gd _ _ _ hjz]
          by_cases e : i = j
          · subst e; simp
          · have : (j != i) = true := by simpa using fun h => e h.symm
            simp [e, this]
        refine step_sound hO R hb ho' h (RunL.ok t hok) (fun a' w' R' hb' => ih (listed.setIfInBounds i true) _ a' w' (by simpa using hsz) ?_ ?_ ?_ R' (Nat.le_trans hb hb'.size) (hbel.trans hb'))
        · intro j oj hoj hj d hd
          have keep : ∀ d, listed.getD d false = true → (listed.setIfInBounds i true).getD d false = true := by
            intro d hd
            by_cases hz : d < listed.size
            · rw [gd _ _ _ hz] at hd
              rw [gs _ _ _ _ hz]
              split
              · rfl
              · exact hd
            · simp [Array.getD, hz] at hd
          by_cases e : i = j
          · subst e
            have : oj = ops[i] := by
              have h1 : ops.toList[i]? = some ops[i] := by simp
              rw [h1] at hoj; simpa using hoj.symm
            subst this
            exact keep d (hdl d hd)
          · refine keep d (hcl j oj hoj ?_ d hd)
            by_cases hz : j < listed.size
            · rw [gs _ _ _ _ hz, if_neg e] at hj
              rw [gd _ _ _ hz]; exact hj
            · simp [Array.getD, hz] at hj
        · rw [hfe]
          have hlt : (((List.range ops.size).filter fun i => !listed.getD i true).filter (· != i)).length < ((List.range ops.size).filter fun i => !listed.getD i true).length := by
            refine List.length_filter_lt_length_iff_exists.2 ⟨i, hmem, by simp⟩
          omega
        · rw [hfe]; exact t
end
end Go.Proofs.Ytdpmigbenkndbaa.QR
namespace Go.Proofs.Ytdpmigbenkndbaa.QR
open Go.RowKit PR
set_option linter.unusedVariables false
set_option linter.unusedSimpArgs false
inductive EqC : CV → CV → Prop
  | v (a : Value) : EqC (.v a) (.v a)
  | slc {z : Nat} {n : Int} {r r' : Row} : (∀ i j : Nat, (i : Int) < n → j < z → EqC (den r i j) (den r' i j)) → EqC (.slc z n r) (.slc z n r')
  | nil {a : Option Addr} {l c z : Nat} {n : Int} {r : Row} : 0 < z → n = 0 → EqC (.v (.slice a l c)) (.slc z n r)
theorem plain_slice {a : Option Addr} {l c : Nat} (h : plainB (.slice a l c) = true) : a = none ∧ l = 0 ∧ c = 0 := by
  cases a with
  | some _ => simp [plainB] at h
  | none =>
    cases l with
    | succ _ => simp [plainB] at h
    | zero =>
      cases c with
      | succ _ => simp [plainB] at h
      | zero => exact ⟨rfl, rfl, rfl⟩
theorem Rep.eq {F : Nat → Prop} {w : World} {c c' : CV} (h : EqC c c') : ∀ {y : Value}, Rep F w c y → Rep F w c' y := by
  induction h with
  | v a => intro y h; exact h
  | slc _ ih =>
    intro y h
    cases h with
    | nil h1 h2 => exact .nil h1 h2
    | slc u h1 hc h2 h3 h4 h5 => exact .slc u h1 hc h2 h3 h4 fun i j hi hj => ih i j (by omega) hj (h5 i j hi hj)
  | nil hz hn =>
    intro y h
    cases h with
    | v hp =>
      subst hn
      obtain ⟨rfl, rfl, rfl⟩ := plain_slice hp
      exact .nil hz (fun _ => rfl)
def veq : Value → Value → Prop
  | .int k a, .int l b => k = l ∧ a = b
  | .bool a, .bool b => a = b
  | .string a, .string b => a = b
  | a, b => a = b
theorem veq_eq {a b : Value} (h : veq a b) : a = b := by
  unfold veq at h
  split at h
  · rw [h.1, h.2]
  · rw [h]
  · rw [h]
  · exact h
def nilC : Value → Nat → Int → Prop
  | .slice none 0 0, z, n => Nat.blt 0 z = true ∧ n = 0
  | _, _, _ => False
theorem nilC_eq {a : Value} {z : Nat} {n : Int} (h : nilC a z n) : a = .slice none 0 0 ∧ 0 < z ∧ n = 0 := by
  unfold nilC at h
  split at h
  · exact ⟨rfl, by simpa using h.1, h.2⟩
  · exact h.elim
def eqc : CV → CV → Prop
  | .v a, .v b => veq a b
  | .v a, .slc z n _ => nilC a z n
  | .slc z n r, .slc z' n' r' => EqC (.slc z n r) (.slc z' n' r')
  | _, _ => False
theorem eqc_eq {a b : CV} (h : eqc a b) : EqC a b := by
  unfold eqc at h
  split at h
  · rw [veq_eq h]; exact .v _
  · obtain ⟨rfl, h1, h2⟩ := nilC_eq h; exact .nil h1 h2
  · exact h
  · exact h.elim
def allJ : Nat → (Nat → Prop) → Prop
  | 0, _ => True
  | n + 1, p => allJ n p ∧ p n
theorem allJ_get : ∀ {n : Nat} {p : Nat → Prop}, allJ n p → ∀ j, j < n → p j
  | 0, _, _, j, h => by omega
  | n + 1, p, h, j, hj => by
    by_cases e : j = n
    · subst e; exact h.2
    · exact allJ_get h.1 j (by omega)
def eqRow (z : Nat) (n : Int) (r r' : Row) : Prop := allJ z fun j => ∀ i : Nat, ilt (i : Int) n = true → eqc (den r i j) (den r' i j)
theorem eqRow_get {z : Nat} {n : Int} {r r' : Row} (h : eqRow z n r r') (i j : Nat) (hi : (i : Int) < n) (hj : j < z) : EqC (den r i j) (den r' i j) := eqc_eq (allJ_get h j hj i (decide_eq_true hi))
def leC (ρ : Nat → Nat) : CV → CV → Prop
  | .v a, .v b => veq a b
  | .v a, .slc z n _ => nilC a z n
  | .slc z n r, .slc z' n' r' => z = z' ∧ n = n' ∧ eqRow z n r r'
  | .own m n, .own m' n' => m = ρ m' ∧ n = n'
  | .ptr m off, .ptr m' off' => m = ρ m' ∧ off = off'
  | .fn f l, .fn g k => f = g ∧ l = k.map fun p => (ρ p.1, p.2)
  | _, _ => False
def leL (ρ : Nat → Nat) : List CV → List CV → Prop
  | [], [] => True
  | a :: l, b :: m => leC ρ a b ∧ leL ρ l m
  | _, _ => False
def leX (ρ : Nat → Nat) : XV → XV → Prop
  | .c a, .c b => leC ρ a b
  | .agg l, .agg m => leL ρ l m
  | _, _ => False
def leXs (ρ : Nat → Nat) : List XV → List XV → Prop
  | [], [] => True
  | a :: l, b :: m => leX ρ a b ∧ leXs ρ l m
  | _, _ => False
def leS (ρ : Nat → Nat) : SV → SV → Prop
  | .x a, .x b => leX ρ a b
  | .tup l, .tup m => leXs ρ l m
  | .view m z l n, .view m' z' l' n' => m = ρ m' ∧ z = z' ∧ l = l' ∧ n = n'
  | _, _ => False
def leT (ρ : Nat → Nat) : List GV → List GV → Prop
  | [], [] => True
  | g :: l, h :: m => match h.k with
    | true => (g.k = true ∧ leS ρ g.v h.v) ∧ leT ρ l m
    | false => leT ρ l m
  | _, _ => False
def leB (ρ : Nat → Nat) : Option Blk → Blk → Prop
  | some (.cells l), .cells m => leL ρ l m
  | some (.row z n r), .row z' n' r' => z = z' ∧ n = n' ∧ eqRow z n r r'
  | some (.fro z n r), .fro z' n' r' => z = z' ∧ n = n' ∧ eqRow z n r r'
  | _, _ => False
def leM (ρ : Nat → Nat) (mem : Nat → Option Blk) : List (Nat × Blk) → Prop
  | [] => True
  | (n, b) :: l => leB ρ (mem (ρ n)) b ∧ leM ρ mem l
def memOf : List (Nat × Blk) → Nat → Option Blk
  | [], _ => none
  | (m, x) :: rest, n => bif Nat.beq n m then some x else memOf rest n
def renP : List (Nat × Nat) → List (Nat × Nat) → List (Nat × Nat)
  | a :: l, b :: m => (b.1, a.1) :: renP l m
  | _, _ => []
def renC : CV → CV → List (Nat × Nat)
  | .own m _, .own m' _ => [(m', m)]
  | .ptr m _, .ptr m' _ => [(m', m)]
  | .fn _ l, .fn _ l' => renP l l'
  | _, _ => []
def renL : List CV → List CV → List (Nat × Nat)
  | a :: l, b :: m => renC a b ++ renL l m
  | _, _ => []
def renS : SV → SV → List (Nat × Nat)
  | .x (.c a), .x (.c b) => renC a b
  | .x (.agg l), .x (.agg m) => renL l m
  | .view m _ _ _, .view m' _ _ _ => [(m', m)]
  | _, _ => []
def renT : List GV → List GV → List (Nat × Nat)
  | g :: l, h :: m => bif h.k then renS g.v h.v ++ renT l m else renT l m
  | _, _ => []
def renB (mem : Nat → Option Blk) : List (Nat × Nat) → List (Nat × Blk) → List (Nat × Nat)
  | ren, [] => []
  | ren, (m', .cells l') :: rest => (match mem (look ren m') with | some (.cells l) => renL l l' | _ => []) ++ renB mem (ren ++ (match mem (look ren m') with | some (.cells l) => renL l l' | _ => [])) rest
  | ren, _ :: rest => renB mem ren rest
where look : List (Nat × Nat) → Nat → Nat
  | [], k => k
  | (a, b) :: l, k => bif Nat.beq k a then b else look l k
def rename (s : PSt) (slots : List GV) (blocks : List (Nat × Blk)) : List (Nat × Nat) := renT s.tmps slots ++ renB s.mem (renT s.tmps slots) blocks
def rho (l : List (Nat × Nat)) (k : Nat) : Nat := bif Nat.ble GB k then k else renB.look l k
structure Inv where
  ι : Type
  good : ι → Prop
  slots : ι → List GV
  blocks : ι → List (Nat × Blk)
  μ : ι → Nat
def ist (I : Inv) (i : I.ι) (gen : Nat) : PSt := ⟨I.slots i, memOf (I.blocks i), True, [], gen⟩
def nameOk (blocks : List (Nat × Blk)) (m : Nat) : Bool := bif Nat.ble GB m then (gtab m).isSome else (memOf blocks m).isSome
def wfC' (blocks : List (Nat × Blk)) : CV → Bool
  | .own m _ => nameOk blocks m
  | .ptr m _ => nameOk blocks m
  | .fn _ l => l.all fun p => nameOk blocks p.1
  | _ => true
def wfX (blocks : List (Nat × Blk)) : XV → Bool
  | .c c => wfC' blocks c
  | .agg l => l.all (wfC' blocks)
def wfS (blocks : List (Nat × Blk)) : SV → Bool
  | .x v => wfX blocks v
  | .tup l => l.all (wfX blocks)
  | .view m _ _ _ => nameOk blocks m
  | _ => false
def wfB (blocks : List (Nat × Blk)) : Blk → Bool
  | .cells l => l.all (wfC' blocks)
  | _ => true
def wfI (blocks : List (Nat × Blk)) (slots : List GV) (ρ : Nat → Nat) : Bool :=
  slots.all (fun g => bif g.k then wfS blocks g.v else true) && blocks.all (fun p => wfB blocks p.2 && Nat.blt p.1 GB && Nat.blt (ρ p.1) GB && (bif Nat.ble PN p.1 then Nat.beq (ρ p.1) p.1 else true)) && distinct (blocks.map fun p => ρ p.1) && distinct (blocks.map (·.1))
def imeets (I : Inv) (s : PSt) (i : I.ι) : Prop :=
  s.ok ∧ wfI (I.blocks i) (I.slots i) (rho (rename s (I.slots i) (I.blocks i))) = true ∧ leT (rho (rename s (I.slots i) (I.blocks i))) s.tmps (I.slots i) ∧ leM (rho (rename s (I.slots i) (I.blocks i))) s.mem (I.blocks i)
def bump (s : PSt) : PSt := ⟨s.tmps, s.mem, s.ok, [], s.gen + 1⟩
def unroll (f : (Ex → PSt → Prop) → PSt → Prop) (k : Ex → PSt → Prop) : Nat → PSt → Prop
  | 0, _ => False
  | n + 1, s => f (fun e s' => match e with
    | .normal => unroll f k n (bump s')
    | .exit m => k (.exit m) s'
    | .ret => k .ret s') s
def isNilC : CV → Bool
  | .v (.slice none 0 0) => true
  | _ => false
def ownSlot (t z nm : Nat) (s : PSt) : PSt := match s.tmps[t]? with
  | some ⟨true, .x (.c c)⟩ => if isNilC c && (Nat.blt 0 z && ((s.mem nm).isNone && Nat.blt nm PN)) then ⟨s.tmps.set t (gnow (.x (.c (.own nm 0)))), applyU s.mem [(nm, .row z 0 (.zer []))], s.ok, s.lits, s.gen⟩ else s
  | _ => s
def ownCell (t j z nm : Nat) (s : PSt) : PSt := match s.tmps[t]? with
  | some ⟨true, .x (.c (.ptr m off))⟩ => match s.mem m with
    | some (.cells l) => match l[j]? with
      | some c => if isNilC c && (Nat.blt 0 z && ((s.mem nm).isNone && Nat.blt nm PN)) then ⟨s.tmps, applyU (applyU s.mem [(nm, .row z 0 (.zer []))]) [(m, .cells (l.set j (.own nm 0)))], s.ok, s.lits, s.gen⟩ else s
      | none => s
    | _ => s
  | _ => s
def ownOne (t : Nat) (j : Option Nat) (z nm : Nat) (s : PSt) : PSt := match j with
  | none => ownSlot t z nm s
  | some j => ownCell t j z nm s
def ownAll : Nat → List (Nat × Option Nat × Nat) → PSt → PSt
  | _, [], s => s
  | nm, (t, j, z) :: l, s => ownAll (nm + 1) l (ownOne t j z nm s)
def ownAt (s : PSt) : List (Nat × Nat) → List Nat
  | [] => []
  | (t, j) :: l => match (s.tmps.getD t (gnow (.tup []))).v with
    | .x (.c (.ptr m _)) => match s.mem m with
      | some (.cells cs) => match cs[j]? with
        | some (.own r _) => r :: ownAt s l
        | _ => ownAt s l
      | _ => ownAt s l
    | _ => ownAt s l
def slcCell (t j : Nat) (s : PSt) : PSt := match s.tmps[t]? with
  | some ⟨true, .x (.c (.ptr m off))⟩ => match s.mem m with
    | some (.cells l) => match l[j]? with
      | some (.own r n) => match s.mem r with
        | some (.fro z k row) => ⟨s.tmps, applyU s.mem [(m, .cells (l.set j (.slc z k row)))], s.ok, s.lits, s.gen⟩
        | _ => s
      | _ => s
    | _ => s
  | _ => s
def slcAll : List (Nat × Nat) → PSt → PSt
  | [], s => s
  | (t, j) :: l, s => slcAll l (slcCell t j s)
inductive Ann where
  | cut (I : Inv)
  | inv (I : Inv)
  | rounds (n : Nat)
  | invs (l : List Inv)
  | invF (f : (Nat → Int) → List Inv)
  | cuts (l : List Inv)
  | ownF (ts : List (Nat × Option Nat × Nat)) (f : (Nat → Int) → List Inv)
  | cutF (f : (Nat → Int) → List Inv)
  | cutZ (l : List (List (Nat × Nat) × Inv))
def anyZ : List (List (Nat × Nat) × Inv) → PSt → Prop
  | [], _ => False
  | (ts, I) :: l, s => (∃ i, I.good i ∧ imeets I (slcAll ts (frzS s (ownAt s ts))) i) ∨ anyZ l s
def allZ : List (List (Nat × Nat) × Inv) → (PSt → Prop) → Nat → Prop
  | [], _, _ => True
  | (_, I) :: l, f, g => (∀ i, I.good i → f (ist I i g)) ∧ allZ l f g
def anyP : List Inv → ((I : Inv) → I.ι → Prop) → Prop
  | [], _ => False
  | I :: l, f => (∃ i, f I i) ∨ anyP l f
def allP : List Inv → ((I : Inv) → I.ι → Prop) → Prop
  | [], _ => True
  | I :: l, f => (∀ i, I.good i → f I i) ∧ allP l f
def flush (k : PSt → Prop) (s : PSt) : Prop := s.ok ∧ k ⟨s.tmps, s.mem, True, s.lits, s.gen⟩
def noLoops : Nat → Option Ann := fun _ => none
def cutK (I : Inv) (k : Ex → PSt → Prop) : Ex → PSt → Prop := fun e s => match e with
  | .normal => ∃ j, I.good j ∧ imeets I s j
  | .exit m => k (.exit m) s
  | .ret => k .ret s
def cutKs (l : List Inv) (k : Ex → PSt → Prop) : Ex → PSt → Prop := fun e s => match e with
  | .normal => anyP l fun J j => J.good j ∧ imeets J s j
  | .exit m => k (.exit m) s
  | .ret => k .ret s
def cutZK (l : List (List (Nat × Nat) × Inv)) (k : Ex → PSt → Prop) : Ex → PSt → Prop := fun e s => match e with
  | .normal => anyZ l s
  | .exit m => k (.exit m) s
  | .ret => k .ret s
def blockK (id : Nat) (k : Ex → PSt → Prop) : Ex → PSt → Prop := fun e s => match e with
  | .normal => k .normal s
  | .exit m => if m = id then k .normal s else k (.exit m) s
  | .ret => k .ret s
def condC (s : PSt) (c : Operand) (p q : Prop) : Prop := match operand s c with
  | ⟨true, .x (.c (.v (.bool b)))⟩ => if litOp s.lits c then (match b with | true => p | false => q) else bcond b p q
  | _ => False
def slotI (s : PSt) (t : Nat) : Int := bif Nat.beq t 999999 then Int.ofNat s.gen else match s.tmps.getD t gunk with
  | ⟨true, .x (.c (.v (.int _ n)))⟩ => n
  | _ => 0
def invsC (l : List Inv) (ev : (Ex → PSt → Prop) → PSt → Prop) (k : Ex → PSt → Prop) (s : PSt) : Prop :=
  (anyP l fun I i => I.good i ∧ imeets I s i) ∧ allP l fun I i => ev (fun e s' => match e with
    | .normal => anyP l fun J j => J.good j ∧ imeets J s' j ∧ J.μ j < I.μ i
    | .exit m => k (.exit m) s'
    | .ret => k .ret s') (ist I i (s.gen + 1))
def noneI : Inv := ⟨Empty, fun _ => False, fun _ => [], fun _ => [], fun _ => 0⟩
def plusI (I J : Inv) : Inv := ⟨I.ι ⊕ J.ι, fun i => match i with | .inl i => I.good i | .inr i => J.good i, fun i => match i with | .inl i => I.slots i | .inr i => J.slots i, fun i => match i with | .inl i => I.blocks i | .inr i => J.blocks i, fun i => match i with | .inl i => I.μ i | .inr i => J.μ i⟩
def sumI : List Inv → Inv
  | [] => noneI
  | I :: l => plusI I (sumI l)
theorem any_sum : ∀ (l : List Inv) (s : PSt) (m : Nat → Prop), (anyP l fun I i => I.good i ∧ imeets I s i ∧ m (I.μ i)) ↔ ∃ i, (sumI l).good i ∧ imeets (sumI l) s i ∧ m ((sumI l).μ i)
  | [], s, m => ⟨fun h => h.elim, fun ⟨i, _⟩ => Empty.elim i⟩
  | I :: l, s, m => by
    constructor
    · rintro (⟨i, h⟩ | h)
      · exact ⟨Sum.inl i, h⟩
      · obtain ⟨i, h⟩ := (any_sum l s m).1 h
        exact ⟨Sum.inr i, h⟩
    · rintro ⟨i | i, h⟩
      · exact Or.inl ⟨i, h⟩
      · exact Or.inr ((any_sum l s m).2 ⟨i, h⟩)
theorem any_sum' (l : List Inv) (s : PSt) : (anyP l fun I i => I.good i ∧ imeets I s i) ↔ ∃ i, (sumI l).good i ∧ imeets (sumI l) s i := by
  have := any_sum l s (fun _ => True)
  simpa only [and_true] using this
theorem all_sum : ∀ (l : List Inv) (g : Nat) (f : Nat → PSt → Prop), (allP l fun I i => f (I.μ i) (ist I i g)) ↔ ∀ i, (sumI l).good i → f ((sumI l).μ i) (ist (sumI l) i g)
  | [], g, f => ⟨fun _ i => Empty.elim i, fun _ => trivial⟩
  | I :: l, g, f => by
    constructor
    · rintro ⟨h1, h2⟩ i hi
      cases i with
      | inl i => exact h1 i hi
      | inr i => exact (all_sum l g f).1 h2 i hi
    · intro h
      exact ⟨fun i hi => h (Sum.inl i) hi, (all_sum l g f).2 fun i hi => h (Sum.inr i) hi⟩
theorem cutKs_eq (l : List Inv) (k : Ex → PSt → Prop) : cutKs l k = cutK (sumI l) k := by
  funext e s
  cases e with
  | normal => exact propext (any_sum' l s)
  | exit m => rfl
  | ret => rfl
section
variable {P : Program} {O : Oracle} {base : Nat} {X F0 : Nat → Prop} {B : Nat → (Nat × Value) × Bool}
theorem Rel.lit {s : PSt} {a : Act} {w : World} (R : Rel base X F0 B s a w) (p : Prop) (l : List Tmp) (gen : Nat) : Rel base X F0 B ⟨s.tmps, s.mem, p, l, gen⟩ a w := by
  obtain ⟨E, R⟩ := R
  exact ⟨E, R.defers, R.size, R.slots, R.mem, R.sep, R.frz, R.sub, R.glob, R.old, R.pin, R.pinL⟩
theorem RunL.wp (hO : OSound P O) {ops : Array Oper} {nm : Nat} {D : Nat → Delta} {Q : Exit → Act → World → Prop} {w0 : World} {s' : PSt} (hok : s'.ok) (hQ : ∀ a' w', Rel base X F0 B s' a' w' → KeepF base X F0 w0 w' → Q .normal a' w') :
    ∀ (l : List Nat) (s : PSt) (a : Act) (w : World), RunL P O ops.toList nm D l s s' → Rel base X F0 B s a w → base ≤ w.heap.size → KeepF base X F0 w0 w → wpOps P ops Q l a w
  | [], s, a, w, h, R, hb, hbel => by cases h; exact hQ _ _ R hbel
  | i :: l, s, a, w, h, R, hb, hbel => by
    cases h with
    | cons ho h t =>
      rw [wpOps_cons]
      exact step_sound hO R hb (by simpa using ho) h (RunL.ok t hok) fun a' w' R' hb' => RunL.wp hO hok hQ l _ a' w' t R' (Nat.le_trans hb hb'.size) (hbel.trans hb')
theorem Rel.drew {s : PSt} {a : Act} {w w' : World} (R : Rel base X F0 B s a w) (h : w'.heap = w.heap := by rfl) : Rel base X F0 B s a w' := by
  obtain ⟨E, R⟩ := R
  have T : Later (live s) E E w w' := ⟨fun _ h => h, fun _ _ => by rw [h], fun _ _ _ => rfl, fun _ _ _ => rfl⟩
  refine ⟨E, R.defers.later T.F T.heap, R.size, fun t g e hk => ?_, fun m b hm => ?_, R.sep, fun k hk => by rw [h]; exact R.frz k hk, R.sub, Laid.later T R.glob, fun k hk => by rw [h]; exact R.old k hk, R.pin, R.pinL⟩
  · obtain ⟨y, h1, h2⟩ := R.slots t g e hk
    exact ⟨y, h1, ConcS.later T (fun _ _ => rfl) (fun _ h => h) h2⟩
  · obtain ⟨h1, h2⟩ := R.mem m b hm
    exact ⟨h1, BlkOK.later T (fun _ _ => rfl) (fun _ h => h) (Or.inl (by rw [hm]; rfl)) h1 h2 fun k hk => ⟨by rw [h], blockOf_nF h2 hk⟩⟩
theorem Rel.frz {s : PSt} {a : Act} {w : World} (R : Rel base X F0 B s a w) (hb : base ≤ w.heap.size) (rows : List Nat) : Rel base X F0 B ⟨s.tmps, applyU s.mem (froze s rows), s.ok, s.lits, s.gen⟩ a w := by
  obtain ⟨E, R⟩ := R
  have := (R.calledE hb (rows := rows) (refs := []) (by simp) (res := []) (cs := []) (v := .tuple #[]) (w' := w) (F' := callF E s rows) (Keep.refl _ _ _) (fun k h => h) (fun k h => ⟨callF_lt R h, Or.inl h⟩) ⟨[], rfl, trivial⟩ trivial (u := []) rfl none s.ok s.lits s.gen).1.1
  rw [List.append_nil] at this
  exact ⟨_, this⟩
theorem Rel.start {s : PSt} {a : Act} {w : World} (R : Rel base X F0 B s a w) (hb : base ≤ w.heap.size) (ops : List Oper) (draw : Bool) : Rel base X F0 B (startS ops draw s) a w := by
  unfold startS frzS
  split
  · split
    · exact R
    · exact R.frz hb _
  · exact R
section
variable {E : Env} {s : PSt} {a : Act} {w : World}
theorem isNilC_eq {c : CV} (h : isNilC c = true) : c = .v nilS := by
  unfold isNilC at h
  split at h
  · rfl
  · simp at h
theorem RelE.new_nil (R : RelE base X F0 B E s a w) {name z : Nat} (hn : s.mem name = none) (hltP : name < PN) (hz : 0 < z) :
    ∃ E', RelE base X F0 B E' ⟨s.tmps, applyU s.mem [(name, .row z 0 (.zer []))], s.ok, s.lits, s.gen⟩ a w ∧ E'.ν name = nilS := by
  have hlt : name < GB := Nat.lt_trans hltP PN_lt
  have hnl : ¬ live s name := fun h => h.elim (fun h => by rw [hn] at h; simp at h) (fun h => by omega)
  let E' : Env := ⟨E.F, E.β, fun m => if m = name then nilS else E.ν m⟩
  have T : Later (live s) E E' w w := by
    refine ⟨fun _ h => h, fun k hk => rfl, fun _ _ _ => rfl, fun m hm _ => ?_⟩
    show (if m = name then nilS else E.ν m) = E.ν m
    rw [if_neg (fun (e : m = name) => hnl (e ▸ hm))]
  have GG : ∀ m, GB ≤ m → E'.ν m = E.ν m := fun m hm => by show (if m = name then nilS else E.ν m) = E.ν m; rw [if_neg (by omega)]
  have hLL : ∀ m, live s m → live ⟨s.tmps, applyU s.mem [(name, .row z 0 (.zer []))], s.ok, s.lits, s.gen⟩ m := fun m hm => hm.elim (fun h => Or.inl (applyU_some h)) Or.inr
  have eν : E'.ν name = nilS := by show (if name = name then nilS else E.ν name) = _; rw [if_pos rfl]
  have bo : ∀ m b, m ≠ name → blockOf E' m b = blockOf E m b := by
    intro m b hm
    cases b with
    | row z n r =>
      show (if m = name then nilS else E.ν m).ownBlock = _
      rw [if_neg hm]; rfl
    | _ => rfl
  refine ⟨E', R.go none gunk undef s.ok s.lits s.gen T GG (fun m h => applyU_some h) (fun h => by simp [gunk] at h) ?_ ?_ (fun k hk => R.frz k hk) (Nat.le_refl _) (fun m hm h => applyU_pin (by simp [hltP]) hm h), eν⟩
  · intro m b hm
    by_cases e : m = name
    · subst e
      rw [applyU_self] at hm
      simp only [Option.some.injEq] at hm
      subst hm
      refine ⟨hlt, ?_⟩
      unfold BlkOK
      rw [eν]
      exact ⟨Int.le_refl 0, hz, (fun k hk => by simp [nilS, Value.ownBlock] at hk), 0, [], ⟨by simp, Or.inl ⟨rfl, rfl⟩⟩, fun i j hi hj => by omega⟩
    · rw [applyU_ne e] at hm
      have hm : s.mem m = some b := hm
      obtain ⟨k1, k2⟩ := R.mem m b hm
      exact ⟨k1, BlkOK.later T GG hLL (Or.inl (by rw [hm]; rfl)) k1 k2 fun k hk => ⟨rfl, blockOf_nF k2 hk⟩⟩
  · intro m m' b b' hm hm' hne k hk hk'
    by_cases e : m = name
    · subst e
      rw [applyU_self] at hm
      simp only [Option.some.injEq] at hm
      subst hm
      simp [blockOf, eν, nilS, Value.ownBlock] at hk
    · by_cases e' : m' = name
      · subst e'
        rw [applyU_self] at hm'
        simp only [Option.some.injEq] at hm'
        subst hm'
        simp [blockOf, eν, nilS, Value.ownBlock] at hk'
      · rw [applyU_ne e] at hm
        rw [applyU_ne e'] at hm'
        rw [bo _ _ e] at hk
        rw [bo _ _ e'] at hk'
        exact R.sep m m' b b' hm hm' hne k hk hk'
theorem RelE.reslot (R : RelE base X F0 B E s a w) {t : Nat} {v : SV} (h : ∀ y, a.tmps[t]? = some y → ConcS (live s) E w v y) (ht : t < s.tmps.length) : RelE base X F0 B E ⟨s.tmps.set t (gnow v), s.mem, s.ok, s.lits, s.gen⟩ a w := by
  refine ⟨R.defers, by simp [R.size], fun u g e hk => ?_, R.mem, R.sep, R.frz, R.sub, R.glob, R.old, R.pin, R.pinL⟩
  by_cases q : t = u
  · subst q
    have e : (s.tmps.set t (gnow v))[t]? = some g := e
    rw [List.getElem?_set_self ht] at e
    simp only [Option.some.injEq] at e
    subst e
    obtain ⟨y, hy⟩ : ∃ y, a.tmps[t]? = some y := by
      have : t < a.tmps.size := by rw [R.size]; exact ht
      exact ⟨_, Array.getElem?_eq_getElem this⟩
    exact ⟨y, hy, h y hy⟩
  · have e : (s.tmps.set t (gnow v))[u]? = some g := e
    rw [List.getElem?_set_ne q] at e
    exact R.slots u g e hk
theorem RelE.recell (R : RelE base X F0 B E s a w) {m : Nat} {l l' : List CV} (hm : s.mem m = some (.cells l)) (h : ∀ ys, Fa2 (ConcC (live s) E w) l ys → Fa2 (ConcC (live s) E w) l' ys) : RelE base X F0 B E ⟨s.tmps, applyU s.mem [(m, .cells l')], s.ok, s.lits, s.gen⟩ a w := by
  have hL : live ⟨s.tmps, applyU s.mem [(m, .cells l')], s.ok, s.lits, s.gen⟩ = live s := by
    funext k
    unfold live
    by_cases e : k = m
    · subst e; simp only [applyU_self, hm]; rfl
    · simp only [applyU_ne e]; rfl
  have get : ∀ k b, applyU s.mem [(m, .cells l')] k = some b → ∃ b0, s.mem k = some b0 ∧ (∀ E, blockOf E k b = blockOf E k b0) ∧ (BlkOK base X (live s) E w k b0 → BlkOK base X (live s) E w k b) := by
    intro k b hk
    by_cases e : k = m
    · subst e
      rw [applyU_self] at hk
      simp only [Option.some.injEq] at hk
      subst hk
      refine ⟨_, hm, fun _ => rfl, fun ⟨h1, h2, arr, t, h3, h4⟩ => ⟨h1, h2, arr, t, h3, h _ h4⟩⟩
    · rw [applyU_ne e] at hk
      exact ⟨b, hk, fun _ => rfl, fun h => h⟩
  refine ⟨R.defers, R.size, fun u g e hk => by rw [hL]; exact R.slots u g e hk, fun k b hk => ?_, fun k k' b b' hk hk' hne j hj => ?_, R.frz, R.sub, R.glob, R.old, fun k hk h => ?_, fun k hk => applyU_some (R.pinL k hk)⟩
  · obtain ⟨b0, g0, _, g2⟩ := get k b hk
    rw [hL]
    exact ⟨(R.mem k b0 g0).1, g2 (R.mem k b0 g0).2⟩
  · obtain ⟨b0, g0, g1, _⟩ := get k b hk
    obtain ⟨b1, g3, g4, _⟩ := get k' b' hk'
    rw [g1] at hj
    rw [g4]
    exact R.sep k k' b0 b1 g0 g3 hne j hj
  · obtain ⟨b, hb⟩ := Option.isSome_iff_exists.1 h
    obtain ⟨b0, g0, _⟩ := get k b hb
    exact R.pin k hk (by rw [g0]; rfl)
theorem Fa2.set {L : Nat → Prop} : ∀ {l : List CV} {ys : List Value} {j : Nat} {c d : CV}, l[j]? = some c → (∀ y, ConcC L E w c y → ConcC L E w d y) → Fa2 (ConcC L E w) l ys → Fa2 (ConcC L E w) (l.set j d) ys
  | [], ys, j, c, d, h, _, _ => by simp at h
  | x :: l, [], j, c, d, _, _, h => h.elim
  | x :: l, y :: ys, 0, c, d, h, k, H => by simp at h; subst h; exact ⟨k y H.1, H.2⟩
  | x :: l, y :: ys, j + 1, c, d, h, k, H => ⟨H.1, Fa2.set (by simpa using h) k H.2⟩
theorem own_nil {L : Nat → Prop} {nm : Nat} (hl : L nm) (hν : E.ν nm = nilS) {y : Value} (h : ConcC L E w (.v nilS) y) : ConcC L E w (.own nm 0) y := by
  have h : Rep E.F w (.v nilS) y := h
  cases h
  exact ⟨hl, hν.symm, Int.le_refl 0, Or.inl ⟨rfl, rfl⟩⟩
end
theorem Rel.ownSlot {s : PSt} {a : Act} {w : World} (R : Rel base X F0 B s a w) (t z nm : Nat) : Rel base X F0 B (ownSlot t z nm s) a w := by
  unfold QR.ownSlot
  split
  · rename_i c ht
    split
    · rename_i hc
      simp only [Bool.and_eq_true, Nat.blt_eq, Option.isNone_iff_eq_none] at hc
      obtain ⟨h1, h2, h3, h4⟩ := hc
      obtain ⟨E, R⟩ := R
      obtain ⟨E', R', hν⟩ := R.new_nil h3 h4 h2
      refine ⟨E', R'.reslot (t := t) (v := .x (.c (.own nm 0))) (fun y hy => ?_) (by have := (List.getElem?_eq_some_iff.1 ht).1; exact this)⟩
      obtain ⟨y', e1, e2⟩ := R'.slots t _ ht rfl
      rw [hy] at e1
      simp only [Option.some.injEq] at e1
      subst e1
      have e2 : ConcC _ E' w c y := e2
      rw [isNilC_eq h1] at e2
      exact own_nil (Or.inl (by simp only [applyU_self]; rfl)) hν e2
    · exact R
  · exact R
theorem Rel.ownCell {s : PSt} {a : Act} {w : World} (R : Rel base X F0 B s a w) (t j z nm : Nat) : Rel base X F0 B (ownCell t j z nm s) a w := by
  unfold QR.ownCell
  split
  · split
    · rename_i m off ht _ l hm
      split
      · rename_i c hj
        split
        · rename_i hc
          simp only [Bool.and_eq_true, Nat.blt_eq, Option.isNone_iff_eq_none] at hc
          obtain ⟨h1, h2, h3, h4⟩ := hc
          obtain ⟨E, R⟩ := R
          obtain ⟨E', R', hν⟩ := R.new_nil h3 h4 h2
          have hne : m ≠ nm := fun e => by subst e; rw [hm] at h3; simp at h3
          refine ⟨E', R'.recell (m := m) (l := l) (by simp only [applyU_ne hne]; exact hm) (fun ys hy => Fa2.set hj (fun y hy => ?_) hy)⟩
          rw [isNilC_eq h1] at hy
          exact own_nil (Or.inl (by simp only [applyU_self]; rfl)) hν hy
        · exact R
      · exact R
    · exact R
  · exact R
theorem Rel.ownAll {a : Act} {w : World} : ∀ (ts : List (Nat × Option Nat × Nat)) (nm : Nat) (s : PSt), Rel base X F0 B s a w → Rel base X F0 B (ownAll nm ts s) a w
  | [], _, s, R => R
  | (t, none, z) :: l, nm, s, R => Rel.ownAll l (nm + 1) _ (R.ownSlot t z nm)
  | (t, some j, z) :: l, nm, s, R => Rel.ownAll l (nm + 1) _ (R.ownCell t j z nm)
theorem ownSlot_ok (t z nm : Nat) (s : PSt) : (ownSlot t z nm s).ok = s.ok := by
  unfold QR.ownSlot
  split
  · split <;> rfl
  · rfl
theorem ownCell_ok (t j z nm : Nat) (s : PSt) : (ownCell t j z nm s).ok = s.ok := by
  unfold QR.ownCell
  split
  · split
    · split
      · split <;> rfl
      · rfl
    · rfl
  · rfl
theorem ownAll_ok : ∀ (ts : List (Nat × Option Nat × Nat)) (nm : Nat) (s : PSt), (ownAll nm ts s).ok = s.ok
  | [], _, s => rfl
  | (t, none, z) :: l, nm, s => (ownAll_ok l (nm + 1) _).trans (ownSlot_ok t z nm s)
  | (t, some j, z) :: l, nm, s => (ownAll_ok l (nm + 1) _).trans (ownCell_ok t j z nm s)
theorem region_core0 (hO : OSound P O) (hm : P.follows .mixedOrders = true) {id : Nat} {ops : Array Oper} {draw : Bool} {s : PSt} {a : Act} {w w0 : World} {Q : Exit → Act → World → Prop} {k : PSt → Prop} (hk : ∀ s, k s → s.ok)
    (h : runRegion0 P O id ops.toList draw s k) (R : Rel base X F0 B s a w) (hb : base ≤ w.heap.size) (hbel : KeepF base X F0 w0 w) (hQ : ∀ s' a' w', Rel base X F0 B s' a' w' → KeepF base X F0 w0 w' → k s' → Q .normal a' w') :
    (draw = true ∧ wpAny P .any ops Q ops.size (Array.replicate ops.size false) a { w with drawn := w.drawn + 1 }) ∨ (draw = false ∧ wpOps P ops Q (List.range ops.size) a w) := by
  unfold runRegion0 at h
  rw [force_eq] at h
  obtain ⟨s1, ds, lits, hend, hlen, run⟩ := runOps_run (ops := ops.toList) ops.toList 0 s [] s.lits (fun j o ho => by rw [Nat.zero_add]; exact ho) rfl h
  rw [show ([] : List Delta).reverse ++ ds = ds from rfl] at hend
  have run := run (fun i => ds.getD i ⟨gunk, [], [], []⟩) (fun j d hd => by simp [List.getD, hd])
  rw [← List.range_eq_range'] at run
  have hsz : ops.toList.length = ops.size := by simp
  split at hend
  · rename_i hd
    subst hd
    have hc : (depsBack 0 ops.toList && anyOrder [] (masks [] ops.toList) (rowsOf ops.toList ops.toList ds)) = true := by
      by_cases hc : (depsBack 0 ops.toList && anyOrder [] (masks [] ops.toList) (rowsOf ops.toList ops.toList ds)) = true
      · exact hc
      · rw [if_neg hc] at hend; exact hend.elim
    rw [if_pos hc] at hend
    have hok := hk _ hend
    simp only [Bool.and_eq_true] at hc
    obtain ⟨hc1, hc2⟩ := hc
    refine Or.inl ⟨rfl, ?_⟩
    refine region_any hO ((s.gen * 4096 + id) * 1024) (fun i => ds.getD i ⟨gunk, [], [], []⟩) s1 hok ?_ ?_ w0 (fun a' w' R' hb' => hQ _ a' w' (R'.lit s1.ok lits s1.gen) hb' hend) ops.size _ s a _ (by simp) ?_ ?_ ?_ (R.drew) hb ⟨⟨hbel.os, hbel.tape, hbel.output, hbel.size, hbel.block⟩, hbel.fro⟩
    · intro L hL i o ho hd b hbi hnb x y hx hy
      have ey : y = o := by rw [hy] at ho; simpa using ho
      subst ey
      have hi : i < ops.toList.length := (List.getElem?_eq_some_iff.1 ho).1
      have hmlen : (masks [] ops.toList).length = ops.toList.length := by rw [masks_length]; simp
      have hdi : ds[i]? = some (ds.getD i ⟨gunk, [], [], []⟩) := by rw [List.getD, List.getElem?_eq_getElem (by omega)]; rfl
      have hdb : ds[b]? = some (ds.getD b ⟨gunk, [], [], []⟩) := by rw [List.getD, List.getElem?_eq_getElem (by omega)]; rfl
      have hmi : (masks [] ops.toList)[i]? = some ((masks [] ops.toList).getD i 0) := by rw [List.getD, List.getElem?_eq_getElem (by omega)]; rfl
      have := anyOrder_spec _ _ _ hc2 i _ _ (rowsOf_get _ _ i y _ hy hdi) hmi b _ (by simpa using rowsOf_get _ _ b x _ hx hdb) (by simpa using hbi)
      rcases this with h | h
      · exact absurd (masks_spec hL ops.toList [] (fun k o hk => by simpa using hk) (by simp) (fun j o hj => by simp at hj) i y hy hd b h) hnb
      · exact h
    · intro i o ho d hd
      have := depsBack_spec _ _ hc1 i o ho d hd
      omega
    · intro j o _ hj
      exfalso
      by_cases hz : j < ops.size
      · simp [Array.getD, hz] at hj
      · simp [Array.getD, hz] at hj
    · refine Nat.le_trans (List.length_filter_le _ _) (by simp)
    · have : ((List.range ops.size).filter fun i => !(Array.replicate ops.size false).getD i true) = List.range ops.size := by
        rw [List.filter_eq_self]
        intro i hi
        have := List.mem_range.1 hi
        simp [Array.getD, this]
      rw [this, ← hsz]
      exact run
  · rename_i hd
    simp only [Bool.not_eq_true] at hd
    subst hd
    refine Or.inr ⟨rfl, ?_⟩
    rw [← hsz]
    exact RunL.wp (s' := s1) hO (show (⟨s1.tmps, s1.mem, s1.ok, lits, s1.gen⟩ : PSt).ok from hk _ hend) (fun a' w' R' hb' => hQ _ a' w' (R'.lit s1.ok lits s1.gen) hb' hend) _ s a w run R hb hbel
theorem region_core (hO : OSound P O) (hm : P.follows .mixedOrders = true) {id : Nat} {ops : Array Oper} {draw : Bool} {s : PSt} {a : Act} {w w0 : World} {Q : Exit → Act → World → Prop} {k : PSt → Prop} (hk : ∀ s, k s → s.ok)
    (h : runRegion P O id ops.toList draw s k) (R : Rel base X F0 B s a w) (hb : base ≤ w.heap.size) (hbel : KeepF base X F0 w0 w) (hQ : ∀ s' a' w', Rel base X F0 B s' a' w' → KeepF base X F0 w0 w' → k s' → Q .normal a' w') :
    (draw = true ∧ wpAny P .any ops Q ops.size (Array.replicate ops.size false) a { w with drawn := w.drawn + 1 }) ∨ (draw = false ∧ wpOps P ops Q (List.range ops.size) a w) :=
  region_core0 hO hm hk h (R.start hb _ _) hb hbel hQ
theorem region_sound (hO : OSound P O) (hm : P.follows .mixedOrders = true) {id : Nat} {ops : Array Oper} {draw : Bool} {s : PSt} {a : Act} {w w0 : World} {Q : Exit → Act → World → Prop} {k : PSt → Prop} (hk : ∀ s, k s → s.ok)
    (h : runRegion P O id ops.toList draw s k) (R : Rel base X F0 B s a w) (hb : base ≤ w.heap.size) (hbel : KeepF base X F0 w0 w) (hQ : ∀ s' a' w', Rel base X F0 B s' a' w' → KeepF base X F0 w0 w' → k s' → Q .normal a' w') :
    (Code.region id ops draw).wp P Q a w :=
  (region_core hO hm hk h R hb hbel hQ).elim (fun ⟨e, h'⟩ => by subst e; exact wp_region_any hm h') fun ⟨e, h'⟩ => by subst e; exact wp_region h'
theorem leT_get {ρ : Nat → Nat} : ∀ {l m : List GV}, leT ρ l m → l.length = m.length ∧ ∀ (t : Nat) (h : GV), m[t]? = some h → h.k = true → ∃ g, l[t]? = some g ∧ g.k = true ∧ leS ρ g.v h.v
  | [], [], _ => ⟨rfl, fun t h e => by simp at e⟩
  | g :: l, h :: m, hl => by
    unfold leT at hl
    cases hk : h.k
    · simp only [hk] at hl
      obtain ⟨i1, i2⟩ := leT_get hl
      refine ⟨by simp [i1], fun t x e hx => ?_⟩
      cases t with
      | zero => simp at e; subst e; rw [hk] at hx; simp at hx
      | succ t => exact i2 t x (by simpa using e) hx
    · simp only [hk] at hl
      obtain ⟨h1, h2⟩ := hl
      obtain ⟨i1, i2⟩ := leT_get h2
      refine ⟨by simp [i1], fun t x e hx => ?_⟩
      cases t with
      | zero => simp at e; subst e; exact ⟨g, rfl, h1⟩
      | succ t => exact i2 t x (by simpa using e) hx
  | [], _ :: _, h => h.elim
  | _ :: _, [], h => h.elim
theorem memOf_mem : ∀ {l : List (Nat × Blk)} {n : Nat} {x : Blk}, memOf l n = some x → (n, x) ∈ l
  | [], n, x, h => by simp [memOf] at h
  | (m, y) :: l, n, x, h => by
    unfold memOf at h
    cases e : Nat.beq n m
    · rw [e] at h; exact List.mem_cons_of_mem _ (memOf_mem h)
    · rw [e] at h
      have := Nat.eq_of_beq_eq_true e
      subst this
      simp at h; subst h; simp
theorem leM_mem {ρ : Nat → Nat} {mem : Nat → Option Blk} : ∀ {l : List (Nat × Blk)}, leM ρ mem l → ∀ p ∈ l, leB ρ (mem (ρ p.1)) p.2
  | [], _, p, hp => by simp at hp
  | (n, x) :: l, h, p, hp => by
    rcases List.mem_cons.1 hp with rfl | hp
    · exact h.1
    · exact leM_mem h.2 p hp
theorem ble_t {a b : Nat} (h : a ≤ b) : Nat.ble a b = true := by rw [Nat.ble_eq]; exact h
theorem ble_le {a b : Nat} (h : Nat.ble a b = true) : a ≤ b := by rw [Nat.ble_eq] at h; exact h
theorem distinct_ne : ∀ {l : List Nat}, distinct l = true → ∀ (i j a b : Nat), i < j → l[i]? = some a → l[j]? = some b → a ≠ b
  | [], _, i, j, a, b, _, h, _ => by simp at h
  | x :: l, h, i, j, a, b, hij, hi, hj => by
    simp only [distinct, Bool.and_eq_true, Bool.not_eq_true', List.any_eq_false] at h
    cases j with
    | zero => omega
    | succ j =>
      cases i with
      | zero =>
        simp at hi hj
        subst hi
        have := h.1 b (List.mem_of_getElem? hj)
        intro e; subst e; rw [Nat.beq_refl] at this; simp at this
      | succ i => exact distinct_ne h.2 i j a b (by omega) (by simpa using hi) (by simpa using hj)
theorem rho_inj {ρ : Nat → Nat} {l : List (Nat × Blk)} (h : distinct (l.map fun p => ρ p.1) = true) {p q : Nat × Blk} (hp : p ∈ l) (hq : q ∈ l) (hne : p.1 ≠ q.1) : ρ p.1 ≠ ρ q.1 := by
  obtain ⟨i, hi, ei⟩ := List.getElem_of_mem hp
  obtain ⟨j, hj, ej⟩ := List.getElem_of_mem hq
  have gi : (l.map fun p => ρ p.1)[i]? = some (ρ p.1) := by rw [List.getElem?_map, List.getElem?_eq_getElem hi, ei]; rfl
  have gj : (l.map fun p => ρ p.1)[j]? = some (ρ q.1) := by rw [List.getElem?_map, List.getElem?_eq_getElem hj, ej]; rfl
  rcases Nat.lt_trichotomy i j with h' | h' | h'
  · exact distinct_ne h i j _ _ h' gi gj
  · subst h'
    exact absurd (by rw [← ei, ← ej]) hne
  · exact fun e => distinct_ne h j i _ _ h' gj gi e.symm
def wfI0 (blocks : List (Nat × Blk)) (slots : List GV) (ρ : Nat → Nat) : Bool :=
  slots.all (fun g => bif g.k then wfS blocks g.v else true) && blocks.all (fun p => wfB blocks p.2 && Nat.blt p.1 GB && Nat.blt (ρ p.1) GB) && distinct (blocks.map fun p => ρ p.1) && distinct (blocks.map (·.1))
def imeets0 (I : Inv) (s : PSt) (i : I.ι) (ρ : Nat → Nat) : Prop :=
  wfI0 (I.blocks i) (I.slots i) ρ = true ∧ leT ρ s.tmps (I.slots i) ∧ leM ρ s.mem (I.blocks i)
theorem Inv.relE {I : Inv} {s : PSt} {i : I.ι} {ρ : Nat → Nat} (ρG : ∀ k, GB ≤ k → ρ k = k) (h : imeets0 I s i ρ) {a : Act} {w : World} (gen : Nat) {E : Env} {B' : Nat → (Nat × Value) × Bool} (R : RelE base X F0 B E s a w) (hnf : ∀ m, (B' m).2 = false) (hpin : ∀ m b, memOf (I.blocks i) m = some b → PN ≤ m → E.β (ρ m) = (B' m).1.1 ∧ E.ν (ρ m) = (B' m).1.2) :
    ∃ E', E'.F = E.F ∧ (∀ m, m < GB → E'.β m = E.β (ρ m)) ∧ RelE base X F0 B' E' (ist I i gen) a w := by
  obtain ⟨hwf, hl, hm⟩ := h
  simp only [wfI0, Bool.and_eq_true, List.all_eq_true] at hwf
  obtain ⟨⟨⟨w1, w2⟩, w3⟩, w4⟩ := hwf
  obtain ⟨l1, l2⟩ := leT_get hl
  have blk : ∀ m b, memOf (I.blocks i) m = some b → m < GB ∧ ρ m < GB ∧ leB ρ (s.mem (ρ m)) b ∧ wfB (I.blocks i) b = true := by
    intro m b hb
    have hmem := memOf_mem hb
    have := w2 _ hmem
    simp only [Nat.blt_eq] at this
    obtain ⟨⟨t1, t2⟩, t3⟩ := this
    exact ⟨t2, t3, leM_mem hm _ hmem, t1⟩
  have some_of : ∀ m b, memOf (I.blocks i) m = some b → ∃ b0, s.mem (ρ m) = some b0 := by
    intro m b hb
    have := (blk m b hb).2.2.1
    cases hs : s.mem (ρ m) with
    | none => rw [hs] at this; cases b <;> exact this.elim
    | some b0 => exact ⟨b0, rfl⟩
  let E' : Env := ⟨E.F, fun m => if GB ≤ m then E.β m else E.β (ρ m), fun m => if GB ≤ m then E.ν m else E.ν (ρ m)⟩
  have eβ : ∀ m, m < GB → E'.β m = E.β (ρ m) := fun m hm => by show (if GB ≤ m then _ else _) = _; rw [if_neg (by omega)]
  have eν : ∀ m, m < GB → E'.ν m = E.ν (ρ m) := fun m hm => by show (if GB ≤ m then _ else _) = _; rw [if_neg (by omega)]
  have nOk : ∀ m, nameOk (I.blocks i) m = true → live (ist I i gen) m ∧ adr E' m = adr E (ρ m) ∧ (live s (ρ m) → E'.ν m = E.ν (ρ m)) := by
    intro m hm
    unfold nameOk at hm
    by_cases hG : GB ≤ m
    · rw [show Nat.ble GB m = true from ble_t hG] at hm
      refine ⟨Or.inr ⟨hG, hm⟩, ?_, fun _ => ?_⟩
      · rw [ρG m hG]; unfold adr; rw [if_pos hG, if_pos hG]
      · rw [ρG m hG]; show (if GB ≤ m then _ else _) = _; rw [if_pos hG]
    · have hb : Nat.ble GB m = false := by
        cases h : Nat.ble GB m
        · rfl
        · exact absurd (ble_le h) hG
      rw [hb] at hm
      obtain ⟨b, hb⟩ := Option.isSome_iff_exists.1 hm
      obtain ⟨h1, h2, _⟩ := blk m b hb
      refine ⟨Or.inl hm, ?_, fun _ => eν m h1⟩
      unfold adr
      rw [if_neg (by omega), if_neg (by omega), eβ m h1]
  have cC : ∀ {c d : CV} {y : Value}, leC ρ c d → wfC' (I.blocks i) d = true → ConcC (live s) E w c y → ConcC (live (ist I i gen)) E' w d y := by
    intro c d y h hw hc
    unfold leC at h
    split at h
    · have hc : Rep E.F w _ y := hc
      rw [veq_eq h] at hc; exact hc
    · obtain ⟨rfl, h1, rfl⟩ := nilC_eq h
      exact Rep.eq (.nil h1 rfl) hc
    · obtain ⟨rfl, rfl, h⟩ := h
      exact Rep.eq (.slc fun i j hi hj => eqRow_get h i j hi hj) hc
    · obtain ⟨rfl, rfl⟩ := h
      obtain ⟨h1, _, h3⟩ := nOk _ hw
      exact ⟨h1, by rw [h3 hc.1]; exact hc.2.1, hc.2.2⟩
    · obtain ⟨rfl, rfl⟩ := h
      obtain ⟨h1, h2, _⟩ := nOk _ hw
      exact ⟨h1, by rw [h2]; exact hc.2⟩
    · rename_i f l g k
      obtain ⟨rfl, rfl⟩ := h
      have hw : ∀ p ∈ k, nameOk (I.blocks i) p.1 = true := List.all_eq_true.1 hw
      refine ⟨fun p hp => (nOk _ (hw p hp)).1, ?_⟩
      rw [hc.2]
      congr 2
      rw [List.map_map]
      refine List.map_congr_left fun p hp => ?_
      simp only [Function.comp]
      rw [(nOk _ (hw p hp)).2.1]
    · exact h.elim
  have cL : ∀ {l m : List CV} {ys : List Value}, leL ρ l m → m.all (wfC' (I.blocks i)) = true → Fa2 (ConcC (live s) E w) l ys → Fa2 (ConcC (live (ist I i gen)) E' w) m ys := by
    intro l
    induction l with
    | nil =>
      intro m ys h hw hc
      cases m with
      | nil => cases ys with
        | nil => trivial
        | cons => exact hc.elim
      | cons => exact h.elim
    | cons c l ih =>
      intro m ys h hw hc
      cases m with
      | nil => exact h.elim
      | cons d m =>
        cases ys with
        | nil => exact hc.elim
        | cons y ys =>
          simp only [List.all_cons, Bool.and_eq_true] at hw
          exact ⟨cC h.1 hw.1 hc.1, ih h.2 hw.2 hc.2⟩
  have cX : ∀ {c d : XV} {y : Value}, leX ρ c d → wfX (I.blocks i) d = true → ConcX (live s) E w c y → ConcX (live (ist I i gen)) E' w d y := by
    intro c d y h hw hc
    unfold leX at h
    split at h
    · exact cC h hw hc
    · obtain ⟨ys, e, hc⟩ := hc; exact ⟨ys, e, cL h hw hc⟩
    · exact h.elim
  have cXs : ∀ {l m : List XV} {ys : List Value}, leXs ρ l m → m.all (wfX (I.blocks i)) = true → Fa2 (ConcX (live s) E w) l ys → Fa2 (ConcX (live (ist I i gen)) E' w) m ys := by
    intro l
    induction l with
    | nil =>
      intro m ys h hw hc
      cases m with
      | nil => cases ys with
        | nil => trivial
        | cons => exact hc.elim
      | cons => exact h.elim
    | cons c l ih =>
      intro m ys h hw hc
      cases m with
      | nil => exact h.elim
      | cons d m =>
        cases ys with
        | nil => exact hc.elim
        | cons y ys =>
          simp only [List.all_cons, Bool.and_eq_true] at hw
          exact ⟨cX h.1 hw.1 hc.1, ih h.2 hw.2 hc.2⟩
  have cS : ∀ {c d : SV} {y : Value}, leS ρ c d → wfS (I.blocks i) d = true → ConcS (live s) E w c y → ConcS (live (ist I i gen)) E' w d y := by
    intro c d y h hw hc
    unfold leS at h
    split at h
    · exact cX h hw hc
    · obtain ⟨ys, e, hc⟩ := hc; exact ⟨ys, e, cXs h hw hc⟩
    · obtain ⟨rfl, rfl, rfl, rfl⟩ := h
      obtain ⟨h1, _, h3⟩ := nOk _ hw
      exact ⟨h1, by rw [h3 hc.1]; exact hc.2⟩
    · exact h.elim
  have bo : ∀ m b k, memOf (I.blocks i) m = some b → blockOf E' m b = some k → ∃ b0, s.mem (ρ m) = some b0 ∧ blockOf E (ρ m) b0 = some k := by
    intro m b k hb hk
    obtain ⟨h1, h2, h3, h4⟩ := blk m b hb
    unfold leB at h3
    split at h3
    · rename_i l m' e; exact ⟨_, e, by simpa [blockOf, eβ m h1] using hk⟩
    · rename_i z n r z' n' r' e; exact ⟨_, e, by simpa [blockOf, eν m h1] using hk⟩
    · simp [blockOf] at hk
    · exact h3.elim
  refine ⟨E', rfl, eβ, R.defers, by rw [R.size]; exact l1, ?_, ?_, ?_, R.frz, R.sub, R.glob, R.old, ?_, fun m h => by rw [hnf m] at h; simp at h⟩
  · intro t h e hk
    obtain ⟨g, e', k', v'⟩ := l2 t h e hk
    obtain ⟨y, h1, h2⟩ := R.slots t g e' k'
    have hw := w1 h (List.mem_of_getElem? e)
    rw [hk] at hw
    exact ⟨y, h1, cS v' hw h2⟩
  · intro m b hb
    replace hb : memOf (I.blocks i) m = some b := hb
    obtain ⟨h1, h2, h3, h4⟩ := blk m b hb
    refine ⟨h1, ?_⟩
    unfold leB at h3
    split at h3
    · rename_i l m' e
      obtain ⟨_, k1, k2, arr, t, k3, k4⟩ := R.mem _ _ e
      unfold BlkOK
      rw [eβ m h1]
      exact ⟨k1, k2, arr, t, k3, cL h3 h4 k4⟩
    · rename_i z n r z' n' r' e
      obtain ⟨rfl, rfl, h3⟩ := h3
      obtain ⟨_, k0, k1, k2, el, xs, k3, k4⟩ := R.mem _ _ e
      unfold BlkOK
      rw [eν m h1]
      refine ⟨k0, k1, k2, el, xs, k3, fun i j hi hj => ?_⟩
      obtain ⟨u, e1, e2⟩ := k4 i j hi hj
      exact ⟨u, e1, Rep.eq (eqRow_get h3 i j hi hj) e2⟩
    · rename_i z n r z' n' r' e
      obtain ⟨rfl, rfl, h3⟩ := h3
      have hr : Rep E.F w (.slc z n r) (E.ν (ρ m)) := (R.mem _ _ e).2
      unfold BlkOK
      rw [eν m h1]
      exact Rep.eq (.slc fun i j hi hj => eqRow_get h3 i j hi hj) hr
    · exact h3.elim
  · intro m m' b b' hb hb' hne k hk hk'
    obtain ⟨b0, e0, f0⟩ := bo m b k hb hk
    obtain ⟨b1, e1, f1⟩ := bo m' b' k hb' hk'
    exact R.sep _ _ b0 b1 e0 e1 (rho_inj w3 (memOf_mem hb) (memOf_mem hb') hne) k f0 f1
  · intro m hP hb
    obtain ⟨b, hb⟩ := Option.isSome_iff_exists.1 hb
    replace hb : memOf (I.blocks i) m = some b := hb
    rw [eβ m (blk m b hb).1, eν m (blk m b hb).1]
    exact hpin m b hb (hP.resolve_right (by rw [hnf m]; simp))
theorem rho_G (l : List (Nat × Nat)) : ∀ k, GB ≤ k → rho l k = k := by
  intro k hk
  unfold rho
  rw [show Nat.ble GB k = true from ble_t hk]; rfl
def nf (B : Nat → (Nat × Value) × Bool) : Prop := ∀ m, (B m).2 = false
theorem Inv.rel {I : Inv} {s : PSt} {i : I.ι} (hnf : nf B) (h : imeets I s i) {a : Act} {w : World} (gen : Nat) (R : Rel base X F0 B s a w) : Rel base X F0 B (ist I i gen) a w := by
  obtain ⟨E, R⟩ := R
  obtain ⟨_, hwf, hl, hm⟩ := h
  have hwf' := hwf
  simp only [wfI, Bool.and_eq_true, List.all_eq_true] at hwf
  obtain ⟨⟨⟨w1, w2⟩, w3⟩, w4⟩ := hwf
  have h0 : imeets0 I s i (rho (rename s (I.slots i) (I.blocks i))) := by
    refine ⟨?_, hl, hm⟩
    simp only [wfI0, Bool.and_eq_true, List.all_eq_true]
    exact ⟨⟨⟨w1, fun p hp => (w2 p hp).1⟩, w3⟩, w4⟩
  obtain ⟨E', _, _, R'⟩ := Inv.relE (rho_G _) h0 gen R (B' := B) hnf fun m b hb hP => by
    have hmem := memOf_mem hb
    have t4 := (w2 _ hmem).2
    rw [show Nat.ble PN m = true from ble_t hP] at t4
    have e := Nat.eq_of_beq_eq_true t4
    have hB := leM_mem hm _ hmem
    rw [e] at hB ⊢
    refine R.pin m (Or.inl hP) ?_
    cases hs : s.mem m with
    | none => rw [hs] at hB; cases b <;> exact hB.elim
    | some b0 => rfl
  exact ⟨E', R'⟩
theorem unroll_ok {f : (Ex → PSt → Prop) → PSt → Prop} {k : Ex → PSt → Prop} (hf : ∀ k s, (∀ e s, k e s → s.ok) → f k s → s.ok) : ∀ (n : Nat) (s : PSt), (∀ e s, k e s → s.ok) → unroll f k n s → s.ok
  | 0, s, _, h => h.elim
  | n + 1, s, hk, h => hf _ s (fun e s' he => by
      cases e with
      | normal => exact unroll_ok (f := f) hf n (bump s') hk he
      | exit m => exact hk _ _ he
      | ret => exact hk _ _ he) h
theorem cutK_ok {I : Inv} {k : Ex → PSt → Prop} (hk : ∀ e s, k e s → s.ok) : ∀ e s, cutK I k e s → s.ok := by
  intro e s he
  cases e with
  | normal => obtain ⟨j, _, hj⟩ := he; exact hj.1
  | exit m => exact hk _ _ he
  | ret => exact hk _ _ he
theorem frzS_ok (s : PSt) (l : List Nat) : (frzS s l).ok = s.ok := by unfold frzS; split <;> rfl
theorem slcCell_ok (t j : Nat) (s : PSt) : (slcCell t j s).ok = s.ok := by
  unfold slcCell
  split
  · split
    · split
      · split <;> rfl
      · rfl
    · rfl
  · rfl
theorem slcAll_ok : ∀ (ts : List (Nat × Nat)) (s : PSt), (slcAll ts s).ok = s.ok
  | [], _ => rfl
  | (t, j) :: l, s => by unfold slcAll; rw [slcAll_ok l, slcCell_ok]
theorem anyZ_ok : ∀ (l : List (List (Nat × Nat) × Inv)) (s : PSt), anyZ l s → s.ok
  | [], _, h => h.elim
  | (ts, I) :: l, s, h => by
    rcases h with ⟨i, _, h⟩ | h
    · have := h.1; rw [slcAll_ok, frzS_ok] at this; exact this
    · exact anyZ_ok l s h
theorem cutZK_ok {l : List (List (Nat × Nat) × Inv)} {k : Ex → PSt → Prop} (hk : ∀ e s, k e s → s.ok) : ∀ e s, cutZK l k e s → s.ok := by
  intro e s h
  cases e with
  | normal => exact anyZ_ok l s h
  | exit m => exact hk _ _ h
  | ret => exact hk _ _ h
theorem blockK_ok {id : Nat} {k : Ex → PSt → Prop} (hk : ∀ e s, k e s → s.ok) : ∀ e s, blockK id k e s → s.ok := by
  intro e s he
  cases e with
  | normal => exact hk _ _ he
  | exit m => simp only [blockK] at he; split at he <;> exact hk _ _ he
  | ret => exact hk _ _ he
theorem cutK_sound {I : Inv} {k : Ex → PSt → Prop} {Q : Exit → Act → World → Prop} {gen : Nat} {w0 : World} (hNF : nf B) (hq : ∀ e s a w, Rel base X F0 B s a w → KeepF base X F0 w0 w → base ≤ w.heap.size → k e s → Q (exOf e) a w) (hc : ∀ i, I.good i → k .normal (ist I i gen)) :
    ∀ e s a w, Rel base X F0 B s a w → KeepF base X F0 w0 w → base ≤ w.heap.size → cutK I k e s → Q (exOf e) a w := by
  intro e s a w R hb hb2 he
  cases e with
  | normal => obtain ⟨j, hg, hj⟩ := he; exact hq .normal _ a w (Inv.rel hNF hj _ R) hb hb2 (hc j hg)
  | exit m => exact hq (.exit m) s a w R hb hb2 he
  | ret => exact hq .ret s a w R hb hb2 he
theorem Rel.frzS {s : PSt} {a : Act} {w : World} (R : Rel base X F0 B s a w) (hb : base ≤ w.heap.size) (l : List Nat) : Rel base X F0 B (frzS s l) a w := by
  unfold QR.frzS
  split
  · exact R
  · exact R.frz hb _
theorem Rel.slcCell {s : PSt} {a : Act} {w : World} (R : Rel base X F0 B s a w) (t j : Nat) : Rel base X F0 B (slcCell t j s) a w := by
  unfold QR.slcCell
  split
  · split
    · rename_i m off ht _ l hm
      split
      · rename_i r n hj
        split
        · rename_i z k row hr
          obtain ⟨E, R⟩ := R
          refine ⟨E, R.recell (m := m) (l := l) hm (fun ys hy => Fa2.set hj (fun y hy => ?_) hy)⟩
          have h1 : y = E.ν r := hy.2.1
          have h2 : Rep E.F w (.slc z k row) (E.ν r) := (R.mem r _ hr).2
          rw [h1]
          exact h2
        · exact R
      · exact R
    · exact R
  · exact R
theorem Rel.slcAll {a : Act} {w : World} : ∀ (ts : List (Nat × Nat)) (s : PSt), Rel base X F0 B s a w → Rel base X F0 B (slcAll ts s) a w
  | [], _, R => R
  | (t, j) :: l, s, R => Rel.slcAll l _ (R.slcCell t j)
theorem anyZ_sound {a : Act} {w : World} (hNF : nf B) (hb : base ≤ w.heap.size) {f : PSt → Prop} {g : Nat} : ∀ (l : List (List (Nat × Nat) × Inv)) (s : PSt), Rel base X F0 B s a w → anyZ l s → allZ l f g → ∃ s', Rel base X F0 B s' a w ∧ f s'
  | [], _, _, h, _ => h.elim
  | (ts, I) :: l, s, R, h, hc => by
    rcases h with ⟨i, hg, h⟩ | h
    · exact ⟨_, Inv.rel hNF h g (Rel.slcAll ts _ (R.frzS hb _)), hc.1 i hg⟩
    · exact anyZ_sound hNF hb l s R h hc.2
end
end Go.Proofs.Ytdpmigbenkndbaa.QR
namespace Go.Proofs.Ytdpmigbenkndbaa.QR
open Go.RowKit PR
set_option linter.unusedVariables false
set_option linter.unusedSimpArgs false
def resX (s : PSt) : XV → Option (XV × List Nat)
  | .c c => match resC s c with
    | some (d, ms) => some (.c d, ms)
    | none => none
  | .agg l => match resL s l with
    | some (d, ms) => some (.agg d, ms)
    | none => none
def resultOf (P : Program) (s : PSt) : ResultVar → Option (XV × List Nat)
  | .tmp t => match s.tmps.getD t (gnow (.tup [])) with
    | ⟨true, .x v⟩ => resX s v
    | ⟨true, .view m z l n⟩ => match viewR s m z l n with
      | some (d, ms) => some (.c d, ms)
      | none => none
    | _ => none
  | .cell t ty => match s.tmps.getD t (gnow (.tup [])) with
    | ⟨true, .x (.c (.ptr m off))⟩ => match memC s m with
      | some l => match partX P l ty off with
        | some v => resX s v
        | none => none
      | none => none
    | _ => none
def resultsOf (P : Program) (s : PSt) : List ResultVar → Option (List XV × List Nat)
  | [] => some ([], [])
  | r :: rs => match resultOf P s r, resultsOf P s rs with
    | some (v, a), some (vs, b) => some (v :: vs, a ++ b)
    | _, _ => none
def resCF (s : PSt) : CV → Option (CV × List Nat)
  | .own m _ => match s.mem m with
    | some (.row z k r) => some (.fresh z k r, [m])
    | _ => none
  | c => resC s c
def resLF (s : PSt) : List CV → Option (List CV × List Nat)
  | [] => some ([], [])
  | c :: l => match resCF s c, resLF s l with
    | some (d, a), some (m, b) => some (d :: m, a ++ b)
    | _, _ => none
def resXF (s : PSt) : XV → Option (XV × List Nat)
  | .c c => match resCF s c with
    | some (d, ms) => some (.c d, ms)
    | none => none
  | .agg l => match resLF s l with
    | some (d, ms) => some (.agg d, ms)
    | none => none
def resultOfF (P : Program) (s : PSt) : ResultVar → Option (XV × List Nat)
  | .tmp t => match s.tmps.getD t (gnow (.tup [])) with
    | ⟨true, .x v⟩ => resXF s v
    | _ => none
  | .cell t ty => match s.tmps.getD t (gnow (.tup [])) with
    | ⟨true, .x (.c (.ptr m off))⟩ => match memC s m with
      | some l => match partX P l ty off with
        | some v => resXF s v
        | none => none
      | none => none
    | _ => none
def resultsOfF (P : Program) (s : PSt) : List ResultVar → Option (List XV × List Nat)
  | [] => some ([], [])
  | r :: rs => match resultOfF P s r, resultsOfF P s rs with
    | some (v, a), some (vs, b) => some (v :: vs, a ++ b)
    | _, _ => none
def updsOf (s : PSt) : List Nat → Option (List (List CV) × List Nat)
  | [] => some ([], [])
  | m :: l => match s.mem m with
    | some (.cells c) => match resL s c, updsOf s l with
      | some (d, a), some (u, b) => some (d :: u, a ++ b)
      | _, _ => none
    | _ => none
def entrySlots : Nat → List AV → List GV
  | _, [] => []
  | k, .x v :: l => gnow (.x v) :: entrySlots k l
  | k, .ref off _ :: l => gnow (.x (.c (.ptr (PN + k) off))) :: entrySlots (k + 1) l
def entryMem : Nat → List AV → Nat → Option Blk
  | _, [] => fun _ => none
  | k, .x _ :: l => entryMem k l
  | k, .ref _ c :: l => fun m => bif Nat.beq m (PN + k) then some (.cells c) else entryMem (k + 1) l m
def refNames : Nat → List AV → List Nat
  | _, [] => []
  | k, .x _ :: l => refNames k l
  | k, .ref _ _ :: l => (PN + k) :: refNames (k + 1) l
def entry (n : Nat) (args : List AV) : PSt := ⟨entrySlots 0 args ++ List.replicate (n - args.length) (gnow (.tup [])), entryMem 0 args, True, [], 0⟩
def cloL (s : PSt) : List (Nat × Nat) → Option (List (List Value))
  | [] => some []
  | (m, off) :: l => match s.mem m with
    | some (.cells c) => match toVs c, cloL s l with
      | some vs, some k => bif Nat.beq off 0 then some (vs :: k) else none
      | _, _ => none
    | _ => none
def endClo (s : PSt) : List ResultVar → List Nat → Option (List XV)
  | [.tmp t], [] => match s.tmps.getD t (gnow (.tup [])) with
    | ⟨true, .x (.c (.fn f caps))⟩ => match cloL s caps with
      | some l => some [.c (.clo f l)]
      | none => none
    | _ => none
  | _, _ => none
def atEnd (P : Program) (rs : List ResultVar) (names : List Nat) (V : List XV → List (List CV) → Prop) (s : PSt) : Prop :=
  match resultsOf P s rs, updsOf s names with
  | some (res, ms), some (upd, ms') => match ms, ms' with
    | [_], [] => match resultsOfF P s rs with
      | some (r, [_]) => bif Nat.beq (freshs r).length 1 then s.ok ∧ V r upd else s.ok ∧ V res upd
      | _ => s.ok ∧ V res upd
    | _, _ => s.ok ∧ V res upd
  | _, _ => match endClo s rs names with
    | some res => s.ok ∧ V res []
    | none => False
def eqL : List CV → List CV → Prop
  | [], [] => True
  | a :: l, b :: m => eqc a b ∧ eqL l m
  | _, _ => False
def eqo : CV → CV → Prop
  | .fresh z n r, .slc z' n' r' => EqC (.slc z n r) (.slc z' n' r')
  | .fresh z n r, .fresh z' n' r' => EqC (.slc z n r) (.slc z' n' r')
  | .v a, .fresh z n _ => nilC a z n
  | .v a, b => eqc (.v a) b
  | .slc z n r, .slc z' n' r' => eqc (.slc z n r) (.slc z' n' r')
  | .clo f l, .clo g k => f = g ∧ l = k
  | _, _ => False
def eqLo : List CV → List CV → Prop
  | [], [] => True
  | a :: l, b :: m => eqo a b ∧ eqLo l m
  | _, _ => False
def eqX : XV → XV → Prop
  | .c a, .c b => eqo a b
  | .agg l, .agg m => eqLo l m
  | _, _ => False
def eqXs : List XV → List XV → Prop
  | [], [] => True
  | a :: l, b :: m => eqX a b ∧ eqXs l m
  | _, _ => False
def eqUs : List (List CV) → List (List CV) → Prop
  | [], [] => True
  | a :: l, b :: m => eqL a b ∧ eqUs l m
  | _, _ => False
section
variable {F : Nat → Prop} {w : World}
theorem eqL_rep : ∀ {l m : List CV} {ys : List Value}, eqL l m → Fa2 (Rep F w) l ys → Fa2 (Rep F w) m ys
  | [], [], ys, _, h => h
  | a :: l, b :: m, [], _, h => h.elim
  | a :: l, b :: m, y :: ys, h, k => ⟨Rep.eq (eqc_eq h.1) k.1, eqL_rep h.2 k.2⟩
  | [], _ :: _, _, h, _ => h.elim
  | _ :: _, [], _, h, _ => h.elim
theorem FreshOK.rep {base z : Nat} {n : Int} {r : Row} {y : Value} (h : FreshOK base F w z n r y) {F' : Nat → Prop} (hF : ∀ k, F k → F' k) (hk : ∀ k, y.ownBlock = some k → F' k) : Rep F' w (.slc z n r) y := by
  obtain ⟨h0, hz, _, e, xs, ho, hr⟩ := h
  obtain ⟨k, rfl⟩ := Int.eq_ofNat_of_zero_le h0
  rcases ho.2 with ⟨hv, hn⟩ | ⟨g, cap, cur, hv, _, hg, hnc, _, hcs, htake⟩
  · have : k = 0 := by simpa using hn
    subst this
    rw [hv]; exact .nil hz (fun _ => rfl)
  · have hv' : y = .slice (some ⟨g, 0, none⟩) k cap := by rw [hv]; simp
    rw [hv']
    have hgF : F' g := hk g (by rw [hv]; rfl)
    refine .slc (fun i j => (xs[i * z + j]?).getD undef) hz (by simpa using hnc) hgF hg (fun i j hi hj => ?_) (fun i j hi hj => ?_)
    · obtain ⟨u, e1, _⟩ := hr i j (by omega) hj
      rw [e1, Option.getD_some, Nat.zero_add, ← Array.getElem?_toList]
      rw [← htake, List.getElem?_take] at e1
      split at e1
      · exact e1
      · simp at e1
    · obtain ⟨u, e1, e2⟩ := hr i j (by omega) hj
      rw [e1, Option.getD_some]
      exact e2.mono hF (fun _ _ => rfl)
def eqA (c d : CV) : Prop := eqo c d ∧ (freshC c = [] ∨ freshC d = [])
def eqB (c d : CV) : Prop := (∃ z n r z' n' r', c = .fresh z n r ∧ d = .fresh z' n' r' ∧ EqC (.slc z n r) (.slc z' n' r')) ∨ (freshC c = [] ∧ freshC d = [] ∧ eqo c d)
def allL (R : CV → CV → Prop) : List CV → List CV → Prop
  | [], [] => True
  | a :: l, b :: m => R a b ∧ allL R l m
  | _, _ => False
def allX (R : CV → CV → Prop) : XV → XV → Prop
  | .c a, .c b => R a b
  | .agg l, .agg m => allL R l m
  | _, _ => False
def allXs (R : CV → CV → Prop) : List XV → List XV → Prop
  | [], [] => True
  | a :: l, b :: m => allX R a b ∧ allXs R l m
  | _, _ => False
theorem plainB_of {c d : CV} (h : eqo c d) (hc : freshC c = []) (hd : freshC d = []) : eqB c d := Or.inr ⟨hc, hd, h⟩
theorem plainL : ∀ {l m : List CV}, eqLo l m → freshL l = [] → freshL m = [] → allL eqB l m ∧ allL eqA l m
  | [], [], _, _, _ => ⟨trivial, trivial⟩
  | [], _ :: _, h, _, _ => h.elim
  | _ :: _, [], h, _, _ => h.elim
  | c :: l, d :: m, h, e1, e2 => by
    obtain ⟨a1, a2⟩ := app_nil e1
    obtain ⟨b1, b2⟩ := app_nil e2
    have k := plainL h.2 a2 b2
    exact ⟨⟨plainB_of h.1 a1 b1, k.1⟩, ⟨h.1, Or.inl a1⟩, k.2⟩
theorem fresh_one (c : CV) : freshC c = [] ∨ ∃ z n r, c = .fresh z n r := by
  cases c with
  | fresh z n r => exact Or.inr ⟨z, n, r, rfl⟩
  | _ => exact Or.inl rfl
theorem splitL : ∀ {l m : List CV}, eqLo l m → (freshL l).length ≤ 1 → (freshL m).length ≤ 1 → allL eqA l m ∨ (allL eqB l m ∧ freshL l ≠ [] ∧ freshL m ≠ [])
  | [], [], _, _, _ => Or.inl trivial
  | [], _ :: _, h, _, _ => h.elim
  | _ :: _, [], h, _, _ => h.elim
  | c :: l, d :: m, h, e1, e2 => by
    simp only [freshL, List.length_append] at e1 e2
    rcases fresh_one c with hc | ⟨z, n, r, rfl⟩
    · rcases splitL h.2 (by omega) (by omega) with k | ⟨k, k1, k2⟩
      · exact Or.inl ⟨⟨h.1, Or.inl hc⟩, k⟩
      · have : 0 < (freshL m).length := List.length_pos_iff.2 k2
        have hd : freshC d = [] := List.eq_nil_of_length_eq_zero (by omega)
        exact Or.inr ⟨⟨plainB_of h.1 hc hd, k⟩, by simp [freshL, k1], by simp [freshL, k2]⟩
    · have hl : freshL l = [] := List.eq_nil_of_length_eq_zero (by simp [freshC] at e1; omega)
      rcases fresh_one d with hd | ⟨z', n', r', rfl⟩
      · rcases splitL h.2 (by omega) (by omega) with k | ⟨k, k1, k2⟩
        · exact Or.inl ⟨⟨h.1, Or.inr hd⟩, k⟩
        · exact absurd hl k1
      · have hm : freshL m = [] := List.eq_nil_of_length_eq_zero (by simp [freshC] at e2; omega)
        exact Or.inr ⟨⟨Or.inl ⟨z, n, r, z', n', r', rfl, rfl, h.1⟩, (plainL h.2 hl hm).1⟩, by simp [freshL, freshC], by simp [freshL, freshC]⟩
theorem splitX {x x' : XV} (h : eqX x x') (e1 : (freshL (cellsOf x)).length ≤ 1) (e2 : (freshL (cellsOf x')).length ≤ 1) : allX eqA x x' ∨ (allX eqB x x' ∧ freshL (cellsOf x) ≠ [] ∧ freshL (cellsOf x') ≠ []) := by
  unfold eqX at h
  split at h
  · rename_i a b
    rcases splitL (l := [a]) (m := [b]) ⟨h, trivial⟩ e1 e2 with k | ⟨k, k1, k2⟩
    · exact Or.inl k.1
    · exact Or.inr ⟨k.1, k1, k2⟩
  · exact splitL h e1 e2
  · exact h.elim
theorem plainX {x x' : XV} (h : eqX x x') (e1 : freshL (cellsOf x) = []) (e2 : freshL (cellsOf x') = []) : allX eqB x x' := by
  unfold eqX at h
  split at h
  · rename_i a b
    exact (plainL (l := [a]) (m := [b]) ⟨h, trivial⟩ e1 e2).1.1
  · exact (plainL h e1 e2).1
  · exact h.elim
theorem plainXs : ∀ {l m : List XV}, eqXs l m → freshs l = [] → freshs m = [] → allXs eqB l m
  | [], [], _, _, _ => trivial
  | [], _ :: _, h, _, _ => h.elim
  | _ :: _, [], h, _, _ => h.elim
  | c :: l, d :: m, h, e1, e2 => by
    obtain ⟨a1, a2⟩ := app_nil e1
    obtain ⟨b1, b2⟩ := app_nil e2
    exact ⟨plainX h.1 a1 b1, plainXs h.2 a2 b2⟩
theorem splitXs : ∀ {l m : List XV}, eqXs l m → (freshs l).length ≤ 1 → (freshs m).length ≤ 1 → allXs eqA l m ∨ (allXs eqB l m ∧ freshs l ≠ [] ∧ freshs m ≠ [])
  | [], [], _, _, _ => Or.inl trivial
  | [], _ :: _, h, _, _ => h.elim
  | _ :: _, [], h, _, _ => h.elim
  | c :: l, d :: m, h, e1, e2 => by
    simp only [freshs, List.length_append] at e1 e2
    rcases splitX h.1 (by omega) (by omega) with k | ⟨k, k1, k2⟩
    · rcases splitXs h.2 (by omega) (by omega) with g | ⟨g, g1, g2⟩
      · exact Or.inl ⟨k, g⟩
      · have p1 : 0 < (freshs l).length := List.length_pos_iff.2 g1
        have p2 : 0 < (freshs m).length := List.length_pos_iff.2 g2
        exact Or.inr ⟨⟨plainX h.1 (List.eq_nil_of_length_eq_zero (by omega)) (List.eq_nil_of_length_eq_zero (by omega)), g⟩, by simp [freshs, g1], by simp [freshs, g2]⟩
    · have p1 : 0 < (freshL (cellsOf c)).length := List.length_pos_iff.2 k1
      have p2 : 0 < (freshL (cellsOf d)).length := List.length_pos_iff.2 k2
      exact Or.inr ⟨⟨k, plainXs h.2 (List.eq_nil_of_length_eq_zero (by omega)) (List.eq_nil_of_length_eq_zero (by omega))⟩, by simp [freshs, k1], by simp [freshs, k2]⟩
theorem eqo_plain {c d : CV} {y : Value} (h : eqo c d) (hc : freshC c = []) (hd : freshC d = []) (k : Rep F w c y) : Rep F w d y := by
  unfold eqo at h
  split at h
  · simp [freshC] at hc
  · simp [freshC] at hc
  · simp [freshC] at hd
  · exact Rep.eq (eqc_eq h) k
  · exact Rep.eq (eqc_eq h) k
  · rw [← h.1, ← h.2]; exact k
  · exact h.elim
section
variable {base : Nat} {f : Option Value}
def frozeF (F : Nat → Prop) (f : Option Value) (k : Nat) : Prop := F k ∨ ∃ y, f = some y ∧ y.ownBlock = some k
theorem eqA_rep {c d : CV} {y : Value} (h : eqA c d) (k : RepO base F f w c y) : RepO base (frozeF F f) (some nilS) w d y := by
  obtain ⟨h, hp⟩ := h
  have mono : ∀ {d : CV}, Rep F w d y → Rep (frozeF F f) w d y := fun h => h.mono (fun k hk => Or.inl hk) (fun _ _ => rfl)
  rcases fresh_one c with hc | ⟨z, n, r, rfl⟩
  · have k := k.plain hc
    rcases fresh_one d with hd | ⟨z', n', r', rfl⟩
    · exact RepO.of (mono (eqo_plain h hc hd k))
    · cases c with
      | v a =>
        have h : nilC a z' n' := h
        obtain ⟨rfl, h1, rfl⟩ := nilC_eq h
        cases k
        exact ⟨rfl, Int.le_refl 0, h1, (fun k hk => by simp [Value.ownBlock] at hk), 0, [], ⟨by simp, Or.inl ⟨rfl, rfl⟩⟩, fun i j hi hj => by omega⟩
      | fresh z n r => simp [freshC] at hc
      | slc z n r => exact (show False from h).elim
      | own m n => exact (show False from h).elim
      | ptr m off => exact (show False from h).elim
      | fn g caps => exact (show False from h).elim
      | clo g k => exact (show False from h).elim
  · rcases hp with hp | hd
    · simp [freshC] at hp
    · obtain ⟨rfl, k⟩ := k
      have rp := k.rep (F' := frozeF F (some y)) (fun k hk => Or.inl hk) (fun k hk => Or.inr ⟨y, rfl, hk⟩)
      cases d with
      | slc z' n' r' =>
        have h : EqC (.slc z n r) (.slc z' n' r') := h
        exact RepO.of (Rep.eq h rp)
      | fresh z n r => simp [freshC] at hd
      | v a => exact (show False from h).elim
      | own m n => exact (show False from h).elim
      | ptr m off => exact (show False from h).elim
      | fn g caps => exact (show False from h).elim
      | clo g k => exact (show False from h).elim
theorem eqB_rep {c d : CV} {y : Value} (h : eqB c d) (k : RepO base F f w c y) : RepO base F f w d y := by
  rcases h with ⟨z, n, r, z', n', r', rfl, rfl, h⟩ | ⟨hc, hd, h⟩
  · obtain ⟨e, k0, kz, kF, el, xs, ko, kr⟩ := k
    cases h with
    | slc h => 
      refine ⟨e, k0, kz, kF, el, xs, ko, fun i j hi hj => ?_⟩
      obtain ⟨u, e1, e2⟩ := kr i j hi hj
      exact ⟨u, e1, Rep.eq (h i j hi hj) e2⟩
  · exact RepO.of (eqo_plain h hc hd (k.plain hc))
theorem allL_rep {R : CV → CV → Prop} {F' : Nat → Prop} {f' : Option Value} (H : ∀ {c d : CV} {y : Value}, R c d → RepO base F f w c y → RepO base F' f' w d y) : ∀ {l m : List CV} {ys : List Value}, allL R l m → Fa2 (RepO base F f w) l ys → Fa2 (RepO base F' f' w) m ys
  | [], [], [], _, _ => trivial
  | [], [], _ :: _, _, h => h.elim
  | [], _ :: _, _, h, _ => h.elim
  | _ :: _, [], _, h, _ => h.elim
  | _ :: _, _ :: _, [], _, h => h.elim
  | c :: l, d :: m, y :: ys, h, k => ⟨H h.1 k.1, allL_rep H h.2 k.2⟩
theorem allX_rep {R : CV → CV → Prop} {F' : Nat → Prop} {f' : Option Value} (H : ∀ {c d : CV} {y : Value}, R c d → RepO base F f w c y → RepO base F' f' w d y) {x x' : XV} {y : Value} (h : allX R x x') (k : ConcO base F f w x y) : ConcO base F' f' w x' y := by
  unfold allX at h
  split at h
  · exact H h k
  · obtain ⟨ys, e, k⟩ := k; exact ⟨ys, e, allL_rep H h k⟩
  · exact h.elim
theorem allXs_rep {R : CV → CV → Prop} {F' : Nat → Prop} {f' : Option Value} (H : ∀ {c d : CV} {y : Value}, R c d → RepO base F f w c y → RepO base F' f' w d y) : ∀ {l m : List XV} {ys : List Value}, allXs R l m → Fa2 (ConcO base F f w) l ys → Fa2 (ConcO base F' f' w) m ys
  | [], [], [], _, _ => trivial
  | [], [], _ :: _, _, h => h.elim
  | [], _ :: _, _, h, _ => h.elim
  | _ :: _, [], _, h, _ => h.elim
  | _ :: _, _ :: _, [], _, h => h.elim
  | c :: l, d :: m, y :: ys, h, k => ⟨allX_rep H h.1 k.1, allXs_rep H h.2 k.2⟩
theorem allOut_rep {R : CV → CV → Prop} {F' : Nat → Prop} {f' : Option Value} (H : ∀ {c d : CV} {y : Value}, R c d → RepO base F f w c y → RepO base F' f' w d y) {l m : List XV} {v : Value} (h : allXs R l m) (k : ConcOut base F f w l v) : ConcOut base F' f' w m v := by
  match l, m, h, k with
  | [], [], _, ⟨ys, e, k⟩ => exact ⟨ys, e, allXs_rep (l := []) (m := []) H trivial k⟩
  | [a], [b], h, k => exact allX_rep H h.1 k
  | a :: a' :: l, b :: b' :: m, h, ⟨ys, e, k⟩ => exact ⟨ys, e, allXs_rep H h k⟩
theorem eqXs_out {l m : List XV} {v : Value} (h : eqXs l m) (hl : (freshs l).length ≤ 1) (hm : (freshs m).length ≤ 1) (k : ConcOut base F f w l v) : (ConcOut base (frozeF F f) (some nilS) w m v ∧ True) ∨ ConcOut base F f w m v := by
  rcases splitXs h hl hm with q | ⟨q, _⟩
  · exact Or.inl ⟨allOut_rep eqA_rep q k, trivial⟩
  · exact Or.inr (allOut_rep eqB_rep q k)
end
theorem eqUs_refs : ∀ {bs : List Nat} {l m : List (List CV)}, eqUs l m → Refs F w bs l → Refs F w bs m
  | [], [], [], _, _ => trivial
  | b :: bs, a :: l, c :: m, h, k => by
    obtain ⟨⟨arr, t, k1, k2⟩, k3⟩ := k
    exact ⟨⟨arr, t, k1, eqL_rep h.1 k2⟩, eqUs_refs h.2 k3⟩
  | [], _ :: _, _, _, k => k.elim
  | _ :: _, [], _, _, k => k.elim
  | [], [], _ :: _, h, _ => h.elim
  | _ :: _, _ :: _, [], h, _ => h.elim
end
section
variable {P : Program} {O : Oracle} {base : Nat} {X F0 : Nat → Prop} {B : Nat → (Nat × Value) × Bool} {E : Env} {s : PSt} {a : Act} {w : World}
theorem resX_sound (R : RelE base X F0 B E s a w) {x v : XV} {ms rows : List Nat} {y : Value} (h : resX s x = some (v, ms)) (hm : ∀ m ∈ ms, m ∈ rows) (hc : ConcX (live s) E w x y) : ConcF (callF E s rows) w v y := by
  unfold resX at h
  split at h
  · split at h <;> try (simp at h; done)
    rename_i hr
    simp only [Option.some.injEq, Prod.mk.injEq] at h
    obtain ⟨rfl, rfl⟩ := h
    exact resC_sound R hr hm hc
  · split at h <;> try (simp at h; done)
    rename_i hr
    simp only [Option.some.injEq, Prod.mk.injEq] at h
    obtain ⟨rfl, rfl⟩ := h
    obtain ⟨ys, e, hc⟩ := hc
    exact ⟨ys, e, resL_sound R hr hm hc⟩
theorem slot_val (R : RelE base X F0 B E s a w) (t : Tmp) {v : SV} (h : s.tmps.getD t (gnow (.tup [])) = ⟨true, v⟩) : ConcS (live s) E w v (a.tmps.getD t undef) := by
  have := R.eval (.tmp t) (by show (s.tmps.getD t (gnow (.tup []))).k = true; rw [h])
  have e : (operand s (.tmp t)).v = v := by show (s.tmps.getD t (gnow (.tup []))).v = v; rw [h]
  rw [e] at this; exact this
theorem resultOf_sound (R : RelE base X F0 B E s a w) {r : ResultVar} {v : XV} {ms rows : List Nat} (h : resultOf P s r = some (v, ms)) (hm : ∀ m ∈ ms, m ∈ rows) :
    ∃ y, (match r with | .tmp t => (pure (a.tmps.getD t undef) : Sem Value) | .cell x t => (do loadVar t (← asAddr (a.tmps.getD x undef)) : Sem Value)).run P w = .ok y w ∧ ConcF (callF E s rows) w v y := by
  cases r with
  | tmp t =>
    simp only [resultOf] at h
    split at h <;> try (simp at h; done)
    · rename_i x hx
      exact ⟨_, by simp only [Sem.run_pure], resX_sound R h hm (slot_val R t hx)⟩
    · rename_i m z l n hx
      split at h <;> try (simp at h; done)
      rename_i d ms' hr
      simp only [Option.some.injEq, Prod.mk.injEq] at h
      obtain ⟨rfl, rfl⟩ := h
      exact ⟨_, by simp only [Sem.run_pure], viewR_sound R hr hm (slot_val R t hx)⟩
  | cell t ty =>
    simp only [resultOf] at h
    split at h <;> try (simp at h; done)
    rename_i m off hx
    split at h <;> try (simp at h; done)
    rename_i l hl
    split at h <;> try (simp at h; done)
    rename_i x hp
    have hv := slot_val R t hx
    obtain ⟨arr, el, h1, h2⟩ := block_mem R hl hv.1
    obtain ⟨y, e1, e2⟩ := load_part (P := P) h1 h2 hp
    refine ⟨y, ?_, resX_sound R h hm e2⟩
    simp only [Instr.loadAt, Instr.sureAddr, Sem.run_bind, Sem.run_pure, Result.andThen_ok] at e1
    simp only [cv_ptr hv, asAddr, Sem.run_bind, Sem.run_pure, Result.andThen_ok, e1]
theorem resultsOf_sound (R : RelE base X F0 B E s a w) {rows : List Nat} : ∀ {rs : List ResultVar} {vs : List XV} {ms : List Nat}, resultsOf P s rs = some (vs, ms) → (∀ m ∈ ms, m ∈ rows) →
    ∃ ys, (rs.mapM (m := Sem) fun r => match r with | .tmp t => pure (a.tmps.getD t undef) | .cell x t => do loadVar t (← asAddr (a.tmps.getD x undef))).run P w = .ok ys w ∧ Fa2 (ConcF (callF E s rows) w) vs ys
  | [], vs, ms, h, _ => by simp only [resultsOf, Option.some.injEq, Prod.mk.injEq] at h; obtain ⟨rfl, rfl⟩ := h; exact ⟨[], rfl, trivial⟩
  | r :: rs, vs, ms, h, hm => by
    unfold resultsOf at h
    split at h <;> try (simp at h; done)
    rename_i v1 a1 vs1 b1 h1 h2
    simp only [Option.some.injEq, Prod.mk.injEq] at h
    obtain ⟨rfl, rfl⟩ := h
    obtain ⟨y, e1, c1⟩ := resultOf_sound R h1 fun m hh => hm m (by simp [hh])
    obtain ⟨ys, e2, c2⟩ := resultsOf_sound R h2 fun m hh => hm m (by simp [hh])
    refine ⟨y :: ys, ?_, c1, c2⟩
    rw [List.mapM_cons]
    simp only [Sem.run_bind, e1, Result.andThen_ok, e2, Sem.run_pure]
theorem rep_nofresh {F : Nat → Prop} {c : CV} {y : Value} (h : Rep F w c y) : freshC c = [] := by
  cases h <;> rfl
theorem reps_nofresh {F : Nat → Prop} : ∀ {l : List CV} {ys : List Value}, Fa2 (Rep F w) l ys → freshL l = []
  | [], _, _ => rfl
  | _ :: _, [], h => h.elim
  | c :: l, y :: ys, h => by simp [freshL, rep_nofresh h.1, reps_nofresh h.2]
theorem concF_nofresh {F : Nat → Prop} {c : XV} {y : Value} (h : ConcF F w c y) : freshL (cellsOf c) = [] := by
  cases c with
  | c x => exact reps_nofresh (l := [x]) (ys := [y]) ⟨h, trivial⟩
  | agg l => obtain ⟨ys, _, h⟩ := h; exact reps_nofresh h
theorem concFs_nofresh {F : Nat → Prop} : ∀ {l : List XV} {ys : List Value}, Fa2 (ConcF F w) l ys → freshs l = []
  | [], _, _ => rfl
  | _ :: _, [], h => h.elim
  | c :: l, y :: ys, h => by simp [freshs, concF_nofresh h.1, concFs_nofresh h.2]
theorem resC_other {c d : CV} {ms : List Nat} (h : resC s c = some (d, ms)) (hc : ∀ m n, c ≠ .own m n) : ms = [] := by
  unfold resC at h
  split at h
  · exact absurd rfl (hc _ _)
  · simp at h
  · simp at h
  · simp at h
  · simp only [Option.some.injEq, Prod.mk.injEq] at h; exact h.2.symm
theorem resCF_sound (R : RelE base X F0 B E s a w) {c d : CV} {ms : List Nat} {y : Value} {f : Option Value} (h : resCF s c = some (d, ms)) (hm : ∀ m ∈ ms, f = some (E.ν m)) (hc : ConcC (live s) E w c y) : RepO base (callF E s []) f w d y := by
  unfold resCF at h
  split at h
  · rename_i m n
    split at h <;> try (simp at h; done)
    rename_i z k r hmem
    simp only [Option.some.injEq, Prod.mk.injEq] at h
    obtain ⟨rfl, rfl⟩ := h
    obtain ⟨_, h0, hz, hF, e, xs, ho, hr⟩ := R.mem m _ hmem
    rw [hc.2.1]
    refine ⟨hm m (by simp), h0, hz, fun k hk => ?_, e, xs, ho, fun i j hi hj => ?_⟩
    · rintro (h | ⟨m', hm', _⟩)
      · exact hF k hk h
      · simp at hm'
    · obtain ⟨u, e1, e2⟩ := hr i j hi hj
      exact ⟨u, e1, e2.mono (fun k hk => Or.inl hk) (fun _ _ => rfl)⟩
  · rename_i hne
    have : ms = [] := resC_other h (fun m n e => hne m n e)
    subst this
    exact RepO.of (resC_sound R h (fun m hh => hh) hc)
theorem resLF_sound (R : RelE base X F0 B E s a w) {f : Option Value} : ∀ {l d : List CV} {ms : List Nat} {ys : List Value}, resLF s l = some (d, ms) → (∀ m ∈ ms, f = some (E.ν m)) → Fa2 (ConcC (live s) E w) l ys → Fa2 (RepO base (callF E s []) f w) d ys
  | [], d, ms, ys, h, _, hc => by
    simp only [resLF, Option.some.injEq, Prod.mk.injEq] at h
    obtain ⟨rfl, rfl⟩ := h
    cases ys with
    | nil => trivial
    | cons => exact hc.elim
  | c :: l, d, ms, ys, h, hm, hc => by
    unfold resLF at h
    split at h <;> try (simp at h; done)
    rename_i d1 a1 d2 a2 h1 h2
    simp only [Option.some.injEq, Prod.mk.injEq] at h
    obtain ⟨rfl, rfl⟩ := h
    cases ys with
    | nil => exact hc.elim
    | cons y ys => exact ⟨resCF_sound R h1 (fun m hh => hm m (by simp [hh])) hc.1, resLF_sound R h2 (fun m hh => hm m (by simp [hh])) hc.2⟩
theorem resXF_sound (R : RelE base X F0 B E s a w) {x v : XV} {ms : List Nat} {y : Value} {f : Option Value} (h : resXF s x = some (v, ms)) (hm : ∀ m ∈ ms, f = some (E.ν m)) (hc : ConcX (live s) E w x y) : ConcO base (callF E s []) f w v y := by
  unfold resXF at h
  split at h
  · split at h <;> try (simp at h; done)
    rename_i hr
    simp only [Option.some.injEq, Prod.mk.injEq] at h
    obtain ⟨rfl, rfl⟩ := h
    exact resCF_sound R hr hm hc
  · split at h <;> try (simp at h; done)
    rename_i hr
    simp only [Option.some.injEq, Prod.mk.injEq] at h
    obtain ⟨rfl, rfl⟩ := h
    obtain ⟨ys, e, hc⟩ := hc
    exact ⟨ys, e, resLF_sound R hr hm hc⟩
theorem resultOfF_sound (R : RelE base X F0 B E s a w) {r : ResultVar} {v : XV} {ms : List Nat} {f : Option Value} (h : resultOfF P s r = some (v, ms)) (hm : ∀ m ∈ ms, f = some (E.ν m)) :
    ∃ y, (match r with | .tmp t => (pure (a.tmps.getD t undef) : Sem Value) | .cell x t => (do loadVar t (← asAddr (a.tmps.getD x undef)) : Sem Value)).run P w = .ok y w ∧ ConcO base (callF E s []) f w v y := by
  cases r with
  | tmp t =>
    simp only [resultOfF] at h
    split at h <;> try (simp at h; done)
    rename_i x hx
    exact ⟨_, by simp only [Sem.run_pure], resXF_sound R h hm (slot_val R t hx)⟩
  | cell t ty =>
    simp only [resultOfF] at h
    split at h <;> try (simp at h; done)
    rename_i m off hx
    split at h <;> try (simp at h; done)
    rename_i l hl
    split at h <;> try (simp at h; done)
    rename_i x hp
    have hv := slot_val R t hx
    obtain ⟨arr, el, h1, h2⟩ := block_mem R hl hv.1
    obtain ⟨y, e1, e2⟩ := load_part (P := P) h1 h2 hp
    refine ⟨y, ?_, resXF_sound R h hm e2⟩
    simp only [Instr.loadAt, Instr.sureAddr, Sem.run_bind, Sem.run_pure, Result.andThen_ok] at e1
    simp only [cv_ptr hv, asAddr, Sem.run_bind, Sem.run_pure, Result.andThen_ok, e1]
theorem resultsOfF_sound (R : RelE base X F0 B E s a w) {f : Option Value} : ∀ {rs : List ResultVar} {vs : List XV} {ms : List Nat}, resultsOfF P s rs = some (vs, ms) → (∀ m ∈ ms, f = some (E.ν m)) →
    ∃ ys, (rs.mapM (m := Sem) fun r => match r with | .tmp t => pure (a.tmps.getD t undef) | .cell x t => do loadVar t (← asAddr (a.tmps.getD x undef))).run P w = .ok ys w ∧ Fa2 (ConcO base (callF E s []) f w) vs ys
  | [], vs, ms, h, _ => by simp only [resultsOfF, Option.some.injEq, Prod.mk.injEq] at h; obtain ⟨rfl, rfl⟩ := h; exact ⟨[], rfl, trivial⟩
  | r :: rs, vs, ms, h, hm => by
    unfold resultsOfF at h
    split at h <;> try (simp at h; done)
    rename_i v1 a1 vs1 b1 h1 h2
    simp only [Option.some.injEq, Prod.mk.injEq] at h
    obtain ⟨rfl, rfl⟩ := h
    obtain ⟨y, e1, c1⟩ := resultOfF_sound R h1 fun m hh => hm m (by simp [hh])
    obtain ⟨ys, e2, c2⟩ := resultsOfF_sound R h2 fun m hh => hm m (by simp [hh])
    refine ⟨y :: ys, ?_, c1, c2⟩
    rw [List.mapM_cons]
    simp only [Sem.run_bind, e1, Result.andThen_ok, e2, Sem.run_pure]
theorem conc_resultsO {F : Nat → Prop} {f : Option Value} {vs : List XV} {ys : List Value} (h : Fa2 (ConcO base F f w) vs ys) : ConcOut base F f w vs (if h : ys.length = 1 then ys[0] else .tuple ys.toArray) := by
  match vs, ys, h with
  | [], [], h => exact ⟨[], rfl, trivial⟩
  | [v], [y], h => exact h.1
  | v :: v' :: vs, y :: y' :: ys, h =>
    have : ¬ (y :: y' :: ys).length = 1 := by simp
    rw [dif_neg this]
    exact ⟨_, rfl, h⟩
theorem updsOf_sound (R : RelE base X F0 B E s a w) {rows : List Nat} : ∀ {names : List Nat} {u : List (List CV)} {ms : List Nat}, updsOf s names = some (u, ms) → (∀ m ∈ ms, m ∈ rows) → Refs (callF E s rows) w (names.map E.β) u ∧ ∀ m ∈ names, (s.mem m).isSome = true
  | [], u, ms, h, _ => by simp only [updsOf, Option.some.injEq, Prod.mk.injEq] at h; obtain ⟨rfl, rfl⟩ := h; exact ⟨trivial, by simp⟩
  | m :: l, u, ms, h, hm => by
    unfold updsOf at h
    split at h <;> try (simp at h; done)
    rename_i c hc
    split at h <;> try (simp at h; done)
    rename_i d a1 u1 b1 h1 h2
    simp only [Option.some.injEq, Prod.mk.injEq] at h
    obtain ⟨rfl, rfl⟩ := h
    obtain ⟨_, _, _, arr, t, k1, k2⟩ := R.mem m _ hc
    obtain ⟨i1, i2⟩ := updsOf_sound R h2 fun m hh => hm m (by simp [hh])
    refine ⟨⟨⟨arr, t, k1, resL_sound R h1 (fun m hh => hm m (by simp [hh])) k2⟩, i1⟩, fun k hk => ?_⟩
    rcases List.mem_cons.1 hk with rfl | hk
    · rw [hc]; rfl
    · exact i2 k hk
theorem results_run {fn : Func} {ys : List Value} (h : (fn.results.toList.mapM (m := Sem) fun r => match r with | .tmp t => pure (a.tmps.getD t undef) | .cell x t => do loadVar t (← asAddr (a.tmps.getD x undef))).run P w = .ok ys w) :
    (results fn a.tmps).run P w = .ok (if h : ys.length = 1 then ys[0] else .tuple ys.toArray) w := by
  unfold results
  rw [Sem.run_bind, Array.mapM_eq_mapM_toList, Sem.run_map]
  erw [h]
  simp
theorem conc_results {F : Nat → Prop} {vs : List XV} {ys : List Value} (h : Fa2 (ConcF F w) vs ys) : ConcRes F w vs (if h : ys.length = 1 then ys[0] else .tuple ys.toArray) := by
  match vs, ys, h with
  | [], [], h => exact ⟨[], rfl, trivial⟩
  | [v], [y], h => exact h.1
  | v :: v' :: vs, y :: y' :: ys, h =>
    have : ¬ (y :: y' :: ys).length = 1 := by simp
    rw [dif_neg this]
    exact ⟨_, rfl, h⟩
end
section
variable {P : Program} {O : Oracle}
theorem entry_len : ∀ (k : Nat) (args : List AV), (entrySlots k args).length = args.length
  | _, [] => rfl
  | k, .x v :: l => by simp [entrySlots, entry_len k l]
  | k, .ref off c :: l => by simp [entrySlots, entry_len (k + 1) l]
theorem args_len {F : Nat → Prop} {w : World} : ∀ {args : List AV} {ys : List Value} {bs : List Nat}, ConcArgs F w args ys bs → args.length = ys.length
  | [], [], _, _ => rfl
  | .x v :: l, y :: ys, bs, h => by simp [args_len h.2]
  | .ref off c :: l, y :: ys, b :: bs, h => by simp [args_len h.2.2.2.2]
  | [], _ :: _, _, h => h.elim
  | .x _ :: _, [], _, h => h.elim
  | .ref _ _ :: _, [], _, h => h.elim
  | .ref _ _ :: _, _ :: _, [], h => h.elim
theorem refs_len {F : Nat → Prop} {w : World} : ∀ {k : Nat} {args : List AV} {ys : List Value} {bs : List Nat}, ConcArgs F w args ys bs → refNames k args = (List.range' (PN + k) bs.length)
  | k, [], [], bs, h => by have h : bs = [] := h; subst h; rfl
  | k, .x v :: l, y :: ys, bs, h => refs_len (k := k) (args := l) h.2
  | k, .ref off c :: l, y :: ys, b :: bs, h => by
    simp only [refNames, List.length_cons, List.range'_succ, refs_len (k := k + 1) h.2.2.2.2, Nat.add_assoc]
  | _, [], _ :: _, _, h => h.elim
  | _, .x _ :: _, [], _, h => h.elim
  | _, .ref _ _ :: _, [], _, h => h.elim
  | _, .ref _ _ :: _, _ :: _, [], h => h.elim
theorem bs_le {F : Nat → Prop} {w : World} : ∀ {args : List AV} {ys : List Value} {bs : List Nat}, ConcArgs F w args ys bs → bs.length ≤ args.length ∧ ∀ b ∈ bs, b < w.heap.size ∧ ¬ F b
  | [], [], bs, h => by have h : bs = [] := h; subst h; simp
  | .x v :: l, y :: ys, bs, h => by have := bs_le h.2; exact ⟨by simp; omega, this.2⟩
  | .ref off c :: l, y :: ys, b :: bs, h => by
    have := bs_le h.2.2.2.2
    refine ⟨by simp; omega, fun x hx => ?_⟩
    rcases List.mem_cons.1 hx with rfl | hx
    · obtain ⟨arr, t, h1, _⟩ := h.2.2.2.1
      exact ⟨(Array.getElem?_eq_some_iff.1 h1).1, h.2.1⟩
    · exact this.2 x hx
  | [], _ :: _, _, h => h.elim
  | .x _ :: _, [], _, h => h.elim
  | .ref _ _ :: _, [], _, h => h.elim
  | .ref _ _ :: _, _ :: _, [], h => h.elim
theorem entry_slots {F : Nat → Prop} {w : World} {L : Nat → Prop} {E : Env} (hF : E.F = F) : ∀ {k : Nat} {args : List AV} {ys : List Value} {bs : List Nat}, ConcArgs F w args ys bs → (∀ (i b : Nat), bs[i]? = some b → E.β (PN + (k + i)) = b ∧ L (PN + (k + i)) ∧ PN + (k + i) < GB) →
    ∀ (t : Nat) (g : GV), (entrySlots k args)[t]? = some g → ∃ y, ys[t]? = some y ∧ ConcS L E w g.v y
  | k, [], [], bs, h, _, t, g, hg => by simp [entrySlots] at hg
  | k, .x v :: l, y :: ys, bs, h, hb, t, g, hg => by
    cases t with
    | zero =>
      simp only [entrySlots, List.getElem?_cons_zero, Option.some.injEq] at hg
      subst hg
      exact ⟨y, rfl, ConcX.of_fz (by rw [hF]; exact h.1)⟩
    | succ t => exact entry_slots hF h.2 hb t g (by simpa [entrySlots] using hg)
  | k, .ref off c :: l, y :: ys, b :: bs, h, hb, t, g, hg => by
    cases t with
    | zero =>
      simp only [entrySlots, List.getElem?_cons_zero, Option.some.injEq] at hg
      subst hg
      obtain ⟨h1, h2, h3⟩ := hb 0 b rfl
      rw [Nat.add_zero] at h1 h2 h3
      exact ⟨y, rfl, h2, by rw [adr, if_neg (by omega), h1]; exact h.1⟩
    | succ t => exact entry_slots hF h.2.2.2.2 (k := k + 1) (fun i b' hi => by have := hb (i + 1) b' (by simpa using hi); rw [show k + 1 + i = k + (i + 1) by omega]; exact this) t g (by simpa [entrySlots] using hg)
  | _, [], _ :: _, _, h, _, _, _, _ => h.elim
  | _, .x _ :: _, [], _, h, _, _, _, _ => h.elim
  | _, .ref _ _ :: _, [], _, h, _, _, _, _ => h.elim
  | _, .ref _ _ :: _, _ :: _, [], h, _, _, _, _ => h.elim
theorem entry_mem {F : Nat → Prop} {w : World} : ∀ {k : Nat} {args : List AV} {ys : List Value} {bs : List Nat}, ConcArgs F w args ys bs → ∀ (m : Nat) (b : Blk), entryMem k args m = some b → ∃ (i bl : Nat) (c : List CV), m = PN + (k + i) ∧ bs[i]? = some bl ∧ b = .cells c ∧ BlockIs F w bl c
  | k, [], [], bs, h, m, b, hm => by simp [entryMem] at hm
  | k, .x v :: l, y :: ys, bs, h, m, b, hm => entry_mem h.2 m b hm
  | k, .ref off c :: l, y :: ys, bl :: bs, h, m, b, hm => by
    simp only [entryMem] at hm
    cases e : Nat.beq m (PN + k)
    · rw [e] at hm
      obtain ⟨i, bl', c', h1, h2, h3, h4⟩ := entry_mem h.2.2.2.2 m b hm
      exact ⟨i + 1, bl', c', by omega, by simpa using h2, h3, h4⟩
    · rw [e] at hm
      simp only [cond_true, Option.some.injEq] at hm
      exact ⟨0, bl, c, Nat.eq_of_beq_eq_true e, rfl, hm.symm, h.2.2.2.1⟩
  | _, [], _ :: _, _, h, _, _, _ => h.elim
  | _, .x _ :: _, [], _, h, _, _, _ => h.elim
  | _, .ref _ _ :: _, [], _, h, _, _, _ => h.elim
  | _, .ref _ _ :: _, _ :: _, [], h, _, _, _ => h.elim
theorem entry_live {F : Nat → Prop} {w : World} : ∀ {k : Nat} {args : List AV} {ys : List Value} {bs : List Nat}, ConcArgs F w args ys bs → ∀ (i b : Nat), bs[i]? = some b → (entryMem k args (PN + (k + i))).isSome = true
  | k, [], [], bs, h, i, b, hi => by have h : bs = [] := h; subst h; simp at hi
  | k, .x v :: l, y :: ys, bs, h, i, b, hi => entry_live (k := k) h.2 i b hi
  | k, .ref off c :: l, y :: ys, bl :: bs, h, i, b, hi => by
    simp only [entryMem]
    cases i with
    | zero => rw [Nat.add_zero, Nat.beq_refl]; rfl
    | succ i =>
      rw [beq_ne (by omega), cond_false, show k + (i + 1) = k + 1 + i by omega]
      exact entry_live (k := k + 1) h.2.2.2.2 i b (by simpa using hi)
  | _, [], _ :: _, _, h, _, _, _ => h.elim
  | _, .x _ :: _, [], _, h, _, _, _ => h.elim
  | _, .ref _ _ :: _, [], _, h, _, _, _ => h.elim
  | _, .ref _ _ :: _, _ :: _, [], h, _, _, _ => h.elim
theorem args_nodup {F : Nat → Prop} {w : World} : ∀ {args : List AV} {ys : List Value} {bs : List Nat}, ConcArgs F w args ys bs → ∀ (i j a b : Nat), i < j → bs[i]? = some a → bs[j]? = some b → a ≠ b
  | [], [], bs, h, i, j, a, b, _, hi, _ => by have h : bs = [] := h; subst h; simp at hi
  | .x v :: l, y :: ys, bs, h, i, j, a, b, hij, hi, hj => args_nodup h.2 i j a b hij hi hj
  | .ref off c :: l, y :: ys, bl :: bs, h, i, j, a, b, hij, hi, hj => by
    cases j with
    | zero => omega
    | succ j =>
      cases i with
      | zero =>
        simp only [List.getElem?_cons_zero, Option.some.injEq] at hi
        subst hi
        intro e
        subst e
        exact h.2.2.1 (List.mem_of_getElem? (by simpa using hj))
      | succ i => exact args_nodup h.2.2.2.2 i j a b (by omega) (by simpa using hi) (by simpa using hj)
  | [], _ :: _, _, h, _, _, _, _, _, _, _ => h.elim
  | .x _ :: _, [], _, h, _, _, _, _, _, _, _ => h.elim
  | .ref _ _ :: _, [], _, h, _, _, _, _, _, _, _ => h.elim
  | .ref _ _ :: _, _ :: _, [], h, _, _, _, _, _, _, _ => h.elim
def Done (F : Nat → Prop) (w : World) (bs : List Nat) (V : List XV → List (List CV) → Prop) (v : Value) (w' : World) : Prop :=
  ∃ res upd, V res upd ∧ (freshs res).length ≤ 1 ∧ Keep w.heap.size (· ∈ bs) w w' ∧ ∃ (F' : Nat → Prop) (f : Option Value), (∀ k, F k → F' k) ∧ (∀ k, F' k → k < w'.heap.size ∧ (F k ∨ w.heap.size ≤ k)) ∧
    (∀ y k, f = some y → y.ownBlock = some k → k < w'.heap.size ∧ w.heap.size ≤ k) ∧ ConcOut w.heap.size F' f w' res v ∧ Refs F' w' bs upd
theorem atEnd_cases {rs : List ResultVar} {names : List Nat} {V : List XV → List (List CV) → Prop} {s : PSt} (h : atEnd P rs names V s) : s.ok ∧ ((∃ res ms upd ms', resultsOf P s rs = some (res, ms) ∧ updsOf s names = some (upd, ms') ∧
    (V res upd ∨ (ms' = [] ∧ ∃ r m, resultsOfF P s rs = some (r, [m]) ∧ (freshs r).length = 1 ∧ V r upd))) ∨ ∃ res, endClo s rs names = some res ∧ V res []) := by
  unfold atEnd at h
  split at h
  · rename_i res ms upd ms' h1 h2
    split at h
    · split at h
      · rename_i r m h3
        cases hb : Nat.beq (freshs r).length 1
        · rw [hb] at h; exact ⟨h.1, Or.inl ⟨res, _, upd, _, h1, h2, Or.inl h.2⟩⟩
        · rw [hb] at h; exact ⟨h.1, Or.inl ⟨res, _, upd, _, h1, h2, Or.inr ⟨rfl, r, m, h3, Nat.eq_of_beq_eq_true hb, h.2⟩⟩⟩
      · exact ⟨h.1, Or.inl ⟨res, _, upd, _, h1, h2, Or.inl h.2⟩⟩
    · exact ⟨h.1, Or.inl ⟨res, _, upd, _, h1, h2, Or.inl h.2⟩⟩
  · split at h
    · rename_i res h3; exact ⟨h.1, Or.inr ⟨res, h3, h.2⟩⟩
    · exact h.elim
section
variable {w : World} {D : Nat} {o : Obj} {x : Option (List Deferred)}
theorem Rep.undef {F : Nat → Prop} (hD : w.heap[D]? = some (.deferred x)) {c : CV} {y : Value} (h : Rep F w c y) : Rep (fun k => F k ∧ k ≠ D) (w.putObj D o) c y := by
  induction h with
  | v h => exact .v h
  | nil h h' => exact .nil h h'
  | slc u h1 hc h2 h3 h4 _ ih =>
    rename_i b _ _ _ _ _ _
    have hne : b ≠ D := fun e => by subst e; rw [hD] at h3; simp at h3
    exact .slc u h1 hc ⟨h2, hne⟩ (by rw [World.putObj_heap_other hne]; exact h3) h4 ih
  | clo bs h =>
    refine .clo bs (h.mono fun c b ⟨h1, t, h2⟩ => ?_)
    have hne : b ≠ D := fun e => by subst e; rw [hD] at h2; simp at h2
    exact ⟨⟨h1, hne⟩, t, by rw [World.putObj_heap_other hne]; exact h2⟩
theorem ConcC.undef {L : Nat → Prop} {E : Env} (hD : w.heap[D]? = some (.deferred x)) {c : CV} {y : Value} (h : ConcC L E w c y) : ConcC L ⟨fun k => E.F k ∧ k ≠ D, E.β, E.ν⟩ (w.putObj D o) c y := by
  cases c with
  | v _ => exact Rep.undef hD h
  | slc _ _ _ => exact Rep.undef hD h
  | clo _ _ => exact Rep.undef hD h
  | own m n => exact h
  | ptr m off => exact h
  | fn f caps => exact h
  | fresh _ _ _ => exact h.elim
theorem ConcX.undef {L : Nat → Prop} {E : Env} (hD : w.heap[D]? = some (.deferred x)) {c : XV} {y : Value} (h : ConcX L E w c y) : ConcX L ⟨fun k => E.F k ∧ k ≠ D, E.β, E.ν⟩ (w.putObj D o) c y := by
  cases c with
  | c c => exact ConcC.undef hD h
  | agg l => obtain ⟨ys, e, h⟩ := h; exact ⟨ys, e, h.mono fun _ _ => ConcC.undef hD⟩
theorem ConcS.undef {L : Nat → Prop} {E : Env} (hD : w.heap[D]? = some (.deferred x)) {c : SV} {y : Value} (h : ConcS L E w c y) : ConcS L ⟨fun k => E.F k ∧ k ≠ D, E.β, E.ν⟩ (w.putObj D o) c y := by
  cases c with
  | x v => exact ConcX.undef hD h
  | tup l => obtain ⟨ys, e, h⟩ := h; exact ⟨ys, e, h.mono fun _ _ => ConcX.undef hD⟩
  | eptr m z i off => exact h
  | view m z l n => exact h
  | fptr z r i off =>
    obtain ⟨h0, b, o', arr, t, fr, h1, h2, h3, h4⟩ := h
    have hne : b ≠ D := fun e => by subst e; rw [hD] at h2; simp at h2
    refine ⟨h0, b, o', arr, t, fr, ⟨h1, hne⟩, by rw [World.putObj_heap_other hne]; exact h2, h3, fun j hj => ?_⟩
    obtain ⟨u, e, k⟩ := h4 j hj
    exact ⟨u, e, k.undef hD⟩
theorem dfOK.minus {base : Nat} {F0 F : Nat → Prop} : ∀ {l : List Deferred}, (∀ d' ∈ l, d' ≠ { target := .collected D, args := #[] }) → dfOK base F0 F w l → dfOK base F0 (fun k => F k ∧ k ≠ D) (w.putObj D o) l
  | [], _, _ => trivial
  | d :: l, hn, ⟨⟨D', e, h1, h2, h3, h4⟩, h⟩ => by
    have hne : D' ≠ D := fun q => by subst q; exact hn d (by simp) e
    exact ⟨⟨D', e, ⟨h1, hne⟩, h2, by rw [World.putObj_heap_other hne]; exact h3, h4⟩, dfOK.minus (fun d' hd => hn d' (by simp [hd])) h⟩
theorem Rel.undefer {base : Nat} {X F0 : Nat → Prop} {B : Nat → (Nat × Value) × Bool} {s : PSt} {a : Act} (R : Rel base X F0 B s a w) {d : Deferred} {ds : List Deferred} (hd : a.defers = d :: ds) :
    ∃ D, d = { target := .collected D, args := #[] } ∧ (base ≤ D ∧ ¬ F0 D) ∧ w.heap[D]? = some (.deferred (some [])) ∧ Rel base X F0 B s { a with defers := ds } (w.putObj D (.deferred none)) := by
  obtain ⟨E, R⟩ := R
  have dd := R.defers
  rw [hd] at dd
  obtain ⟨⟨D, rfl, h1, h2, h3, h4⟩, h5⟩ := dd
  have sz : (w.putObj D (.deferred none)).heap.size = w.heap.size := by simp [World.putObj]
  have cells : ∀ {k : Nat} {arr : Array Value} {t : TypeId} {fr : Nat × Nat}, w.heap[k]? = some (.cells arr t fr) → k ≠ D := fun h e => by subst e; rw [h3] at h; simp at h
  refine ⟨D, rfl, h2, h3, ⟨fun k => E.F k ∧ k ≠ D, E.β, E.ν⟩, dfOK.minus h4 h5, R.size, fun t g e hk => ?_, fun m b hb => ?_, R.sep, fun k hk => ?_, fun k hk => ⟨R.sub k hk, fun (e : k = D) => h2.2 (by rw [← e]; exact hk)⟩, fun m l e hm => ?_, fun k hk => ?_, R.pin, R.pinL⟩
  · obtain ⟨y, e1, e2⟩ := R.slots t g e hk
    exact ⟨y, e1, ConcS.undef h3 e2⟩
  · obtain ⟨k1, k2⟩ := R.mem m b hb
    refine ⟨k1, ?_⟩
    cases b with
    | cells l =>
      obtain ⟨g1, g2, arr, t, g3, g4⟩ := k2
      exact ⟨g1, fun h => g2 h.1, arr, t, by rw [World.putObj_heap_other (cells g3)]; exact g3, g4.mono fun _ _ => ConcC.undef h3⟩
    | row z n r =>
      obtain ⟨g0, gz, gF, e, xs, go, gr⟩ := k2
      refine ⟨g0, gz, fun k hk h => gF k hk h.1, e, xs, ownsRow_heap go fun k hk => World.putObj_heap_other ?_, fun i j hi hj => ?_⟩
      · rcases go.2 with ⟨e1, _⟩ | ⟨g, cap, cur, e1, _, hg, _⟩
        · rw [e1] at hk; simp [Value.ownBlock] at hk
        · rw [e1] at hk
          simp only [Value.ownBlock, Option.some.injEq] at hk
          subst hk
          exact cells hg
      · obtain ⟨u, e1, e2⟩ := gr i j hi hj
        exact ⟨u, e1, e2.undef h3⟩
    | fro z n r => exact Rep.undef h3 k2
    | dead => trivial
  · have := R.frz k hk.1
    exact ⟨by rw [sz]; exact this.1, this.2⟩
  · obtain ⟨g1, arr, t, g2, g3⟩ := R.glob m l e hm
    have hne := cells g2
    exact ⟨⟨g1, hne⟩, arr, t, by rw [World.putObj_heap_other hne]; exact g2, g3.mono fun _ _ => Rep.undef h3⟩
  · rw [sz]; exact R.old k hk
end
theorem KeepF.put {base : Nat} {X F0 : Nat → Prop} {w0 w : World} (h : KeepF base X F0 w0 w) {D : Nat} (hD : base ≤ D ∧ ¬ F0 D) (o : Obj) : KeepF base X F0 w0 (w.putObj D o) :=
  ⟨⟨h.os, h.tape, h.output, by have := h.size; simpa [World.putObj] using this, fun k hk hx => (World.putObj_heap_other (by omega)).trans (h.block k hk hx)⟩, fun k hk => (World.putObj_heap_other (fun (e : k = D) => hD.2 (by rw [← e]; exact hk))).trans (h.fro k hk)⟩
theorem leaves_of_rel {base : Nat} {X F0 : Nat → Prop} {B : Nat → (Nat × Value) × Bool} {s : PSt} {w0 : World} {n : Nat} {fn : Func} {R' : Ending → World → Prop} : ∀ (ds : List Deferred) (a : Act) (w : World), a.defers = ds → Rel base X F0 B s a w → KeepF base X F0 w0 w →
    (∀ a' w', a'.tmps = a.tmps → Rel base X F0 B s a' w' → KeepF base X F0 w0 w' → ∃ v, (results fn a.tmps).run P w' = .ok v w' ∧ R' (.returned v) w') → LeavesInM Fence.wide n P fn a.tmps R' ds .returning w
  | [], a, w, hd, R, hk, H => H a w rfl R hk
  | d :: ds, a, w, hd, R, hk, H => by
    obtain ⟨D, rfl, h1, h2, R'⟩ := R.undefer hd
    exact ⟨by simp, Or.inl ⟨D, _, rfl, run_takeDeferred h2, leaves_of_rel ds { a with defers := ds } _ rfl R' (hk.put h1 _) H⟩⟩
theorem Refs.mono {F F' : Nat → Prop} {w : World} (hF : ∀ k, F k → F' k) : ∀ {bs : List Nat} {cs : List (List CV)}, Refs F w bs cs → Refs F' w bs cs
  | [], [], _ => trivial
  | [], _ :: _, h => h.elim
  | _ :: _, [], h => h.elim
  | b :: bs, c :: cs, ⟨⟨arr, t, h1, h2⟩, h3⟩ => ⟨⟨arr, t, h1, h2.mono fun _ _ => Rep.mono hF (fun _ _ => rfl)⟩, Refs.mono hF h3⟩
theorem cloL_sound {base : Nat} {X F0 : Nat → Prop} {B : Nat → (Nat × Value) × Bool} {E : Env} {s : PSt} {a : Act} {w : World} (R : RelE base X F0 B E s a w) : ∀ {caps : List (Nat × Nat)} {l : List (List Value)}, cloL s caps = some l →
    (caps.map fun p => Value.pointer (some ⟨adr E p.1, p.2, none⟩)) = (caps.map fun p => E.β p.1).map (fun b => Value.pointer (some ⟨b, 0, none⟩)) ∧
    Fa2 (fun (c : List Value) (b : Nat) => (E.F b ∨ ∃ m c, s.mem m = some (.cells c) ∧ E.β m = b) ∧ ∃ t, w.heap[b]? = some (.cells c.toArray t (0, 0))) l (caps.map fun p => E.β p.1)
  | [], l, h => by simp only [cloL, Option.some.injEq] at h; subst h; exact ⟨rfl, trivial⟩
  | (m, off) :: caps, l, h => by
    unfold cloL at h
    split at h <;> try (simp at h; done)
    rename_i c hm
    split at h <;> try (simp at h; done)
    rename_i vs k hvs hk
    cases ho : Nat.beq off 0
    · rw [ho] at h; simp at h
    · rw [ho, cond_true, Option.some.injEq] at h
      subst h
      obtain rfl := Nat.eq_of_beq_eq_true ho
      obtain ⟨i1, i2⟩ := cloL_sound R hk
      obtain ⟨g0, _, _, arr, t, g2, g3⟩ := R.mem m _ hm
      refine ⟨?_, ⟨Or.inr ⟨m, c, hm, rfl⟩, t, ?_⟩, i2⟩
      · simp only [List.map_cons, i1]
        unfold adr
        rw [if_neg (by omega)]
      · rw [g2]
        have := toVs_conc hvs g3
        rw [← this]
theorem endClo_nil {s : PSt} {rs : List ResultVar} {names : List Nat} {res : List XV} (h : endClo s rs names = some res) : names = [] := by
  unfold endClo at h
  split at h
  · rfl
  · simp at h
end
def agree (T : Nat) (B' B : Nat → (Nat × Value) × Bool) : Prop := ∀ m, m < PN + T → B' m = B m
theorem agree.refl (T : Nat) (B : Nat → (Nat × Value) × Bool) : agree T B B := fun _ _ => rfl
theorem agree.trans {T : Nat} {A B C : Nat → (Nat × Value) × Bool} (h : agree T A B) (k : agree T B C) : agree T A C := fun m hm => (h m hm).trans (k m hm)
theorem agree.less {T U : Nat} {A B : Nat → (Nat × Value) × Bool} (hT : U ≤ T) (h : agree T A B) : agree U A B := fun m hm => h m (by omega)
def EvT (T : Nat) (P : Program) (c : Code) (ev : (Ex → PSt → Prop) → PSt → Prop) : Prop :=
  ∀ (base : Nat) (X F0 : Nat → Prop) (B : Nat → (Nat × Value) × Bool) (w0 : World) (k : Ex → PSt → Prop) (Q : Exit → Act → World → Prop) (s : PSt) (a : Act) (w : World), base ≤ w0.heap.size → nf B → (∀ e s, k e s → s.ok) →
    (∀ B' : Nat → (Nat × Value) × Bool, agree T B' B → nf B' → ∀ e s a w, Rel base X F0 B' s a w → KeepF base X F0 w0 w → base ≤ w.heap.size → k e s → Q (exOf e) a w) →
    Rel base X F0 B s a w → KeepF base X F0 w0 w → base ≤ w.heap.size → ev k s → c.wp P Q a w
def EvF (P : Program) (c : Code) (ev : (Ex → PSt → Prop) → PSt → Prop) : Prop :=
  ∀ (base : Nat) (X F0 : Nat → Prop) (B : Nat → (Nat × Value) × Bool) (w0 : World) (k : Ex → PSt → Prop) (Q : Exit → Act → World → Prop) (s : PSt) (a : Act) (w : World), base ≤ w0.heap.size → (∀ e s, k e s → s.ok) →
    (∀ e s a w, Rel base X F0 B s a w → KeepF base X F0 w0 w → base ≤ w.heap.size → k e s → Q (exOf e) a w) →
    Rel base X F0 B s a w → KeepF base X F0 w0 w → base ≤ w.heap.size → ev k s → c.wp P Q a w
def FLT : Nat := GB + GB
def keepN (T m : Nat) : Bool := Nat.beq T FLT || (Nat.ble PN m && Nat.blt m (PN + T))
def keepC (T : Nat) : CV → Bool
  | .v _ => true
  | .slc _ _ _ => true
  | .clo _ _ => true
  | .ptr m _ => keepN T m
  | .own m _ => keepN T m && Nat.blt m GB
  | .fn _ l => l.all fun p => keepN T p.1 && Nat.blt p.1 GB
  | _ => false
def keepX (T : Nat) : XV → Bool
  | .c c => keepC T c
  | .agg l => l.all (keepC T)
def keepS (T : Nat) : SV → Bool
  | .x v => keepX T v
  | .tup l => l.all (keepX T)
  | .fptr _ _ _ _ => true
  | _ => false
def keepG (T : Nat) (g : GV) : GV := bif g.k then (bif keepS T g.v then g else gunk) else gunk
def livC (mem : Nat → Option Blk) : CV → Bool
  | .ptr m _ => bif Nat.ble GB m then (gtab m).isSome else (mem m).isSome
  | .own m _ => (mem m).isSome
  | .fn _ l => l.all fun p => (mem p.1).isSome
  | _ => true
def livX (mem : Nat → Option Blk) : XV → Bool
  | .c c => livC mem c
  | .agg l => l.all (livC mem)
def livS (mem : Nat → Option Blk) : SV → Bool
  | .x v => livX mem v
  | .tup l => l.all (livX mem)
  | _ => true
def livG (mem : Nat → Option Blk) (g : GV) : Bool := bif g.k then livS mem g.v else true
def resI1 (P : Program) (s : PSt) : ResultVar → Option XV
  | .tmp t => match s.tmps.getD t (gnow (.tup [])) with
    | ⟨true, .x v⟩ => some v
    | _ => none
  | .cell t ty => match s.tmps.getD t (gnow (.tup [])) with
    | ⟨true, .x (.c (.ptr m off))⟩ => match memC s m with
      | some c => partX P c ty off
      | none => none
    | _ => none
def resI (P : Program) (s : PSt) : List ResultVar → Option (List XV)
  | [] => some []
  | r :: rs => match resI1 P s r, resI P s rs with
    | some v, some l => some (v :: l)
    | _, _ => none
structure Inl where
  j : Nat
  T : Nat
  f : FuncId
  n : Nat
  rs : List ResultVar
  ev : (Ex → PSt → Prop) → PSt → Prop
def InlOK (P : Program) (J : Inl) : Prop := ∃ fn c, P.funcs[J.f]? = some fn ∧ (fn.name == "runtime.NumGoroutine") = false ∧ fn.body = some c ∧ fn.ntmps = J.n ∧ fn.results.toList = J.rs ∧ EvT J.T P c J.ev ∧ (J.T = FLT → EvF P c J.ev)
def inlEnd (P : Program) (O : Oracle) (J : Inl) (ops : List Oper) (nm : Nat) (dst : Option Tmp) (slots : List GV) (k : PSt → Prop) (s2 : PSt) : Prop :=
  match resI P s2 J.rs with
  | some res => s2.ok ∧ slots.all (livG s2.mem) = true ∧
      runOps P O ops [] nm (J.j + 1) (ops.drop (J.j + 1)) ⟨setTmp slots dst (gnow (resS res)), s2.mem, True, [], s2.gen + 1⟩ (List.replicate (J.j + 1) ⟨gunk, [], [], []⟩) [] fun s3 _ => k s3
  | none => False
def inlK (P : Program) (O : Oracle) (J : Inl) (ops : List Oper) (nm : Nat) (dst : Option Tmp) (slots : List GV) (k : PSt → Prop) : Ex → PSt → Prop := fun e s => match e with
  | .normal => inlEnd P O J ops nm dst slots k s
  | .ret => inlEnd P O J ops nm dst slots k s
  | .exit _ => False
def inlCall (P : Program) (O : Oracle) (J : Inl) (ops : List Oper) (nm : Nat) (k : PSt → Prop) (o : Oper) (c : Call) (s1 : PSt) : Prop :=
  if knownOf s1 o then match calleeOf s1 c.callee with
    | some (f, caps) => if Nat.beq f J.f then
        s1.ok ∧ J.ev (inlK P O J ops nm o.dst (s1.tmps.map (keepG J.T)) k)
          ⟨((c.args.toList.map (valOf s1) ++ caps.map fun p => SV.x (.c (.ptr p.1 p.2))).map gnow) ++ List.replicate (J.n - (c.args.toList.length + caps.length)) (gnow (.tup [])), s1.mem, True, [], s1.gen + 1⟩
      else False
    | none => False
  else False
def inlSkip (P : Program) (O : Oracle) (J : Inl) (ops : List Oper) (nm : Nat) (k : PSt → Prop) (o : Oper) (s1 : PSt) : Prop :=
  s1.ok ∧ runOps P O ops [] nm (J.j + 1) (ops.drop (J.j + 1)) ⟨setTmp s1.tmps o.dst (gnow (.tup [])), s1.mem, True, [], s1.gen + 1⟩ (List.replicate (J.j + 1) ⟨gunk, [], [], []⟩) [] fun s3 _ => k s3
def inlGo (P : Program) (O : Oracle) (J : Inl) (ops : List Oper) (nm : Nat) (k : PSt → Prop) (s1 : PSt) : Prop :=
  match ops[J.j]? with
  | some o => match o.op, o.guard with
    | .call c, none => inlCall P O J ops nm k o c s1
    | .call c, some _ => match guardOf s1 ops o with
      | some true => inlCall P O J ops nm k o c s1
      | some false => inlSkip P O J ops nm k o s1
      | none => False
    | _, _ => False
  | none => False
def inlSrc (J : Inl) (ops : List Oper) : List Nat :=
  match ops[J.j]? with
  | some o => match o.guard with
    | some (j, _) => [j]
    | none => []
  | none => []
def inlC (P : Program) (O : Oracle) (J : Inl) (id : Nat) (ops : List Oper) (k : PSt → Prop) (s : PSt) : Prop :=
  force s.gen fun g => runOps P O ops (inlSrc J ops) ((g * 4096 + id) * 1024) 0 (ops.take J.j) s [] s.lits fun s1 _ => inlGo P O J ops ((g * 4096 + id) * 1024) k s1
section
variable {P : Program} {O : Oracle} {base : Nat} {X F0 : Nat → Prop} {B : Nat → (Nat × Value) × Bool} {E : Env} {s : PSt} {a : Act} {w : World}
theorem Rel.reB {B' : Nat → (Nat × Value) × Bool} (hNF : nf B) (R : Rel base X F0 B' s a w) (h : ∀ m, m < GB → B' m = B m) : Rel base X F0 B s a w := by
  obtain ⟨E, R⟩ := R
  refine ⟨E, R.defers, R.size, R.slots, R.mem, R.sep, R.frz, R.sub, R.glob, R.old, fun m hm hs => ?_, fun m hm => ?_⟩
  · obtain ⟨b, hb⟩ := Option.isSome_iff_exists.1 hs
    have e := h m (R.mem m b hb).1
    rw [← e] at hm ⊢
    exact R.pin m hm hs
  · by_cases hG : m < GB
    · exact R.pinL m (by rw [h m hG]; exact hm)
    · rw [hNF m] at hm; simp at hm
theorem runRegion_ok {id : Nat} {ops : List Oper} {draw : Bool} {k : PSt → Prop} (hk : ∀ s, k s → s.ok) (h : runRegion P O id ops draw s k) : s.ok := by
  unfold runRegion runRegion0 at h
  rw [force_eq] at h
  rw [← startS_ok ops (draw && !viewsOn O) s]
  obtain ⟨s1, ds, lits, hend, hlen, run⟩ := runOps_run (ops := ops) ops 0 (startS ops (draw && !viewsOn O) s) [] (startS ops (draw && !viewsOn O) s).lits (fun j o ho => by rw [Nat.zero_add]; exact ho) rfl h
  have run := run (fun i => ds.getD i ⟨gunk, [], [], []⟩) (fun j d hd => by simp [List.getD, hd])
  refine RunL.ok run (show (⟨s1.tmps, s1.mem, s1.ok, lits, s1.gen⟩ : PSt).ok from ?_)
  split at hend
  · by_cases hc : (depsBack 0 ops && anyOrder [] (masks [] ops) (rowsOf ops ops ([].reverse ++ ds))) = true
    · rw [if_pos hc] at hend; exact hk _ hend
    · rw [if_neg hc] at hend; exact hend.elim
  · exact hk _ hend
theorem inlEnd_ok {J : Inl} {ops : List Oper} {nm : Nat} {dst : Option Tmp} {slots : List GV} {k : PSt → Prop} (h : inlEnd P O J ops nm dst slots k s) : s.ok := by
  unfold inlEnd at h
  split at h
  · exact h.1
  · exact h.elim
theorem inlGo_cases {J : Inl} {ops : List Oper} {nm : Nat} {k : PSt → Prop} (h : inlGo P O J ops nm k s) : ∃ o c, ops[J.j]? = some o ∧ o.op = .call c ∧ ((guardOf s ops o = some true ∧ inlCall P O J ops nm k o c s) ∨ (guardOf s ops o = some false ∧ inlSkip P O J ops nm k o s)) := by
  unfold inlGo at h
  split at h <;> try (exact h.elim)
  rename_i o ho
  split at h <;> try (exact h.elim)
  · rename_i c hop hgd
    exact ⟨o, c, ho, hop, Or.inl ⟨by unfold guardOf; rw [hgd], h⟩⟩
  · rename_i c g hop hgd
    split at h <;> try (exact h.elim)
    · rename_i hg; exact ⟨o, c, ho, hop, Or.inl ⟨hg, h⟩⟩
    · rename_i hg; exact ⟨o, c, ho, hop, Or.inr ⟨hg, h⟩⟩
theorem inlGo_ok {J : Inl} {ops : List Oper} {nm : Nat} {k : PSt → Prop} (h : inlGo P O J ops nm k s) : s.ok := by
  obtain ⟨o, c, _, _, ⟨_, h⟩ | ⟨_, h⟩⟩ := inlGo_cases h
  · unfold inlCall at h
    split at h <;> try (exact h.elim)
    split at h <;> try (exact h.elim)
    split at h <;> try (exact h.elim)
    exact h.1
  · exact h.1
theorem get_take {α : Type} {l : List α} {n j : Nat} {x : α} (h : (l.take n)[j]? = some x) : l[j]? = some x := by
  rw [List.getElem?_take] at h
  split at h
  · exact h
  · simp at h
theorem inlC_ok {J : Inl} {id : Nat} {ops : List Oper} {k : PSt → Prop} (hk : ∀ s, k s → s.ok) (h : inlC P O J id ops k s) : s.ok := by
  unfold inlC at h
  rw [force_eq] at h
  obtain ⟨s1, ds, lits, hend, hlen, run⟩ := runOps_run (ops := ops) (ops.take J.j) 0 s [] s.lits (fun j o ho => by rw [Nat.zero_add]; exact get_take ho) rfl h
  have run := run (fun i => ds.getD i ⟨gunk, [], [], []⟩) (fun j d hd => by simp [List.getD, hd])
  exact RunL.ok run (show (⟨s1.tmps, s1.mem, s1.ok, lits, s1.gen⟩ : PSt).ok from inlGo_ok hend)
theorem RunL.wp_app (hO : OSound P O) {ops : Array Oper} {nm : Nat} {D : Nat → Delta} {Q : Exit → Act → World → Prop} {w0 : World} {s' : PSt} (hok : s'.ok) (l2 : List Nat)
    (hQ : ∀ a' w', Rel base X F0 B s' a' w' → KeepF base X F0 w0 w' → base ≤ w'.heap.size → wpOps P ops Q l2 a' w') :
    ∀ (l : List Nat) (s : PSt) (a : Act) (w : World), RunL P O ops.toList nm D l s s' → Rel base X F0 B s a w → base ≤ w.heap.size → KeepF base X F0 w0 w → wpOps P ops Q (l ++ l2) a w
  | [], s, a, w, h, R, hb, hbel => by cases h; exact hQ _ _ R hbel hb
  | i :: l, s, a, w, h, R, hb, hbel => by
    cases h with
    | cons ho h t =>
      rw [List.cons_append, wpOps_cons]
      exact step_sound hO R hb (by simpa using ho) h (RunL.ok t hok) fun a' w' R' hb' => RunL.wp_app hO hok l2 hQ l _ a' w' t R' (Nat.le_trans hb hb'.size) (hbel.trans hb')
section
variable {E' : Env} {w' : World} {T : Nat} {mem : Nat → Option Blk} {L L' : Nat → Prop}
structure Keeps (T : Nat) (L L' : Nat → Prop) (mem : Nat → Option Blk) (E E' : Env) (w w' : World) : Prop where
  F : ∀ k, E.F k → E'.F k
  heap : ∀ k, E.F k → w'.heap[k]? = w.heap[k]?
  β : ∀ m, keepN T m = true → m < GB → L m → (mem m).isSome = true → E'.β m = E.β m ∧ E'.ν m = E.ν m
  live : ∀ m, (mem m).isSome = true → L' m
  tab : ∀ m, GB ≤ m → (gtab m).isSome = true → L' m
theorem Keeps.c (H : Keeps T L L' mem E E' w w') {c : CV} {y : Value} (hk : keepC T c = true) (hl : livC mem c = true) (h : ConcC L E w c y) : ConcC L' E' w' c y := by
  cases c with
  | v x => exact Rep.mono H.F H.heap h
  | slc z n r => exact Rep.mono H.F H.heap h
  | clo f l => exact Rep.mono H.F H.heap h
  | ptr m off =>
    obtain ⟨h1, h2⟩ := h
    have hk : keepN T m = true := hk
    have hl : (bif Nat.ble GB m then (gtab m).isSome else (mem m).isSome) = true := hl
    by_cases hG : GB ≤ m
    · rw [show Nat.ble GB m = true from ble_t hG, cond_true] at hl
      refine ⟨H.tab m hG hl, ?_⟩
      rw [h2]; unfold adr; rw [if_pos hG, if_pos hG]
    · have hb : Nat.ble GB m = false := by
        cases h : Nat.ble GB m
        · rfl
        · exact absurd (ble_le h) hG
      rw [hb, cond_false] at hl
      refine ⟨H.live m hl, ?_⟩
      rw [h2]; unfold adr; rw [if_neg hG, if_neg hG, (H.β m hk (by omega) h1 hl).1]
  | own m n =>
    obtain ⟨h1, h2, h3⟩ := h
    simp only [keepC, Bool.and_eq_true, Nat.blt_eq] at hk
    have hl : (mem m).isSome = true := hl
    exact ⟨H.live m hl, by rw [(H.β m hk.1 hk.2 h1 hl).2]; exact h2, h3⟩
  | fn f caps =>
    obtain ⟨h1, h2⟩ := h
    simp only [keepC, List.all_eq_true, Bool.and_eq_true, Nat.blt_eq] at hk
    simp only [livC, List.all_eq_true] at hl
    refine ⟨fun p hp => H.live _ (hl p hp), ?_⟩
    have : (caps.map fun p => Value.pointer (some ⟨adr E' p.1, p.2, none⟩)) = caps.map fun p => Value.pointer (some ⟨adr E p.1, p.2, none⟩) := List.map_congr_left fun p hp => by
      obtain ⟨k1, k3⟩ := hk p hp
      unfold adr
      rw [if_neg (by omega), if_neg (by omega), (H.β p.1 k1 k3 (h1 p hp) (hl p hp)).1]
    rw [this]; exact h2
  | fresh z n r => simp [keepC] at hk
theorem Keeps.cs (H : Keeps T L L' mem E E' w w') : ∀ {l : List CV} {ys : List Value}, l.all (keepC T) = true → l.all (livC mem) = true → Fa2 (ConcC L E w) l ys → Fa2 (ConcC L' E' w') l ys
  | [], [], _, _, _ => trivial
  | [], _ :: _, _, _, h => h.elim
  | _ :: _, [], _, _, h => h.elim
  | c :: l, y :: ys, hk, hl, h => by
    simp only [List.all_cons, Bool.and_eq_true] at hk hl
    exact ⟨H.c hk.1 hl.1 h.1, H.cs hk.2 hl.2 h.2⟩
theorem Keeps.x (H : Keeps T L L' mem E E' w w') {c : XV} {y : Value} (hk : keepX T c = true) (hl : livX mem c = true) (h : ConcX L E w c y) : ConcX L' E' w' c y := by
  cases c with
  | c c => exact H.c hk hl h
  | agg l => obtain ⟨ys, e, h⟩ := h; exact ⟨ys, e, H.cs hk hl h⟩
theorem Keeps.xs (H : Keeps T L L' mem E E' w w') : ∀ {l : List XV} {ys : List Value}, l.all (keepX T) = true → l.all (livX mem) = true → Fa2 (ConcX L E w) l ys → Fa2 (ConcX L' E' w') l ys
  | [], [], _, _, _ => trivial
  | [], _ :: _, _, _, h => h.elim
  | _ :: _, [], _, _, h => h.elim
  | c :: l, y :: ys, hk, hl, h => by
    simp only [List.all_cons, Bool.and_eq_true] at hk hl
    exact ⟨H.x hk.1 hl.1 h.1, H.xs hk.2 hl.2 h.2⟩
theorem Keeps.sv (H : Keeps T L L' mem E E' w w') {c : SV} {y : Value} (hk : keepS T c = true) (hl : livS mem c = true) (h : ConcS L E w c y) : ConcS L' E' w' c y := by
  cases c with
  | x v => exact H.x hk hl h
  | tup l => obtain ⟨ys, e, h⟩ := h; exact ⟨ys, e, H.xs hk hl h⟩
  | fptr z r i off =>
    obtain ⟨h0, b, o, arr, t, fr, h1, h2, h3, h4⟩ := h
    refine ⟨h0, b, o, arr, t, fr, H.F b h1, by rw [H.heap b h1]; exact h2, h3, fun j hj => ?_⟩
    obtain ⟨u, e, k⟩ := h4 j hj
    exact ⟨u, e, Rep.mono H.F H.heap k⟩
  | eptr m z i off => simp [keepS] at hk
  | view m z l n => simp [keepS] at hk
end
theorem resI1_sound (R : RelE base X F0 B E s a w) {r : ResultVar} {v : XV} (h : resI1 P s r = some v) :
    ∃ y, (match r with | .tmp t => (pure (a.tmps.getD t undef) : Sem Value) | .cell x t => (do loadVar t (← asAddr (a.tmps.getD x undef)) : Sem Value)).run P w = .ok y w ∧ ConcX (live s) E w v y := by
  cases r with
  | tmp t =>
    simp only [resI1] at h
    split at h <;> try (simp at h; done)
    rename_i x hx
    simp only [Option.some.injEq] at h
    subst h
    exact ⟨_, by simp only [Sem.run_pure], slot_val R t hx⟩
  | cell t ty =>
    simp only [resI1] at h
    split at h <;> try (simp at h; done)
    rename_i m off hx
    split at h <;> try (simp at h; done)
    rename_i l hl
    have hv := slot_val R t hx
    obtain ⟨arr, el, h1, h2⟩ := block_mem R hl hv.1
    obtain ⟨y, e1, e2⟩ := load_part (P := P) h1 h2 h
    refine ⟨y, ?_, e2⟩
    simp only [Instr.loadAt, Instr.sureAddr, Sem.run_bind, Sem.run_pure, Result.andThen_ok] at e1
    simp only [cv_ptr hv, asAddr, Sem.run_bind, Sem.run_pure, Result.andThen_ok, e1]
theorem resI_sound (R : RelE base X F0 B E s a w) : ∀ {rs : List ResultVar} {vs : List XV}, resI P s rs = some vs →
    ∃ ys, (rs.mapM (m := Sem) fun r => match r with | .tmp t => pure (a.tmps.getD t undef) | .cell x t => do loadVar t (← asAddr (a.tmps.getD x undef))).run P w = .ok ys w ∧ Fa2 (ConcX (live s) E w) vs ys
  | [], vs, h => by simp only [resI, Option.some.injEq] at h; subst h; exact ⟨[], rfl, trivial⟩
  | r :: rs, vs, h => by
    unfold resI at h
    split at h <;> try (simp at h; done)
    rename_i v l hv hl
    simp only [Option.some.injEq] at h
    subst h
    obtain ⟨y, e1, c1⟩ := resI1_sound R hv
    obtain ⟨ys, e2, c2⟩ := resI_sound R hl
    refine ⟨y :: ys, ?_, c1, c2⟩
    rw [List.mapM_cons]
    simp only [Sem.run_bind, e1, Result.andThen_ok, e2, Sem.run_pure]
theorem conc_resI {L : Nat → Prop} {vs : List XV} {ys : List Value} (h : Fa2 (ConcX L E w) vs ys) : ConcS L E w (resS vs) (if h : ys.length = 1 then ys[0] else .tuple ys.toArray) := by
  match vs, ys, h with
  | [], [], h => exact ⟨[], rfl, trivial⟩
  | [v], [y], h => exact h.1
  | v :: v' :: vs, y :: y' :: ys, h =>
    have : ¬ (y :: y' :: ys).length = 1 := by simp
    rw [dif_neg this]
    exact ⟨_, rfl, h⟩
theorem range_split {n j : Nat} (h : j < n) : List.range n = List.range' 0 j ++ (j :: List.range' (j + 1) (n - (j + 1))) := by
  rw [List.range_eq_range', show n = j + (1 + (n - (j + 1))) by omega, ← List.range'_append_1, Nat.zero_add, ← List.range'_append_1]
  congr 1
  simp [show j + (1 + (n - (j + 1))) - (j + 1) = n - (j + 1) by omega]
theorem RelE.slotO (R : RelE base X F0 B E s a w) (dst : Option Tmp) (g : GV) (y : Value) (hy : g.k = true → ConcS (live s) E w g.v y) (p : Prop) (li : List Tmp) (gen : Nat) : RelE base X F0 B E ⟨setTmp s.tmps dst g, s.mem, p, li, gen⟩ (a.put dst y) w :=
  R.go dst g y p li gen (Later.refl _ _ _) (fun _ _ => rfl) (fun _ h => h) hy R.mem R.sep R.frz (Nat.le_refl _) (fun _ _ h => h)
theorem KeepF.less {F1 : Nat → Prop} {w' : World} (h : KeepF base X F1 w w') (hF : ∀ k, F0 k → F1 k) : KeepF base X F0 w w' := ⟨h.toKeep, fun k hk => h.fro k (hF k hk)⟩
theorem inl_core (hO : OSound P O) {J : Inl} (hJ : InlOK P J) (hNF : nf B ∨ J.T = FLT) {id : Nat} {ops : Array Oper} {Q : Exit → Act → World → Prop} {w0 : World} {k : PSt → Prop} (hk : ∀ s, k s → s.ok) (h : inlC P O J id ops.toList k s) (R : Rel base X F0 B s a w) (hb : base ≤ w.heap.size) (hbel : KeepF base X F0 w0 w)
    (hQ : ∀ B' : Nat → (Nat × Value) × Bool, agree J.T B' B → (nf B → nf B') → ∀ s' a' w', Rel base X F0 B' s' a' w' → KeepF base X F0 w0 w' → k s' → Q .normal a' w') : wpOps P ops Q (List.range ops.size) a w := by
  unfold inlC at h
  rw [force_eq] at h
  obtain ⟨s1, ds, lits, hend, hlen, run⟩ := runOps_run (ops := ops.toList) (ops.toList.take J.j) 0 s [] s.lits (fun j o ho => by rw [Nat.zero_add]; exact get_take ho) rfl h
  have run := run (fun i => ds.getD i ⟨gunk, [], [], []⟩) (fun j d hd => by simp [List.getD, hd])
  have hok1 : s1.ok := show (⟨s1.tmps, s1.mem, s1.ok, lits, s1.gen⟩ : PSt).ok from inlGo_ok hend
  obtain ⟨o, c, ho, hop, hcase⟩ := inlGo_cases hend
  have hjs : J.j < ops.size := by
    have := (List.getElem?_eq_some_iff.1 ho).1
    simpa using this
  have htk : (ops.toList.take J.j).length = J.j := by simp; omega
  rw [htk] at run
  rw [range_split hjs]
  refine RunL.wp_app hO hok1 _ (fun a1 w1 R1 hb1 hz1 => ?_) _ s a w run R hb hbel
  replace R1 : Rel base X F0 B ⟨s1.tmps, s1.mem, s1.ok, lits, s1.gen⟩ a1 w1 := R1.lit _ _ _
  generalize hs1 : (⟨s1.tmps, s1.mem, s1.ok, lits, s1.gen⟩ : PSt) = t1 at *
  obtain ⟨E, R1⟩ := R1
  rw [wpOps_cons]
  unfold wpOp
  have ho' : ops[J.j]? = some o := by simpa using ho
  rw [ho']
  rcases hcase with ⟨hgd, hend⟩ | ⟨hgd, hend⟩
  rotate_left
  · have hγ : Region.wanted o (yielded ops a1.tmps) = false := guard_sound R1 hgd
    simp only [hγ, Bool.false_eq_true, if_false]
    obtain ⟨_, hrun2⟩ := hend
    have R4 := R1.slotO o.dst (gnow (.tup [])) undef (fun _ => ⟨[], rfl, trivial⟩) True [] (t1.gen + 1)
    obtain ⟨s3, es, l3, hend3, hlen3', run3⟩ := runOps_run (ops := ops.toList) (ops.toList.drop (J.j + 1)) (J.j + 1) _ _ [] (fun j o ho => by rw [List.getElem?_drop] at ho; exact ho) (by simp) hrun2
    have run3 := run3 (fun i => es.getD (i - (J.j + 1)) ⟨gunk, [], [], []⟩) (fun j d hd => by simp [List.getD, hd])
    have hdl : (ops.toList.drop (J.j + 1)).length = ops.size - (J.j + 1) := by simp
    rw [hdl] at run3
    exact RunL.wp (s' := s3) hO (show (⟨s3.tmps, s3.mem, s3.ok, l3, s3.gen⟩ : PSt).ok from hk _ hend3) (fun a' w'' R' hb' => hQ B (agree.refl J.T B) (fun h => h) _ a' w'' (R'.lit s3.ok l3 s3.gen) hb' hend3) _ _ _ _ run3 ⟨E, R4⟩ hz1 hb1
  have hγ : Region.wanted o (yielded ops a1.tmps) = true := guard_sound R1 hgd
  unfold inlCall at hend
  split at hend <;> try (exact hend.elim)
  rename_i hkn
  split at hend <;> try (exact hend.elim)
  rename_i f caps hcal
  split at hend <;> try (exact hend.elim)
  rename_i hf
  have hf := Nat.eq_of_beq_eq_true hf
  obtain ⟨_, hev⟩ := hend
  simp only [hγ, if_true]
  refine Or.inl ?_
  have hv : ∀ x ∈ o.op.operands.toList, ConcS (live t1) E w1 (valOf t1 x) (a1.eval x) := fun x hx => R1.eval x (known_all (fun c u v e => by rw [hop] at e; simp at e) hkn hx)
  obtain ⟨x, cv, hx, hevx, hcv⟩ := callee_sound R1 hcal
  have hfa : Fa2 (ConcS (live t1) E w1) (c.args.toList.map (valOf t1) ++ caps.map fun p => SV.x (.c (.ptr p.1 p.2))) (c.args.toList.map a1.eval ++ cv.toList) :=
    Fa2.app (vals_conc hv _ fun y hy => by rw [hop]; simp only [Op.operands, Call.operands, Array.toList_append]; exact List.mem_append_right _ hy) hcv
  have hrun : (execOp a1.eval o).run P w1 = (callFunc f (c.args.toList.map a1.eval ++ cv.toList).toArray).run P w1 := by
    simp only [execOp, hop, resolve, hx, hevx, Deferred.ofValue, Sem.run_bind, Sem.run_pure, Result.andThen_ok, invoke]
    congr 2
    apply Array.ext'
    simp
  obtain ⟨fn, cd, q1, q2, q3, q4, q5, q6, q7⟩ := hJ
  unfold Oper.wp
  rw [hrun, call_enter (hf ▸ q1) q2 q3 _ w1]
  show Calls P f _ w1 _
  generalize hys : c.args.toList.map a1.eval ++ cv.toList = ys at hfa ⊢
  refine Calls.mono (R := fun e w' => ∃ v, e = .returned v ∧ wpOps P ops Q (List.range' (J.j + 1) (ops.size - (J.j + 1))) (a1.put o.dst v) w') ?_ ?_
  · refine (callsIn_wide (n := 0)).1 (callsIn_of_wp_marks (hf ▸ q1) q3 trivial (wpIn_wide.2 ?_))
    have hlen2 : (c.args.toList.map (valOf t1) ++ caps.map fun p => SV.x (.c (.ptr p.1 p.2))).length = ys.length := hfa.len
    have hlen3 : c.args.toList.length + caps.length = ys.length := by rw [← hlen2]; simp
    have EFsub : ∀ k, E.F k → k < w1.heap.size := fun k hk => (R1.frz k hk).1
    have ent : ∀ (act : Act) (BX : Nat → (Nat × Value) × Bool), act = ⟨ys.toArray ++ Array.replicate (fn.ntmps - ys.toArray.size) undef, []⟩ → (∀ m, PN ≤ m ∨ (BX m).2 = true → (t1.mem m).isSome = true → E.β m = (BX m).1.1 ∧ E.ν m = (BX m).1.2) → (∀ m, (BX m).2 = true → (t1.mem m).isSome = true) → Rel base X E.F BX ⟨((c.args.toList.map (valOf t1) ++ caps.map fun p => SV.x (.c (.ptr p.1 p.2))).map gnow) ++ List.replicate (J.n - (c.args.toList.length + caps.length)) (gnow (.tup [])), t1.mem, True, [], t1.gen + 1⟩ act w1 := by
      rintro act BX rfl hp hl
      refine ⟨E, trivial, ?_, ?_, R1.mem, R1.sep, fun k hk => ⟨EFsub k hk, Or.inl hk⟩, fun k hk => hk, R1.glob, R1.old, hp, hl⟩
      · have hcv2 : caps.length = cv.size := by simpa using hcv.len
        simp only [List.length_append, List.length_map, List.length_replicate, Array.size_append, List.size_toArray, Array.size_replicate]
        rw [q4, ← hlen3]
      · intro t g hg hkg
        by_cases ht : t < ys.length
        · rw [List.getElem?_append_left (by rw [List.length_map, hlen2]; exact ht), List.getElem?_map] at hg
          cases hv2 : (c.args.toList.map (valOf t1) ++ caps.map fun p => SV.x (.c (.ptr p.1 p.2)))[t]? with
          | none => rw [hv2] at hg; simp at hg
          | some v =>
            rw [hv2] at hg
            simp only [Option.map_some, Option.some.injEq] at hg
            subst hg
            obtain ⟨y, e1, e2⟩ := hfa.get hv2
            exact ⟨y, by simp only [List.size_toArray]; rw [Array.getElem?_append_left (by simpa using ht)]; simpa using e1, e2⟩
        · rw [List.getElem?_append_right (by rw [List.length_map, hlen2]; omega), List.getElem?_replicate] at hg
          split at hg <;> try (simp at hg; done)
          rename_i hl2
          simp only [Option.some.injEq] at hg
          subst hg
          rw [List.length_map, hlen2, hlen3] at hl2
          refine ⟨undef, ?_, [], rfl, trivial⟩
          rw [Array.getElem?_append_right (by simp; omega)]
          simp only [List.size_toArray, Array.getElem?_replicate]
          rw [if_pos (by rw [q4]; omega)]
    have okE : ∀ e s2, inlK P O J ops.toList ((s.gen * 4096 + id) * 1024) o.dst (t1.tmps.map (keepG J.T)) k e s2 → s2.ok := fun e s he => by
      cases e with
      | normal => exact inlEnd_ok he
      | ret => exact inlEnd_ok he
      | exit id => exact he.elim
    have fin_gen : ∀ (BR B' : Nat → (Nat × Value) × Bool), agree J.T B' B → (nf B → nf B') → (∀ E2 s2 a w', RelE base X E.F BR E2 s2 a w' → (∀ m, keepN J.T m = true → m < GB → live t1 m → (s2.mem m).isSome = true → E2.β m = E.β m ∧ E2.ν m = E.ν m) ∧ (∀ m, PN ≤ m ∨ (B' m).2 = true → (s2.mem m).isSome = true → E2.β m = (B' m).1.1 ∧ E2.ν m = (B' m).1.2) ∧ (∀ m, (B' m).2 = true → (s2.mem m).isSome = true)) →
        ∀ e s2 a2 w2, Rel base X E.F BR s2 a2 w2 → KeepF base X E.F w1 w2 → inlK P O J ops.toList ((s.gen * 4096 + id) * 1024) o.dst (t1.tmps.map (keepG J.T)) k e s2 → bodyPostM Fence.wide 0 P fn (fun e w'' => ∃ v, e = .returned v ∧ wpOps P ops Q (List.range' (J.j + 1) (ops.size - (J.j + 1))) (a1.put o.dst v) w'') (exOf e) a2 w2 := by
      intro BR B' hB hN KP e s2 a2 w2 R2 hk2 he
      have fin0 : ∀ (a : Act) (w' : World), Rel base X E.F BR s2 a w' → KeepF base X E.F w1 w' → inlEnd P O J ops.toList ((s.gen * 4096 + id) * 1024) o.dst (t1.tmps.map (keepG J.T)) k s2 →
          ∃ v, (results fn a.tmps).run P w' = .ok v w' ∧ ∃ v', Ending.returned v = .returned v' ∧ wpOps P ops Q (List.range' (J.j + 1) (ops.size - (J.j + 1))) (a1.put o.dst v') w' := fun a w' R hbl he => by
        unfold inlEnd at he
        split at he <;> try (exact he.elim)
        rename_i res hres
        obtain ⟨hok2, hliv, hrun2⟩ := he
        obtain ⟨E2, R2⟩ := R
        rw [← q5] at hres
        obtain ⟨zs, r1, r2⟩ := resI_sound (P := P) R2 hres
        refine ⟨_, results_run r1, _, rfl, ?_⟩
        have hcon := conc_resI r2
        obtain ⟨KB, KP, KL⟩ := KP E2 s2 a w' R2
        have K : Keeps J.T (live t1) (live s2) s2.mem E E2 w1 w' := ⟨R2.sub, hbl.fro, KB, fun m h => Or.inl h, fun m hG h => Or.inr ⟨hG, h⟩⟩
        have R3 : RelE base X F0 B' E2 ⟨t1.tmps.map (keepG J.T), s2.mem, True, [], s2.gen + 1⟩ a1 w' := by
          refine ⟨R1.defers.later R2.sub hbl.fro, by simp [R1.size], fun t g e hkg => ?_, R2.mem, R2.sep, fun k hk => ?_, fun k hk => R2.sub k (R1.sub k hk), R2.glob, R2.old, KP, KL⟩
          · rw [List.getElem?_map] at e
            cases hg : t1.tmps[t]? with
            | none => rw [hg] at e; simp at e
            | some g0 =>
              rw [hg] at e
              simp only [Option.map_some, Option.some.injEq] at e
              have hl : livG s2.mem g = true := List.all_eq_true.1 hliv g (by rw [← e]; exact List.mem_map.2 ⟨g0, List.mem_of_getElem? hg, rfl⟩)
              unfold keepG at e
              cases hk0 : g0.k
              · rw [hk0, cond_false] at e; subst e; simp [gunk] at hkg
              · rw [hk0, cond_true] at e
                cases hks : keepS J.T g0.v
                · rw [hks, cond_false] at e; subst e; simp [gunk] at hkg
                · rw [hks, cond_true] at e
                  subst e
                  unfold livG at hl
                  rw [hk0, cond_true] at hl
                  obtain ⟨y, e1, e2⟩ := R1.slots t g0 hg hk0
                  exact ⟨y, e1, K.sv hks hl e2⟩
          · have h1 := R2.frz k hk
            refine ⟨h1.1, ?_⟩
            rcases h1.2 with h2 | h2
            · exact (R1.frz k h2).2
            · exact Or.inr h2
        have R4 := R3.slotO o.dst (gnow (resS res)) _ (fun _ => hcon) True [] (s2.gen + 1)
        obtain ⟨s3, es, l3, hend3, hlen3', run3⟩ := runOps_run (ops := ops.toList) (ops.toList.drop (J.j + 1)) (J.j + 1) _ _ [] (fun j o ho => by rw [List.getElem?_drop] at ho; exact ho) (by simp) hrun2
        have run3 := run3 (fun i => es.getD (i - (J.j + 1)) ⟨gunk, [], [], []⟩) (fun j d hd => by simp [List.getD, hd])
        have hdl : (ops.toList.drop (J.j + 1)).length = ops.size - (J.j + 1) := by simp
        rw [hdl] at run3
        exact RunL.wp (s' := s3) hO (show (⟨s3.tmps, s3.mem, s3.ok, l3, s3.gen⟩ : PSt).ok from hk _ hend3) (fun a' w'' R' hb' => hQ B' hB hN _ a' w'' (R'.lit s3.ok l3 s3.gen) hb' hend3) _ _ _ _ run3 ⟨E2, R4⟩ (Nat.le_trans hz1 hbl.size) (hb1.trans (hbl.less R1.sub))
      have fin : inlEnd P O J ops.toList ((s.gen * 4096 + id) * 1024) o.dst (t1.tmps.map (keepG J.T)) k s2 → bodyPostM Fence.wide 0 P fn (fun e w'' => ∃ v, e = .returned v ∧ wpOps P ops Q (List.range' (J.j + 1) (ops.size - (J.j + 1))) (a1.put o.dst v) w'') .normal a2 w2 := fun he =>
        leaves_of_rel a2.defers a2 w2 rfl R2 hk2 fun a' w'' et R' hk' => by
          have := fin0 a' w'' R' hk' he
          rw [et] at this
          exact this
      cases e with
      | normal => exact fin he
      | ret => exact fin he
      | exit id => exact he.elim
    by_cases hT : J.T = FLT
    · have kn : ∀ m, live t1 m → m < GB → (t1.mem m).isSome = true := fun m h hG => h.resolve_right fun q => by omega
      let B1 : Nat → (Nat × Value) × Bool := fun m => if (t1.mem m).isSome = true then ((E.β m, E.ν m), true) else ((B m).1, false)
      have b1 : ∀ m, (t1.mem m).isSome = true → B1 m = ((E.β m, E.ν m), true) := fun m h => if_pos h
      have b0 : ∀ m, ¬ (t1.mem m).isSome = true → B1 m = ((B m).1, false) := fun m h => if_neg h
      refine q7 hT base X E.F B1 w1 _ _ ⟨((c.args.toList.map (valOf t1) ++ caps.map fun p => SV.x (.c (.ptr p.1 p.2))).map gnow) ++ List.replicate (J.n - (c.args.toList.length + caps.length)) (gnow (.tup [])), t1.mem, True, [], t1.gen + 1⟩ _ w1 hz1 okE (fun e s2 a2 w2 R2 hk2 hz2 he => fin_gen B1 B (agree.refl _ _) (fun h => h) (fun E2 s2 a w' R2 => ?_) e s2 a2 w2 R2 hk2 he) (ent _ B1 (by simp) (fun m hm hs => ?_) (fun m hm => ?_)) (KeepF.refl _ _ _ _) hz1 hev
      · have key : ∀ m, (t1.mem m).isSome = true → (s2.mem m).isSome = true → E2.β m = E.β m ∧ E2.ν m = E.ν m := fun m h hs => by
          have := R2.pin m (Or.inr (by rw [b1 m h])) hs
          rw [b1 m h] at this
          exact this
        refine ⟨fun m _ hG hL hs => key m (kn m hL hG) hs, fun m hm hs => ?_, fun m hm => R2.pinL m (by rw [b1 m (R1.pinL m hm)])⟩
        by_cases h : (t1.mem m).isSome = true
        · have k1 := key m h hs
          have k2 := R1.pin m hm h
          exact ⟨k1.1.trans k2.1, k1.2.trans k2.2⟩
        · have hP : PN ≤ m := hm.resolve_right fun q => h (R1.pinL m q)
          have := R2.pin m (Or.inl hP) hs
          rw [b0 m h] at this
          exact this
      · rw [b1 m hs]; exact ⟨rfl, rfl⟩
      · by_cases h : (t1.mem m).isSome = true
        · exact h
        · rw [b0 m h] at hm; simp at hm
    · have hN := hNF.resolve_right hT
      refine q6 base X E.F B w1 _ _ ⟨((c.args.toList.map (valOf t1) ++ caps.map fun p => SV.x (.c (.ptr p.1 p.2))).map gnow) ++ List.replicate (J.n - (c.args.toList.length + caps.length)) (gnow (.tup [])), t1.mem, True, [], t1.gen + 1⟩ _ w1 hz1 hN okE (fun B' hB hN' e s2 a2 w2 R2 hk2 hz2 he => fin_gen B' B' hB (fun _ => hN') (fun E2 s2 a w' R2 => ⟨fun m hm hG hL hs => ?_, R2.pin, R2.pinL⟩) e s2 a2 w2 R2 hk2 he) (ent _ B (by simp) R1.pin R1.pinL) (KeepF.refl _ _ _ _) hz1 hev
      unfold keepN at hm
      have hf : Nat.beq J.T FLT = false := by
        cases h : Nat.beq J.T FLT
        · rfl
        · exact absurd (Nat.eq_of_beq_eq_true h) hT
      rw [hf, Bool.false_or, Bool.and_eq_true, Nat.blt_eq] at hm
      have hP := ble_le hm.1
      have h1 := R2.pin m (Or.inl hP) hs
      rw [hB m hm.2] at h1
      have h2 := R1.pin m (Or.inl hP) (hL.resolve_right fun q => by omega)
      exact ⟨h1.1.trans h2.1.symm, h1.2.trans h2.2.symm⟩
  · rintro e w' ⟨v, rfl, h⟩
    exact h
end
def inlA (P : Program) (O : Oracle) (J : Nat → Option Inl) (c : Inl) (id : Nat) (ops : List Oper) (k : PSt → Prop) (s : PSt) : Prop :=
  match J (1000000 + id) with
  | some d => inlC P O c id ops k s ∨ inlC P O d id ops k s
  | none => inlC P O c id ops k s
theorem inlA_one {P : Program} {O : Oracle} {J : Nat → Option Inl} {p : Inl → Prop} (hJ : ∀ n c, J n = some c → p c) {c : Inl} {n id : Nat} (hc : J n = some c) {ops : List Oper} {k : PSt → Prop} {s : PSt} (h : inlA P O J c id ops k s) : ∃ d, p d ∧ inlC P O d id ops k s := by
  unfold inlA at h
  split at h
  · rename_i d hd
    rcases h with h | h
    · exact ⟨c, hJ _ _ hc, h⟩
    · exact ⟨d, hJ _ _ hd, h⟩
  · exact ⟨c, hJ _ _ hc, h⟩
def evalJ (P : Program) (O : Oracle) (L : Nat → Option Ann) (J : Nat → Option Inl) : Code → (Ex → PSt → Prop) → PSt → Prop
  | .skip, k, s => k .normal s
  | .label _, k, s => k .normal s
  | .region id ops draw, k, s => match J id with
    | some c => if draw then False else inlA P O J c id ops.toList (flush (k .normal)) s
    | none => runRegion P O id ops.toList draw s (flush (k .normal))
  | .seq a b, k, s => match L (700000 + PR.keyOf b) with
    | some (.cut I) => evalJ P O L J a (cutK I k) s ∧ ∀ i, I.good i → evalJ P O L J b k (ist I i (s.gen + 1))
    | some (.cuts l) => evalJ P O L J a (cutKs l k) s ∧ allP l fun I i => evalJ P O L J b k (ist I i (s.gen + 1))
    | some (.cutF f) => evalJ P O L J a (cutKs (f (slotI s)) k) s ∧ allP (f (slotI s)) fun I i => evalJ P O L J b k (ist I i (s.gen + 1))
    | some (.cutZ l) => evalJ P O L J a (cutZK l k) s ∧ allZ l (fun s => evalJ P O L J b k s) (s.gen + 1)
    | _ => evalJ P O L J a (fun e s' => match e with
      | .normal => evalJ P O L J b k s'
      | .exit id => k (.exit id) s'
      | .ret => k .ret s') s
  | .cond c x y, k, s => match L (500000 + PR.keyOf x) with
    | some (.cut I) => condC s c (evalJ P O L J x (cutK I k) s) (evalJ P O L J y (cutK I k) s) ∧ ∀ i, I.good i → k .normal (ist I i (s.gen + 1))
    | some (.cuts l) => condC s c (evalJ P O L J x (cutKs l k) s) (evalJ P O L J y (cutKs l k) s) ∧ allP l fun I i => k .normal (ist I i (s.gen + 1))
    | _ => condC s c (evalJ P O L J x k s) (evalJ P O L J y k s)
  | .loop body, k, s => match L (PR.keyOf body) with
    | some (.rounds n) => unroll (fun k s => evalJ P O L J body k s) k n s
    | some (.inv I) => (∃ i, I.good i ∧ imeets I s i) ∧ ∀ i, I.good i → evalJ P O L J body (fun e s' => match e with
      | .normal => ∃ j, I.good j ∧ imeets I s' j ∧ I.μ j < I.μ i
      | .exit m => k (.exit m) s'
      | .ret => k .ret s') (ist I i (s.gen + 1))
    | some (.invs l) => invsC l (fun k s => evalJ P O L J body k s) k s
    | some (.invF f) => invsC (f (slotI s)) (fun k s => evalJ P O L J body k s) k s
    | some (.ownF ts f) => force s.gen fun g => (fun s => invsC (f (slotI s)) (fun k s => evalJ P O L J body k s) k s) (ownAll ((g * 4096 + 4090) * 1024) ts s)
    | _ => False
  | .block id c, k, s => match L (600000 + PR.keyOf c) with
    | some (.cut I) => evalJ P O L J c (blockK id (cutK I k)) s ∧ ∀ i, I.good i → k .normal (ist I i (s.gen + 1))
    | some (.cuts l) => evalJ P O L J c (blockK id (cutKs l k)) s ∧ allP l fun I i => k .normal (ist I i (s.gen + 1))
    | _ => evalJ P O L J c (blockK id k) s
  | .exit id, k, s => k (.exit id) s
  | .ret, k, s => k .ret s
  | _, _, _ => False
def evalCode (P : Program) (O : Oracle) (L : Nat → Option Ann) : Code → (Ex → PSt → Prop) → PSt → Prop := evalJ P O L fun _ => none
section
variable {P : Program} {O : Oracle} {base : Nat} {X F0 : Nat → Prop} {B : Nat → (Nat × Value) × Bool}
theorem evalJ_ok {L : Nat → Option Ann} {J : Nat → Option Inl} : ∀ (c : Code) (k : Ex → PSt → Prop) (s : PSt), (∀ e s, k e s → s.ok) → evalJ P O L J c k s → s.ok
  | .skip, k, s, hk, h => hk _ _ (by simpa [evalJ] using h)
  | .label _, k, s, hk, h => hk _ _ (by simpa [evalJ] using h)
  | .exit _, k, s, hk, h => hk _ _ (by simpa [evalJ] using h)
  | .ret, k, s, hk, h => hk _ _ (by simpa [evalJ] using h)
  | .region id ops draw, k, s, hk, h => by
    unfold evalJ at h
    split at h
    · rename_i c hc
      split at h
      · exact h.elim
      · obtain ⟨d, _, h⟩ := inlA_one (p := fun _ => True) (fun _ _ _ => trivial) hc h
        exact inlC_ok (fun s hs => hs.1) h
    · exact runRegion_ok (fun s hs => hs.1) h
  | .seq a b, k, s, hk, h => by
    unfold evalJ at h
    split at h
    · exact evalJ_ok a _ s (cutK_ok hk) h.1
    · rw [cutKs_eq] at h; exact evalJ_ok a _ s (cutK_ok hk) h.1
    · rw [cutKs_eq] at h; exact evalJ_ok a _ s (cutK_ok hk) h.1
    · exact evalJ_ok a _ s (cutZK_ok hk) h.1
    · refine evalJ_ok a _ s (fun e s' he => ?_) h
      cases e with
      | normal => exact evalJ_ok b k s' hk he
      | exit id => exact hk _ _ he
      | ret => exact hk _ _ he
  | .cond c x y, k, s, hk, h => by
    have core : ∀ k', (∀ e s, k' e s → s.ok) → condC s c (evalJ P O L J x k' s) (evalJ P O L J y k' s) → s.ok := by
      intro k' hk' h
      unfold condC at h
      split at h <;> try (exact h.elim)
      rename_i b hb
      split at h
      · cases b
        · exact evalJ_ok y k' _ hk' h
        · exact evalJ_ok x k' _ hk' h
      · cases b
        · exact evalJ_ok y k' _ hk' h
        · exact evalJ_ok x k' _ hk' h
    unfold evalJ at h
    split at h
    · rename_i I _
      exact core (cutK I k) (cutK_ok hk) h.1
    · rename_i l _
      rw [cutKs_eq] at h
      exact core (cutK (sumI l) k) (cutK_ok hk) h.1
    · exact core k hk h
  | .loop body, k, s, hk, h => by
    unfold evalJ at h
    split at h <;> try (exact h.elim)
    · rename_i n _
      exact unroll_ok (fun k s hk h => evalJ_ok body k s hk h) n s hk h
    · obtain ⟨⟨i, _, hi⟩, _⟩ := h
      exact hi.1
    · obtain ⟨i, _, hi⟩ := (any_sum' _ s).1 h.1
      exact hi.1
    · obtain ⟨i, _, hi⟩ := (any_sum' _ s).1 h.1
      exact hi.1
    · rename_i ts f _
      rw [force_eq] at h
      obtain ⟨i, _, hi⟩ := (any_sum' _ _).1 h.1
      rw [← ownAll_ok ts _ s]
      exact hi.1
  | .block id c, k, s, hk, h => by
    unfold evalJ at h
    split at h
    · rename_i I _
      exact evalJ_ok c _ s (blockK_ok (cutK_ok hk)) h.1
    · rw [cutKs_eq] at h
      exact evalJ_ok c _ s (blockK_ok (cutK_ok hk)) h.1
    · exact evalJ_ok c _ s (blockK_ok hk) h
  | .rangeFunc .., k, s, hk, h => by unfold evalJ at h; exact h.elim
  | .scope _, k, s, hk, h => by unfold evalJ at h; exact h.elim
  | .goto _, k, s, hk, h => by unfold evalJ at h; exact h.elim
  | .refuse _, k, s, hk, h => by unfold evalJ at h; exact h.elim
theorem evalJ_sound (hO : OSound P O) (hm : P.follows .mixedOrders = true) {L : Nat → Option Ann} {J : Nat → Option Inl} (hJ : ∀ n c, J n = some c → InlOK P c ∧ GB ≤ c.T) (hNF : nf B) (w0 : World) (hb0 : base ≤ w0.heap.size) : ∀ (c : Code) (k : Ex → PSt → Prop) (Q : Exit → Act → World → Prop) (s : PSt) (a : Act) (w : World),
    (∀ e s, k e s → s.ok) → (∀ e s a w, Rel base X F0 B s a w → KeepF base X F0 w0 w → base ≤ w.heap.size → k e s → Q (exOf e) a w) →
    Rel base X F0 B s a w → KeepF base X F0 w0 w → base ≤ w.heap.size → evalJ P O L J c k s → c.wp P Q a w
  | .skip, k, Q, s, a, w, hk, hq, R, hbel, hb, h => wp_skip (hq .normal s a w R hbel hb h)
  | .label _, k, Q, s, a, w, hk, hq, R, hbel, hb, h => wp_label (hq .normal s a w R hbel hb h)
  | .exit id, k, Q, s, a, w, hk, hq, R, hbel, hb, h => wp_exit (hq (.exit id) s a w R hbel hb h)
  | .ret, k, Q, s, a, w, hk, hq, R, hbel, hb, h => wp_ret (hq .ret s a w R hbel hb h)
  | .region id ops draw, k, Q, s, a, w, hk, hq, R, hbel, hb, h => by
    unfold evalJ at h
    split at h
    · rename_i c hc
      split at h
      · exact h.elim
      · rename_i hd
        simp only [Bool.not_eq_true] at hd
        subst hd
        obtain ⟨d, hd, h⟩ := inlA_one hJ hc h
        refine wp_region (inl_core hO hd.1 (Or.inl hNF) (fun s hs => hs.1) h R hb hbel fun B' hB _ s' a' w' R' hb' h => ?_)
        exact hq .normal _ a' w' (Rel.reB hNF (R'.lit True s'.lits s'.gen) fun m hm => hB m (by have := hd.2; omega)) hb' (Nat.le_trans hb0 hb'.size) h.2
    · refine region_sound hO hm (fun s hs => hs.1) h R hb hbel fun s' a' w' R' hb' h => ?_
      exact hq .normal _ a' w' (R'.lit True s'.lits s'.gen) hb' (Nat.le_trans hb0 hb'.size) h.2
  | .seq x y, k, Q, s, a, w, hk, hq, R, hbel, hb, h => by
    unfold evalJ at h
    split at h
    · rename_i I _
      obtain ⟨h, hc⟩ := h
      refine wp_seq (evalJ_sound hO hm hJ hNF w0 hb0 x _ _ s a w (cutK_ok hk) (fun e s' a' w' R' hb' hb2 he => ?_) R hbel hb h)
      cases e with
      | normal => obtain ⟨j, hg, hj⟩ := he; exact evalJ_sound hO hm hJ hNF w0 hb0 y k Q _ a' w' hk hq (Inv.rel hNF hj _ R') hb' hb2 (hc j hg)
      | exit id => exact hq _ s' a' w' R' hb' hb2 he
      | ret => exact hq _ s' a' w' R' hb' hb2 he
    · rename_i l _
      rw [cutKs_eq] at h
      obtain ⟨h, hc⟩ := h
      replace hc := (all_sum l _ fun _ s => evalJ P O L J y k s).1 hc
      refine wp_seq (evalJ_sound hO hm hJ hNF w0 hb0 x _ _ s a w (cutK_ok hk) (fun e s' a' w' R' hb' hb2 he => ?_) R hbel hb h)
      cases e with
      | normal => obtain ⟨j, hg, hj⟩ := he; exact evalJ_sound hO hm hJ hNF w0 hb0 y k Q _ a' w' hk hq (Inv.rel hNF hj _ R') hb' hb2 (hc j hg)
      | exit id => exact hq _ s' a' w' R' hb' hb2 he
      | ret => exact hq _ s' a' w' R' hb' hb2 he
    · rename_i f _
      rw [cutKs_eq] at h
      obtain ⟨h, hc⟩ := h
      replace hc := (all_sum (f (slotI s)) _ fun _ s => evalJ P O L J y k s).1 hc
      refine wp_seq (evalJ_sound hO hm hJ hNF w0 hb0 x _ _ s a w (cutK_ok hk) (fun e s' a' w' R' hb' hb2 he => ?_) R hbel hb h)
      cases e with
      | normal => obtain ⟨j, hg, hj⟩ := he; exact evalJ_sound hO hm hJ hNF w0 hb0 y k Q _ a' w' hk hq (Inv.rel hNF hj _ R') hb' hb2 (hc j hg)
      | exit id => exact hq _ s' a' w' R' hb' hb2 he
      | ret => exact hq _ s' a' w' R' hb' hb2 he
    · rename_i l _
      obtain ⟨h, hc⟩ := h
      refine wp_seq (evalJ_sound hO hm hJ hNF w0 hb0 x _ _ s a w (cutZK_ok hk) (fun e s' a' w' R' hb' hb2 he => ?_) R hbel hb h)
      cases e with
      | normal =>
        obtain ⟨s2, R2, h2⟩ := anyZ_sound hNF hb2 l s' R' he hc
        exact evalJ_sound hO hm hJ hNF w0 hb0 y k Q _ a' w' hk hq R2 hb' hb2 h2
      | exit id => exact hq _ s' a' w' R' hb' hb2 he
      | ret => exact hq _ s' a' w' R' hb' hb2 he
    · refine wp_seq (evalJ_sound hO hm hJ hNF w0 hb0 x _ _ s a w (fun e s' he => ?_) (fun e s' a' w' R' hb' hb2 he => ?_) R hbel hb h)
      · cases e with
        | normal => exact evalJ_ok y k s' hk he
        | exit id => exact hk _ _ he
        | ret => exact hk _ _ he
      · cases e with
        | normal => exact evalJ_sound hO hm hJ hNF w0 hb0 y k Q s' a' w' hk hq R' hb' hb2 he
        | exit id => exact hq _ s' a' w' R' hb' hb2 he
        | ret => exact hq _ s' a' w' R' hb' hb2 he
  | .cond c x y, k, Q, s, a, w, hk, hq, R, hbel, hb, h => by
    have core : ∀ k', (∀ e s, k' e s → s.ok) → (∀ e s a w, Rel base X F0 B s a w → KeepF base X F0 w0 w → base ≤ w.heap.size → k' e s → Q (exOf e) a w) →
        condC s c (evalJ P O L J x k' s) (evalJ P O L J y k' s) → (Code.cond c x y).wp P Q a w := by
      intro k' hk' hq' h
      unfold condC at h
      split at h <;> try (exact h.elim)
      rename_i b hb'
      have ev : a.eval c = .bool b := by
        obtain ⟨E, R⟩ := R
        have := R.eval c (by rw [hb'])
        rw [hb'] at this
        exact cv_v this
      have h : bcond b (evalJ P O L J x k' s) (evalJ P O L J y k' s) := by
        split at h
        · cases b <;> exact h
        · exact h
      rw [bcond_iff] at h
      refine wp_cond_split (t := b) ev (fun e => ?_) (fun e => ?_)
      · exact evalJ_sound hO hm hJ hNF w0 hb0 x k' Q _ a w hk' hq' R hbel hb (h.1 e)
      · exact evalJ_sound hO hm hJ hNF w0 hb0 y k' Q _ a w hk' hq' R hbel hb (h.2 e)
    unfold evalJ at h
    split at h
    · rename_i I _
      obtain ⟨h, hc⟩ := h
      exact core (cutK I k) (cutK_ok hk) (cutK_sound hNF hq hc) h
    · rename_i l _
      rw [cutKs_eq] at h
      obtain ⟨h, hc⟩ := h
      exact core (cutK (sumI l) k) (cutK_ok hk) (cutK_sound hNF hq ((all_sum l _ fun _ s => k .normal s).1 hc)) h
    · exact core k hk hq h
  | .loop body, k, Q, s, a, w, hk, hq, R, hbel, hb, h => by
    have core : ∀ (s : PSt) (R : Rel base X F0 B s a w) (I : Inv), (∃ i, I.good i ∧ imeets I s i) → (∀ i, I.good i → evalJ P O L J body (fun e s' => match e with
        | .normal => ∃ j, I.good j ∧ imeets I s' j ∧ I.μ j < I.μ i
        | .exit m => k (.exit m) s'
        | .ret => k .ret s') (ist I i (s.gen + 1))) → (Code.loop body).wp P Q a w := by
      intro s R I ⟨i0, hg0, hi0⟩ hround
      refine wp_loop' (fun i a w => I.good i ∧ Rel base X F0 B (ist I i (s.gen + 1)) a w ∧ KeepF base X F0 w0 w ∧ base ≤ w.heap.size) I.μ i0 ⟨hg0, Inv.rel hNF hi0 _ R, hbel, hb⟩ (fun i a w hi => ?_)
      obtain ⟨hg, R, hbel, hb⟩ := hi
      refine evalJ_sound hO hm hJ hNF w0 hb0 body _ _ (ist I i (s.gen + 1)) a w (fun e s' he => ?_) (fun e s' a' w' R' hb' hb2 he => ?_) R hbel hb (hround i hg)
      · cases e with
        | normal => obtain ⟨j, _, hj, _⟩ := he; exact hj.1
        | exit m => exact hk _ _ he
        | ret => exact hk _ _ he
      · cases e with
        | normal =>
          obtain ⟨j, hgj, hj, hlt⟩ := he
          exact ⟨j, ⟨hgj, Inv.rel hNF hj _ R', hb', hb2⟩, hlt⟩
        | exit m => exact hq (.exit m) s' a' w' R' hb' hb2 he
        | ret => exact hq .ret s' a' w' R' hb' hb2 he
    have coreL : ∀ (s : PSt) (R : Rel base X F0 B s a w) (l : List Inv), invsC l (fun k s => evalJ P O L J body k s) k s → (Code.loop body).wp P Q a w := by
      intro s R l h
      refine core s R (sumI l) ((any_sum' l s).1 h.1) ?_
      have h2 := (all_sum l _ fun m s0 => evalJ P O L J body (fun e s' => match e with
        | .normal => anyP l fun J j => J.good j ∧ imeets J s' j ∧ J.μ j < m
        | .exit m => k (.exit m) s'
        | .ret => k .ret s') s0).1 h.2
      intro i hi
      have := h2 i hi
      have e : (fun (e : Ex) (s' : PSt) => match e with
        | .normal => anyP l fun J j => J.good j ∧ imeets J s' j ∧ J.μ j < (sumI l).μ i
        | .exit m => k (.exit m) s'
        | .ret => k .ret s') = (fun (e : Ex) (s' : PSt) => match e with
        | .normal => ∃ j, (sumI l).good j ∧ imeets (sumI l) s' j ∧ (sumI l).μ j < (sumI l).μ i
        | .exit m => k (.exit m) s'
        | .ret => k .ret s') := by
        funext e s'
        cases e with
        | normal => exact propext (any_sum l s' fun n => n < (sumI l).μ i)
        | exit m => rfl
        | ret => rfl
      rw [e] at this
      exact this
    unfold evalJ at h
    split at h <;> try (exact h.elim)
    · rename_i n _
      refine wp_loop' (fun i a w => ∃ s', Rel base X F0 B s' a w ∧ KeepF base X F0 w0 w ∧ base ≤ w.heap.size ∧ unroll (fun k s => evalJ P O L J body k s) k i s') (fun i => i) n ⟨s, R, hbel, hb, h⟩ (fun i a w hi => ?_)
      obtain ⟨s1, R, hbel, hb, h⟩ := hi
      cases i with
      | zero => exact h.elim
      | succ i =>
        refine evalJ_sound hO hm hJ hNF w0 hb0 body _ _ s1 a w (fun e s' he => ?_) (fun e s' a' w' R' hb' hb2 he => ?_) R hbel hb h
        · cases e with
          | normal => exact unroll_ok (fun k s hk h => evalJ_ok body k s hk h) i (bump s') hk he
          | exit m => exact hk _ _ he
          | ret => exact hk _ _ he
        · cases e with
          | normal => exact ⟨i, ⟨bump s', R'.lit _ _ _, hb', hb2, he⟩, Nat.lt_succ_self i⟩
          | exit m => exact hq (.exit m) s' a' w' R' hb' hb2 he
          | ret => exact hq .ret s' a' w' R' hb' hb2 he
    · rename_i I hI
      exact core s R I h.1 h.2
    · rename_i l hI
      exact coreL s R l h
    · rename_i f hI
      exact coreL s R _ h
    · rw [force_eq] at h
      exact coreL _ (Rel.ownAll _ _ s R) _ h
  | .block id c, k, Q, s, a, w, hk, hq, R, hbel, hb, h => by
    have core : ∀ k', (∀ e s, k' e s → s.ok) → (∀ e s a w, Rel base X F0 B s a w → KeepF base X F0 w0 w → base ≤ w.heap.size → k' e s → Q (exOf e) a w) →
        evalJ P O L J c (blockK id k') s → (Code.block id c).wp P Q a w := by
      intro k' hk' hq' h
      refine wp_block (evalJ_sound hO hm hJ hNF w0 hb0 c _ _ s a w (blockK_ok hk') (fun e s' a' w' R' hb' hb2 he => ?_) R hbel hb h)
      cases e with
      | normal => exact hq' .normal s' a' w' R' hb' hb2 he
      | exit m =>
        simp only [blockK] at he
        simp only [exOf, Exit.inBlock]
        split
        · rename_i e; rw [if_pos e] at he; exact hq' .normal s' a' w' R' hb' hb2 he
        · rename_i e; rw [if_neg e] at he; exact hq' (.exit m) s' a' w' R' hb' hb2 he
      | ret => exact hq' .ret s' a' w' R' hb' hb2 he
    unfold evalJ at h
    split at h
    · rename_i I _
      obtain ⟨h, hc⟩ := h
      exact core (cutK I k) (cutK_ok hk) (cutK_sound hNF hq hc) h
    · rename_i l _
      rw [cutKs_eq] at h
      obtain ⟨h, hc⟩ := h
      exact core (cutK (sumI l) k) (cutK_ok hk) (cutK_sound hNF hq ((all_sum l _ fun _ s => k .normal s).1 hc)) h
    · exact core k hk hq h
  | .rangeFunc .., k, Q, s, a, w, hk, hq, R, hbel, hb, h => by unfold evalJ at h; exact h.elim
  | .scope _, k, Q, s, a, w, hk, hq, R, hbel, hb, h => by unfold evalJ at h; exact h.elim
  | .goto _, k, Q, s, a, w, hk, hq, R, hbel, hb, h => by unfold evalJ at h; exact h.elim
  | .refuse _, k, Q, s, a, w, hk, hq, R, hbel, hb, h => by unfold evalJ at h; exact h.elim
end
def evalBody (P : Program) (O : Oracle) (L : Nat → Option Ann) (c : Code) (rs : List ResultVar) (n : Nat) (args : List AV) (V : List XV → List (List CV) → Prop) : Prop :=
  evalCode P O L c (fun e s => match e with | .normal => atEnd P rs (refNames 0 args) V s | .ret => atEnd P rs (refNames 0 args) V s | .exit _ => False) (entry n args)
section
variable {P : Program} {O : Oracle}
theorem evalJ_EvT (hO : OSound P O) (hm : P.follows .mixedOrders = true) (L : Nat → Option Ann) {J : Nat → Option Inl} (hJ : ∀ n c, J n = some c → InlOK P c ∧ GB ≤ c.T) (T : Nat) (c : Code) : EvT T P c (evalJ P O L J c) :=
  fun base X F0 B w0 k Q s a w hb0 hNF hk hq R hbel hb h => evalJ_sound hO hm hJ hNF w0 hb0 c k Q s a w hk (hq B (agree.refl T B) hNF) R hbel hb h
theorem no_J : ∀ (n : Nat) (c : Inl), (fun _ : Nat => (none : Option Inl)) n = some c → InlOK P c ∧ GB ≤ c.T := fun n c h => by simp at h
theorem evalCode_EvT (hO : OSound P O) (hm : P.follows .mixedOrders = true) (L : Nat → Option Ann) (T : Nat) (c : Code) : EvT T P c (evalCode P O L c) := evalJ_EvT hO hm L (no_J) T c
theorem evalBody_soundT {f : FuncId} {fn : Func} {c : Code} (hf : P.funcs[f]? = some fn) (hb : fn.body = some c) {args : List AV} (hlen : args.length ≤ 500) {V : List XV → List (List CV) → Prop} {ev : (Ex → PSt → Prop) → PSt → Prop} (hev : EvT 500 P c ev)
    (h : ev (fun e s => match e with | .normal => atEnd P fn.results.toList (refNames 0 args) V s | .ret => atEnd P fn.results.toList (refNames 0 args) V s | .exit _ => False) (entry fn.ntmps args)) {w : World} {F : Nat → Prop} {ys : List Value} {bs : List Nat} (hG : Laid F w) (hF : ∀ k, F k → k < w.heap.size) (hA : ConcArgs F w args ys bs) :
    Calls P f ys.toArray w fun e w' => ∃ v, e = .returned v ∧ Done F w bs V v w' := by
  refine (callsIn_wide (n := 0)).1 (callsIn_of_wp_marks hf hb trivial (wpIn_wide.2 ?_))
  have hle := bs_le hA
  have hPG : PN + 1000 < GB := by decide
  let B : Nat → (Nat × Value) × Bool := fun m => ((bs.getD (m - PN) 0, undef), false)
  let E : Env := ⟨F, fun m => (B m).1.1, fun _ => undef⟩
  have hB : ∀ (i b : Nat), bs[i]? = some b → (B (PN + (0 + i))).1.1 = b := by
    intro i b hi
    show bs.getD (PN + (0 + i) - PN) 0 = b
    rw [show PN + (0 + i) - PN = i by omega, List.getD_eq_getElem?_getD, hi]; rfl
  have hi500 : ∀ (i b : Nat), bs[i]? = some b → i < 500 := fun i b hi => by have := (List.getElem?_eq_some_iff.1 hi).1; omega
  have R0 : ∀ act : Act, act = ⟨ys.toArray ++ Array.replicate (fn.ntmps - ys.length) undef, []⟩ → Rel w.heap.size (· ∈ bs) F B (entry fn.ntmps args) act w := by
    rintro act rfl
    have hl := args_len hA
    refine ⟨E, trivial, by simp [entry, entry_len, hl], ?_, ?_, ?_, fun k hk => ⟨hF k hk, Or.inl hk⟩, fun k hk => hk, hG, fun k hk => (hle.2 k hk).1, fun _ _ _ => ⟨rfl, rfl⟩, fun _ h => by simp [B] at h⟩
    · intro t g hg hk
      simp only [entry] at hg
      by_cases ht : t < args.length
      · rw [List.getElem?_append_left (by rw [entry_len]; exact ht)] at hg
        obtain ⟨y, h1, h2⟩ := entry_slots (L := live (entry fn.ntmps args)) (E := E) rfl hA (fun i b hi => ⟨hB i b hi, Or.inl (entry_live hA i b hi), by have := hi500 i b hi; omega⟩) t g hg
        exact ⟨y, by simp only; rw [Array.getElem?_append_left (by simp; omega)]; simpa using h1, h2⟩
      · rw [List.getElem?_append_right (by rw [entry_len]; omega), List.getElem?_replicate] at hg
        split at hg <;> try (simp at hg; done)
        rename_i hl2
        simp only [Option.some.injEq] at hg
        subst hg
        rw [entry_len] at hl2
        refine ⟨undef, ?_, [], rfl, trivial⟩
        simp only
        rw [Array.getElem?_append_right (by simp; omega)]
        simp only [List.size_toArray, Array.getElem?_replicate]
        rw [if_pos (by omega)]
    · intro m b hmb
      obtain ⟨i, bl, c', h1, h2, rfl, arr, t, h4, h5⟩ := entry_mem hA m b hmb
      have hβ : E.β m = bl := by rw [h1]; exact hB i bl h2
      have hin := List.mem_of_getElem? h2
      refine ⟨by have := hi500 i bl h2; omega, ?_⟩
      unfold BlkOK
      rw [hβ]
      exact ⟨Or.inr hin, (hle.2 bl hin).2, arr, t, h4, h5.mono fun _ _ => ConcC.of_fz⟩
    · intro m m' b b' hmb hmb' hne k hk hk'
      obtain ⟨i, bl, c1, h1, h2, rfl, _⟩ := entry_mem hA m b hmb
      obtain ⟨i', bl', c2, h1', h2', rfl, _⟩ := entry_mem hA m' b' hmb'
      have hβ : E.β m = bl := by rw [h1]; exact hB i bl h2
      have hβ' : E.β m' = bl' := by rw [h1']; exact hB i' bl' h2'
      simp only [blockOf, Option.some.injEq, hβ, hβ'] at hk hk'
      rcases Nat.lt_trichotomy i i' with q | q | q
      · exact args_nodup hA i i' bl bl' q h2 h2' (by omega)
      · subst q; exact hne (by rw [h1, h1'])
      · exact args_nodup hA i' i bl' bl q h2' h2 (by omega)
  have names : refNames 0 args = List.range' (PN + 0) bs.length := refs_len hA
  refine hev w.heap.size (· ∈ bs) F B w _ _ (entry fn.ntmps args) _ w (Nat.le_refl _) (fun _ => rfl) (fun e s he => ?_) (fun B' hBB _ e s a w' R hbel hsz he => ?_) (R0 _ (by simp)) (KeepF.refl _ _ _ _) (Nat.le_refl _) h
  · have at_ok : atEnd P fn.results.toList (refNames 0 args) V s → s.ok := fun h => (atEnd_cases h).1
    cases e with
    | normal => exact at_ok he
    | ret => exact at_ok he
    | exit id => exact he.elim
  · have fin0 : ∀ (a : Act) (w' : World), Rel w.heap.size (· ∈ bs) F B' s a w' → KeepF w.heap.size (· ∈ bs) F w w' → atEnd P fn.results.toList (refNames 0 args) V s →
        ∃ v, (results fn a.tmps).run P w' = .ok v w' ∧ ∃ v', Ending.returned v = .returned v' ∧ Done F w bs V v' w' := fun a w' R hbel he => by
      obtain ⟨hok, hcase⟩ := atEnd_cases he
      obtain ⟨E, R⟩ := R
      have keep : Keep w.heap.size (· ∈ bs) w w' := hbel.toKeep
      have bound : ∀ {rows : List Nat} (k : Nat), callF E s rows k → k < w'.heap.size ∧ (F k ∨ w.heap.size ≤ k) := fun {rows} k hk => ⟨callF_lt R hk, by
        rcases hk with hk | ⟨m, hm', z, n, r, e1, e2⟩
        · exact (R.frz k hk).2
        · obtain ⟨_, _, _, _, e0, xs0, h4, _⟩ := R.mem m _ e1
          exact Or.inr (h4.lt k e2).1⟩
      rcases hcase with ⟨res, ms, upd, ms', h1, h2, hV⟩ | ⟨res, h1, hV⟩
      · obtain ⟨zs, r1, r2⟩ := resultsOf_sound (P := P) R (rows := ms ++ ms') h1 fun m hh => by simp [hh]
        obtain ⟨u1, u2⟩ := updsOf_sound R (rows := ms ++ ms') h2 fun m hh => by simp [hh]
        have hmap : (refNames 0 args).map E.β = bs := by
          rw [names]
          apply List.ext_getElem?
          intro i
          rw [List.getElem?_map]
          by_cases hi : i < bs.length
          · have hg : bs[i]? = some bs[i] := List.getElem?_eq_getElem hi
            rw [List.getElem?_range' hi, hg]
            simp only [Option.map_some, Nat.one_mul]
            have hpin := R.pin (PN + 0 + i) (Or.inl (by omega)) (u2 _ (by rw [names]; exact List.mem_range'_1.2 ⟨by omega, by omega⟩))
            have := hB i _ hg
            rw [← Nat.add_assoc] at this
            rw [hpin.1, hBB _ (by have := hi500 i _ hg; omega), this]
          · rw [List.getElem?_eq_none (by simpa using hi), List.getElem?_eq_none (by simpa using hi)]; rfl
        rcases hV with hV | ⟨rfl, r, m, h3, hl, hV⟩
        · rw [hmap] at u1
          exact ⟨_, results_run r1, _, rfl, res, upd, hV, by rw [concFs_nofresh r2]; simp, keep, callF E s (ms ++ ms'), none, fun k hk => Or.inl (R.sub k hk), fun k hk => bound k hk, fun y k e => by simp at e, ConcOut.of (conc_results r2), u1⟩
        · obtain ⟨u1', _⟩ := updsOf_sound R (rows := []) h2 fun m hh => by simp at hh
          rw [hmap] at u1'
          obtain ⟨zs', r1', r2'⟩ := resultsOfF_sound (P := P) R (f := some (E.ν m)) h3 fun m' hh => by simp only [List.mem_singleton] at hh; rw [hh]
          refine ⟨_, results_run r1', _, rfl, r, upd, hV, by omega, keep, callF E s [], some (E.ν m), fun k hk => Or.inl (R.sub k hk), fun k hk => bound k hk, fun y k e hk => ?_, conc_resultsO r2', u1'⟩
          obtain rfl := Option.some.inj e
          have hne : freshs r ≠ [] := fun q => by rw [q] at hl; simp at hl
          obtain ⟨⟨z, n, row⟩, hmem⟩ := List.exists_mem_of_ne_nil _ hne
          obtain ⟨y', e', _, _, _, el, xs, ho, _⟩ := fresh_getXs hmem r2'
          obtain rfl := Option.some.inj e'
          exact ⟨(ho.lt k hk).2, (ho.lt k hk).1⟩
      · -- the one result is a function literal
        have hb0 : bs = [] := by
          have hn := endClo_nil h1
          rw [hn] at names
          cases bs with
          | nil => rfl
          | cons b bs => simp [List.range'] at names
        unfold endClo at h1
        split at h1 <;> try (simp at h1; done)
        rename_i t hrs hnm
        split at h1 <;> try (simp at h1; done)
        rename_i f caps hslot
        split at h1 <;> try (simp at h1; done)
        rename_i l hl
        simp only [Option.some.injEq] at h1
        subst h1
        have hv := slot_val R t hslot
        let F' : Nat → Prop := fun k => E.F k ∨ ∃ m c, s.mem m = some (.cells c) ∧ E.β m = k
        have rep := cloL_sound R hl
        refine ⟨_, results_run (ys := [a.tmps.getD t undef]) (by rw [hrs]; simp only [List.mapM_cons, List.mapM_nil]; rfl), _, rfl, [.c (.clo f l)], [], hV, by simp [freshs, freshL, freshC, cellsOf], keep, F', none, fun k hk => Or.inl (R.sub k hk), fun k hk => ?_, fun y k e => by simp at e, ?_, ?_⟩
        · rcases hk with hk | ⟨m, c, hm, rfl⟩
          · exact R.frz k hk
          · obtain ⟨_, g1, _, arr, t', g2, _⟩ := R.mem m _ hm
            exact ⟨(Array.getElem?_eq_some_iff.1 g2).1, Or.inr (g1.resolve_right (by rw [hb0]; simp))⟩
        · have hv : ConcC (live s) E w' (.fn f caps) (a.tmps.getD t undef) := hv
          have hr : Rep F' w' (.clo f l) (a.tmps.getD t undef) := by
            rw [hv.2, rep.1]
            exact Rep.clo _ rep.2
          exact RepO.of (base := w.heap.size) (f := none) (F := F') (w := w') (c := .clo f l) hr
        · rw [hb0]; trivial
    have fin : atEnd P fn.results.toList (refNames 0 args) V s → bodyPostM Fence.wide 0 P fn (fun e w'' => ∃ v, e = .returned v ∧ Done F w bs V v w'') .normal a w' := fun he =>
      leaves_of_rel a.defers a w' rfl R hbel fun a' w'' et R' hk' => by
        have := fin0 a' w'' R' hk' he
        rw [et] at this
        exact this
    cases e with
    | normal => exact fin he
    | ret => exact fin he
    | exit id => exact he.elim
theorem evalBody_sound (hO : OSound P O) (hm : P.follows .mixedOrders = true) {L : Nat → Option Ann} {f : FuncId} {fn : Func} {c : Code} (hf : P.funcs[f]? = some fn) (hb : fn.body = some c) {args : List AV} (hlen : args.length ≤ 500) {V : List XV → List (List CV) → Prop}
    (h : evalBody P O L c fn.results.toList fn.ntmps args V) {w : World} {F : Nat → Prop} {ys : List Value} {bs : List Nat} (hG : Laid F w) (hF : ∀ k, F k → k < w.heap.size) (hA : ConcArgs F w args ys bs) :
    Calls P f ys.toArray w fun e w' => ∃ v, e = .returned v ∧ Done F w bs V v w' :=
  evalBody_soundT hf hb hlen (evalCode_EvT hO hm L 500 c) h hG hF hA
def AnswersX (P : Program) (f : Nat) (s : List AV → Option Ans) : Prop := ∀ al ans, s al = some ans → (∀ q ∈ ans.ask, q) → DoesX P f al ans
theorem orc_nil : OSound P (orc []) := fun f al ans h => by simp [orc] at h
theorem orc_cons {f : Nat} {g : List AV → Option Ans} {l : List (Nat × (List AV → Option Ans))} (h : AnswersX P f g) (k : OSound P (orc l)) : OSound P (orc ((f, g) :: l)) := by
  intro h' al ans e hq
  unfold orc at e
  by_cases hf : h' = f
  · subst hf
    simp only [Nat.beq_refl, cond_true] at e
    exact Or.inl (h al ans e hq)
  · simp only [beq_ne hf, cond_false] at e
    exact k h' al ans e hq
theorem a_flat : AnswersX P 1000000009 s_views := fun al ans h hq => by
  unfold s_views at h
  simp only [Option.some.injEq] at h
  subst h
  exact (hq False (by simp)).elim
def okAns (ans : Ans) (res : List XV) (upd : List (List CV)) : Prop := eqXs res ans.res ∧ eqUs upd ans.upd
theorem does_of_evalT5 {f : FuncId} {fn : Func} (hf : P.funcs[f]? = some fn) (hn : (fn.name == "runtime.NumGoroutine") = false) (hb : fn.body = some (fn.body.getD .skip)) {args : List AV} (hlen : args.length ≤ 500) {ans : Ans}
    {ev : (Ex → PSt → Prop) → PSt → Prop} (hev : EvT 500 P (fn.body.getD .skip) ev) (h : ev (fun e s => match e with | .normal => atEnd P fn.results.toList (refNames 0 args) (okAns ans) s | .ret => atEnd P fn.results.toList (refNames 0 args) (okAns ans) s | .exit _ => False) (entry fn.ntmps args)) (hfr : Nat.ble (freshs ans.res).length 1 = true := by rfl) : DoesX P f args ans := by
  intro w F ys bs hG hF hA
  refine Or.inr ⟨call_enter hf hn hb _ w, (evalBody_soundT hf hb hlen hev h hG hF hA).mono ?_⟩
  rintro e w' ⟨v, rfl, res, upd, ⟨h1, h2⟩, hl, hk, F', f', f1, f2, fb, f3, f4⟩
  rcases eqXs_out h1 hl (ble_le hfr) f3 with ⟨g, _⟩ | g
  · refine ⟨v, rfl, hk, frozeF F' f', some nilS, fun k hk => Or.inl (f1 k hk), fun k hk => ?_, g, Refs.mono (fun k hk => Or.inl hk) (eqUs_refs h2 f4)⟩
    rcases hk with hk | ⟨y, e, hk⟩
    · exact f2 k hk
    · exact ⟨(fb y k e hk).1, Or.inr (fb y k e hk).2⟩
  · exact ⟨v, rfl, hk, F', f', f1, f2, g, eqUs_refs h2 f4⟩
theorem does_of_eval (hO : OSound P O) (hm : P.follows .mixedOrders = true) (L : Nat → Option Ann) {f : FuncId} {fn : Func} (hf : P.funcs[f]? = some fn) (hn : (fn.name == "runtime.NumGoroutine") = false) (hb : fn.body = some (fn.body.getD .skip)) {args : List AV} (hlen : args.length ≤ 500) {ans : Ans}
    (h : evalBody P O L (fn.body.getD .skip) fn.results.toList fn.ntmps args (okAns ans)) (hfr : Nat.ble (freshs ans.res).length 1 = true := by rfl) : DoesX P f args ans :=
  does_of_evalT5 hf hn hb hlen (evalCode_EvT hO hm L 500 _) h hfr
def toVals : List AV → Option (List Value)
  | [] => some []
  | .x (.c (.v x)) :: l => match toVals l with | some m => some (x :: m) | none => none
  | .x (.agg c) :: l => match toVs c, toVals l with | some cs, some m => some (.agg cs.toArray :: m) | _, _ => none
  | _ :: _ => none
def ofV : Value → Option XV
  | .agg ⟨cs⟩ => if cs.all plainB then some (.agg (cs.map .v)) else none
  | v => if plainB v then some (.c (.v v)) else none
def ofVs : List Value → Option (List XV)
  | [] => some []
  | v :: l => match ofV v, ofVs l with | some x, some m => some (x :: m) | _, _ => none
def ofVal : Value → Option (List XV)
  | .tuple ⟨[v]⟩ => none
  | .tuple ⟨vs⟩ => ofVs vs
  | v => match ofV v with | some x => some [x] | none => none
def lift1 (s : List Value → Option (Value × List Bool)) (al : List AV) : Option Ans :=
  match toVals al with
  | some vs => match s vs with
    | some (v, b) => match ofVal v with
      | some res => some ⟨res, [], b.map (· = true)⟩
      | none => none
    | none => none
  | none => none
theorem map_v_rep {F : Nat → Prop} {w : World} : ∀ {l : List Value}, l.all plainB = true → Fa2 (Rep F w) (l.map CV.v) l
  | [], _ => trivial
  | x :: l, h => by
    simp only [List.all_cons, Bool.and_eq_true] at h
    exact ⟨.v h.1, map_v_rep h.2⟩
theorem ofV_conc {F : Nat → Prop} {w : World} {v : Value} {x : XV} (h : ofV v = some x) : ConcF F w x v := by
  unfold ofV at h
  split at h
  · rename_i cs
    split at h <;> try (simp at h; done)
    rename_i hc
    simp only [Option.some.injEq] at h
    subst h
    exact ⟨cs, rfl, map_v_rep hc⟩
  · split at h <;> try (simp at h; done)
    rename_i hc
    simp only [Option.some.injEq] at h
    subst h
    exact Rep.v hc
theorem ofVs_conc {F : Nat → Prop} {w : World} : ∀ {l : List Value} {m : List XV}, ofVs l = some m → Fa2 (ConcF F w) m l
  | [], m, h => by simp only [ofVs, Option.some.injEq] at h; subst h; trivial
  | v :: l, m, h => by
    unfold ofVs at h
    split at h <;> try (simp at h; done)
    rename_i x m' h1 h2
    simp only [Option.some.injEq] at h
    subst h
    exact ⟨ofV_conc h1, ofVs_conc h2⟩
theorem ofVal_conc {F : Nat → Prop} {w : World} {v : Value} {l : List XV} (h : ofVal v = some l) : ConcRes F w l v := by
  unfold ofVal at h
  split at h
  · simp at h
  · rename_i vs hne
    have := ofVs_conc (F := F) (w := w) h
    match l, vs, this with
    | [], [], _ => exact ⟨[], rfl, trivial⟩
    | [x], [y], _ => exact absurd rfl (hne y)
    | _ :: _ :: _, _ :: _ :: _, k => exact ⟨_, rfl, k⟩
  · split at h <;> try (simp at h; done)
    rename_i x hx
    simp only [Option.some.injEq] at h
    subst h
    exact ofV_conc hx
theorem reps_toVs {F : Nat → Prop} {w : World} {c : List CV} {ys xs : List Value} (h : toVs c = some xs) (k : Fa2 (Rep F w) c ys) : ys = xs :=
  toVs_conc (L := fun _ => True) (E := ⟨F, fun n => n, fun _ => undef⟩) (w := w) h (k.mono fun _ _ => ConcC.of_fz)
theorem toVals_conc {F : Nat → Prop} {w : World} : ∀ {al : List AV} {vs ys : List Value} {bs : List Nat}, toVals al = some vs → ConcArgs F w al ys bs → ys = vs ∧ bs = []
  | [], vs, [], bs, h, hA => by simp only [toVals, Option.some.injEq] at h; subst h; exact ⟨rfl, hA⟩
  | .x (.c (.v x)) :: l, vs, y :: ys, bs, h, hA => by
    unfold toVals at h
    split at h <;> try (simp at h; done)
    rename_i m hm
    simp only [Option.some.injEq] at h
    subst h
    obtain ⟨h1, h2⟩ := toVals_conc hm hA.2
    have : Rep F w (.v x) y := hA.1
    cases this
    exact ⟨by rw [h1], h2⟩
  | .x (.agg c) :: l, vs, y :: ys, bs, h, hA => by
    unfold toVals at h
    split at h <;> try (simp at h; done)
    rename_i cs m hc hm
    simp only [Option.some.injEq] at h
    subst h
    obtain ⟨h1, h2⟩ := toVals_conc hm hA.2
    obtain ⟨zs, rfl, hz⟩ := hA.1
    exact ⟨by rw [h1, reps_toVs hc hz], h2⟩
  | .x (.c (.slc _ _ _)) :: _, _, _, _, h, _ => by simp [toVals] at h
  | .x (.c (.own _ _)) :: _, _, _, _, h, _ => by simp [toVals] at h
  | .x (.c (.ptr _ _)) :: _, _, _, _, h, _ => by simp [toVals] at h
  | .x (.c (.fn _ _)) :: _, _, _, _, h, _ => by simp [toVals] at h
  | .x (.c (.fresh _ _ _)) :: _, _, _, _, h, _ => by simp [toVals] at h
  | .x (.c (.clo _ _)) :: _, _, _, _, h, _ => by simp [toVals] at h
  | .ref _ _ :: _, _, _, _, h, _ => by simp [toVals] at h
  | [], _, _ :: _, _, _, hA => hA.elim
  | .x (.c (.v _)) :: _, _, [], _, _, hA => hA.elim
  | .x (.agg _) :: _, _, [], _, _, hA => hA.elim
theorem lift1_sound {f : Nat} {s : List Value → Option (Value × List Bool)} (h : AnswersP P f s) : AnswersX P f (lift1 s) := by
  intro al ans ha hq w F ys bs hG hF hA
  unfold lift1 at ha
  split at ha <;> try (simp at ha; done)
  rename_i vs hvs
  split at ha <;> try (simp at ha; done)
  rename_i v b hs
  split at ha <;> try (simp at ha; done)
  rename_i res hres
  simp only [Option.some.injEq] at ha
  subst ha
  obtain ⟨rfl, rfl⟩ := toVals_conc hvs hA
  have post : ∀ w', Below w.heap.size w w' → Post F w [] ⟨res, [], b.map (· = true)⟩ v w' := fun w' hb =>
    ⟨⟨hb.os, hb.tape, hb.output, hb.size, fun k hk _ => hb.block k hk⟩, F, none, fun _ h => h, fun k hk => ⟨Nat.lt_of_lt_of_le (hF k hk) hb.size, Or.inl hk⟩, ConcOut.of (ofVal_conc hres), trivial⟩
  rcases h ys v b hs (conjL_iff.2 ⟨fun c hc => hq _ (List.mem_map.2 ⟨c, hc, rfl⟩), trivial⟩) w with ⟨w', r, hb⟩ | ⟨r, C⟩
  · exact Or.inl ⟨v, w', r, post w' hb⟩
  · refine Or.inr ⟨r, Calls.mono C ?_⟩
    rintro e w' ⟨rfl, hb⟩
    exact ⟨v, rfl, post w' hb⟩
end
end Go.Proofs.Ytdpmigbenkndbaa.QR
namespace Go.Proofs.Ytdpmigbenkndbaa
open Go.RowKit PR QR
set_option linter.unusedVariables false
def Answers2 (f : Nat) (s : List AV → Option QR.Ans) : Prop := QR.AnswersX Try.prog f s
theorem up {f : Nat} {s : List Value → Option (Value × List Bool)} (h : Answers f s) : Answers2 f (lift1 s) := lift1_sound h
def Asked : List Prop → Prop
  | [] => True
  | p :: l => p ∧ Asked l
theorem asked : ∀ {l : List Prop}, (∀ q ∈ l, q) → Asked l
  | [], _ => trivial
  | p :: l, h => ⟨h p (by simp), asked fun q hq => h q (by simp [hq])⟩
theorem args_of_vals {F : Nat → Prop} {w : World} : ∀ {vs : List Value} {xs : List XV}, ofVs vs = some xs → ConcArgs F w (xs.map AV.x) vs []
  | [], xs, h => by simp only [ofVs, Option.some.injEq] at h; subst h; rfl
  | v :: vs, xs, h => by
    unfold ofVs at h
    split at h <;> try (simp at h; done)
    rename_i x m h1 h2
    simp only [Option.some.injEq] at h
    subst h
    exact ⟨ofV_conc h1, args_of_vals h2⟩
theorem law_of_eval {O : QR.Oracle} (hO : QR.OSound Try.prog O) (hm : Try.prog.follows .mixedOrders = true) (L : Nat → Option QR.Ann) {f : FuncId} {fn : Func} (hf : Try.prog.funcs[f]? = some fn) (hb : fn.body = some (fn.body.getD .skip)) {vs : List Value} {xs : List XV} {args : List AV} (hv : ofVs vs = some xs) (ha : args = xs.map AV.x) (hl : args.length ≤ 500)
    (h : QR.evalBody Try.prog O L (fn.body.getD .skip) fn.results.toList fn.ntmps args (okAns ⟨[.c (.v (.bool true))], [], []⟩)) (w : World) {F : Nat → Prop} (hG : Laid F w) (hF : ∀ k, F k → k < w.heap.size) :
    Calls Try.prog f vs.toArray w fun e w' => e = .returned (.bool true) ∧ Below w.heap.size w w' := by
  subst ha
  refine (QR.evalBody_sound hO hm hf hb hl h hG hF (args_of_vals hv)).mono ?_
  rintro e w' ⟨v, rfl, res, upd, ⟨h1, h2⟩, hl, hk, F', f', f1, f2, fb, f3, f4⟩
  have : v = .bool true := by
    rcases eqXs_out h1 hl (by decide) f3 with ⟨g, _⟩ | g
    · have g : Rep _ w' (.v (.bool true)) v := g
      cases g; rfl
    · have g : Rep _ w' (.v (.bool true)) v := g
      cases g; rfl
  subst this
  exact ⟨rfl, ⟨hk.os, hk.tape, hk.output, hk.size, fun k hk' => hk.block k hk' (by simp)⟩⟩
theorem no_tables (hg : ∀ m, gtab m = none) (w : World) : Laid (fun _ => False) w := fun m l h => by rw [hg m] at h; simp at h
end Go.Proofs.Ytdpmigbenkndbaa
namespace Go.Proofs.Ytdpmigbenkndbaa
open Go.RowKit PR QR
set_option linter.unusedVariables false
end Go.Proofs.Ytdpmigbenkndbaa
