/-
  The second edition of the pure way: calls.
-/
import Derived.Test.YtafaadnjkkkafaaDoorQs
namespace Go.Proofs.YtafaadnjkkkafaaDoor.QR
open Go.RowKit PR
set_option linter.unusedVariables false
set_option linter.unusedSimpArgs false

def ConcF (F : Nat → Prop) (w : World) : XV → Value → Prop
  | .c x, y => Rep F w x y
  | .agg l, y => ∃ ys : List Value, y = .agg ys.toArray ∧ Fa2 (Rep F w) l ys
def BlockIs (F : Nat → Prop) (w : World) (b : Nat) (l : List CV) : Prop := ∃ arr t, w.heap[b]? = some (.cells arr t (0, 0)) ∧ Fa2 (Rep F w) l arr.toList
def ConcArgs (F : Nat → Prop) (w : World) : List AV → List Value → List Nat → Prop
  | [], [], bs => bs = []
  | .x v :: l, y :: ys, bs => ConcF F w v y ∧ ConcArgs F w l ys bs
  | .ref off c :: l, y :: ys, b :: bs => y = .pointer (some ⟨b, off, none⟩) ∧ ¬ F b ∧ b ∉ bs ∧ BlockIs F w b c ∧ ConcArgs F w l ys bs
  | _, _, _ => False
def ConcRes (F : Nat → Prop) (w : World) : List XV → Value → Prop
  | [v], y => ConcF F w v y
  | l, y => ∃ ys : List Value, y = .tuple ys.toArray ∧ Fa2 (ConcF F w) l ys
def Refs (F : Nat → Prop) (w : World) : List Nat → List (List CV) → Prop
  | [], [] => True
  | b :: bs, c :: cs => BlockIs F w b c ∧ Refs F w bs cs
  | _, _ => False
def Post (F : Nat → Prop) (w : World) (bs : List Nat) (ans : Ans) (v : Value) (w' : World) : Prop :=
  Keep w.heap.size (· ∈ bs) w w' ∧ ∃ F' : Nat → Prop, (∀ k, F k → F' k) ∧ (∀ k, F' k → k < w'.heap.size ∧ (F k ∨ w.heap.size ≤ k)) ∧ ConcRes F' w' ans.res v ∧ Refs F' w' bs ans.upd
/-- a call of f with these arguments answers ans -/
def DoesX (P : Program) (f : FuncId) (al : List AV) (ans : Ans) : Prop :=
  ∀ (w : World) (F : Nat → Prop) (ys : List Value) (bs : List Nat), Laid F w → (∀ k, F k → k < w.heap.size) → ConcArgs F w al ys bs →
    (∃ v w', (callFunc f ys.toArray).run P w = .ok (.value v) w' ∧ Post F w bs ans v w') ∨
    ((callFunc f ys.toArray).run P w = .ok (.enter f ys.toArray) w ∧ Calls P f ys.toArray w fun e w' => ∃ v, e = .returned v ∧ Post F w bs ans v w')
def OSound (P : Program) (O : Oracle) : Prop := ∀ f al ans, O f al = some ans → (∀ p ∈ ans.ask, p) → DoesX P f al ans

theorem ConcF.mono {F F' : Nat → Prop} {w w' : World} (hF : ∀ k, F k → F' k) (hw : ∀ k, F k → w'.heap[k]? = w.heap[k]?) {x : XV} {y : Value} (h : ConcF F w x y) : ConcF F' w' x y := by
  cases x with
  | c x => exact Rep.mono hF hw h
  | agg l => obtain ⟨ys, e, h⟩ := h; exact ⟨ys, e, h.mono fun _ _ => Rep.mono hF hw⟩
theorem ConcC.of_fz {L : Nat → Prop} {E : Env} {w : World} {c : CV} {y : Value} (h : Rep E.F w c y) : ConcC L E w c y := by
  cases c with
  | v x => exact h
  | slc z n r => exact h
  | own m n => cases h
  | ptr m off => cases h
  | fn f caps => cases h
theorem ConcX.of_fz {L : Nat → Prop} {E : Env} {w : World} {c : XV} {y : Value} (h : ConcF E.F w c y) : ConcX L E w c y := by
  cases c with
  | c x => exact ConcC.of_fz h
  | agg l => obtain ⟨ys, e, h⟩ := h; exact ⟨ys, e, h.mono fun _ _ => ConcC.of_fz⟩
theorem ConcS.of_res {L : Nat → Prop} {E : Env} {w : World} {l : List XV} {y : Value} (h : ConcRes E.F w l y) : ConcS L E w (resS l) y := by
  match l, h with
  | [v], h => exact ConcX.of_fz h
  | [], ⟨ys, e, h⟩ => exact ⟨ys, e, h.mono fun _ _ => ConcX.of_fz⟩
  | _ :: _ :: _, ⟨ys, e, h⟩ => exact ⟨ys, e, h.mono fun _ _ => ConcX.of_fz⟩
/-- what holds no address stays, whatever is frozen -/
theorem Rep.flat {F F' : Nat → Prop} {w w' : World} {c : CV} {y : Value} (hc : isV c = true) (h : Rep F w c y) : Rep F' w' c y := by
  cases h with
  | v h => exact .v h
  | nil _ _ => simp [isV] at hc
  | slc _ _ _ _ _ _ _ => simp [isV] at hc
theorem ConcF.flat {F F' : Nat → Prop} {w w' : World} {x : XV} {y : Value} (hx : (cellsOf x).all isV = true) (h : ConcF F w x y) : ConcF F' w' x y := by
  cases x with
  | c x => simp only [cellsOf, List.all_cons, List.all_nil, Bool.and_true] at hx; exact Rep.flat hx h
  | agg l =>
    obtain ⟨ys, e, h⟩ := h
    exact ⟨ys, e, Fa2.monoM (fun c hc y => Rep.flat (List.all_eq_true.1 hx c hc)) h⟩
theorem ConcRes.flat {F F' : Nat → Prop} {w w' : World} {l : List XV} {y : Value} (hx : allV l = true) (h : ConcRes F w l y) : ConcRes F' w' l y := by
  have hx : ∀ x ∈ l, (cellsOf x).all isV = true := List.all_eq_true.1 hx
  match l, h with
  | [v], h => exact ConcF.flat (hx v (by simp)) h
  | [], ⟨ys, e, h⟩ => exact ⟨ys, e, Fa2.monoM (fun c hc y => ConcF.flat (hx c hc)) h⟩
  | _ :: _ :: _, ⟨ys, e, h⟩ => exact ⟨ys, e, Fa2.monoM (fun c hc y => ConcF.flat (hx c hc)) h⟩

section
variable {P : Program} {O : Oracle} {base : Nat} {X F0 : Nat → Prop} {B : Nat → Nat} {E : Env} {s : PSt} {a : Act} {w : World}

/-- what a row of one's own stands for, once it is frozen -/
theorem own_rep {m z : Nat} {n : Int} {r : Row} (h : BlkOK base X (live s) E w m (.row z n r)) {F' : Nat → Prop} (hF : ∀ k, E.F k → F' k) (hk : ∀ k, (E.ν m).ownBlock = some k → F' k) : Rep F' w (.slc z n r) (E.ν m) := by
  obtain ⟨h0, hz, _, e, xs, ho, hr⟩ := h
  obtain ⟨k, rfl⟩ := Int.eq_ofNat_of_zero_le h0
  rcases ho.2 with ⟨hv, hn⟩ | ⟨g, cap, cur, hv, _, hg, hnc, _, hcs, htake⟩
  · have : k = 0 := by simpa using hn
    subst this
    rw [hv]; exact .nil hz (fun _ => rfl)
  · have hv' : E.ν m = .slice (some ⟨g, 0, none⟩) k cap := by rw [hv]; simp
    rw [hv']
    have hgF : F' g := hk g (by rw [hv]; rfl)
    refine .slc (fun i j => (xs[i * z + j]?).getD undef) hz (by simpa using hnc) hgF hg (fun i j hi hj => ?_) (fun i j hi hj => ?_)
    · obtain ⟨u, e1, _⟩ := hr i j (by omega) hj
      rw [e1, Option.getD_some, Nat.zero_add, ← Array.getElem?_toList]
      rw [← htake, List.getElem?_take] at e1
      split at e1
      · exact e1
      · simp at e1
    · obtain ⟨u, e1, e2⟩ := hr i j (by omega) hj
      rw [e1, Option.getD_some]
      exact e2.mono hF (fun _ _ => rfl)

/-- what may be looked at by a call: what is frozen, and the named rows -/
def callF (E : Env) (s : PSt) (rows : List Nat) (k : Nat) : Prop := E.F k ∨ ∃ m ∈ rows, ∃ z n r, s.mem m = some (.row z n r) ∧ (E.ν m).ownBlock = some k

theorem resC_sound (R : RelE base X F0 B E s a w) {c d : CV} {ms rows : List Nat} {y : Value} (h : resC s c = some (d, ms)) (hm : ∀ m ∈ ms, m ∈ rows) (hc : ConcC (live s) E w c y) : Rep (callF E s rows) w d y := by
  unfold resC at h
  split at h
  · rename_i m n
    split at h <;> try (simp at h; done)
    rename_i z k r hrow
    simp only [Option.some.injEq, Prod.mk.injEq] at h
    obtain ⟨rfl, rfl⟩ := h
    rw [hc.2.1]
    unfold rowOf at hrow
    split at hrow <;> try (simp at hrow; done)
    · rename_i z' n' r' hmem
      simp only [Option.some.injEq, Prod.mk.injEq] at hrow
      obtain ⟨rfl, rfl, rfl⟩ := hrow
      exact own_rep (R.mem m _ hmem).2 (fun k hk => Or.inl hk) fun k hk => Or.inr ⟨m, hm m (by simp), _, _, _, hmem, hk⟩
    · rename_i z' n' r' hmem
      simp only [Option.some.injEq, Prod.mk.injEq] at hrow
      obtain ⟨rfl, rfl, rfl⟩ := hrow
      have := (R.mem m _ hmem).2
      exact Rep.mono (fun k hk => Or.inl hk) (fun _ _ => rfl) this
  · simp at h
  · simp at h
  · simp only [Option.some.injEq, Prod.mk.injEq] at h
    obtain ⟨rfl, rfl⟩ := h
    cases c with
    | v x => exact Rep.mono (fun k hk => Or.inl hk) (fun _ _ => rfl) hc
    | slc z n r => exact Rep.mono (fun k hk => Or.inl hk) (fun _ _ => rfl) hc
    | own m n => simp_all
    | ptr m off => simp_all
    | fn f caps => simp_all
theorem resL_sound (R : RelE base X F0 B E s a w) {rows : List Nat} : ∀ {l d : List CV} {ms : List Nat} {ys : List Value}, resL s l = some (d, ms) → (∀ m ∈ ms, m ∈ rows) → Fa2 (ConcC (live s) E w) l ys → Fa2 (Rep (callF E s rows) w) d ys
  | [], d, ms, ys, h, _, hc => by
    simp only [resL, Option.some.injEq, Prod.mk.injEq] at h
    obtain ⟨rfl, rfl⟩ := h
    cases ys with
    | nil => trivial
    | cons => exact hc.elim
  | c :: l, d, ms, ys, h, hm, hc => by
    unfold resL at h
    split at h <;> try (simp at h; done)
    rename_i d1 a1 d2 a2 h1 h2
    simp only [Option.some.injEq, Prod.mk.injEq] at h
    obtain ⟨rfl, rfl⟩ := h
    cases ys with
    | nil => exact hc.elim
    | cons y ys => exact ⟨resC_sound R h1 (fun m hh => hm m (by simp [hh])) hc.1, resL_sound R h2 (fun m hh => hm m (by simp [hh])) hc.2⟩

theorem argsA_sound (R : RelE base X F0 B E s a w) {rows0 : List Nat} : ∀ {l : List SV} {al : List AV} {rows refs : List Nat} {ys : List Value}, argsA s l = some (al, rows, refs) → (∀ m ∈ rows, m ∈ rows0) → distinct refs = true → Fa2 (ConcS (live s) E w) l ys →
    ConcArgs (callF E s rows0) w al ys (refs.map E.β) ∧ ∀ m ∈ refs, ∃ l, s.mem m = some (.cells l)
  | [], al, rows, refs, ys, h, _, _, hc => by
    simp only [argsA, Option.some.injEq, Prod.mk.injEq] at h
    obtain ⟨rfl, rfl, rfl⟩ := h
    cases ys with
    | nil => exact ⟨rfl, by simp⟩
    | cons => exact hc.elim
  | v :: l, al, rows, refs, ys, h, hm, hd, hc => by
    unfold argsA at h
    split at h <;> try (simp at h; done)
    rename_i g al' rows' refs' h1 h2
    simp only [Option.some.injEq, Prod.mk.injEq] at h
    obtain ⟨rfl, rfl, rfl⟩ := h
    cases ys with
    | nil => exact hc.elim
    | cons y ys =>
    obtain ⟨c1, c2⟩ := hc
    have hd2 : distinct refs' = true := by
      clear h1
      generalize g.refs = q at hd
      induction q with
      | nil => simpa using hd
      | cons x q ih =>
        simp only [List.cons_append, distinct, Bool.and_eq_true] at hd
        exact ih hd.2
    obtain ⟨i1, i2⟩ := argsA_sound R h2 (fun m hh => hm m (by simp [hh])) hd2 c2
    have hmg : ∀ m ∈ g.rows, m ∈ rows0 := fun m hh => hm m (by simp [hh])
    unfold argA at h1
    split at h1
    · -- an address
      rename_i m off
      split at h1 <;> try (simp at h1; done)
      rename_i lc hmem
      split at h1 <;> try (simp at h1; done)
      rename_i k aa hres
      simp only [Option.some.injEq] at h1
      subst h1
      obtain ⟨b1, b2, b3, arr, t, b4, b5⟩ := R.mem m _ hmem
      have hy : y = .pointer (some ⟨E.β m, off, none⟩) := by
        have := c1.2
        rw [adr, if_neg (by omega)] at this
        exact this
      simp only [List.cons_append, List.nil_append, distinct, Bool.and_eq_true, Bool.not_eq_true', List.any_eq_false] at hd
      refine ⟨⟨hy, ?_, ?_, ⟨arr, t, b4, resL_sound R hres hmg b5⟩, i1⟩, ?_⟩
      · rintro (hF | ⟨m', hm', z, n, r, e1, e2⟩)
        · exact b3 hF
        · exact R.sep m m' _ _ hmem e1 (fun e => by subst e; rw [hmem] at e1; simp at e1) _ rfl e2
      · intro hin
        obtain ⟨m', hm', e⟩ := List.mem_map.1 hin
        obtain ⟨l', hl'⟩ := i2 m' hm'
        have hne : m ≠ m' := fun e => by
          have := hd.1 m' hm'
          rw [e, Nat.beq_refl] at this; simp at this
        exact R.sep m m' _ _ hmem hl' hne _ rfl (by simp [blockOf, e])
      · intro m' hm'
        rcases List.mem_cons.1 hm' with rfl | hm'
        · exact ⟨_, hmem⟩
        · exact i2 m' hm'
    · -- one cell
      rename_i c hnp
      split at h1 <;> try (simp at h1; done)
      rename_i d aa hres
      simp only [Option.some.injEq] at h1
      subst h1
      exact ⟨⟨resC_sound R hres hmg c1, i1⟩, i2⟩
    · -- cells
      rename_i lc
      split at h1 <;> try (simp at h1; done)
      rename_i d aa hres
      simp only [Option.some.injEq] at h1
      subst h1
      obtain ⟨zs, e, hz⟩ := c1
      exact ⟨⟨⟨zs, e, resL_sound R hres hmg hz⟩, i1⟩, i2⟩
    · simp at h1

theorem froze_spec {rows : List Nat} {u : List (Nat × Blk)} : ∀ {m : Nat} {b : Blk}, applyU s.mem (froze s rows ++ u) m = some b →
    (∃ z n r, s.mem m = some (.row z n r) ∧ m ∈ rows ∧ b = .fro z n r) ∨ (applyU s.mem u m = some b ∧ ∀ z n r, s.mem m = some (.row z n r) → m ∉ rows) := by
  induction rows with
  | nil => intro m b h; exact Or.inr ⟨h, by simp⟩
  | cons x rows ih =>
    intro m b h
    unfold froze at h
    split at h
    · rename_i z n r hx
      by_cases e : m = x
      · subst e
        rw [List.cons_append, applyU_self] at h
        simp only [Option.some.injEq] at h
        exact Or.inl ⟨z, n, r, hx, by simp, h.symm⟩
      · rw [List.cons_append, applyU_ne e] at h
        rcases ih h with ⟨z', n', r', h1, h2, h3⟩ | ⟨h1, h2⟩
        · exact Or.inl ⟨z', n', r', h1, by simp [h2], h3⟩
        · exact Or.inr ⟨h1, fun z' n' r' h3 h4 => by
            rcases List.mem_cons.1 h4 with h4 | h4
            · exact e h4
            · exact h2 z' n' r' h3 h4⟩
    · rename_i hx
      rcases ih h with ⟨z', n', r', h1, h2, h3⟩ | ⟨h1, h2⟩
      · exact Or.inl ⟨z', n', r', h1, by simp [h2], h3⟩
      · exact Or.inr ⟨h1, fun z' n' r' h3 h4 => by
          rcases List.mem_cons.1 h4 with h4 | h4
          · subst h4; exact hx _ _ _ h3
          · exact h2 z' n' r' h3 h4⟩

theorem zipU_spec {F' : Nat → Prop} {w' : World} : ∀ {refs : List Nat} {cs : List (List CV)} {u : List (Nat × Blk)} {m : Nat} {b : Blk}, zipU refs cs = some u → Refs F' w' (refs.map E.β) cs → applyU s.mem u m = some b →
    (m ∈ refs ∧ ∃ c, b = .cells c ∧ BlockIs F' w' (E.β m) c) ∨ (s.mem m = some b ∧ m ∉ refs)
  | [], [], u, m, b, h, _, hm => by
    simp only [zipU, Option.some.injEq] at h
    subst h
    exact Or.inr ⟨hm, by simp⟩
  | x :: refs, c :: cs, u, m, b, h, hr, hm => by
    unfold zipU at h
    split at h <;> try (simp at h; done)
    rename_i u' h1
    simp only [Option.some.injEq] at h
    subst h
    by_cases e : m = x
    · subst e
      rw [applyU_self] at hm
      simp only [Option.some.injEq] at hm
      exact Or.inl ⟨by simp, c, hm.symm, hr.1⟩
    · rw [applyU_ne e] at hm
      rcases zipU_spec h1 hr.2 hm with ⟨h2, h3⟩ | ⟨h2, h3⟩
      · exact Or.inl ⟨by simp [h2], h3⟩
      · exact Or.inr ⟨h2, by simp [e, h3]⟩
  | [], _ :: _, u, m, b, h, _, _ => by simp [zipU] at h
  | _ :: _, [], u, m, b, h, _, _ => by simp [zipU] at h

theorem conc_laid (R : RelE base X F0 B E s a w) (rows : List Nat) : Laid (callF E s rows) w := by
  intro m l e hm
  obtain ⟨h1, arr, t, h2, h3⟩ := R.glob m l e hm
  exact ⟨Or.inl h1, arr, t, h2, h3.mono fun _ _ => Rep.mono (fun k hk => Or.inl hk) (fun _ _ => rfl)⟩
theorem callF_lt (R : RelE base X F0 B E s a w) {rows : List Nat} {k : Nat} (h : callF E s rows k) : k < w.heap.size := by
  rcases h with h | ⟨m, _, z, n, r, h1, h2⟩
  · exact (R.frz k h).1
  · exact blockOf_lt (R.mem m _ h1).2 h2

/-- behind a call that was handed blocks, or whose answer holds slices -/
theorem RelE.called (R : RelE base X F0 B E s a w) (hb : base ≤ w.heap.size) {rows refs : List Nat} (hrefs : ∀ m ∈ refs, ∃ l, s.mem m = some (.cells l)) {ans : Ans} {v : Value} {w' : World} (hp : Post (callF E s rows) w (refs.map E.β) ans v w')
    {u : List (Nat × Blk)} (hu : zipU refs ans.upd = some u) (dst : Option Tmp) (p : Prop) (li : List Tmp) (gen : Nat) :
    (∃ E', RelE base X F0 B E' ⟨setTmp s.tmps dst (gnow (resS ans.res)), applyU s.mem (froze s rows ++ u), p, li, gen⟩ (a.put dst v) w') ∧ Keep base X w w' := by
  obtain ⟨hk, F', hF1, hF2, hres, hups⟩ := hp
  have refX : ∀ k ∈ refs.map E.β, (base ≤ k ∨ X k) ∧ ¬ callF E s rows k := by
    intro k hk
    obtain ⟨m, hm, rfl⟩ := List.mem_map.1 hk
    obtain ⟨l, hl⟩ := hrefs m hm
    obtain ⟨_, h1, h2, _⟩ := R.mem m _ hl
    refine ⟨h1, ?_⟩
    rintro (h | ⟨m', hm', z, n, r, e1, e2⟩)
    · exact h2 h
    · exact R.sep m m' _ _ hl e1 (fun e => by subst e; rw [hl] at e1; simp at e1) _ rfl e2
  have same : ∀ k, callF E s rows k → w'.heap[k]? = w.heap[k]? := fun k h => hk.block k (callF_lt R h) (fun hin => (refX k hin).2 h)
  let E' : Env := ⟨F', E.β, E.ν⟩
  have T : Later (live s) E E' w w' := ⟨fun k h => hF1 k (Or.inl h), fun k h => same k (Or.inl h), fun _ _ _ => rfl, fun _ _ _ => rfl⟩
  have hLL : ∀ m, live s m → live ⟨s.tmps, applyU s.mem (froze s rows ++ u), p, li, gen⟩ m := fun m hm => hm.elim (fun h => Or.inl (applyU_some h)) Or.inr
  have what : ∀ m b, applyU s.mem (froze s rows ++ u) m = some b → (∃ z n r, s.mem m = some (.row z n r) ∧ m ∈ rows ∧ b = .fro z n r) ∨ (∃ l c, s.mem m = some (.cells l) ∧ b = .cells c ∧ BlockIs F' w' (E.β m) c) ∨ (s.mem m = some b ∧ m ∉ refs ∧ ∀ z n r, s.mem m = some (.row z n r) → m ∉ rows) := by
    intro m b h
    rcases froze_spec h with h | ⟨h, h'⟩
    · exact Or.inl h
    · rcases zipU_spec hu hups h with ⟨h1, c, h2, h3⟩ | ⟨h1, h2⟩
      · obtain ⟨l, hl⟩ := hrefs m h1
        exact Or.inr (Or.inl ⟨l, c, hl, h2, h3⟩)
      · exact Or.inr (Or.inr ⟨h1, h2, h'⟩)
  have bo : ∀ m b, applyU s.mem (froze s rows ++ u) m = some b → ∃ b0, s.mem m = some b0 ∧ ∀ k, blockOf E' m b = some k → blockOf E m b0 = some k := by
    intro m b h
    rcases what m b h with ⟨z, n, r, h1, _, rfl⟩ | ⟨l, c, h1, rfl, _⟩ | ⟨h1, _, _⟩
    · exact ⟨_, h1, fun k hk => by simp [blockOf] at hk⟩
    · exact ⟨_, h1, fun k hk => hk⟩
    · exact ⟨_, h1, fun k hk => by cases b <;> exact hk⟩
  refine ⟨⟨E', R.go dst _ _ p li gen T (fun _ _ => rfl) (fun m h => applyU_some h) (fun _ => ConcS.of_res hres) ?_ ?_ (fun k h => ?_) hk.size (fun m hm h => by obtain ⟨b, hb⟩ := Option.isSome_iff_exists.1 h; obtain ⟨b0, e0, _⟩ := bo m b hb; rw [e0]; rfl)⟩, ⟨hk.os, hk.tape, hk.output, hk.size, fun k h hx => hk.block k (by omega) fun hin => ?_⟩⟩
  · intro m b h
    rcases what m b h with ⟨z, n, r, h1, h2, rfl⟩ | ⟨l, c, h1, rfl, h3⟩ | ⟨h1, h2, h3⟩
    · obtain ⟨k1, k2⟩ := R.mem m _ h1
      refine ⟨k1, ?_⟩
      have := own_rep k2 (F' := callF E s rows) (fun k hk => Or.inl hk) fun k hk => Or.inr ⟨m, h2, z, n, r, h1, hk⟩
      exact Rep.mono hF1 same this
    · obtain ⟨k1, k2, k3, arr, t, k4, k5⟩ := R.mem m _ h1
      obtain ⟨arr', t', h4, h5⟩ := h3
      refine ⟨k1, k2, fun hF => ?_, arr', t', h4, h5.mono fun _ _ => ConcC.of_fz⟩
      have lt : E.β m < w.heap.size := (Array.getElem?_eq_some_iff.1 k4).1
      rcases (hF2 _ hF).2 with (h | ⟨m', hm', z, n, r, e1, e2⟩) | h
      · exact k3 h
      · exact R.sep m m' _ _ h1 e1 (fun e => by subst e; rw [h1] at e1; simp at e1) _ rfl e2
      · have : E'.β m = E.β m := rfl
        omega
    · obtain ⟨k1, k2⟩ := R.mem m b h1
      refine ⟨k1, BlkOK.later T (fun _ _ => rfl) hLL (Or.inl (by rw [h1]; rfl)) k1 k2 fun k hk' => ⟨hk.block k (blockOf_lt k2 hk') fun hin => ?_, fun hF => ?_⟩⟩
      · obtain ⟨m', hm', e⟩ := List.mem_map.1 hin
        obtain ⟨l', hl'⟩ := hrefs m' hm'
        exact R.sep m m' _ _ h1 hl' (fun e => h2 (e ▸ hm')) k hk' (by simp [blockOf, e])
      · have lt := blockOf_lt k2 hk'
        rcases (hF2 _ hF).2 with (h | ⟨m', hm', z, n, r, e1, e2⟩) | h
        · exact blockOf_nF k2 hk' h
        · by_cases e : m = m'
          · subst e; exact h3 _ _ _ e1 hm'
          · exact R.sep m m' _ _ h1 e1 e k hk' e2
        · omega
  · intro m m' b b' h h' hne k hk1 hk2
    obtain ⟨b0, e0, f0⟩ := bo m b h
    obtain ⟨b1, e1, f1⟩ := bo m' b' h'
    exact R.sep m m' b0 b1 e0 e1 hne k (f0 k hk1) (f1 k hk2)
  · have := hF2 k h
    refine ⟨this.1, ?_⟩
    rcases this.2 with (h | ⟨m', hm', z, n, r, e1, e2⟩) | h
    · exact (R.frz k h).2
    · obtain ⟨_, _, _, _, e0, xs0, h4, _⟩ := R.mem m' _ e1
      exact Or.inr (h4.lt k e2).1
    · exact Or.inr (by omega)
  · rcases (refX k hin).1 with h1 | h1
    · omega
    · exact hx h1

/-- behind a call that was handed no block, and whose answer holds no slice -/
theorem RelE.called0 (R : RelE base X F0 B E s a w) (hb : base ≤ w.heap.size) {ans : Ans} {v : Value} {w' : World} {F : Nat → Prop} (hp : Post F w [] ans v w') (hv : allV ans.res = true) (dst : Option Tmp) (p : Prop) (li : List Tmp) (gen : Nat) :
    RelE base X F0 B E ⟨setTmp s.tmps dst (gnow (resS ans.res)), applyU s.mem [], p, li, gen⟩ (a.put dst v) w' ∧ Keep base X w w' := by
  obtain ⟨hk, F', hF1, hF2, hres, _⟩ := hp
  have same : ∀ k, k < w.heap.size → w'.heap[k]? = w.heap[k]? := fun k h => hk.block k h (by simp)
  have T : Later (live s) E E w w' := ⟨fun _ h => h, fun k h => same k (R.frz k h).1, fun _ _ _ => rfl, fun _ _ _ => rfl⟩
  refine ⟨R.go dst _ _ p li gen T (fun _ _ => rfl) (fun _ h => h) (fun _ => ConcS.of_res (ConcRes.flat hv hres)) (fun m b h => ?_) R.sep (fun k h => ?_) hk.size (fun _ _ h => h), ⟨hk.os, hk.tape, hk.output, hk.size, fun k h _ => same k (by omega)⟩⟩
  · obtain ⟨k1, k2⟩ := R.mem m b h
    have h : s.mem m = some b := h
    exact ⟨k1, BlkOK.later T (fun _ _ => rfl) (fun _ h => h) (Or.inl (by rw [h]; rfl)) k1 k2 fun k hk' => ⟨same k (blockOf_lt k2 hk'), blockOf_nF k2 hk'⟩⟩
  · have := R.frz k h
    exact ⟨Nat.lt_of_lt_of_le this.1 hk.size, this.2⟩
end
end Go.Proofs.YtafaadnjkkkafaaDoor.QR
