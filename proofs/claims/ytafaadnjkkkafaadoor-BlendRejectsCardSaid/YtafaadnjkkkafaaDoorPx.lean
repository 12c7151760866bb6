/-
  The pure way of running a whole function: its call answers what its condition says.
-/
import Derived.Test.YtafaadnjkkkafaaDoorPw
namespace Go.Proofs.YtafaadnjkkkafaaDoor.PR
open Go.RowKit
set_option linter.unusedVariables false
set_option linter.unusedSimpArgs false

def resultOf (P : Program) (s : PSt) : ResultVar → Option Value
  | .tmp t => match s.tmps.getD t (gnow undef) with
    | ⟨true, v⟩ => if plainC v then some v else none
    | _ => none
  | .cell t ty => match s.tmps.getD t (gnow undef) with
    | ⟨true, .pointer (some ⟨n, off, none⟩)⟩ => match s.mem n with
      | some cells =>
        if isAggT P ty then
          if off + sizeT P ty ≤ cells.length && (P.info? ty).isSome then some (.agg ((cells.drop off).take (sizeT P ty)).toArray) else none
        else match cells[off]? with
          | some v => if (P.underlying ty).isSome && plainA v then some v else none
          | none => none
      | none => none
    | _ => none

def resultsOf (P : Program) (s : PSt) : List ResultVar → Option (List Value)
  | [] => some []
  | r :: rs => match resultOf P s r with
    | none => none
    | some v => match resultsOf P s rs with
      | none => none
      | some vs => some (v :: vs)

def noLoops : Nat → Option Ann := fun _ => none
/-- what a function's end asks: everything that was asked for on the way, and V of the value -/
def atEnd (P : Program) (rs : List ResultVar) (V : Value → Prop) (s : PSt) : Prop :=
  match resultsOf P s rs with
  | some [v] => s.ok ∧ V v
  | some vs => s.ok ∧ V (.tuple vs.toArray)
  | none => False

def entry (n : Nat) (args : List Value) : PSt := ⟨args.map gnow ++ List.replicate (n - args.length) (gnow undef), fun _ => none, True, []⟩

/-- THE CONDITION of a call -/
def evalBody (P : Program) (O : Oracle) (L : Nat → Option Ann) (c : Code) (rs : List ResultVar) (n : Nat) (args : List Value) (V : Value → Prop) : Prop :=
  evalCode P O L c (fun e s => match e with | .normal => atEnd P rs V s | .ret => atEnd P rs V s | .exit _ => False) (entry n args)

section
variable {P : Program} {O : Oracle} {base : Nat} {β : Nat → Nat} {s : PSt} {a : Act} {w : World}

theorem slot_val (R : Rel base β s a w) (t : Tmp) (hk : (s.tmps.getD t (gnow undef)).k = true) : a.tmps.getD t undef = conc β (s.tmps.getD t (gnow undef)).v :=
  (R.eval (.tmp t) hk).1

theorem resultOf_sound (R : Rel base β s a w) {r : ResultVar} {v : Value} (h : resultOf P s r = some v) :
    (match r with | .tmp t => (pure (a.tmps.getD t undef) : Sem Value) | .cell x t => (do loadVar t (← asAddr (a.tmps.getD x undef)) : Sem Value)).run P w = .ok v w := by
  cases r with
  | tmp t =>
    simp only [resultOf] at h
    split at h <;> try (simp at h; done)
    rename_i u hg
    split at h <;> try (simp at h; done)
    rename_i hp
    simp only [Option.some.injEq] at h
    subst h
    have := slot_val R t (by rw [hg])
    rw [hg] at this
    rw [conc_plainC hp] at this
    simp only [this, Sem.run_pure]
  | cell x t =>
    simp only [resultOf] at h
    split at h <;> try (simp at h; done)
    rename_i n off hp
    split at h <;> try (simp at h; done)
    rename_i cells hm
    obtain ⟨e, hg⟩ := (R.mem n cells hm).2
    have fin : a.tmps.getD x undef = .pointer (some ⟨β n, off, none⟩) := by
      have := slot_val R x (by rw [hp])
      rw [hp] at this; exact this
    split at h
    · rename_i hag
      split at h <;> try (simp at h; done)
      rename_i hl
      simp only [Option.some.injEq] at h
      subst h
      simp only [Bool.and_eq_true, decide_eq_true_eq] at hl
      have := run_load_part (P := P) (β n) off _ t cells hg hag hl.1 hl.2
      simp only [Instr.loadAt, Instr.sureAddr, Sem.run_bind, Sem.run_pure, Result.andThen_ok] at this
      simp only [fin, asAddr, Sem.run_bind, Sem.run_pure, Result.andThen_ok, this]
    · rename_i hag
      split at h <;> try (simp at h; done)
      rename_i u hu
      split at h <;> try (simp at h; done)
      rename_i hc
      simp only [Option.some.injEq] at h
      subst h
      simp only [Bool.and_eq_true] at hc
      have := run_load_cell (P := P) (β n) off _ t cells u hg (by simpa using hag) hc.1 hu
      simp only [Instr.loadAt, Instr.sureAddr, Sem.run_bind, Sem.run_pure, Result.andThen_ok] at this
      simp only [fin, asAddr, Sem.run_bind, Sem.run_pure, Result.andThen_ok, this]

theorem resultsOf_sound (R : Rel base β s a w) : ∀ {rs : List ResultVar} {vs : List Value}, resultsOf P s rs = some vs →
    (rs.mapM (m := Sem) fun r => match r with | .tmp t => pure (a.tmps.getD t undef) | .cell x t => do loadVar t (← asAddr (a.tmps.getD x undef))).run P w = .ok vs w
  | [], vs, h => by simp [resultsOf] at h; subst h; rfl
  | r :: rs, vs, h => by
    unfold resultsOf at h
    split at h <;> try (simp at h; done)
    rename_i v h1
    split at h <;> try (simp at h; done)
    rename_i vs1 h2
    simp only [Option.some.injEq] at h
    subst h
    rw [List.mapM_cons]
    simp only [Sem.run_bind, resultOf_sound R h1, Result.andThen_ok, resultsOf_sound R h2, Sem.run_pure]

theorem results_run (R : Rel base β s a w) {fn : Func} {vs : List Value} (h : resultsOf P s fn.results.toList = some vs) :
    (results fn a.tmps).run P w = .ok (if h : vs.length = 1 then vs[0] else .tuple vs.toArray) w := by
  have := resultsOf_sound R h
  unfold results
  rw [Sem.run_bind]
  rw [Array.mapM_eq_mapM_toList]
  rw [Sem.run_map]
  erw [this]
  simp

theorem atEnd_sound (R : Rel base β s a w) (w0 : World) (hbel : Below w0.heap.size w0 w) {fn : Func} {V : Value → Prop} (h : atEnd P fn.results.toList V s) :
    a.defers = [] ∧ ∃ v, (results fn a.tmps).run P w = .ok v w ∧ (∃ u, V u ∧ Ending.returned v = .returned u) ∧ Below w0.heap.size w0 w := by
  refine ⟨R.defers, ?_⟩
  unfold atEnd at h
  split at h
  · rename_i v hr
    exact ⟨v, by rw [results_run R hr]; rfl, ⟨v, h.2, rfl⟩, hbel⟩
  · rename_i vs hne hr
    refine ⟨.tuple vs.toArray, ?_, ⟨_, h.2, rfl⟩, hbel⟩
    rw [results_run R hr]
    have : ¬ vs.length = 1 := by
      intro e
      match vs, e with
      | [v], _ => exact hne v rfl
    rw [dif_neg this]
  · exact h.elim

theorem evalBody_sound (hO : OSound P O) (hm : P.follows .mixedOrders = true) {L : Nat → Option Ann} {f : FuncId} {fn : Func} {c : Code} (hf : P.funcs[f]? = some fn) (hb : fn.body = some c) {args : List Value} (hp : args.all plainC = true) {V : Value → Prop}
    (h : evalBody P O L c fn.results.toList fn.ntmps args V) (w : World) : Calls P f args.toArray w fun e w' => (∃ v, V v ∧ e = .returned v) ∧ Below w.heap.size w w' := by
  refine calls_of_wp hf hb ?_
  refine evalCode_sound (base := w.heap.size) (β := fun n => n) hO hm w (Nat.le_refl _) c _ _ (entry fn.ntmps args) _ w (fun e s he => ?_) (fun e s β a w' R hbel hsz he => ?_) ?_ (Below.refl _ _) (Nat.le_refl _) h
  · have at_ok : atEnd P fn.results.toList V s → s.ok := by
      intro h
      unfold atEnd at h
      split at h
      · exact h.1
      · exact h.1
      · exact h.elim
    cases e with
    | normal => exact at_ok he
    | ret => exact at_ok he
    | exit id => exact he.elim
  · have fin : atEnd P fn.results.toList V s → bodyPost P fn (fun e w'' => (∃ v, V v ∧ e = .returned v) ∧ Below w.heap.size w w'') .normal a w' := fun he => by
      obtain ⟨h1, v, h2, ⟨u, h3, h4⟩, h5⟩ := atEnd_sound R w hbel he
      exact ⟨h1, v, h2, ⟨u, h3, h4⟩, h5⟩
    cases e with
    | normal => exact fin he
    | ret => exact fin he
    | exit id => exact he.elim
  · refine ⟨rfl, by simp [entry], ?_, ?_, ?_, ?_⟩
    · intro t g hg hk
      simp only [entry, List.getElem?_append, List.length_map] at hg
      split at hg
      · rename_i hlt
        simp only [List.getElem?_map, Option.map_eq_some_iff] at hg
        obtain ⟨v, hv, rfl⟩ := hg
        have hpv := List.all_eq_true.1 hp v (List.mem_of_getElem? hv)
        simp only [gnow, conc_plainC hpv]
        rw [Array.getElem?_append_left (by simpa using hlt)]
        simpa using hv
      · rename_i hlt
        rw [List.getElem?_replicate] at hg
        split at hg <;> try (simp at hg; done)
        rename_i hl2
        simp only [Option.some.injEq] at hg
        subst hg
        simp only [gnow]
        rw [Array.getElem?_append_right (by simpa using hlt)]
        simp only [List.size_toArray, Array.getElem?_replicate, hl2, if_true]
        rfl
    · intro t g hg hk
      simp only [entry, List.getElem?_append, List.length_map] at hg
      split at hg
      · simp only [List.getElem?_map, Option.map_eq_some_iff] at hg
        obtain ⟨v, hv, rfl⟩ := hg
        exact wf_plainC (List.all_eq_true.1 hp v (List.mem_of_getElem? hv))
      · rw [List.getElem?_replicate] at hg
        split at hg <;> try (simp at hg; done)
        simp only [Option.some.injEq] at hg
        subst hg
        simp [gnow, undef, wfV]
    · intro n cells e; simp [entry] at e
    · intro n m e; simp [entry] at e

/-- f answers what s says -/
def AnswersP (P : Program) (f : Nat) (s : List Value → Option (Value × List Bool)) : Prop := ∀ args v bs, s args = some (v, bs) → conjL bs True → Does P f args.toArray v
theorem orc_nil : OSound P (orc []) := fun f args v bs h => by simp [orc] at h
theorem orc_cons {f : Nat} {g : List Value → Option (Value × List Bool)} {l : List (Nat × (List Value → Option (Value × List Bool)))} (h : AnswersP P f g) (k : OSound P (orc l)) : OSound P (orc ((f, g) :: l)) := by
  intro h' args v bs e hbs
  unfold orc at e
  by_cases hf : h' = f
  · subst hf
    simp only [Nat.beq_refl, cond_true] at e
    exact h args v bs e (conjL_iff.2 ⟨hbs, trivial⟩)
  · have : Nat.beq h' f = false := by
      cases hq : Nat.beq h' f
      · rfl
      · exact absurd (Nat.eq_of_beq_eq_true hq) hf
    simp only [this, cond_false] at e
    exact k h' args v bs e hbs

theorem call_enter {f : FuncId} {fn : Func} {c : Code} (hf : P.funcs[f]? = some fn) (hname : (fn.name == "runtime.NumGoroutine") = false) (hb : fn.body = some c) (args : Array Value) (w : World) :
    (callFunc f args).run P w = .ok (.enter f args) w := by
  have h1 : fn.name ≠ "runtime.NumGoroutine" := by simpa using hname
  simp [callFunc, hf, h1, hb]

theorem does_of_eval (hO : OSound P O) (hm : P.follows .mixedOrders = true) (L : Nat → Option Ann) {f : FuncId} {fn : Func} (hf : P.funcs[f]? = some fn) (hn : (fn.name == "runtime.NumGoroutine") = false) (hb : fn.body = some (fn.body.getD .skip)) {args : List Value} (hp : args.all plainC = true) {v : Value}
    (h : evalBody P O L (fn.body.getD .skip) fn.results.toList fn.ntmps args (fun u => u = v)) : Does P f args.toArray v := by
  intro w
  refine Or.inr ⟨call_enter hf hn hb _ w, (evalBody_sound hO hm hf hb hp h w).mono ?_⟩
  rintro e w' ⟨⟨u, rfl, rfl⟩, hbel⟩
  exact ⟨rfl, hbel⟩

theorem does_of_calls {f : FuncId} {fn : Func} (hf : P.funcs[f]? = some fn) (hn : (fn.name == "runtime.NumGoroutine") = false) (hb : fn.body = some (fn.body.getD .skip)) {args : Array Value} {v : Value}
    (h : ∀ w, Calls P f args w fun e w' => e = .returned v ∧ Below w.heap.size w w') : Does P f args v :=
  fun w => Or.inr ⟨call_enter hf hn hb _ w, h w⟩

/-- a law that returns true -/
theorem calls_of_eval (hO : OSound P O) (hm : P.follows .mixedOrders = true) (L : Nat → Option Ann) {f : FuncId} {fn : Func} (hf : P.funcs[f]? = some fn) (hb : fn.body = some (fn.body.getD .skip)) {args : List Value} (hp : args.all plainC = true) {v : Value}
    (h : evalBody P O L (fn.body.getD .skip) fn.results.toList fn.ntmps args (fun u => u = v)) (w : World) : Calls P f args.toArray w fun e w' => e = .returned v ∧ Below w.heap.size w w' :=
  (evalBody_sound hO hm hf hb hp h w).mono fun e w' ⟨⟨u, hu, he⟩, hbel⟩ => ⟨by rw [he, hu], hbel⟩
end
end Go.Proofs.YtafaadnjkkkafaaDoor.PR
