/-
  The second edition of the pure way: a whole function: its condition, and that it suffices.
-/
import Derived.Test.YtafaadnjkkkafaaDoorRb
namespace Go.Proofs.YtafaadnjkkkafaaDoor.QR
open Go.RowKit PR
set_option linter.unusedVariables false
set_option linter.unusedSimpArgs false

def resX (s : PSt) : XV → Option (XV × List Nat)
  | .c c => match resC s c with
    | some (d, ms) => some (.c d, ms)
    | none => none
  | .agg l => match resL s l with
    | some (d, ms) => some (.agg d, ms)
    | none => none
def resultOf (P : Program) (s : PSt) : ResultVar → Option (XV × List Nat)
  | .tmp t => match s.tmps.getD t (gnow (.tup [])) with
    | ⟨true, .x v⟩ => resX s v
    | _ => none
  | .cell t ty => match s.tmps.getD t (gnow (.tup [])) with
    | ⟨true, .x (.c (.ptr m off))⟩ => match memC s m with
      | some l => match partX P l ty off with
        | some v => resX s v
        | none => none
      | none => none
    | _ => none
def resultsOf (P : Program) (s : PSt) : List ResultVar → Option (List XV × List Nat)
  | [] => some ([], [])
  | r :: rs => match resultOf P s r, resultsOf P s rs with
    | some (v, a), some (vs, b) => some (v :: vs, a ++ b)
    | _, _ => none
def updsOf (s : PSt) : List Nat → Option (List (List CV) × List Nat)
  | [] => some ([], [])
  | m :: l => match s.mem m with
    | some (.cells c) => match resL s c, updsOf s l with
      | some (d, a), some (u, b) => some (d :: u, a ++ b)
      | _, _ => none
    | _ => none

def entrySlots : Nat → List AV → List GV
  | _, [] => []
  | k, .x v :: l => gnow (.x v) :: entrySlots k l
  | k, .ref off _ :: l => gnow (.x (.c (.ptr (PN + k) off))) :: entrySlots (k + 1) l
def entryMem : Nat → List AV → Nat → Option Blk
  | _, [] => fun _ => none
  | k, .x _ :: l => entryMem k l
  | k, .ref _ c :: l => fun m => bif Nat.beq m (PN + k) then some (.cells c) else entryMem (k + 1) l m
def refNames : Nat → List AV → List Nat
  | _, [] => []
  | k, .x _ :: l => refNames k l
  | k, .ref _ _ :: l => (PN + k) :: refNames (k + 1) l
def entry (n : Nat) (args : List AV) : PSt := ⟨entrySlots 0 args ++ List.replicate (n - args.length) (gnow (.tup [])), entryMem 0 args, True, [], 0⟩

/-- what a function's end asks: everything that was asked for on the way, and V of the results and of the blocks that were handed in -/
def atEnd (P : Program) (rs : List ResultVar) (names : List Nat) (V : List XV → List (List CV) → Prop) (s : PSt) : Prop :=
  match resultsOf P s rs, updsOf s names with
  | some (res, _), some (upd, _) => s.ok ∧ V res upd
  | _, _ => False
/-- THE CONDITION of a call -/
def evalBody (P : Program) (O : Oracle) (L : Nat → Option Ann) (c : Code) (rs : List ResultVar) (n : Nat) (args : List AV) (V : List XV → List (List CV) → Prop) : Prop :=
  evalCode P O L c (fun e s => match e with | .normal => atEnd P rs (refNames 0 args) V s | .ret => atEnd P rs (refNames 0 args) V s | .exit _ => False) (entry n args)

def eqL : List CV → List CV → Prop
  | [], [] => True
  | a :: l, b :: m => eqc a b ∧ eqL l m
  | _, _ => False
def eqX : XV → XV → Prop
  | .c a, .c b => eqc a b
  | .agg l, .agg m => eqL l m
  | _, _ => False
def eqXs : List XV → List XV → Prop
  | [], [] => True
  | a :: l, b :: m => eqX a b ∧ eqXs l m
  | _, _ => False
def eqUs : List (List CV) → List (List CV) → Prop
  | [], [] => True
  | a :: l, b :: m => eqL a b ∧ eqUs l m
  | _, _ => False

section
variable {F : Nat → Prop} {w : World}
theorem eqL_rep : ∀ {l m : List CV} {ys : List Value}, eqL l m → Fa2 (Rep F w) l ys → Fa2 (Rep F w) m ys
  | [], [], ys, _, h => h
  | a :: l, b :: m, [], _, h => h.elim
  | a :: l, b :: m, y :: ys, h, k => ⟨Rep.eq (eqc_eq h.1) k.1, eqL_rep h.2 k.2⟩
  | [], _ :: _, _, h, _ => h.elim
  | _ :: _, [], _, h, _ => h.elim
theorem eqX_conc {a b : XV} {y : Value} (h : eqX a b) (k : ConcF F w a y) : ConcF F w b y := by
  unfold eqX at h
  split at h
  · exact Rep.eq (eqc_eq h) k
  · obtain ⟨ys, e, k⟩ := k; exact ⟨ys, e, eqL_rep h k⟩
  · exact h.elim
theorem eqXs_conc : ∀ {l m : List XV} {ys : List Value}, eqXs l m → Fa2 (ConcF F w) l ys → Fa2 (ConcF F w) m ys
  | [], [], ys, _, h => h
  | a :: l, b :: m, [], _, h => h.elim
  | a :: l, b :: m, y :: ys, h, k => ⟨eqX_conc h.1 k.1, eqXs_conc h.2 k.2⟩
  | [], _ :: _, _, h, _ => h.elim
  | _ :: _, [], _, h, _ => h.elim
theorem eqXs_res {l m : List XV} {y : Value} (h : eqXs l m) (k : ConcRes F w l y) : ConcRes F w m y := by
  match l, m, h, k with
  | [], [], _, k => exact k
  | [a], [b], h, k => exact eqX_conc h.1 k
  | a :: a' :: l, b :: b' :: m, h, ⟨ys, e, k⟩ => exact ⟨ys, e, eqXs_conc h k⟩
theorem eqUs_refs : ∀ {bs : List Nat} {l m : List (List CV)}, eqUs l m → Refs F w bs l → Refs F w bs m
  | [], [], [], _, _ => trivial
  | b :: bs, a :: l, c :: m, h, k => by
    obtain ⟨⟨arr, t, k1, k2⟩, k3⟩ := k
    exact ⟨⟨arr, t, k1, eqL_rep h.1 k2⟩, eqUs_refs h.2 k3⟩
  | [], _ :: _, _, _, k => k.elim
  | _ :: _, [], _, _, k => k.elim
  | [], [], _ :: _, h, _ => h.elim
  | _ :: _, _ :: _, [], h, _ => h.elim
end

section
variable {P : Program} {O : Oracle} {base : Nat} {X F0 : Nat → Prop} {B : Nat → Nat} {E : Env} {s : PSt} {a : Act} {w : World}

theorem resX_sound (R : RelE base X F0 B E s a w) {x v : XV} {ms rows : List Nat} {y : Value} (h : resX s x = some (v, ms)) (hm : ∀ m ∈ ms, m ∈ rows) (hc : ConcX (live s) E w x y) : ConcF (callF E s rows) w v y := by
  unfold resX at h
  split at h
  · split at h <;> try (simp at h; done)
    rename_i hr
    simp only [Option.some.injEq, Prod.mk.injEq] at h
    obtain ⟨rfl, rfl⟩ := h
    exact resC_sound R hr hm hc
  · split at h <;> try (simp at h; done)
    rename_i hr
    simp only [Option.some.injEq, Prod.mk.injEq] at h
    obtain ⟨rfl, rfl⟩ := h
    obtain ⟨ys, e, hc⟩ := hc
    exact ⟨ys, e, resL_sound R hr hm hc⟩

theorem slot_val (R : RelE base X F0 B E s a w) (t : Tmp) {v : SV} (h : s.tmps.getD t (gnow (.tup [])) = ⟨true, v⟩) : ConcS (live s) E w v (a.tmps.getD t undef) := by
  have := R.eval (.tmp t) (by show (s.tmps.getD t (gnow (.tup []))).k = true; rw [h])
  have e : (operand s (.tmp t)).v = v := by show (s.tmps.getD t (gnow (.tup []))).v = v; rw [h]
  rw [e] at this; exact this

theorem resultOf_sound (R : RelE base X F0 B E s a w) {r : ResultVar} {v : XV} {ms rows : List Nat} (h : resultOf P s r = some (v, ms)) (hm : ∀ m ∈ ms, m ∈ rows) :
    ∃ y, (match r with | .tmp t => (pure (a.tmps.getD t undef) : Sem Value) | .cell x t => (do loadVar t (← asAddr (a.tmps.getD x undef)) : Sem Value)).run P w = .ok y w ∧ ConcF (callF E s rows) w v y := by
  cases r with
  | tmp t =>
    simp only [resultOf] at h
    split at h <;> try (simp at h; done)
    rename_i x hx
    exact ⟨_, by simp only [Sem.run_pure], resX_sound R h hm (slot_val R t hx)⟩
  | cell t ty =>
    simp only [resultOf] at h
    split at h <;> try (simp at h; done)
    rename_i m off hx
    split at h <;> try (simp at h; done)
    rename_i l hl
    split at h <;> try (simp at h; done)
    rename_i x hp
    have hv := slot_val R t hx
    obtain ⟨arr, el, h1, h2⟩ := block_mem R hl hv.1
    obtain ⟨y, e1, e2⟩ := load_part (P := P) h1 h2 hp
    refine ⟨y, ?_, resX_sound R h hm e2⟩
    simp only [Instr.loadAt, Instr.sureAddr, Sem.run_bind, Sem.run_pure, Result.andThen_ok] at e1
    simp only [cv_ptr hv, asAddr, Sem.run_bind, Sem.run_pure, Result.andThen_ok, e1]

theorem resultsOf_sound (R : RelE base X F0 B E s a w) {rows : List Nat} : ∀ {rs : List ResultVar} {vs : List XV} {ms : List Nat}, resultsOf P s rs = some (vs, ms) → (∀ m ∈ ms, m ∈ rows) →
    ∃ ys, (rs.mapM (m := Sem) fun r => match r with | .tmp t => pure (a.tmps.getD t undef) | .cell x t => do loadVar t (← asAddr (a.tmps.getD x undef))).run P w = .ok ys w ∧ Fa2 (ConcF (callF E s rows) w) vs ys
  | [], vs, ms, h, _ => by simp only [resultsOf, Option.some.injEq, Prod.mk.injEq] at h; obtain ⟨rfl, rfl⟩ := h; exact ⟨[], rfl, trivial⟩
  | r :: rs, vs, ms, h, hm => by
    unfold resultsOf at h
    split at h <;> try (simp at h; done)
    rename_i v1 a1 vs1 b1 h1 h2
    simp only [Option.some.injEq, Prod.mk.injEq] at h
    obtain ⟨rfl, rfl⟩ := h
    obtain ⟨y, e1, c1⟩ := resultOf_sound R h1 fun m hh => hm m (by simp [hh])
    obtain ⟨ys, e2, c2⟩ := resultsOf_sound R h2 fun m hh => hm m (by simp [hh])
    refine ⟨y :: ys, ?_, c1, c2⟩
    rw [List.mapM_cons]
    simp only [Sem.run_bind, e1, Result.andThen_ok, e2, Sem.run_pure]

theorem updsOf_sound (R : RelE base X F0 B E s a w) {rows : List Nat} : ∀ {names : List Nat} {u : List (List CV)} {ms : List Nat}, updsOf s names = some (u, ms) → (∀ m ∈ ms, m ∈ rows) → Refs (callF E s rows) w (names.map E.β) u ∧ ∀ m ∈ names, (s.mem m).isSome = true
  | [], u, ms, h, _ => by simp only [updsOf, Option.some.injEq, Prod.mk.injEq] at h; obtain ⟨rfl, rfl⟩ := h; exact ⟨trivial, by simp⟩
  | m :: l, u, ms, h, hm => by
    unfold updsOf at h
    split at h <;> try (simp at h; done)
    rename_i c hc
    split at h <;> try (simp at h; done)
    rename_i d a1 u1 b1 h1 h2
    simp only [Option.some.injEq, Prod.mk.injEq] at h
    obtain ⟨rfl, rfl⟩ := h
    obtain ⟨_, _, _, arr, t, k1, k2⟩ := R.mem m _ hc
    obtain ⟨i1, i2⟩ := updsOf_sound R h2 fun m hh => hm m (by simp [hh])
    refine ⟨⟨⟨arr, t, k1, resL_sound R h1 (fun m hh => hm m (by simp [hh])) k2⟩, i1⟩, fun k hk => ?_⟩
    rcases List.mem_cons.1 hk with rfl | hk
    · rw [hc]; rfl
    · exact i2 k hk

theorem results_run {fn : Func} {ys : List Value} (h : (fn.results.toList.mapM (m := Sem) fun r => match r with | .tmp t => pure (a.tmps.getD t undef) | .cell x t => do loadVar t (← asAddr (a.tmps.getD x undef))).run P w = .ok ys w) :
    (results fn a.tmps).run P w = .ok (if h : ys.length = 1 then ys[0] else .tuple ys.toArray) w := by
  unfold results
  rw [Sem.run_bind, Array.mapM_eq_mapM_toList, Sem.run_map]
  erw [h]
  simp
theorem conc_results {F : Nat → Prop} {vs : List XV} {ys : List Value} (h : Fa2 (ConcF F w) vs ys) : ConcRes F w vs (if h : ys.length = 1 then ys[0] else .tuple ys.toArray) := by
  match vs, ys, h with
  | [], [], h => exact ⟨[], rfl, trivial⟩
  | [v], [y], h => exact h.1
  | v :: v' :: vs, y :: y' :: ys, h =>
    have : ¬ (y :: y' :: ys).length = 1 := by simp
    rw [dif_neg this]
    exact ⟨_, rfl, h⟩
end

section
variable {P : Program} {O : Oracle}

theorem entry_len : ∀ (k : Nat) (args : List AV), (entrySlots k args).length = args.length
  | _, [] => rfl
  | k, .x v :: l => by simp [entrySlots, entry_len k l]
  | k, .ref off c :: l => by simp [entrySlots, entry_len (k + 1) l]
theorem args_len {F : Nat → Prop} {w : World} : ∀ {args : List AV} {ys : List Value} {bs : List Nat}, ConcArgs F w args ys bs → args.length = ys.length
  | [], [], _, _ => rfl
  | .x v :: l, y :: ys, bs, h => by simp [args_len h.2]
  | .ref off c :: l, y :: ys, b :: bs, h => by simp [args_len h.2.2.2.2]
  | [], _ :: _, _, h => h.elim
  | .x _ :: _, [], _, h => h.elim
  | .ref _ _ :: _, [], _, h => h.elim
  | .ref _ _ :: _, _ :: _, [], h => h.elim
theorem refs_len {F : Nat → Prop} {w : World} : ∀ {k : Nat} {args : List AV} {ys : List Value} {bs : List Nat}, ConcArgs F w args ys bs → refNames k args = (List.range' (PN + k) bs.length)
  | k, [], [], bs, h => by have h : bs = [] := h; subst h; rfl
  | k, .x v :: l, y :: ys, bs, h => refs_len (k := k) (args := l) h.2
  | k, .ref off c :: l, y :: ys, b :: bs, h => by
    simp only [refNames, List.length_cons, List.range'_succ, refs_len (k := k + 1) h.2.2.2.2, Nat.add_assoc]
  | _, [], _ :: _, _, h => h.elim
  | _, .x _ :: _, [], _, h => h.elim
  | _, .ref _ _ :: _, [], _, h => h.elim
  | _, .ref _ _ :: _, _ :: _, [], h => h.elim
theorem bs_le {F : Nat → Prop} {w : World} : ∀ {args : List AV} {ys : List Value} {bs : List Nat}, ConcArgs F w args ys bs → bs.length ≤ args.length ∧ ∀ b ∈ bs, b < w.heap.size ∧ ¬ F b
  | [], [], bs, h => by have h : bs = [] := h; subst h; simp
  | .x v :: l, y :: ys, bs, h => by have := bs_le h.2; exact ⟨by simp; omega, this.2⟩
  | .ref off c :: l, y :: ys, b :: bs, h => by
    have := bs_le h.2.2.2.2
    refine ⟨by simp; omega, fun x hx => ?_⟩
    rcases List.mem_cons.1 hx with rfl | hx
    · obtain ⟨arr, t, h1, _⟩ := h.2.2.2.1
      exact ⟨(Array.getElem?_eq_some_iff.1 h1).1, h.2.1⟩
    · exact this.2 x hx
  | [], _ :: _, _, h => h.elim
  | .x _ :: _, [], _, h => h.elim
  | .ref _ _ :: _, [], _, h => h.elim
  | .ref _ _ :: _, _ :: _, [], h => h.elim

theorem entry_slots {F : Nat → Prop} {w : World} {L : Nat → Prop} {E : Env} (hF : E.F = F) : ∀ {k : Nat} {args : List AV} {ys : List Value} {bs : List Nat}, ConcArgs F w args ys bs → (∀ (i b : Nat), bs[i]? = some b → E.β (PN + (k + i)) = b ∧ L (PN + (k + i)) ∧ PN + (k + i) < GB) →
    ∀ (t : Nat) (g : GV), (entrySlots k args)[t]? = some g → ∃ y, ys[t]? = some y ∧ ConcS L E w g.v y
  | k, [], [], bs, h, _, t, g, hg => by simp [entrySlots] at hg
  | k, .x v :: l, y :: ys, bs, h, hb, t, g, hg => by
    cases t with
    | zero =>
      simp only [entrySlots, List.getElem?_cons_zero, Option.some.injEq] at hg
      subst hg
      exact ⟨y, rfl, ConcX.of_fz (by rw [hF]; exact h.1)⟩
    | succ t => exact entry_slots hF h.2 hb t g (by simpa [entrySlots] using hg)
  | k, .ref off c :: l, y :: ys, b :: bs, h, hb, t, g, hg => by
    cases t with
    | zero =>
      simp only [entrySlots, List.getElem?_cons_zero, Option.some.injEq] at hg
      subst hg
      obtain ⟨h1, h2, h3⟩ := hb 0 b rfl
      rw [Nat.add_zero] at h1 h2 h3
      exact ⟨y, rfl, h2, by rw [adr, if_neg (by omega), h1]; exact h.1⟩
    | succ t => exact entry_slots hF h.2.2.2.2 (k := k + 1) (fun i b' hi => by have := hb (i + 1) b' (by simpa using hi); rw [show k + 1 + i = k + (i + 1) by omega]; exact this) t g (by simpa [entrySlots] using hg)
  | _, [], _ :: _, _, h, _, _, _, _ => h.elim
  | _, .x _ :: _, [], _, h, _, _, _, _ => h.elim
  | _, .ref _ _ :: _, [], _, h, _, _, _, _ => h.elim
  | _, .ref _ _ :: _, _ :: _, [], h, _, _, _, _ => h.elim

theorem entry_mem {F : Nat → Prop} {w : World} : ∀ {k : Nat} {args : List AV} {ys : List Value} {bs : List Nat}, ConcArgs F w args ys bs → ∀ (m : Nat) (b : Blk), entryMem k args m = some b → ∃ (i bl : Nat) (c : List CV), m = PN + (k + i) ∧ bs[i]? = some bl ∧ b = .cells c ∧ BlockIs F w bl c
  | k, [], [], bs, h, m, b, hm => by simp [entryMem] at hm
  | k, .x v :: l, y :: ys, bs, h, m, b, hm => entry_mem h.2 m b hm
  | k, .ref off c :: l, y :: ys, bl :: bs, h, m, b, hm => by
    simp only [entryMem] at hm
    cases e : Nat.beq m (PN + k)
    · rw [e] at hm
      obtain ⟨i, bl', c', h1, h2, h3, h4⟩ := entry_mem h.2.2.2.2 m b hm
      exact ⟨i + 1, bl', c', by omega, by simpa using h2, h3, h4⟩
    · rw [e] at hm
      simp only [cond_true, Option.some.injEq] at hm
      exact ⟨0, bl, c, Nat.eq_of_beq_eq_true e, rfl, hm.symm, h.2.2.2.1⟩
  | _, [], _ :: _, _, h, _, _, _ => h.elim
  | _, .x _ :: _, [], _, h, _, _, _ => h.elim
  | _, .ref _ _ :: _, [], _, h, _, _, _ => h.elim
  | _, .ref _ _ :: _, _ :: _, [], h, _, _, _ => h.elim
theorem entry_live {F : Nat → Prop} {w : World} : ∀ {k : Nat} {args : List AV} {ys : List Value} {bs : List Nat}, ConcArgs F w args ys bs → ∀ (i b : Nat), bs[i]? = some b → (entryMem k args (PN + (k + i))).isSome = true
  | k, [], [], bs, h, i, b, hi => by have h : bs = [] := h; subst h; simp at hi
  | k, .x v :: l, y :: ys, bs, h, i, b, hi => entry_live (k := k) h.2 i b hi
  | k, .ref off c :: l, y :: ys, bl :: bs, h, i, b, hi => by
    simp only [entryMem]
    cases i with
    | zero => rw [Nat.add_zero, Nat.beq_refl]; rfl
    | succ i =>
      rw [beq_ne (by omega), cond_false, show k + (i + 1) = k + 1 + i by omega]
      exact entry_live (k := k + 1) h.2.2.2.2 i b (by simpa using hi)
  | _, [], _ :: _, _, h, _, _, _ => h.elim
  | _, .x _ :: _, [], _, h, _, _, _ => h.elim
  | _, .ref _ _ :: _, [], _, h, _, _, _ => h.elim
  | _, .ref _ _ :: _, _ :: _, [], h, _, _, _ => h.elim
theorem args_nodup {F : Nat → Prop} {w : World} : ∀ {args : List AV} {ys : List Value} {bs : List Nat}, ConcArgs F w args ys bs → ∀ (i j a b : Nat), i < j → bs[i]? = some a → bs[j]? = some b → a ≠ b
  | [], [], bs, h, i, j, a, b, _, hi, _ => by have h : bs = [] := h; subst h; simp at hi
  | .x v :: l, y :: ys, bs, h, i, j, a, b, hij, hi, hj => args_nodup h.2 i j a b hij hi hj
  | .ref off c :: l, y :: ys, bl :: bs, h, i, j, a, b, hij, hi, hj => by
    cases j with
    | zero => omega
    | succ j =>
      cases i with
      | zero =>
        simp only [List.getElem?_cons_zero, Option.some.injEq] at hi
        subst hi
        intro e
        subst e
        exact h.2.2.1 (List.mem_of_getElem? (by simpa using hj))
      | succ i => exact args_nodup h.2.2.2.2 i j a b (by omega) (by simpa using hi) (by simpa using hj)
  | [], _ :: _, _, h, _, _, _, _, _, _, _ => h.elim
  | .x _ :: _, [], _, h, _, _, _, _, _, _, _ => h.elim
  | .ref _ _ :: _, [], _, h, _, _, _, _, _, _, _ => h.elim
  | .ref _ _ :: _, _ :: _, [], h, _, _, _, _, _, _, _ => h.elim

/-- what a call has done in the end -/
def Done (F : Nat → Prop) (w : World) (bs : List Nat) (V : List XV → List (List CV) → Prop) (v : Value) (w' : World) : Prop :=
  ∃ res upd, V res upd ∧ Post F w bs ⟨res, upd, []⟩ v w'

theorem evalBody_sound (hO : OSound P O) (hm : P.follows .mixedOrders = true) {L : Nat → Option Ann} {f : FuncId} {fn : Func} {c : Code} (hf : P.funcs[f]? = some fn) (hb : fn.body = some c) {args : List AV} (hlen : args.length ≤ 1000) {V : List XV → List (List CV) → Prop}
    (h : evalBody P O L c fn.results.toList fn.ntmps args V) {w : World} {F : Nat → Prop} {ys : List Value} {bs : List Nat} (hG : Laid F w) (hF : ∀ k, F k → k < w.heap.size) (hA : ConcArgs F w args ys bs) :
    Calls P f ys.toArray w fun e w' => ∃ v, e = .returned v ∧ Done F w bs V v w' := by
  refine calls_of_wp hf hb ?_
  have hle := bs_le hA
  have hPG : PN + 1000 < GB := by decide
  let B : Nat → Nat := fun m => bs.getD (m - PN) 0
  let E : Env := ⟨F, B, fun _ => undef⟩
  have hB : ∀ (i b : Nat), bs[i]? = some b → B (PN + (0 + i)) = b := by
    intro i b hi
    show bs.getD (PN + (0 + i) - PN) 0 = b
    rw [show PN + (0 + i) - PN = i by omega, List.getD_eq_getElem?_getD, hi]; rfl
  have hi1000 : ∀ (i b : Nat), bs[i]? = some b → i < 1000 := fun i b hi => by have := (List.getElem?_eq_some_iff.1 hi).1; omega
  have R0 : ∀ act : Act, act = ⟨ys.toArray ++ Array.replicate (fn.ntmps - ys.length) undef, []⟩ → Rel w.heap.size (· ∈ bs) F B (entry fn.ntmps args) act w := by
    rintro act rfl
    have hl := args_len hA
    refine ⟨E, rfl, by simp [entry, entry_len, hl], ?_, ?_, ?_, fun k hk => ⟨hF k hk, Or.inl hk⟩, fun k hk => hk, hG, fun k hk => (hle.2 k hk).1, fun _ _ _ => rfl⟩
    · intro t g hg hk
      simp only [entry] at hg
      by_cases ht : t < args.length
      · rw [List.getElem?_append_left (by rw [entry_len]; exact ht)] at hg
        obtain ⟨y, h1, h2⟩ := entry_slots (L := live (entry fn.ntmps args)) (E := E) rfl hA (fun i b hi => ⟨hB i b hi, Or.inl (entry_live hA i b hi), by have := hi1000 i b hi; omega⟩) t g hg
        exact ⟨y, by simp only; rw [Array.getElem?_append_left (by simp; omega)]; simpa using h1, h2⟩
      · rw [List.getElem?_append_right (by rw [entry_len]; omega), List.getElem?_replicate] at hg
        split at hg <;> try (simp at hg; done)
        rename_i hl2
        simp only [Option.some.injEq] at hg
        subst hg
        rw [entry_len] at hl2
        refine ⟨undef, ?_, [], rfl, trivial⟩
        simp only
        rw [Array.getElem?_append_right (by simp; omega)]
        simp only [List.size_toArray, Array.getElem?_replicate]
        rw [if_pos (by omega)]
    · intro m b hmb
      obtain ⟨i, bl, c', h1, h2, rfl, arr, t, h4, h5⟩ := entry_mem hA m b hmb
      have hβ : E.β m = bl := by rw [h1]; exact hB i bl h2
      have hin := List.mem_of_getElem? h2
      refine ⟨by have := hi1000 i bl h2; omega, ?_⟩
      unfold BlkOK
      rw [hβ]
      exact ⟨Or.inr hin, (hle.2 bl hin).2, arr, t, h4, h5.mono fun _ _ => ConcC.of_fz⟩
    · intro m m' b b' hmb hmb' hne k hk hk'
      obtain ⟨i, bl, c1, h1, h2, rfl, _⟩ := entry_mem hA m b hmb
      obtain ⟨i', bl', c2, h1', h2', rfl, _⟩ := entry_mem hA m' b' hmb'
      have hβ : E.β m = bl := by rw [h1]; exact hB i bl h2
      have hβ' : E.β m' = bl' := by rw [h1']; exact hB i' bl' h2'
      simp only [blockOf, Option.some.injEq, hβ, hβ'] at hk hk'
      rcases Nat.lt_trichotomy i i' with q | q | q
      · exact args_nodup hA i i' bl bl' q h2 h2' (by omega)
      · subst q; exact hne (by rw [h1, h1'])
      · exact args_nodup hA i' i bl' bl q h2' h2 (by omega)
  have names : refNames 0 args = List.range' (PN + 0) bs.length := refs_len hA
  refine evalCode_sound (base := w.heap.size) (X := (· ∈ bs)) (F0 := F) (B := B) hO hm w (Nat.le_refl _) c _ _ (entry fn.ntmps args) _ w (fun e s he => ?_) (fun e s a w' R hbel hsz he => ?_) (R0 _ (by simp)) (Keep.refl _ _ _) (Nat.le_refl _) h
  · have at_ok : atEnd P fn.results.toList (refNames 0 args) V s → s.ok := by
      intro h
      unfold atEnd at h
      split at h
      · exact h.1
      · exact h.elim
    cases e with
    | normal => exact at_ok he
    | ret => exact at_ok he
    | exit id => exact he.elim
  · have fin : atEnd P fn.results.toList (refNames 0 args) V s → bodyPost P fn (fun e w'' => ∃ v, e = .returned v ∧ Done F w bs V v w'') .normal a w' := fun he => by
      unfold atEnd at he
      split at he
      · rename_i res ms upd ms' h1 h2
        obtain ⟨E, R⟩ := R
        obtain ⟨zs, r1, r2⟩ := resultsOf_sound (P := P) R (rows := ms ++ ms') h1 fun m hh => by simp [hh]
        obtain ⟨u1, u2⟩ := updsOf_sound R (rows := ms ++ ms') h2 fun m hh => by simp [hh]
        have hmap : (refNames 0 args).map E.β = bs := by
          rw [names]
          apply List.ext_getElem?
          intro i
          rw [List.getElem?_map]
          by_cases hi : i < bs.length
          · have hg : bs[i]? = some bs[i] := List.getElem?_eq_getElem hi
            rw [List.getElem?_range' hi, hg]
            simp only [Option.map_some, Nat.one_mul]
            have hpin := R.pin (PN + 0 + i) (by omega) (u2 _ (by rw [names]; exact List.mem_range'_1.2 ⟨by omega, by omega⟩))
            have := hB i _ hg
            rw [← Nat.add_assoc] at this
            rw [hpin, this]
          · rw [List.getElem?_eq_none (by simpa using hi), List.getElem?_eq_none (by simpa using hi)]; rfl
        rw [hmap] at u1
        refine ⟨R.defers, _, results_run r1, _, rfl, res, upd, he.2, ⟨hbel.os, hbel.tape, hbel.output, hbel.size, hbel.block⟩, callF E s (ms ++ ms'), fun k hk => Or.inl (R.sub k hk), fun k hk => ⟨callF_lt R hk, ?_⟩, conc_results r2, u1⟩
        rcases hk with hk | ⟨m, hm', z, n, r, e1, e2⟩
        · exact (R.frz k hk).2
        · obtain ⟨_, _, _, _, e0, xs0, h4, _⟩ := R.mem m _ e1
          exact Or.inr (h4.lt k e2).1
      · exact he.elim
    cases e with
    | normal => exact fin he
    | ret => exact fin he
    | exit id => exact he.elim

/-- f answers what s says -/
def AnswersX (P : Program) (f : Nat) (s : List AV → Option Ans) : Prop := ∀ al ans, s al = some ans → (∀ q ∈ ans.ask, q) → DoesX P f al ans
theorem orc_nil : OSound P (orc []) := fun f al ans h => by simp [orc] at h
theorem orc_cons {f : Nat} {g : List AV → Option Ans} {l : List (Nat × (List AV → Option Ans))} (h : AnswersX P f g) (k : OSound P (orc l)) : OSound P (orc ((f, g) :: l)) := by
  intro h' al ans e hq
  unfold orc at e
  by_cases hf : h' = f
  · subst hf
    simp only [Nat.beq_refl, cond_true] at e
    exact h al ans e hq
  · simp only [beq_ne hf, cond_false] at e
    exact k h' al ans e hq

def okAns (ans : Ans) (res : List XV) (upd : List (List CV)) : Prop := eqXs res ans.res ∧ eqUs upd ans.upd
theorem does_of_eval (hO : OSound P O) (hm : P.follows .mixedOrders = true) (L : Nat → Option Ann) {f : FuncId} {fn : Func} (hf : P.funcs[f]? = some fn) (hn : (fn.name == "runtime.NumGoroutine") = false) (hb : fn.body = some (fn.body.getD .skip)) {args : List AV} (hlen : args.length ≤ 1000) {ans : Ans}
    (h : evalBody P O L (fn.body.getD .skip) fn.results.toList fn.ntmps args (okAns ans)) : DoesX P f args ans := by
  intro w F ys bs hG hF hA
  refine Or.inr ⟨call_enter hf hn hb _ w, (evalBody_sound hO hm hf hb hlen h hG hF hA).mono ?_⟩
  rintro e w' ⟨v, rfl, res, upd, ⟨h1, h2⟩, hk, F', f1, f2, f3, f4⟩
  exact ⟨v, rfl, hk, F', f1, f2, eqXs_res h1 f3, eqUs_refs h2 f4⟩

/- the first edition's contracts -/
def toVals : List AV → Option (List Value)
  | [] => some []
  | .x (.c (.v x)) :: l => match toVals l with | some m => some (x :: m) | none => none
  | .x (.agg c) :: l => match toVs c, toVals l with | some cs, some m => some (.agg cs.toArray :: m) | _, _ => none
  | _ :: _ => none
def ofV : Value → Option XV
  | .agg ⟨cs⟩ => if cs.all plainB then some (.agg (cs.map .v)) else none
  | v => if plainB v then some (.c (.v v)) else none
def ofVs : List Value → Option (List XV)
  | [] => some []
  | v :: l => match ofV v, ofVs l with | some x, some m => some (x :: m) | _, _ => none
def ofVal : Value → Option (List XV)
  | .tuple ⟨[v]⟩ => none
  | .tuple ⟨vs⟩ => ofVs vs
  | v => match ofV v with | some x => some [x] | none => none
def lift1 (s : List Value → Option (Value × List Bool)) (al : List AV) : Option Ans :=
  match toVals al with
  | some vs => match s vs with
    | some (v, b) => match ofVal v with
      | some res => some ⟨res, [], b.map (· = true)⟩
      | none => none
    | none => none
  | none => none
theorem map_v_rep {F : Nat → Prop} {w : World} : ∀ {l : List Value}, l.all plainB = true → Fa2 (Rep F w) (l.map CV.v) l
  | [], _ => trivial
  | x :: l, h => by
    simp only [List.all_cons, Bool.and_eq_true] at h
    exact ⟨.v h.1, map_v_rep h.2⟩
theorem ofV_conc {F : Nat → Prop} {w : World} {v : Value} {x : XV} (h : ofV v = some x) : ConcF F w x v := by
  unfold ofV at h
  split at h
  · rename_i cs
    split at h <;> try (simp at h; done)
    rename_i hc
    simp only [Option.some.injEq] at h
    subst h
    exact ⟨cs, rfl, map_v_rep hc⟩
  · split at h <;> try (simp at h; done)
    rename_i hc
    simp only [Option.some.injEq] at h
    subst h
    exact Rep.v hc
theorem ofVs_conc {F : Nat → Prop} {w : World} : ∀ {l : List Value} {m : List XV}, ofVs l = some m → Fa2 (ConcF F w) m l
  | [], m, h => by simp only [ofVs, Option.some.injEq] at h; subst h; trivial
  | v :: l, m, h => by
    unfold ofVs at h
    split at h <;> try (simp at h; done)
    rename_i x m' h1 h2
    simp only [Option.some.injEq] at h
    subst h
    exact ⟨ofV_conc h1, ofVs_conc h2⟩
theorem ofVal_conc {F : Nat → Prop} {w : World} {v : Value} {l : List XV} (h : ofVal v = some l) : ConcRes F w l v := by
  unfold ofVal at h
  split at h
  · simp at h
  · rename_i vs hne
    have := ofVs_conc (F := F) (w := w) h
    match l, vs, this with
    | [], [], _ => exact ⟨[], rfl, trivial⟩
    | [x], [y], _ => exact absurd rfl (hne y)
    | _ :: _ :: _, _ :: _ :: _, k => exact ⟨_, rfl, k⟩
  · split at h <;> try (simp at h; done)
    rename_i x hx
    simp only [Option.some.injEq] at h
    subst h
    exact ofV_conc hx
theorem reps_toVs {F : Nat → Prop} {w : World} {c : List CV} {ys xs : List Value} (h : toVs c = some xs) (k : Fa2 (Rep F w) c ys) : ys = xs :=
  toVs_conc (L := fun _ => True) (E := ⟨F, fun n => n, fun _ => undef⟩) (w := w) h (k.mono fun _ _ => ConcC.of_fz)
theorem toVals_conc {F : Nat → Prop} {w : World} : ∀ {al : List AV} {vs ys : List Value} {bs : List Nat}, toVals al = some vs → ConcArgs F w al ys bs → ys = vs ∧ bs = []
  | [], vs, [], bs, h, hA => by simp only [toVals, Option.some.injEq] at h; subst h; exact ⟨rfl, hA⟩
  | .x (.c (.v x)) :: l, vs, y :: ys, bs, h, hA => by
    unfold toVals at h
    split at h <;> try (simp at h; done)
    rename_i m hm
    simp only [Option.some.injEq] at h
    subst h
    obtain ⟨h1, h2⟩ := toVals_conc hm hA.2
    have : Rep F w (.v x) y := hA.1
    cases this
    exact ⟨by rw [h1], h2⟩
  | .x (.agg c) :: l, vs, y :: ys, bs, h, hA => by
    unfold toVals at h
    split at h <;> try (simp at h; done)
    rename_i cs m hc hm
    simp only [Option.some.injEq] at h
    subst h
    obtain ⟨h1, h2⟩ := toVals_conc hm hA.2
    obtain ⟨zs, rfl, hz⟩ := hA.1
    exact ⟨by rw [h1, reps_toVs hc hz], h2⟩
  | .x (.c (.slc _ _ _)) :: _, _, _, _, h, _ => by simp [toVals] at h
  | .x (.c (.own _ _)) :: _, _, _, _, h, _ => by simp [toVals] at h
  | .x (.c (.ptr _ _)) :: _, _, _, _, h, _ => by simp [toVals] at h
  | .x (.c (.fn _ _)) :: _, _, _, _, h, _ => by simp [toVals] at h
  | .ref _ _ :: _, _, _, _, h, _ => by simp [toVals] at h
  | [], _, _ :: _, _, _, hA => hA.elim
  | .x (.c (.v _)) :: _, _, [], _, _, hA => hA.elim
  | .x (.agg _) :: _, _, [], _, _, hA => hA.elim
theorem lift1_sound {f : Nat} {s : List Value → Option (Value × List Bool)} (h : AnswersP P f s) : AnswersX P f (lift1 s) := by
  intro al ans ha hq w F ys bs hG hF hA
  unfold lift1 at ha
  split at ha <;> try (simp at ha; done)
  rename_i vs hvs
  split at ha <;> try (simp at ha; done)
  rename_i v b hs
  split at ha <;> try (simp at ha; done)
  rename_i res hres
  simp only [Option.some.injEq] at ha
  subst ha
  obtain ⟨rfl, rfl⟩ := toVals_conc hvs hA
  have post : ∀ w', Below w.heap.size w w' → Post F w [] ⟨res, [], b.map (· = true)⟩ v w' := fun w' hb =>
    ⟨⟨hb.os, hb.tape, hb.output, hb.size, fun k hk _ => hb.block k hk⟩, F, fun _ h => h, fun k hk => ⟨Nat.lt_of_lt_of_le (hF k hk) hb.size, Or.inl hk⟩, ofVal_conc hres, trivial⟩
  rcases h ys v b hs (conjL_iff.2 ⟨fun c hc => hq _ (List.mem_map.2 ⟨c, hc, rfl⟩), trivial⟩) w with ⟨w', r, hb⟩ | ⟨r, C⟩
  · exact Or.inl ⟨v, w', r, post w' hb⟩
  · refine Or.inr ⟨r, Calls.mono C ?_⟩
    rintro e w' ⟨rfl, hb⟩
    exact ⟨v, rfl, post w' hb⟩
end
end Go.Proofs.YtafaadnjkkkafaaDoor.QR
