import Derived.Test.YtpjhdjakpbabhaaGreatDoorBf
namespace Go.Proofs.YtpjhdjakpbabhaaGreatDoor.QR
open Go.RowKit PR
set_option linter.unusedVariables false
set_option linter.unusedSimpArgs false
def selfOkU (U : Nat) (blocks : List (Nat × Blk)) (ρ : Nat → Nat) : Bool := blocks.all fun p => bif Nat.ble PN p.1 then (bif Nat.ble (PN + U) p.1 then true else Nat.beq (ρ p.1) p.1) else true
def pinK (U : Nat) (I : Inv) (k : Ex → PSt → Prop) : Ex → PSt → Prop := fun e s => match e with
  | .normal => s.ok ∧ ∃ i, I.good i ∧ selfOkU U (I.blocks i) (rho (rename s (I.slots i) (I.blocks i))) = true ∧ imeets0 I s i (rho (rename s (I.slots i) (I.blocks i)))
  | .exit m => k (.exit m) s
  | .ret => k .ret s
structure CfgK where
  L : Nat → Option Ann
  J : Nat → Option Inl
  JT : Nat → Option Inl
  JP : Nat → Option Inv
  U : Nat
def hasTopK (C : CfgK) : Code → Bool
  | .region id _ _ => (C.JT id).isSome
  | .seq a b => (C.JP (PR.keyOf b)).isSome || (hasTopK C a || hasTopK C b)
  | .cond _ a b => hasTopK C a || hasTopK C b
  | .block _ a => hasTopK C a
  | .loop a => hasTopK C a
  | .scope a => hasTopK C a
  | _ => false
def evalTopK (P : Program) (O : Oracle) (C : CfgK) : Code → (Ex → PSt → Prop) → PSt → Prop
  | .region id ops draw, k, s => match C.JT id with
    | some c => if draw then False else inlC P O c id ops.toList (flush (k .normal)) s
    | none => evalJ P O C.L C.J (.region id ops draw) k s
  | .seq x y, k, s => match C.JP (PR.keyOf y) with
    | some I => evalTopK P O C x (pinK C.U I k) s ∧ ∀ i, I.good i → evalTopK P O C y k (ist I i (s.gen + 1))
    | none => bif hasTopK C x || hasTopK C y then evalTopK P O C x (fun e s' => match e with
      | .normal => evalTopK P O C y k s'
      | .exit id => k (.exit id) s'
      | .ret => k .ret s') s else evalJ P O C.L C.J (.seq x y) k s
  | .cond c x y, k, s => bif hasTopK C x || hasTopK C y then condC s c (evalTopK P O C x k s) (evalTopK P O C y k s) else evalJ P O C.L C.J (.cond c x y) k s
  | .block id c, k, s => bif hasTopK C c then evalTopK P O C c (blockK id k) s else evalJ P O C.L C.J (.block id c) k s
  | c, k, s => evalJ P O C.L C.J c k s
section
variable {P : Program} {O : Oracle} {base : Nat} {X F0 : Nat → Prop} {B : Nat → (Nat × Value) × Bool}
theorem pinK_ok {U : Nat} {I : Inv} {k : Ex → PSt → Prop} (hk : ∀ e s, k e s → s.ok) : ∀ e s, pinK U I k e s → s.ok := by
  intro e s he
  cases e with
  | normal => exact he.1
  | exit m => exact hk _ _ he
  | ret => exact hk _ _ he
theorem pin_sound {U : Nat} {I : Inv} {s : PSt} {i : I.ι} {a : Act} {w : World} (hNF : nf B) (hs : selfOkU U (I.blocks i) (rho (rename s (I.slots i) (I.blocks i))) = true) (hm : imeets0 I s i (rho (rename s (I.slots i) (I.blocks i)))) (gen : Nat) (R : Rel base X F0 B s a w) :
    ∃ B', agree U B' B ∧ nf B' ∧ Rel base X F0 B' (ist I i gen) a w := by
  obtain ⟨E, R⟩ := R
  let ρ := rho (rename s (I.slots i) (I.blocks i))
  let B' : Nat → (Nat × Value) × Bool := fun m => if PN + U ≤ m then ((E.β (ρ m), E.ν (ρ m)), false) else B m
  have hBB : agree U B' B := fun m hm => if_neg (by omega)
  have hN' : nf B' := fun m => by
    show (if PN + U ≤ m then ((E.β (ρ m), E.ν (ρ m)), false) else B m).2 = false
    split
    · rfl
    · exact hNF m
  obtain ⟨E', _, _, R'⟩ := Inv.relE (I := I) (i := i) (rho_G _) hm gen R (B' := B') hN' fun m b hb hP => by
    by_cases h1 : PN + U ≤ m
    · have e : B' m = ((E.β (ρ m), E.ν (ρ m)), false) := if_pos h1
      rw [e]; exact ⟨rfl, rfl⟩
    · have hmem := memOf_mem hb
      have hs := List.all_eq_true.1 hs _ hmem
      rw [show Nat.ble PN m = true from ble_t hP, cond_true] at hs
      have h2 : Nat.ble (PN + U) m = false := by
        cases h : Nat.ble (PN + U) m
        · rfl
        · exact absurd (ble_le h) h1
      rw [h2, cond_false] at hs
      have e' : ρ m = m := Nat.eq_of_beq_eq_true hs
      have hB := leM_mem hm.2.2 _ hmem
      show E.β (ρ m) = (B' m).1.1 ∧ E.ν (ρ m) = (B' m).1.2
      rw [e', hBB m (by omega)]
      refine R.pin m (Or.inl hP) ?_
      have hB : leB _ (s.mem (ρ m)) b := hB
      rw [e'] at hB
      cases hs : s.mem m with
      | none => rw [hs] at hB; cases b <;> exact hB.elim
      | some b0 => rfl
  exact ⟨B', hBB, hN', E', R'⟩
theorem evalTopK_ok {C : CfgK} : ∀ (c : Code) (k : Ex → PSt → Prop) (s : PSt), (∀ e s, k e s → s.ok) → evalTopK P O C c k s → s.ok
  | .region id ops draw, k, s, hk, h => by
    unfold evalTopK at h
    split at h
    · split at h
      · exact h.elim
      · exact inlC_ok (fun s hs => hs.1) h
    · exact evalJ_ok _ k s hk h
  | .seq x y, k, s, hk, h => by
    unfold evalTopK at h
    split at h
    · exact evalTopK_ok x _ s (pinK_ok hk) h.1
    cases hr : hasTopK C x || hasTopK C y
    · rw [hr, cond_false] at h; exact evalJ_ok _ k s hk h
    · rw [hr, cond_true] at h
      refine evalTopK_ok x _ s (fun e s' he => ?_) h
      cases e with
      | normal => exact evalTopK_ok y k s' hk he
      | exit id => exact hk _ _ he
      | ret => exact hk _ _ he
  | .cond c x y, k, s, hk, h => by
    unfold evalTopK at h
    cases hr : hasTopK C x || hasTopK C y
    · rw [hr, cond_false] at h; exact evalJ_ok _ k s hk h
    · rw [hr, cond_true] at h
      unfold condC at h
      split at h <;> try (exact h.elim)
      rename_i b hb
      split at h
      · cases b
        · exact evalTopK_ok y k _ hk h
        · exact evalTopK_ok x k _ hk h
      · cases b
        · exact evalTopK_ok y k _ hk h
        · exact evalTopK_ok x k _ hk h
  | .block id c, k, s, hk, h => by
    unfold evalTopK at h
    cases hr : hasTopK C c
    · rw [hr, cond_false] at h; exact evalJ_ok _ k s hk h
    · rw [hr, cond_true] at h; exact evalTopK_ok c _ s (blockK_ok hk) h
  | .rangeFunc _ _ _ _, k, s, hk, h => evalJ_ok _ k s hk h
  | .skip, k, s, hk, h => evalJ_ok _ k s hk h
  | .label _, k, s, hk, h => evalJ_ok _ k s hk h
  | .loop _, k, s, hk, h => evalJ_ok _ k s hk h
  | .exit _, k, s, hk, h => evalJ_ok _ k s hk h
  | .ret, k, s, hk, h => evalJ_ok _ k s hk h
  | .scope _, k, s, hk, h => evalJ_ok _ k s hk h
  | .goto _, k, s, hk, h => evalJ_ok _ k s hk h
  | .refuse _, k, s, hk, h => evalJ_ok _ k s hk h
structure CfgKOK (P : Program) (C : CfgK) (T : Nat) : Prop where
  J : ∀ n c, C.J n = some c → InlOK P c ∧ GB ≤ c.T
  JT : ∀ n c, C.JT n = some c → InlOK P c ∧ T ≤ c.T
  JP : (∀ n, C.JP n = none) ∨ T ≤ C.U
theorem evalTopK_EvG (hO : OSound P O) (hm : P.follows .mixedOrders = true) {C : CfgK} {T : Nat} (hC : CfgKOK P C T) (hT : T ≤ 1000) : ∀ c : Code, EvT T P c (evalTopK P O C c)
  | .region id ops draw => fun base X F0 B w0 k Q s a w hb0 hNF hk hq R hbel hb h => by
    unfold evalTopK at h
    split at h
    · rename_i c hc
      split at h
      · exact h.elim
      · rename_i hd
        simp only [Bool.not_eq_true] at hd
        subst hd
        refine wp_region (inl_core hO (hC.JT _ _ hc).1 (Or.inl hNF) (fun s hs => hs.1) h R hb hbel fun B' hB hN s' a' w' R' hb' h => ?_)
        exact hq B' (hB.less (hC.JT _ _ hc).2) (hN hNF) .normal _ a' w' (R'.lit True s'.lits s'.gen) hb' (Nat.le_trans hb0 hb'.size) h.2
    · exact evalJ_EvT hO hm C.L hC.J T _ base X F0 B w0 k Q s a w hb0 hNF hk hq R hbel hb h
  | .seq x y => fun base X F0 B w0 k Q s a w hb0 hNF hk hq R hbel hb h => by
    unfold evalTopK at h
    split at h
    · rename_i I hI
      have hT5 : T ≤ C.U := hC.JP.resolve_left fun e => by rw [e] at hI; simp at hI
      obtain ⟨h, hy⟩ := h
      refine wp_seq (evalTopK_EvG hO hm hC hT x base X F0 B w0 _ _ s a w hb0 hNF (pinK_ok hk) (fun B' hB hN' e s' a' w' R' hb' hb2 he => ?_) R hbel hb h)
      cases e with
      | normal =>
        obtain ⟨_, i, hg, hs, hmt⟩ := he
        obtain ⟨B2, hB2, hN2, R2⟩ := pin_sound hN' hs hmt (s.gen + 1) R'
        exact evalTopK_EvG hO hm hC hT y base X F0 B2 w0 k Q _ a' w' hb0 hN2 hk (fun B3 hB3 hN3 => hq B3 (hB3.trans ((hB2.less hT5).trans hB)) hN3) R2 hb' hb2 (hy i hg)
      | exit id => exact hq B' hB hN' _ s' a' w' R' hb' hb2 he
      | ret => exact hq B' hB hN' _ s' a' w' R' hb' hb2 he
    cases hr : hasTopK C x || hasTopK C y
    · rw [hr, cond_false] at h; exact evalJ_EvT hO hm C.L hC.J T _ base X F0 B w0 k Q s a w hb0 hNF hk hq R hbel hb h
    · rw [hr, cond_true] at h
      refine wp_seq (evalTopK_EvG hO hm hC hT x base X F0 B w0 _ _ s a w hb0 hNF (fun e s' he => ?_) (fun B' hB hN' e s' a' w' R' hb' hb2 he => ?_) R hbel hb h)
      · cases e with
        | normal => exact evalTopK_ok y k s' hk he
        | exit id => exact hk _ _ he
        | ret => exact hk _ _ he
      · cases e with
        | normal => exact evalTopK_EvG hO hm hC hT y base X F0 B' w0 k Q s' a' w' hb0 hN' hk (fun B2 hB2 hN2 => hq B2 (hB2.trans hB) hN2) R' hb' hb2 he
        | exit id => exact hq B' hB hN' _ s' a' w' R' hb' hb2 he
        | ret => exact hq B' hB hN' _ s' a' w' R' hb' hb2 he
  | .cond c x y => fun base X F0 B w0 k Q s a w hb0 hNF hk hq R hbel hb h => by
    unfold evalTopK at h
    cases hr : hasTopK C x || hasTopK C y
    · rw [hr, cond_false] at h; exact evalJ_EvT hO hm C.L hC.J T _ base X F0 B w0 k Q s a w hb0 hNF hk hq R hbel hb h
    · rw [hr, cond_true] at h
      unfold condC at h
      split at h <;> try (exact h.elim)
      rename_i b hb'
      have ev : a.eval c = .bool b := by
        obtain ⟨E, R⟩ := R
        have := R.eval c (by rw [hb'])
        rw [hb'] at this
        exact cv_v this
      have h : bcond b (evalTopK P O C x k s) (evalTopK P O C y k s) := by
        split at h
        · cases b <;> exact h
        · exact h
      rw [bcond_iff] at h
      refine wp_cond_split (t := b) ev (fun e => ?_) (fun e => ?_)
      · exact evalTopK_EvG hO hm hC hT x base X F0 B w0 k Q _ a w hb0 hNF hk hq R hbel hb (h.1 e)
      · exact evalTopK_EvG hO hm hC hT y base X F0 B w0 k Q _ a w hb0 hNF hk hq R hbel hb (h.2 e)
  | .block id c => fun base X F0 B w0 k Q s a w hb0 hNF hk hq R hbel hb h => by
    unfold evalTopK at h
    cases hr : hasTopK C c
    · rw [hr, cond_false] at h; exact evalJ_EvT hO hm C.L hC.J T _ base X F0 B w0 k Q s a w hb0 hNF hk hq R hbel hb h
    · rw [hr, cond_true] at h
      refine wp_block (evalTopK_EvG hO hm hC hT c base X F0 B w0 _ _ s a w hb0 hNF (blockK_ok hk) (fun B' hB hN' e s' a' w' R' hb' hb2 he => ?_) R hbel hb h)
      cases e with
      | normal => exact hq B' hB hN' .normal s' a' w' R' hb' hb2 he
      | exit m =>
        simp only [blockK] at he
        simp only [exOf, Exit.inBlock]
        split
        · rename_i e; rw [if_pos e] at he; exact hq B' hB hN' .normal s' a' w' R' hb' hb2 he
        · rename_i e; rw [if_neg e] at he; exact hq B' hB hN' (.exit m) s' a' w' R' hb' hb2 he
      | ret => exact hq B' hB hN' .ret s' a' w' R' hb' hb2 he
  | .rangeFunc _ _ _ _ => evalJ_EvT hO hm C.L hC.J T _
  | .skip => evalJ_EvT hO hm C.L hC.J T _
  | .label _ => evalJ_EvT hO hm C.L hC.J T _
  | .loop _ => evalJ_EvT hO hm C.L hC.J T _
  | .exit _ => evalJ_EvT hO hm C.L hC.J T _
  | .ret => evalJ_EvT hO hm C.L hC.J T _
  | .scope _ => evalJ_EvT hO hm C.L hC.J T _
  | .goto _ => evalJ_EvT hO hm C.L hC.J T _
  | .refuse _ => evalJ_EvT hO hm C.L hC.J T _
end
def evalBodyK (P : Program) (O : Oracle) (C : CfgK) (c : Code) (rs : List ResultVar) (n : Nat) (args : List AV) (V : List XV → List (List CV) → Prop) : Prop :=
  evalTopK P O C c (fun e s => match e with | .normal => atEnd P rs (refNames 0 args) V s | .ret => atEnd P rs (refNames 0 args) V s | .exit _ => False) (entry n args)
section
variable {P : Program} {O : Oracle}
theorem does_of_evalK (hO : OSound P O) (hm : P.follows .mixedOrders = true) {C : CfgK} (hC : CfgKOK P C 500) {f : FuncId} {fn : Func} (hf : P.funcs[f]? = some fn) (hn : (fn.name == "runtime.NumGoroutine") = false) (hb : fn.body = some (fn.body.getD .skip)) {args : List AV} (hlen : args.length ≤ 500) {ans : Ans}
    (h : evalBodyK P O C (fn.body.getD .skip) fn.results.toList fn.ntmps args (okAns ans)) (hfr : Nat.ble (freshs ans.res).length 1 = true := by rfl) : DoesX P f args ans :=
  does_of_evalT5 hf hn hb hlen (evalTopK_EvG hO hm hC (by omega) _) h hfr
theorem ne_FLT {T : Nat} (h : T ≤ 1000) : ¬ T = FLT := by
  have : 1000 < FLT := by decide
  omega
theorem inl_flat (hO : OSound P O) (hm : P.follows .mixedOrders = true) (L : Nat → Option Ann) {J' : Nat → Option Inl} (hJ : ∀ n c, J' n = some c → InlOK P c ∧ GB ≤ c.T) {j : Nat} {f : FuncId} {fn : Func} (hf : P.funcs[f]? = some fn) (hn : (fn.name == "runtime.NumGoroutine") = false) (hb : fn.body = some (fn.body.getD .skip)) :
    InlOK P ⟨j, GB, f, fn.ntmps, fn.results.toList, evalJ P O L J' (fn.body.getD .skip)⟩ ∧ GB ≤ (⟨j, GB, f, fn.ntmps, fn.results.toList, evalJ P O L J' (fn.body.getD .skip)⟩ : Inl).T :=
  ⟨⟨fn, _, hf, hn, hb, rfl, rfl, evalJ_EvT hO hm L hJ GB _, fun h => absurd h (show ¬ GB = FLT by decide)⟩, Nat.le_refl _⟩
theorem inl_topK (hO : OSound P O) (hm : P.follows .mixedOrders = true) {C : CfgK} {T : Nat} (hC : CfgKOK P C T) (hT : T ≤ 1000) {j : Nat} {f : FuncId} {fn : Func} (hf : P.funcs[f]? = some fn) (hn : (fn.name == "runtime.NumGoroutine") = false) (hb : fn.body = some (fn.body.getD .skip)) :
    InlOK P ⟨j, T, f, fn.ntmps, fn.results.toList, evalTopK P O C (fn.body.getD .skip)⟩ :=
  ⟨fn, _, hf, hn, hb, rfl, rfl, evalTopK_EvG hO hm hC hT _, fun h => absurd (show T = FLT from h) (ne_FLT hT)⟩
end
end Go.Proofs.YtpjhdjakpbabhaaGreatDoor.QR
