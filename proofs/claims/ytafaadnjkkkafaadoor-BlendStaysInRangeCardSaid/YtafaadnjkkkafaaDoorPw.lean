/-
  The pure way of running a whole function: its conditions as one proposition, and that they suffice.
-/
import Derived.Test.YtafaadnjkkkafaaDoorPv
namespace Go.Proofs.YtafaadnjkkkafaaDoor.PR
open Go.RowKit
set_option linter.unusedVariables false
set_option linter.unusedSimpArgs false

inductive Ex where
  | normal
  | exit (id : Nat)
  | ret

def exOf : Ex → Exit
  | .normal => .normal
  | .exit id => .exit id
  | .ret => .ret

/-- slot by slot: what is known on the right is so on the left -/
def leT : List GV → List GV → Prop
  | [], [] => True
  | g :: l, h :: m => match h.k with
    | true => (g.k = true ∧ g.v = h.v) ∧ leT l m
    | false => leT l m
  | _, _ => False

def leM (m : Nat → Option (List Value)) : List (Nat × List Value) → Prop
  | [] => True
  | (n, x) :: rest => m n = some x ∧ leM m rest

def memOf : List (Nat × List Value) → Nat → Option (List Value)
  | [], _ => none
  | (m, x) :: rest, n => if n = m then some x else memOf rest n

/-- what is said of the state at a loop's head -/
structure Inv where
  ι : Type
  good : ι → Prop
  slots : ι → List GV
  blocks : ι → List (Nat × List Value)
  μ : ι → Nat

def Inv.st (I : Inv) (i : I.ι) : PSt := ⟨I.slots i, memOf (I.blocks i), True, []⟩

def wfB (blocks : List (Nat × List Value)) : List GV → Prop
  | [] => True
  | g :: l => match g.k with
    | true => match g.v with
      | .pointer (some ⟨n, _, none⟩) => (memOf blocks n).isSome = true ∧ wfB blocks l
      | .pointer (some ⟨_, _, some _⟩) => False
      | _ => wfB blocks l
    | false => wfB blocks l

/-- the state at a loop's head is one of those that are told -/
def Inv.meets (I : Inv) (s : PSt) (i : I.ι) : Prop :=
  s.ok ∧ leT s.tmps (I.slots i) ∧ leM s.mem (I.blocks i) ∧ wfB (I.blocks i) (I.slots i)

/-- what was known of other blocks than those to keep is forgotten -/
def forgetG (keep : Nat → Bool) (g : GV) : GV :=
  match g.v with
  | .pointer (some ⟨n, _, none⟩) => bif keep n then g else gunk
  | .pointer (some ⟨_, _, some _⟩) => gunk
  | _ => g
def forget (keep : Nat → Bool) (s : PSt) : PSt :=
  ⟨s.tmps.map (forgetG keep),
   fun n => bif keep n then s.mem n else none, s.ok, []⟩

/-- round by round -/
def unroll (keep : Nat → Bool) (f : (Ex → PSt → Prop) → PSt → Prop) (k : Ex → PSt → Prop) : Nat → PSt → Prop
  | 0, _ => False
  | n + 1, s => f (fun e s' => match e with
    | .normal => unroll keep f k n (forget keep s')
    | .exit m => k (.exit m) s'
    | .ret => k .ret s') s

inductive Ann where
  | inv (I : Inv)
  | rounds (n : Nat)
  | named

/-- with 'some .named' at this key: what calls answer gets names, and what a region asks for is asked at its end -/
def modeKey : Nat := 1000000
def modeOf (L : Nat → Option Ann) : Bool := match L modeKey with | some .named => true | _ => false
def flush (k : PSt → Prop) (s : PSt) : Prop := s.ok ∧ k ⟨s.tmps, s.mem, True, s.lits⟩
def named : Nat → Option Ann := fun n => bif Nat.beq n 1000000 then some .named else none

/-- a loop is told by the first region in it -/
def keyOf : Code → Nat
  | .region id _ _ => id
  | .seq a _ => keyOf a
  | .block _ c => keyOf c
  | .loop c => keyOf c
  | _ => 0

def evalCode (P : Program) (O : Oracle) (L : Nat → Option Ann) : Code → (Ex → PSt → Prop) → PSt → Prop
  | .skip, k, s => k .normal s
  | .label _, k, s => k .normal s
  | .region id ops draw, k, s => runRegion P O id ops.toList draw (modeOf L) s (bif modeOf L then flush (k .normal) else k .normal)
  | .seq a b, k, s => evalCode P O L a (fun e s' => match e with
    | .normal => evalCode P O L b k s'
    | .exit id => k (.exit id) s'
    | .ret => k .ret s') s
  | .cond c x y, k, s => match operand s c with
    | ⟨true, .bool b⟩ => if litOp s.lits c then (match b with | true => evalCode P O L x k s | false => evalCode P O L y k s) else bcond b (evalCode P O L x k s) (evalCode P O L y k s)
    | _ => False
  | .loop body, k, s => match L (keyOf body) with
    | some (.rounds n) => unroll (fun n => (s.mem n).isSome) (fun k s => evalCode P O L body k s) k n s
    | some (.inv I) => (∃ i, I.good i ∧ I.meets s i) ∧ ∀ i, I.good i → evalCode P O L body (fun e s' => match e with
      | .normal => ∃ j, I.good j ∧ I.meets s' j ∧ I.μ j < I.μ i
      | .exit m => k (.exit m) s'
      | .ret => k .ret s') (I.st i)
    | some .named => False
    | none => False
  | .block id c, k, s => evalCode P O L c (fun e s' => match e with
    | .normal => k .normal s'
    | .exit m => if m = id then k .normal s' else k (.exit m) s'
    | .ret => k .ret s') s
  | .exit id, k, s => k (.exit id) s
  | .ret, k, s => k .ret s
  | _, _, _ => False

theorem wp_loop' {P : Program} {c : Code} {Q : Exit → Act → World → Prop} {ι : Type} (I : ι → Act → World → Prop) (μ : ι → Nat) {a : Act} {w : World} (i0 : ι) (h₀ : I i0 a w)
    (round : ∀ i a w, I i a w → c.wp P (Exit.then (fun a' w' => ∃ j, I j a' w' ∧ μ j < μ i) Q) a w) : (Code.loop c).wp P Q a w := by
  intro b k cs
  have key : ∀ n i a w, μ i = n → I i a w →
      ∃ e a' w', Q e a' w' ∧ Arrives P (lone (b.at a (.code c :: .inLoop c :: k)) cs w) b k cs e a' w' := by
    intro n
    induction n using Nat.strongRecOn with
    | _ n ih =>
      intro i a w hn hI
      obtain ⟨e, a₁, w₁, hq, harr⟩ := round i a w hI b (.inLoop c :: k) cs
      cases e with
      | normal =>
        obtain ⟨j, hI₁, hlt⟩ := hq
        obtain ⟨e₂, a₂, w₂, hq₂, harr₂⟩ := ih (μ j) (hn ▸ hlt) j a₁ w₁ rfl hI₁
        exact ⟨e₂, a₂, w₂, hq₂, .of_steps (Steps.trans harr (.one step_inLoop)) harr₂⟩
      | exit id => exact ⟨_, a₁, w₁, hq, .pass (x := .inLoop c) rfl (fun _ _ => .inl (by simp)) harr⟩
      | goto l => exact ⟨_, a₁, w₁, hq, .pass (x := .inLoop c) rfl (fun _ _ => .inl (by simp)) harr⟩
      | ret => exact ⟨_, a₁, w₁, hq, .pass (x := .inLoop c) rfl (fun _ _ => .inl (by simp)) harr⟩
      | panic ch => exact ⟨_, a₁, w₁, hq, .pass (x := .inLoop c) rfl (fun _ _ => .inl (by simp)) harr⟩
      | outgrown => exact ⟨_, a₁, w₁, hq, .pass (x := .inLoop c) rfl (fun _ _ => .inl (by simp)) harr⟩
  obtain ⟨e, a', w', hq, harr⟩ := key _ i0 a w rfl h₀
  exact ⟨e, a', w', hq, .of_steps (.one step_loop) harr⟩

section
variable {P : Program} {O : Oracle} {base : Nat}

theorem RunL.wp (hO : OSound P O) {ops : Array Oper} {nm : Nat} {D : Nat → Delta} {Q : Exit → Act → World → Prop} {w0 : World} {s' : PSt} (hok : s'.ok) (hQ : ∀ β' a' w', Rel base β' s' a' w' → Below base w0 w' → Q .normal a' w') :
    ∀ (l : List Nat) (β : Nat → Nat) (s : PSt) (a : Act) (w : World), RunL P O ops.toList nm D l s s' → Rel base β s a w → base ≤ w.heap.size → Below base w0 w → wpOps P ops Q l a w
  | [], β, s, a, w, h, R, hb, hbel => by cases h; exact hQ _ _ _ R hbel
  | i :: l, β, s, a, w, h, R, hb, hbel => by
    cases h with
    | cons ho h t =>
      rw [wpOps_cons]
      exact step_sound hO R hb (by simpa using ho) h (RunL.ok t hok) fun β' a' w' R' hb' => RunL.wp hO hok hQ l β' _ a' w' t R' (Nat.le_trans hb hb'.size) (hbel.trans hb')

theorem region_sound (hO : OSound P O) (hm : P.follows .mixedOrders = true) {id : Nat} {ops : Array Oper} {draw md : Bool} {β : Nat → Nat} {s : PSt} {a : Act} {w w0 : World} {Q : Exit → Act → World → Prop} {k : PSt → Prop} (hk : ∀ s, k s → s.ok)
    (h : runRegion P O id ops.toList draw md s k) (R : Rel base β s a w) (hb : base ≤ w.heap.size) (hbel : Below base w0 w) (hQ : ∀ s' β' a' w', Rel base β' s' a' w' → Below base w0 w' → k s' → Q .normal a' w') :
    (Code.region id ops draw).wp P Q a w := by
  unfold runRegion at h
  obtain ⟨s1, ds, lits, hend, hlen, run⟩ := runOps_run (ops := ops.toList) ops.toList 0 s [] s.lits (fun j o ho => by rw [Nat.zero_add]; exact ho) rfl h
  rw [show ([] : List Delta).reverse ++ ds = ds from rfl] at hend
  have run := run (fun i => ds.getD i ⟨gunk, none, [], none⟩) (fun j d hd => by simp [List.getD, hd])
  rw [← List.range_eq_range'] at run
  have hsz : ops.toList.length = ops.size := by simp
  split at hend
  · rename_i hd
    subst hd
    have hc : (depsBack 0 ops.toList && anyOrder [] (masks [] ops.toList) (rowsOf ops.toList ops.toList ds)) = true := by
      by_cases hc : (depsBack 0 ops.toList && anyOrder [] (masks [] ops.toList) (rowsOf ops.toList ops.toList ds)) = true
      · exact hc
      · rw [if_neg hc] at hend; exact hend.elim
    rw [if_pos hc] at hend
    have hok := hk _ hend
    simp only [Bool.and_eq_true] at hc
    obtain ⟨hc1, hc2⟩ := hc
    refine wp_region_any hm ?_
    refine region_any hO (id * 1024) (fun i => ds.getD i ⟨gunk, none, [], none⟩) s1 hok ?_ ?_ w0 (fun β' a' w' R' hb' => hQ _ β' a' w' (R'.lit lits) hb' hend) ops.size _ β s a _ (by simp) ?_ ?_ ?_ (R.world fun _ _ => rfl) hb ⟨hbel.os, hbel.tape, hbel.output, hbel.size, hbel.block⟩
    · intro L hL i o ho hd b hbi hnb x y hx hy
      have ey : y = o := by rw [hy] at ho; simpa using ho
      subst ey
      have hi : i < ops.toList.length := (List.getElem?_eq_some_iff.1 ho).1
      have hmlen : (masks [] ops.toList).length = ops.toList.length := by rw [masks_length]; simp
      have hdi : ds[i]? = some (ds.getD i ⟨gunk, none, [], none⟩) := by rw [List.getD, List.getElem?_eq_getElem (by omega)]; rfl
      have hdb : ds[b]? = some (ds.getD b ⟨gunk, none, [], none⟩) := by rw [List.getD, List.getElem?_eq_getElem (by omega)]; rfl
      have hmi : (masks [] ops.toList)[i]? = some ((masks [] ops.toList).getD i 0) := by rw [List.getD, List.getElem?_eq_getElem (by omega)]; rfl
      have := anyOrder_spec _ _ _ hc2 i _ _ (rowsOf_get _ _ i y _ hy hdi) hmi b _ (by simpa using rowsOf_get _ _ b x _ hx hdb) (by simpa using hbi)
      rcases this with h | h
      · exact absurd (masks_spec hL ops.toList [] (fun k o hk => by simpa using hk) (by simp) (fun j o hj => by simp at hj) i y hy hd b h) hnb
      · exact h
    · intro i o ho d hd
      have := depsBack_spec _ _ hc1 i o ho d hd
      omega
    · intro j o _ hj
      exfalso
      by_cases hz : j < ops.size
      · simp [Array.getD, hz] at hj
      · simp [Array.getD, hz] at hj
    · refine Nat.le_trans (List.length_filter_le _ _) (by simp)
    · have : ((List.range ops.size).filter fun i => !(Array.replicate ops.size false).getD i true) = List.range ops.size := by
        rw [List.filter_eq_self]
        intro i hi
        have := List.mem_range.1 hi
        simp [Array.getD, this]
      rw [this, ← hsz]
      exact run
  · rename_i hd
    simp only [Bool.not_eq_true] at hd
    subst hd
    refine wp_region ?_
    rw [← hsz]
    exact RunL.wp (s' := s1) hO (show (⟨s1.tmps, s1.mem, s1.ok, lits⟩ : PSt).ok from hk _ hend) (fun β' a' w' R' hb' => hQ _ β' a' w' (R'.lit lits) hb' hend) _ β s a w run R hb hbel

theorem leT_get : ∀ {l m : List GV}, leT l m → l.length = m.length ∧ ∀ (t : Nat) (h : GV), m[t]? = some h → h.k = true → ∃ g, l[t]? = some g ∧ g.k = true ∧ g.v = h.v
  | [], [], _ => ⟨rfl, fun t h e => by simp at e⟩
  | g :: l, h :: m, hl => by
    unfold leT at hl
    cases hk : h.k
    · simp only [hk] at hl
      obtain ⟨i1, i2⟩ := leT_get hl
      refine ⟨by simp [i1], fun t x e hx => ?_⟩
      cases t with
      | zero => simp at e; subst e; rw [hk] at hx; simp at hx
      | succ t => exact i2 t x (by simpa using e) hx
    · simp only [hk] at hl
      obtain ⟨h1, h2⟩ := hl
      obtain ⟨i1, i2⟩ := leT_get h2
      refine ⟨by simp [i1], fun t x e hx => ?_⟩
      cases t with
      | zero => simp at e; subst e; exact ⟨g, rfl, h1⟩
      | succ t => exact i2 t x (by simpa using e) hx
  | [], _ :: _, h => h.elim
  | _ :: _, [], h => h.elim

theorem leM_mem {m : Nat → Option (List Value)} : ∀ {l : List (Nat × List Value)}, leM m l → ∀ p ∈ l, m p.1 = some p.2
  | [], _, p, hp => by simp at hp
  | (n, x) :: l, h, p, hp => by
    rcases List.mem_cons.1 hp with rfl | hp
    · exact h.1
    · exact leM_mem h.2 p hp

theorem wfB_mem {b : List (Nat × List Value)} : ∀ {l : List GV}, wfB b l → ∀ g ∈ l, g.k = true → match g.v with
      | .pointer (some ⟨n, _, none⟩) => (memOf b n).isSome = true
      | .pointer (some ⟨_, _, some _⟩) => False
      | _ => True
  | [], _, g, hg, _ => by simp at hg
  | h :: l, hw, g, hg, hk => by
    have rest : wfB b l := by
      unfold wfB at hw
      split at hw
      · split at hw
        · exact hw.2
        · exact hw.elim
        · exact hw
      · exact hw
    rcases List.mem_cons.1 hg with rfl | hg
    · unfold wfB at hw
      rw [hk] at hw
      simp only at hw
      split at hw
      · rename_i e; exact hw.1
      · exact hw.elim
      · trivial
    · exact wfB_mem rest g hg hk

theorem memOf_mem : ∀ {l : List (Nat × List Value)} {n : Nat} {x : List Value}, memOf l n = some x → (n, x) ∈ l
  | [], n, x, h => by simp [memOf] at h
  | (m, y) :: l, n, x, h => by
    unfold memOf at h
    split at h
    · rename_i e; simp at h; subst h e; simp
    · exact List.mem_cons_of_mem _ (memOf_mem h)

theorem Inv.rel {I : Inv} {s : PSt} {i : I.ι} (h : I.meets s i) {β : Nat → Nat} {a : Act} {w : World} (R : Rel base β s a w) : Rel base β (I.st i) a w := by
  obtain ⟨_, hl, hm, hw⟩ := h
  obtain ⟨l1, l2⟩ := leT_get hl
  have hmem : ∀ n x, memOf (I.blocks i) n = some x → s.mem n = some x := fun n x e => leM_mem hm (n, x) (memOf_mem e)
  refine ⟨R.defers, by rw [R.size]; exact l1, ?_, ?_, ?_, ?_⟩
  · intro t g e hk
    obtain ⟨g', e', k', v'⟩ := l2 t g e hk
    rw [R.slots t g' e' k', v']
  · intro t g e hk
    have hg := wfB_mem hw g (List.mem_of_getElem? e) hk
    unfold wfV
    split at hg
    · rename_i n off e'; rw [e']; exact hg
    · exact hg.elim
    · rename_i h1 h2
      split
      · rename_i n off e'; exact absurd e' (h1 _ _)
      · rename_i n off x e'; exact absurd e' (h2 _ _ _)
      · trivial
  · intro n cells e; exact R.mem n cells (hmem n _ e)
  · intro n m hn hm' he
    obtain ⟨x, ex⟩ := Option.isSome_iff_exists.1 hn
    obtain ⟨y, ey⟩ := Option.isSome_iff_exists.1 hm'
    exact R.inj n m (by rw [hmem n x ex]; rfl) (by rw [hmem m y ey]; rfl) he

theorem unroll_ok {keep : Nat → Bool} {f : (Ex → PSt → Prop) → PSt → Prop} {k : Ex → PSt → Prop} (hf : ∀ k s, (∀ e s, k e s → s.ok) → f k s → s.ok) : ∀ (n : Nat) (s : PSt), (∀ e s, k e s → s.ok) → unroll keep f k n s → s.ok
  | 0, s, _, h => h.elim
  | n + 1, s, hk, h => hf _ s (fun e s' he => by
      cases e with
      | normal => exact unroll_ok (keep := keep) (f := f) hf n (forget keep s') hk he
      | exit m => exact hk _ _ he
      | ret => exact hk _ _ he) h

theorem forgetG_cases (keep : Nat → Bool) (g : GV) : forgetG keep g = gunk ∨ (forgetG keep g = g ∧ ∀ n off, g.v = .pointer (some ⟨n, off, none⟩) → keep n = true) := by
  unfold forgetG
  split
  · rename_i n off e
    cases hk : keep n
    · exact Or.inl rfl
    · refine Or.inr ⟨rfl, fun n' off' e' => ?_⟩
      rw [e] at e'; simp at e'; rw [← e'.1]; exact hk
  · exact Or.inl rfl
  · rename_i h1 h2
    exact Or.inr ⟨rfl, fun n off e => absurd e (h1 _ _)⟩

theorem Rel.forget {β : Nat → Nat} {s : PSt} {a : Act} {w : World} (R : Rel base β s a w) (keep : Nat → Bool) : Rel base β (forget keep s) a w := by
  refine ⟨R.defers, by simp [PR.forget, R.size], ?_, ?_, ?_, ?_⟩
  · intro t g hg hk
    simp only [PR.forget, List.getElem?_map, Option.map_eq_some_iff] at hg
    obtain ⟨h, hh, rfl⟩ := hg
    rcases forgetG_cases keep h with e | ⟨e, _⟩
    · rw [e] at hk; simp [gunk] at hk
    · rw [e] at hk ⊢; exact R.slots t h hh hk
  · intro t g hg hk
    simp only [PR.forget, List.getElem?_map, Option.map_eq_some_iff] at hg
    obtain ⟨h, hh, rfl⟩ := hg
    rcases forgetG_cases keep h with e | ⟨e, h1⟩
    · rw [e] at hk; simp [gunk] at hk
    · rw [e] at hk ⊢
      have := R.wf t h hh hk
      revert this
      unfold wfV
      split
      · rename_i n off e'; intro h2; simp only [PR.forget, h1 n off e', cond_true]; exact h2
      · exact id
      · exact id
  · intro n cells e
    simp only [PR.forget] at e
    cases hkn : keep n
    · simp [hkn] at e
    · simp only [hkn, cond_true] at e; exact R.mem n cells e
  · intro n m hn hm he
    simp only [PR.forget] at hn hm
    refine R.inj n m ?_ ?_ he
    · cases hkn : keep n
      · simp [hkn] at hn
      · simpa [hkn] using hn
    · cases hkn : keep m
      · simp [hkn] at hm
      · simpa [hkn] using hm

theorem evalCode_ok {L : Nat → Option Ann} : ∀ (c : Code) (k : Ex → PSt → Prop) (s : PSt), (∀ e s, k e s → s.ok) → evalCode P O L c k s → s.ok
  | .skip, k, s, hk, h => hk _ _ (by simpa [evalCode] using h)
  | .label _, k, s, hk, h => hk _ _ (by simpa [evalCode] using h)
  | .exit _, k, s, hk, h => hk _ _ (by simpa [evalCode] using h)
  | .ret, k, s, hk, h => hk _ _ (by simpa [evalCode] using h)
  | .region id ops draw, k, s, hk, h => by
    have hk' : ∀ s, (bif modeOf L then flush (k .normal) else k .normal) s → s.ok := fun s hs => by
      cases hm : modeOf L
      · rw [hm] at hs; exact hk _ _ hs
      · rw [hm] at hs; exact hs.1
    unfold evalCode runRegion at h
    obtain ⟨s1, ds, lits, hend, hlen, run⟩ := runOps_run (ops := ops.toList) ops.toList 0 s [] s.lits (fun j o ho => by rw [Nat.zero_add]; exact ho) rfl h
    have run := run (fun i => ds.getD i ⟨gunk, none, [], none⟩) (fun j d hd => by simp [List.getD, hd])
    refine RunL.ok run (show (⟨s1.tmps, s1.mem, s1.ok, lits⟩ : PSt).ok from ?_)
    split at hend
    · by_cases hc : (depsBack 0 ops.toList && anyOrder [] (masks [] ops.toList) (rowsOf ops.toList ops.toList ([].reverse ++ ds))) = true
      · rw [if_pos hc] at hend; exact hk' _ hend
      · rw [if_neg hc] at hend; exact hend.elim
    · exact hk' _ hend
  | .seq a b, k, s, hk, h => by
    unfold evalCode at h
    refine evalCode_ok a _ s (fun e s' he => ?_) h
    cases e with
    | normal => exact evalCode_ok b k s' hk he
    | exit id => exact hk _ _ he
    | ret => exact hk _ _ he
  | .cond c x y, k, s, hk, h => by
    unfold evalCode at h
    split at h <;> try (exact h.elim)
    rename_i b hb
    split at h
    · cases b
      · exact evalCode_ok y k _ hk h
      · exact evalCode_ok x k _ hk h
    · cases b
      · exact evalCode_ok y k _ hk h
      · exact evalCode_ok x k _ hk h
  | .loop body, k, s, hk, h => by
    unfold evalCode at h
    split at h <;> try (exact h.elim)
    · rename_i n _
      exact unroll_ok (fun k s hk h => evalCode_ok body k s hk h) n s hk h
    · obtain ⟨⟨i, _, hi⟩, _⟩ := h
      exact hi.1
  | .block id c, k, s, hk, h => by
    unfold evalCode at h
    refine evalCode_ok c _ s (fun e s' he => ?_) h
    cases e with
    | normal => exact hk _ _ he
    | exit m => simp only at he; split at he <;> exact hk _ _ he
    | ret => exact hk _ _ he
  | .rangeFunc .., k, s, hk, h => by unfold evalCode at h; exact h.elim
  | .scope _, k, s, hk, h => by unfold evalCode at h; exact h.elim
  | .goto _, k, s, hk, h => by unfold evalCode at h; exact h.elim
  | .refuse _, k, s, hk, h => by unfold evalCode at h; exact h.elim

/-- THE CONDITION SUFFICES -/
theorem evalCode_sound (hO : OSound P O) (hm : P.follows .mixedOrders = true) {L : Nat → Option Ann} (w0 : World) (hb0 : base ≤ w0.heap.size) : ∀ (c : Code) (k : Ex → PSt → Prop) (Q : Exit → Act → World → Prop) (s : PSt) (β : Nat → Nat) (a : Act) (w : World),
    (∀ e s, k e s → s.ok) → (∀ e s β a w, Rel base β s a w → Below base w0 w → base ≤ w.heap.size → k e s → Q (exOf e) a w) →
    Rel base β s a w → Below base w0 w → base ≤ w.heap.size → evalCode P O L c k s → c.wp P Q a w
  | .skip, k, Q, s, β, a, w, hk, hq, R, hbel, hb, h => wp_skip (hq .normal s β a w R hbel hb h)
  | .label _, k, Q, s, β, a, w, hk, hq, R, hbel, hb, h => wp_label (hq .normal s β a w R hbel hb h)
  | .exit id, k, Q, s, β, a, w, hk, hq, R, hbel, hb, h => wp_exit (hq (.exit id) s β a w R hbel hb h)
  | .ret, k, Q, s, β, a, w, hk, hq, R, hbel, hb, h => wp_ret (hq .ret s β a w R hbel hb h)
  | .region id ops draw, k, Q, s, β, a, w, hk, hq, R, hbel, hb, h => by
    unfold evalCode at h
    refine region_sound hO hm (fun s hs => ?_) h R hb hbel fun s' β' a' w' R' hb' h => ?_
    · cases hm : modeOf L
      · rw [hm] at hs; exact hk _ _ hs
      · rw [hm] at hs; exact hs.1
    · cases hm : modeOf L
      · rw [hm] at h; exact hq .normal s' β' a' w' R' hb' (Nat.le_trans hb0 hb'.size) h
      · rw [hm] at h; exact hq .normal ⟨s'.tmps, s'.mem, True, s'.lits⟩ β' a' w' ⟨R'.defers, R'.size, R'.slots, R'.wf, R'.mem, R'.inj⟩ hb' (Nat.le_trans hb0 hb'.size) h.2
  | .seq x y, k, Q, s, β, a, w, hk, hq, R, hbel, hb, h => by
    unfold evalCode at h
    refine wp_seq (evalCode_sound hO hm w0 hb0 x _ _ s β a w (fun e s' he => ?_) (fun e s' β' a' w' R' hb' hb2 he => ?_) R hbel hb h)
    · cases e with
      | normal => exact evalCode_ok y k s' hk he
      | exit id => exact hk _ _ he
      | ret => exact hk _ _ he
    · cases e with
      | normal => exact evalCode_sound hO hm w0 hb0 y k Q s' β' a' w' hk hq R' hb' hb2 he
      | exit id => exact hq _ s' β' a' w' R' hb' hb2 he
      | ret => exact hq _ s' β' a' w' R' hb' hb2 he
  | .cond c x y, k, Q, s, β, a, w, hk, hq, R, hbel, hb, h => by
    unfold evalCode at h
    split at h <;> try (exact h.elim)
    rename_i b hb'
    have ev := (R.eval c (by rw [hb'])).1
    rw [hb'] at ev
    have h : bcond b (evalCode P O L x k s) (evalCode P O L y k s) := by
      split at h
      · cases b <;> exact h
      · exact h
    rw [bcond_iff] at h
    refine wp_cond_split (t := b) ev (fun e => ?_) (fun e => ?_)
    · exact evalCode_sound hO hm w0 hb0 x k Q _ β a w hk hq R hbel hb (h.1 e)
    · exact evalCode_sound hO hm w0 hb0 y k Q _ β a w hk hq R hbel hb (h.2 e)
  | .loop body, k, Q, s, β, a, w, hk, hq, R, hbel, hb, h => by
    unfold evalCode at h
    split at h <;> try (exact h.elim)
    · rename_i n _
      refine wp_loop' (fun i a w => ∃ β s', Rel base β s' a w ∧ Below base w0 w ∧ base ≤ w.heap.size ∧ unroll (fun n => (s.mem n).isSome) (fun k s => evalCode P O L body k s) k i s') (fun i => i) n ⟨β, s, R, hbel, hb, h⟩ (fun i a w hi => ?_)
      obtain ⟨β, s1, R, hbel, hb, h⟩ := hi
      cases i with
      | zero => exact h.elim
      | succ i =>
        refine evalCode_sound hO hm w0 hb0 body _ _ s1 β a w (fun e s' he => ?_) (fun e s' β' a' w' R' hb' hb2 he => ?_) R hbel hb h
        · cases e with
          | normal => exact unroll_ok (fun k s hk h => evalCode_ok body k s hk h) i (forget _ s') hk he
          | exit m => exact hk _ _ he
          | ret => exact hk _ _ he
        · cases e with
          | normal => exact ⟨i, ⟨β', _, R'.forget _, hb', hb2, he⟩, Nat.lt_succ_self i⟩
          | exit m => exact hq (.exit m) s' β' a' w' R' hb' hb2 he
          | ret => exact hq .ret s' β' a' w' R' hb' hb2 he
    rename_i I hI
    obtain ⟨⟨i0, hg0, hi0⟩, hround⟩ := h
    refine wp_loop' (fun i a w => I.good i ∧ (∃ β, Rel base β (I.st i) a w) ∧ Below base w0 w ∧ base ≤ w.heap.size) I.μ i0 ⟨hg0, ⟨β, Inv.rel hi0 R⟩, hbel, hb⟩ (fun i a w hi => ?_)
    obtain ⟨hg, ⟨β, R⟩, hbel, hb⟩ := hi
    refine evalCode_sound hO hm w0 hb0 body _ _ (I.st i) β a w (fun e s' he => ?_) (fun e s' β' a' w' R' hb' hb2 he => ?_) R hbel hb (hround i hg)
    · cases e with
      | normal => obtain ⟨j, _, hj, _⟩ := he; exact hj.1
      | exit m => exact hk _ _ he
      | ret => exact hk _ _ he
    · cases e with
      | normal =>
        obtain ⟨j, hgj, hj, hlt⟩ := he
        exact ⟨j, ⟨hgj, ⟨β', Inv.rel hj R'⟩, hb', hb2⟩, hlt⟩
      | exit m => exact hq (.exit m) s' β' a' w' R' hb' hb2 he
      | ret => exact hq .ret s' β' a' w' R' hb' hb2 he
  | .block id c, k, Q, s, β, a, w, hk, hq, R, hbel, hb, h => by
    unfold evalCode at h
    refine wp_block (evalCode_sound hO hm w0 hb0 c _ _ s β a w (fun e s' he => ?_) (fun e s' β' a' w' R' hb' hb2 he => ?_) R hbel hb h)
    · cases e with
      | normal => exact hk _ _ he
      | exit m => simp only at he; split at he <;> exact hk _ _ he
      | ret => exact hk _ _ he
    · cases e with
      | normal => exact hq .normal s' β' a' w' R' hb' hb2 he
      | exit m =>
        simp only at he
        simp only [exOf, Exit.inBlock]
        split
        · rename_i e; rw [if_pos e] at he; exact hq .normal s' β' a' w' R' hb' hb2 he
        · rename_i e; rw [if_neg e] at he; exact hq (.exit m) s' β' a' w' R' hb' hb2 he
      | ret => exact hq .ret s' β' a' w' R' hb' hb2 he
  | .rangeFunc .., k, Q, s, β, a, w, hk, hq, R, hbel, hb, h => by unfold evalCode at h; exact h.elim
  | .scope _, k, Q, s, β, a, w, hk, hq, R, hbel, hb, h => by unfold evalCode at h; exact h.elim
  | .goto _, k, Q, s, β, a, w, hk, hq, R, hbel, hb, h => by unfold evalCode at h; exact h.elim
  | .refuse _, k, Q, s, β, a, w, hk, hq, R, hbel, hb, h => by unfold evalCode at h; exact h.elim
end
end Go.Proofs.YtafaadnjkkkafaaDoor.PR
