/-
  The second edition of the pure way: what an abstract state says of a world.
-/
import Derived.Test.YtafaadnjkkkafaaDoorQr
import Derived.Laws.MakeOwn
namespace Go.Proofs.YtafaadnjkkkafaaDoor.QR
open Go.RowKit PR
set_option linter.unusedVariables false
set_option linter.unusedSimpArgs false

def Fa2 {α β : Type} (R : α → β → Prop) : List α → List β → Prop
  | [], [] => True
  | a :: l, b :: m => R a b ∧ Fa2 R l m
  | _, _ => False
section
variable {α β : Type} {R S : α → β → Prop}
theorem Fa2.mono (h : ∀ a b, R a b → S a b) : ∀ {l : List α} {m : List β}, Fa2 R l m → Fa2 S l m
  | [], [], _ => trivial
  | a :: l, b :: m, H => ⟨h _ _ H.1, Fa2.mono h H.2⟩
  | [], _ :: _, H => H.elim
  | _ :: _, [], H => H.elim
theorem Fa2.monoM : ∀ {l : List α} {m : List β}, (∀ a ∈ l, ∀ b, R a b → S a b) → Fa2 R l m → Fa2 S l m
  | [], [], _, _ => trivial
  | a :: l, b :: m, h, H => ⟨h a (by simp) _ H.1, Fa2.monoM (fun x hx => h x (by simp [hx])) H.2⟩
  | [], _ :: _, _, H => H.elim
  | _ :: _, [], _, H => H.elim
theorem Fa2.len : ∀ {l : List α} {m : List β}, Fa2 R l m → l.length = m.length
  | [], [], _ => rfl
  | a :: l, b :: m, H => by simp [Fa2.len H.2]
  | [], _ :: _, H => H.elim
  | _ :: _, [], H => H.elim
theorem Fa2.get : ∀ {l : List α} {m : List β} {i : Nat} {a : α}, Fa2 R l m → l[i]? = some a → ∃ b, m[i]? = some b ∧ R a b
  | [], [], i, a, _, h => by simp at h
  | x :: l, y :: m, 0, a, H, h => by simp at h; subst h; exact ⟨y, rfl, H.1⟩
  | x :: l, y :: m, i + 1, a, H, h => by
    obtain ⟨b, e, r⟩ := Fa2.get (i := i) H.2 (by simpa using h)
    exact ⟨b, by simpa using e, r⟩
  | [], _ :: _, _, _, H, _ => H.elim
  | _ :: _, [], _, _, H, _ => H.elim
theorem Fa2.of : ∀ {l : List α} {m : List β}, l.length = m.length → (∀ (i : Nat) (a : α) (b : β), l[i]? = some a → m[i]? = some b → R a b) → Fa2 R l m
  | [], [], _, _ => trivial
  | a :: l, b :: m, h, H => ⟨H 0 a b rfl rfl, Fa2.of (by simpa using h) fun i x y hx hy => H (i + 1) x y (by simpa using hx) (by simpa using hy)⟩
  | [], _ :: _, h, _ => by simp at h
  | _ :: _, [], h, _ => by simp at h
theorem Fa2.app : ∀ {l l' : List α} {m m' : List β}, Fa2 R l m → Fa2 R l' m' → Fa2 R (l ++ l') (m ++ m')
  | [], _, [], _, _, K => K
  | a :: l, _, b :: m, _, H, K => ⟨H.1, Fa2.app H.2 K⟩
  | [], _, _ :: _, _, H, _ => H.elim
  | _ :: _, _, [], _, H, _ => H.elim
theorem Fa2.take : ∀ (k : Nat) {l : List α} {m : List β}, Fa2 R l m → Fa2 R (l.take k) (m.take k)
  | 0, _, _, _ => by simp [Fa2]
  | k + 1, [], [], _ => trivial
  | k + 1, a :: l, b :: m, H => ⟨H.1, Fa2.take k H.2⟩
  | _ + 1, [], _ :: _, H => H.elim
  | _ + 1, _ :: _, [], H => H.elim
theorem Fa2.drop : ∀ (k : Nat) {l : List α} {m : List β}, Fa2 R l m → Fa2 R (l.drop k) (m.drop k)
  | 0, _, _, h => h
  | k + 1, [], [], _ => trivial
  | k + 1, a :: l, b :: m, H => Fa2.drop k H.2
  | _ + 1, [], _ :: _, H => H.elim
  | _ + 1, _ :: _, [], H => H.elim
theorem Fa2.splice {l l' : List CV} {m m' : List Value} {R : CV → Value → Prop} (off : Nat) (H : Fa2 R l m) (K : Fa2 R l' m') : Fa2 R (spliceC l off l') (splice m off m') := by
  unfold spliceC PR.splice
  rw [← K.len]
  exact ((H.take off).app K).app (H.drop _)
end

/-- what a frozen cell stands for -/
inductive Rep (F : Nat → Prop) (w : World) : CV → Value → Prop
  | v {x : Value} : plainB x = true → Rep F w (.v x) x
  | nil {z : Nat} {r : Row} {a : Option Addr} {c : Nat} : 0 < z → (a = none → c = 0) → Rep F w (.slc z 0 r) (.slice a 0 c)
  | slc {z n : Nat} {r : Row} {b off c : Nat} {arr : Array Value} {t : TypeId} (u : Nat → Nat → Value) : 0 < z → n ≤ c → F b → w.heap[b]? = some (.cells arr t (0, 0)) →
      (∀ i j : Nat, i < n → j < z → arr[off + i * z + j]? = some (u i j)) → (∀ i j : Nat, i < n → j < z → Rep F w (den r i j) (u i j)) → Rep F w (.slc z n r) (.slice (some ⟨b, off, none⟩) n c)

theorem Rep.mono {F F' : Nat → Prop} {w w' : World} (hF : ∀ k, F k → F' k) (hw : ∀ k, F k → w'.heap[k]? = w.heap[k]?) {c : CV} {y : Value} (h : Rep F w c y) : Rep F' w' c y := by
  induction h with
  | v h => exact .v h
  | nil h h' => exact .nil h h'
  | slc u h1 hc h2 h3 h4 _ ih => exact .slc u h1 hc (hF _ h2) (by rw [hw _ h2]; exact h3) h4 ih

structure Env where
  F : Nat → Prop
  β : Nat → Nat
  ν : Nat → Value

def adr (E : Env) (m : Nat) : Nat := if GB ≤ m then m - GB else E.β m

def ConcC (L : Nat → Prop) (E : Env) (w : World) : CV → Value → Prop
  | .own m n, y => L m ∧ y = E.ν m ∧ 0 ≤ n ∧ ((y = .slice none 0 0 ∧ n = 0) ∨ ∃ b c, y = .slice (some ⟨b, 0, none⟩) n.toNat c)
  | .ptr m off, y => L m ∧ y = .pointer (some ⟨adr E m, off, none⟩)
  | .fn f caps, y => (∀ p ∈ caps, L p.1) ∧ y = .func (.func f) #[] (caps.map fun p => Value.pointer (some ⟨adr E p.1, p.2, none⟩)).toArray
  | .v x, y => Rep E.F w (.v x) y
  | .slc z n r, y => Rep E.F w (.slc z n r) y

def ConcX (L : Nat → Prop) (E : Env) (w : World) : XV → Value → Prop
  | .c x, y => ConcC L E w x y
  | .agg l, y => ∃ ys : List Value, y = .agg ys.toArray ∧ Fa2 (ConcC L E w) l ys

def ConcS (L : Nat → Prop) (E : Env) (w : World) : SV → Value → Prop
  | .x v, y => ConcX L E w v y
  | .tup l, y => ∃ ys : List Value, y = .tuple ys.toArray ∧ Fa2 (ConcX L E w) l ys
  | .eptr m z i off, y => L m ∧ 0 ≤ i ∧ ∃ b c ln, E.ν m = .slice (some ⟨b, 0, none⟩) ln c ∧ i.toNat < ln ∧ y = .pointer (some ⟨b, i.toNat * z + off, none⟩)
  | .fptr z r i off, y => 0 ≤ i ∧ ∃ b o arr t, E.F b ∧ w.heap[b]? = some (.cells arr t (0, 0)) ∧ y = .pointer (some ⟨b, o + off, none⟩) ∧ ∀ j < z, ∃ u, arr[o + j]? = some u ∧ Rep E.F w (den r i j) u

/-- from one world to a later one -/
structure Later (L : Nat → Prop) (E E' : Env) (w w' : World) : Prop where
  F : ∀ k, E.F k → E'.F k
  heap : ∀ k, E.F k → w'.heap[k]? = w.heap[k]?
  β : ∀ m, L m → m < GB → E'.β m = E.β m
  ν : ∀ m, L m → m < GB → E'.ν m = E.ν m

theorem Later.refl (L : Nat → Prop) (E : Env) (w : World) : Later L E E w w := ⟨fun _ h => h, fun _ _ => rfl, fun _ _ _ => rfl, fun _ _ _ => rfl⟩

section
variable {L L' : Nat → Prop} {E E' : Env} {w w' : World}
theorem Later.adr (T : Later L E E' w w') {m : Nat} (h : L m) : adr E' m = adr E m := by
  unfold QR.adr
  split
  · rfl
  · rename_i hm; exact T.β m h (by omega)
theorem Later.nu (T : Later L E E' w w') (G : ∀ m, GB ≤ m → E'.ν m = E.ν m) {m : Nat} (h : L m) : E'.ν m = E.ν m := by
  by_cases hm : GB ≤ m
  · exact G m hm
  · exact T.ν m h (by omega)
theorem Rep.later (T : Later L E E' w w') {c : CV} {y : Value} (h : Rep E.F w c y) : Rep E'.F w' c y := h.mono T.F T.heap
theorem ConcC.later (T : Later L E E' w w') (G : ∀ m, GB ≤ m → E'.ν m = E.ν m) (hL : ∀ m, L m → L' m) {c : CV} {y : Value} (h : ConcC L E w c y) : ConcC L' E' w' c y := by
  cases c with
  | v x => exact Rep.later T h
  | slc z n r => exact Rep.later T h
  | own m n => exact ⟨hL m h.1, by rw [T.nu G h.1]; exact h.2.1, h.2.2⟩
  | ptr m off => exact ⟨hL m h.1, by rw [T.adr h.1]; exact h.2⟩
  | fn f caps =>
    refine ⟨fun p hp => hL _ (h.1 p hp), ?_⟩
    have : (caps.map fun p => Value.pointer (some ⟨QR.adr E' p.1, p.2, none⟩)) = caps.map fun p => Value.pointer (some ⟨QR.adr E p.1, p.2, none⟩) := List.map_congr_left fun p hp => by rw [T.adr (h.1 p hp)]
    rw [this]; exact h.2
theorem ConcX.later (T : Later L E E' w w') (G : ∀ m, GB ≤ m → E'.ν m = E.ν m) (hL : ∀ m, L m → L' m) {c : XV} {y : Value} (h : ConcX L E w c y) : ConcX L' E' w' c y := by
  cases c with
  | c x => exact ConcC.later T G hL h
  | agg l => obtain ⟨ys, e, h⟩ := h; exact ⟨ys, e, h.mono fun _ _ => ConcC.later T G hL⟩
theorem ConcS.later (T : Later L E E' w w') (G : ∀ m, GB ≤ m → E'.ν m = E.ν m) (hL : ∀ m, L m → L' m) {c : SV} {y : Value} (h : ConcS L E w c y) : ConcS L' E' w' c y := by
  cases c with
  | x v => exact ConcX.later T G hL h
  | tup l => obtain ⟨ys, e, h⟩ := h; exact ⟨ys, e, h.mono fun _ _ => ConcX.later T G hL⟩
  | eptr m z i off => exact ⟨hL m h.1, h.2.1, by rw [T.nu G h.1]; exact h.2.2⟩
  | fptr z r i off =>
    obtain ⟨h0, b, o, arr, t, h1, h2, h3, h4⟩ := h
    refine ⟨h0, b, o, arr, t, T.F b h1, by rw [T.heap b h1]; exact h2, h3, fun j hj => ?_⟩
    obtain ⟨u, e, k⟩ := h4 j hj
    exact ⟨u, e, k.later T⟩
end

/-- what a row holds, by its cells -/
def RepRow (F : Nat → Prop) (w : World) (z : Nat) (n : Int) (r : Row) (xs : List Value) : Prop :=
  ∀ i j : Nat, (i : Int) < n → j < z → ∃ u, xs[i * z + j]? = some u ∧ Rep F w (den r i j) u

def live (s : PSt) (m : Nat) : Prop := (s.mem m).isSome = true ∨ (GB ≤ m ∧ (gtab m).isSome = true)

def blockOf (E : Env) (m : Nat) : Blk → Option Nat
  | .cells _ => some (E.β m)
  | .row _ _ _ => (E.ν m).ownBlock
  | _ => none

def BlkOK (base : Nat) (X : Nat → Prop) (L : Nat → Prop) (E : Env) (w : World) (m : Nat) : Blk → Prop
  | .cells l => (base ≤ E.β m ∨ X (E.β m)) ∧ ¬ E.F (E.β m) ∧ ∃ arr t, w.heap[E.β m]? = some (.cells arr t (0, 0)) ∧ Fa2 (ConcC L E w) l arr.toList
  | .row z n r => 0 ≤ n ∧ 0 < z ∧ (∀ k, (E.ν m).ownBlock = some k → ¬ E.F k) ∧ ∃ e xs, w.ownsRow base e z (E.ν m) n.toNat xs ∧ RepRow E.F w z n r xs
  | .fro z n r => Rep E.F w (.slc z n r) (E.ν m)
  | .dead => True

def Laid (F : Nat → Prop) (w : World) : Prop := ∀ m l, gtab m = some l → GB ≤ m → F (m - GB) ∧ ∃ arr t, w.heap[m - GB]? = some (.cells arr t (0, 0)) ∧ Fa2 (Rep F w) l arr.toList
theorem Laid.later {L : Nat → Prop} {E E' : Env} {w w' : World} (T : Later L E E' w w') (h : Laid E.F w) : Laid E'.F w' := by
  intro m l e hm
  obtain ⟨h1, arr, t, h2, h3⟩ := h m l e hm
  exact ⟨T.F _ h1, arr, t, by rw [T.heap _ h1]; exact h2, h3.mono fun _ _ => Rep.later T⟩

structure RelE (base : Nat) (X F0 : Nat → Prop) (B : Nat → Nat) (E : Env) (s : PSt) (a : Act) (w : World) : Prop where
  defers : a.defers = []
  size : a.tmps.size = s.tmps.length
  slots : ∀ (t : Nat) (g : GV), s.tmps[t]? = some g → g.k = true → ∃ y, a.tmps[t]? = some y ∧ ConcS (live s) E w g.v y
  mem : ∀ m b, s.mem m = some b → m < GB ∧ BlkOK base X (live s) E w m b
  sep : ∀ m m' b b', s.mem m = some b → s.mem m' = some b' → m ≠ m' → ∀ k, blockOf E m b = some k → blockOf E m' b' ≠ some k
  frz : ∀ k, E.F k → k < w.heap.size ∧ (F0 k ∨ base ≤ k)
  sub : ∀ k, F0 k → E.F k
  glob : Laid E.F w
  old : ∀ k, X k → k < w.heap.size
  pin : ∀ m, PN ≤ m → (s.mem m).isSome = true → E.β m = B m

/-- what was below base is as it was, but for the blocks of X -/
structure Keep (base : Nat) (X : Nat → Prop) (w w' : World) : Prop where
  os : w'.os = w.os
  tape : w'.tape = w.tape
  output : w'.output = w.output
  size : w.heap.size ≤ w'.heap.size
  block : ∀ k, k < base → ¬ X k → w'.heap[k]? = w.heap[k]?
theorem Keep.refl (base : Nat) (X : Nat → Prop) (w : World) : Keep base X w w := ⟨rfl, rfl, rfl, Nat.le_refl _, fun _ _ _ => rfl⟩
theorem Keep.trans {base : Nat} {X : Nat → Prop} {a b c : World} (h : Keep base X a b) (k : Keep base X b c) : Keep base X a c :=
  ⟨k.os.trans h.os, k.tape.trans h.tape, k.output.trans h.output, Nat.le_trans h.size k.size, fun i hi hx => (k.block i hi hx).trans (h.block i hi hx)⟩

theorem ownsRow_heap {w w' : World} {base : Nat} {e : TypeId} {z : Nat} {v : Value} {n : Nat} {xs : List Value} (h : w.ownsRow base e z v n xs) (hw : ∀ k, v.ownBlock = some k → w'.heap[k]? = w.heap[k]?) : w'.ownsRow base e z v n xs := by
  refine ⟨h.1, ?_⟩
  rcases h.2 with hn | ⟨g, cap, cur, rfl, hb, hgg, rest⟩
  · exact .inl hn
  · exact .inr ⟨g, cap, cur, rfl, hb, by rw [hw g rfl]; exact hgg, rest⟩

theorem BlkOK.later {base : Nat} {X L L' : Nat → Prop} {E E' : Env} {w w' : World} (T : Later L E E' w w') (G : ∀ m, GB ≤ m → E'.ν m = E.ν m) (hL : ∀ m, L m → L' m) {m : Nat} {b : Blk} (hm : L m) (hlt : m < GB)
    (h : BlkOK base X L E w m b) (hw : ∀ k, blockOf E m b = some k → w'.heap[k]? = w.heap[k]? ∧ ¬ E'.F k) : BlkOK base X L' E' w' m b := by
  cases b with
  | cells l =>
    obtain ⟨h1, h2, arr, t, h3, h4⟩ := h
    have eb := T.β m hm hlt
    obtain ⟨k1, k2⟩ := hw _ rfl
    unfold BlkOK
    rw [eb]
    exact ⟨h1, k2, arr, t, by rw [k1]; exact h3, h4.mono fun _ _ => ConcC.later T G hL⟩
  | row z n r =>
    obtain ⟨h0, h1, h2, e, xs, h3, h4⟩ := h
    have ev := T.ν m hm hlt
    unfold BlkOK
    rw [ev]
    refine ⟨h0, h1, fun k hk => (hw k hk).2, e, xs, ownsRow_heap h3 fun k hk => (hw k hk).1, fun i j hi hj => ?_⟩
    obtain ⟨u, e1, e2⟩ := h4 i j hi hj
    exact ⟨u, e1, e2.later T⟩
  | fro z n r =>
    have ev := T.ν m hm hlt
    unfold BlkOK at h ⊢
    rw [ev]; exact Rep.later T h
  | dead => trivial

section
variable {base : Nat} {X F0 : Nat → Prop} {B : Nat → Nat} {E : Env} {s : PSt} {a : Act} {w : World}

theorem RelE.eval (R : RelE base X F0 B E s a w) (x : Operand) (hk : (operand s x).k = true) : ConcS (live s) E w (operand s x).v (a.eval x) := by
  cases x with
  | tmp t =>
    simp only [operand, Act.eval] at *
    cases h : s.tmps[t]? with
    | none =>
      have h1 : s.tmps.length ≤ t := by simpa using h
      have h2 : a.tmps[t]? = none := by simp [R.size]; exact h1
      have e : s.tmps.getD t (gnow (.tup [])) = gnow (.tup []) := by simp [List.getD, h]
      have e2 : a.tmps.getD t undef = undef := by simp [h2]
      rw [e, e2]
      exact ⟨[], rfl, trivial⟩
    | some g =>
      have e : s.tmps.getD t (gnow (.tup [])) = g := by simp [List.getD, h]
      rw [e] at hk ⊢
      obtain ⟨y, h1, h2⟩ := R.slots t g h hk
      have e2 : a.tmps.getD t undef = y := by simp [h1]
      rw [e2]; exact h2
  | const v =>
    simp only [operand] at *
    split at hk
    · rename_i hp
      rw [if_pos hp]
      exact Rep.v hp
    · simp [gunk] at hk
  | global g =>
    simp only [operand] at *
    split at hk
    · rename_i hp
      rw [if_pos hp]
      refine ⟨Or.inr ⟨Nat.le_add_right _ _, hp⟩, ?_⟩
      simp [Act.eval, adr, Nat.le_add_right]
    · simp [gunk] at hk
  | func f => exact Rep.v rfl

/-- the world goes on, and one slot is written -/
theorem RelE.go (R : RelE base X F0 B E s a w) {E' : Env} {w' : World} {mem' : Nat → Option Blk} (dst : Option Tmp) (g : GV) (y : Value) (p : Prop) (l : List Tmp) (gen : Nat)
    (T : Later (live s) E E' w w') (G : ∀ m, GB ≤ m → E'.ν m = E.ν m) (hL : ∀ m, (s.mem m).isSome = true → (mem' m).isSome = true)
    (hy : g.k = true → ConcS (live ⟨s.tmps, mem', p, l, gen⟩) E' w' g.v y)
    (hmem : ∀ m b, mem' m = some b → m < GB ∧ BlkOK base X (live ⟨s.tmps, mem', p, l, gen⟩) E' w' m b)
    (hsep : ∀ m m' b b', mem' m = some b → mem' m' = some b' → m ≠ m' → ∀ k, blockOf E' m b = some k → blockOf E' m' b' ≠ some k)
    (hfrz : ∀ k, E'.F k → k < w'.heap.size ∧ (F0 k ∨ base ≤ k)) (hsz : w.heap.size ≤ w'.heap.size) (hpin : ∀ m, PN ≤ m → (mem' m).isSome = true → (s.mem m).isSome = true) :
    RelE base X F0 B E' ⟨setTmp s.tmps dst g, mem', p, l, gen⟩ (a.put dst y) w' := by
  have hLL : ∀ m, live s m → live ⟨s.tmps, mem', p, l, gen⟩ m := fun m hm => hm.elim (fun h => Or.inl (hL m h)) Or.inr
  have hslot : ∀ (t : Nat) (h : GV), s.tmps[t]? = some h → h.k = true → ∃ y, a.tmps[t]? = some y ∧ ConcS (live ⟨s.tmps, mem', p, l, gen⟩) E' w' h.v y := by
    intro t h e hk
    obtain ⟨y, h1, h2⟩ := R.slots t h e hk
    exact ⟨y, h1, ConcS.later T G hLL h2⟩
  refine ⟨?_, ?_, ?_, hmem, hsep, hfrz, fun k hk => T.F k (R.sub k hk), Laid.later T R.glob, fun k hk => Nat.lt_of_lt_of_le (R.old k hk) hsz, fun m hm h => ?_⟩
  · cases dst <;> exact R.defers
  · cases dst with
    | none => exact R.size
    | some d => simp [Act.put, setTmp, R.size]
  · cases dst with
    | none => exact hslot
    | some d =>
      intro t h e hk
      simp only [setTmp, List.getElem?_set] at e
      simp only [Act.put, Array.getElem?_setIfInBounds]
      split at e
      · rename_i hd
        subst hd
        split at e
        · rename_i hl
          simp only [Option.some.injEq] at e
          subst e
          exact ⟨y, by simp [R.size, hl], hy hk⟩
        · simp at e
      · rename_i hd
        simp only [hd, if_false]
        exact hslot t h e hk
  · have h0 := hpin m hm h
    obtain ⟨b, hb⟩ := Option.isSome_iff_exists.1 h0
    rw [T.β m (Or.inl h0) (R.mem m b hb).1]
    exact R.pin m hm h0

theorem blockOf_lt {L : Nat → Prop} {m : Nat} {b : Blk} (h : BlkOK base X L E w m b) {k : Nat} (hk : blockOf E m b = some k) : k < w.heap.size := by
  cases b with
  | cells l =>
    obtain ⟨_, _, arr, t, h3, _⟩ := h
    simp only [blockOf, Option.some.injEq] at hk
    subst hk
    exact (Array.getElem?_eq_some_iff.1 h3).1
  | row z n r =>
    obtain ⟨_, _, _, e, xs, h3, _⟩ := h
    exact (h3.lt k hk).2
  | fro _ _ _ => simp [blockOf] at hk
  | dead => simp [blockOf] at hk
theorem blockOf_nF {L : Nat → Prop} {m : Nat} {b : Blk} (h : BlkOK base X L E w m b) {k : Nat} (hk : blockOf E m b = some k) : ¬ E.F k := by
  cases b with
  | cells l => simp only [blockOf, Option.some.injEq] at hk; subst hk; exact h.2.1
  | row z n r => exact h.2.2.1 k hk
  | fro _ _ _ => simp [blockOf] at hk
  | dead => simp [blockOf] at hk

theorem beq_ne {a b : Nat} (h : a ≠ b) : Nat.beq a b = false := by
  cases e : Nat.beq a b
  · rfl
  · exact absurd (Nat.eq_of_beq_eq_true e) h
theorem beq_self (a : Nat) : Nat.beq a a = true := Nat.beq_refl a
theorem applyU_nil {m : Nat → Option Blk} : applyU m [] = m := rfl
theorem applyU_self {m : Nat → Option Blk} {n : Nat} {b : Blk} {l : List (Nat × Blk)} : applyU m ((n, b) :: l) n = some b := by simp [applyU, Nat.beq_refl]
theorem applyU_ne {m : Nat → Option Blk} {n k : Nat} {b : Blk} {l : List (Nat × Blk)} (h : k ≠ n) : applyU m ((n, b) :: l) k = applyU m l k := by simp [applyU, beq_ne h]
theorem applyU_some {m : Nat → Option Blk} : ∀ {l : List (Nat × Blk)} {k : Nat}, (m k).isSome = true → (applyU m l k).isSome = true
  | [], _, h => h
  | (n, b) :: l, k, h => by
    by_cases e : k = n
    · subst e; rw [applyU_self]; rfl
    · rw [applyU_ne e]; exact applyU_some h

theorem applyU_pin {m : Nat → Option Blk} : ∀ {l : List (Nat × Blk)} {k : Nat}, (∀ p ∈ l, p.1 < PN ∨ (m p.1).isSome = true) → PN ≤ k → (applyU m l k).isSome = true → (m k).isSome = true
  | [], _, _, _, h => h
  | (n, b) :: l, k, hl, hk, h => by
    by_cases e : k = n
    · subst e
      rcases hl (k, b) (by simp) with h1 | h1
      · exact absurd h1 (by simp only; omega)
      · exact h1
    · rw [applyU_ne e] at h
      exact applyU_pin (fun p hp => hl p (by simp [hp])) hk h

/-- a new block of cells -/
theorem RelE.new_cells (R : RelE base X F0 B E s a w) (hb : base ≤ w.heap.size) {name : Nat} (hn : s.mem name = none) (hltP : name < PN) (arr : Array Value) (t : TypeId) (l : List CV) (hl : Fa2 (ConcC (live s) E w) l arr.toList)
    (dst : Option Tmp) (p : Prop) (li : List Tmp) (gen : Nat) :
    ∃ E', RelE base X F0 B E' ⟨setTmp s.tmps dst (gnow (.x (.c (.ptr name 0)))), applyU s.mem [(name, .cells l)], p, li, gen⟩ (a.put dst (.pointer (some ⟨w.heap.size, 0, none⟩))) (w.alloc (.cells arr t)) := by
  have hlt : name < GB := Nat.lt_trans hltP PN_lt
  have hnl : ¬ live s name := fun h => h.elim (fun h => by rw [hn] at h; simp at h) (fun h => by omega)
  let E' : Env := ⟨E.F, fun m => if m = name then w.heap.size else E.β m, E.ν⟩
  have T : Later (live s) E E' w (w.alloc (.cells arr t)) := by
    refine ⟨fun _ h => h, fun k hk => heap_alloc_old w _ _ (R.frz k hk).1, fun m hm _ => ?_, fun _ _ _ => rfl⟩
    show (if m = name then w.heap.size else E.β m) = E.β m
    rw [if_neg (fun (e : m = name) => hnl (e ▸ hm))]
  have hLL : ∀ m, live s m → live ⟨s.tmps, applyU s.mem [(name, .cells l)], p, li, gen⟩ m := fun m hm => hm.elim (fun h => Or.inl (applyU_some h)) Or.inr
  have eβ : E'.β name = w.heap.size := by show (if name = name then w.heap.size else E.β name) = _; rw [if_pos rfl]
  have bo : ∀ m b, m ≠ name → blockOf E' m b = blockOf E m b := by
    intro m b hm
    cases b with
    | cells l =>
      show some (if m = name then w.heap.size else E.β m) = some (E.β m)
      rw [if_neg hm]
    | _ => rfl
  refine ⟨E', R.go dst _ _ p li gen T (fun _ _ => rfl) (fun m h => applyU_some h) (fun _ => ?_) ?_ ?_ ?_ (by simp) (fun m hm h => applyU_pin (by simp [hltP]) hm h)⟩
  · refine ⟨Or.inl (by simp only [applyU_self]; rfl), ?_⟩
    rw [adr, if_neg (by omega), eβ]
  · intro m b hm
    by_cases e : m = name
    · subst e
      rw [applyU_self] at hm
      simp only [Option.some.injEq] at hm
      subst hm
      refine ⟨hlt, ?_⟩
      unfold BlkOK
      rw [eβ]
      exact ⟨Or.inl hb, fun h => by have := (R.frz _ h).1; omega, arr, t, heap_alloc_new w _, hl.mono fun _ _ => ConcC.later T (fun _ _ => rfl) hLL⟩
    · rw [applyU_ne e] at hm
      have hm : s.mem m = some b := hm
      obtain ⟨h1, h2⟩ := R.mem m b hm
      refine ⟨h1, BlkOK.later T (fun _ _ => rfl) hLL (Or.inl (by rw [hm]; rfl)) h1 h2 fun k hk => ⟨heap_alloc_old w _ _ (blockOf_lt h2 hk), blockOf_nF h2 hk⟩⟩
  · intro m m' b b' hm hm' hne k hk hk'
    by_cases e : m = name
    · subst e
      have e' : m' ≠ m := fun h => hne h.symm
      rw [applyU_self] at hm
      rw [applyU_ne e'] at hm'
      simp only [Option.some.injEq] at hm
      subst hm
      rw [bo _ _ e'] at hk'
      have := blockOf_lt (R.mem m' b' hm').2 hk'
      simp only [blockOf, Option.some.injEq, eβ] at hk
      omega
    · rw [applyU_ne e] at hm
      rw [bo _ _ e] at hk
      by_cases e' : m' = name
      · subst e'
        rw [applyU_self] at hm'
        simp only [Option.some.injEq] at hm'
        subst hm'
        have := blockOf_lt (R.mem m b hm).2 hk
        simp only [blockOf, Option.some.injEq, eβ] at hk'
        omega
      · rw [applyU_ne e'] at hm'
        rw [bo _ _ e'] at hk'
        exact R.sep m m' b b' hm hm' hne k hk hk'
  · intro k hk
    have := R.frz k hk
    exact ⟨by simp; omega, this.2⟩

/-- the cells of a block of one's own are written anew -/
theorem RelE.put_cells (R : RelE base X F0 B E s a w) {m : Nat} {l0 l : List CV} (hm0 : s.mem m = some (.cells l0)) (arr : Array Value) (hl : Fa2 (ConcC (live s) E w) l arr.toList)
    (dst : Option Tmp) (g : GV) (y : Value) (hg : g.k = true → ConcS (live s) E w g.v y) (p : Prop) (li : List Tmp) (gen : Nat) :
    RelE base X F0 B E ⟨setTmp s.tmps dst g, applyU s.mem [(m, .cells l)], p, li, gen⟩ (a.put dst y) (w.setRow (E.β m) arr) ∧ Keep base X w (w.setRow (E.β m) arr) := by
  obtain ⟨hlt, hX, hnF, arr0, t, hh, _⟩ := R.mem m _ hm0
  have T : Later (live s) E E w (w.setRow (E.β m) arr) := ⟨fun _ h => h, fun k hk => setRow_other w _ _ _ (fun e => hnF (e ▸ hk)), fun _ _ _ => rfl, fun _ _ _ => rfl⟩
  have hLL : ∀ k, live s k → live ⟨s.tmps, applyU s.mem [(m, .cells l)], p, li, gen⟩ k := fun m hm => hm.elim (fun h => Or.inl (applyU_some h)) Or.inr
  have bo : ∀ k (b : Blk) (b' : Blk), s.mem k = some b → applyU s.mem [(m, .cells l)] k = some b' → blockOf E k b' = blockOf E k b := by
    intro k b b' h h'
    by_cases e : k = m
    · subst e; rw [applyU_self] at h'; rw [hm0] at h; simp only [Option.some.injEq] at h h'; subst h h'; rfl
    · rw [applyU_ne e] at h'; rw [show applyU s.mem [] k = s.mem k from rfl, h] at h'; simp only [Option.some.injEq] at h'; subst h'; rfl
  have bk : ∀ k (b' : Blk), applyU s.mem [(m, .cells l)] k = some b' → ∃ b, s.mem k = some b := by
    intro k b' h'
    by_cases e : k = m
    · subst e; exact ⟨_, hm0⟩
    · rw [applyU_ne e] at h'; exact ⟨_, h'⟩
  refine ⟨R.go dst g y p li gen T (fun _ _ => rfl) (fun m h => applyU_some h) (fun hk => ConcS.later T (fun _ _ => rfl) hLL (hg hk)) ?_ ?_ (fun k hk => ?_) (by simp [World.setRow]) (fun m' hm h => applyU_pin (by simp [hm0]) hm h), ⟨rfl, rfl, rfl, by simp [World.setRow], fun k hk hx => setRow_other w _ _ _ (fun e => ?_)⟩⟩
  · intro k b hk
    by_cases e : k = m
    · subst e
      rw [applyU_self] at hk
      simp only [Option.some.injEq] at hk
      subst hk
      exact ⟨hlt, hX, hnF, arr, t, setRow_heap w _ _ _ _ _ hh, hl.mono fun _ _ => ConcC.later T (fun _ _ => rfl) hLL⟩
    · rw [applyU_ne e] at hk
      have hk : s.mem k = some b := hk
      obtain ⟨h1, h2⟩ := R.mem k b hk
      refine ⟨h1, BlkOK.later T (fun _ _ => rfl) hLL (Or.inl (by rw [hk]; rfl)) h1 h2 fun j hj => ⟨setRow_other w _ _ _ (fun e' => ?_), blockOf_nF h2 hj⟩⟩
      exact R.sep k m b _ hk hm0 e j hj (by simp [blockOf, e'])
  · intro k k' b b' hk hk' hne j hj hj'
    obtain ⟨c, hc⟩ := bk k b hk
    obtain ⟨c', hc'⟩ := bk k' b' hk'
    rw [bo k c b hc hk] at hj
    rw [bo k' c' b' hc' hk'] at hj'
    exact R.sep k k' c c' hc hc' hne j hj hj'
  · have := R.frz k hk
    exact ⟨by simp [World.setRow]; exact this.1, this.2⟩
  · rcases hX with h | h
    · omega
    · exact hx (e ▸ h)

/-- a row of one's own is written anew -/
theorem RelE.put_row (R : RelE base X F0 B E s a w) {m z : Nat} {n : Int} {r0 r : Row} (hm0 : s.mem m = some (.row z n r0)) {w' : World} {k0 : Nat} (hk0 : (E.ν m).ownBlock = some k0) (hw : ∀ k, k ≠ k0 → w'.heap[k]? = w.heap[k]?)
    (hos : w'.os = w.os ∧ w'.tape = w.tape ∧ w'.output = w.output ∧ w'.heap.size = w.heap.size) {e : TypeId} {xs : List Value} (ho : w'.ownsRow base e z (E.ν m) n.toNat xs) (hr : RepRow E.F w z n r xs)
    (dst : Option Tmp) (g : GV) (y : Value) (hg : g.k = true → ConcS (live s) E w g.v y) (p : Prop) (li : List Tmp) (gen : Nat) :
    RelE base X F0 B E ⟨setTmp s.tmps dst g, applyU s.mem [(m, .row z n r)], p, li, gen⟩ (a.put dst y) w' ∧ Keep base X w w' := by
  obtain ⟨hlt, hn0, hz, hnF, e0, xs0, hown, _⟩ := R.mem m _ hm0
  have hbk := (hown.lt k0 hk0).1
  have T : Later (live s) E E w w' := ⟨fun _ h => h, fun k hk => hw k (fun e => hnF k0 hk0 (e ▸ hk)), fun _ _ _ => rfl, fun _ _ _ => rfl⟩
  have hLL : ∀ k, live s k → live ⟨s.tmps, applyU s.mem [(m, .row z n r)], p, li, gen⟩ k := fun m hm => hm.elim (fun h => Or.inl (applyU_some h)) Or.inr
  have bo : ∀ k (b : Blk) (b' : Blk), s.mem k = some b → applyU s.mem [(m, .row z n r)] k = some b' → blockOf E k b' = blockOf E k b := by
    intro k b b' h h'
    by_cases e : k = m
    · subst e; rw [applyU_self] at h'; rw [hm0] at h; simp only [Option.some.injEq] at h h'; subst h h'; rfl
    · rw [applyU_ne e] at h'; rw [show applyU s.mem [] k = s.mem k from rfl, h] at h'; simp only [Option.some.injEq] at h'; subst h'; rfl
  have bk : ∀ k (b' : Blk), applyU s.mem [(m, .row z n r)] k = some b' → ∃ b, s.mem k = some b := by
    intro k b' h'
    by_cases e : k = m
    · subst e; exact ⟨_, hm0⟩
    · rw [applyU_ne e] at h'; exact ⟨_, h'⟩
  refine ⟨R.go dst g y p li gen T (fun _ _ => rfl) (fun m h => applyU_some h) (fun hk => ConcS.later T (fun _ _ => rfl) hLL (hg hk)) ?_ ?_ (fun k hk => ?_) (by omega) (fun m' hm h => applyU_pin (by simp [hm0]) hm h), ⟨hos.1, hos.2.1, hos.2.2.1, by omega, fun k hk hx => hw k (by omega)⟩⟩
  · intro k b hk
    by_cases e : k = m
    · subst e
      rw [applyU_self] at hk
      simp only [Option.some.injEq] at hk
      subst hk
      refine ⟨hlt, hn0, hz, hnF, _, xs, ho, fun i j hi hj => ?_⟩
      obtain ⟨u, e1, e2⟩ := hr i j hi hj
      exact ⟨u, e1, e2.later T⟩
    · rw [applyU_ne e] at hk
      have hk : s.mem k = some b := hk
      obtain ⟨h1, h2⟩ := R.mem k b hk
      refine ⟨h1, BlkOK.later T (fun _ _ => rfl) hLL (Or.inl (by rw [hk]; rfl)) h1 h2 fun j hj => ⟨hw j (fun e' => ?_), blockOf_nF h2 hj⟩⟩
      exact R.sep k m b _ hk hm0 e j hj (by simp only [blockOf]; rw [e']; exact hk0)
  · intro k k' b b' hk hk' hne j hj hj'
    obtain ⟨c, hc⟩ := bk k b hk
    obtain ⟨c', hc'⟩ := bk k' b' hk'
    rw [bo k c b hc hk] at hj
    rw [bo k' c' b' hc' hk'] at hj'
    exact R.sep k k' c c' hc hc' hne j hj hj'
  · have := R.frz k hk
    exact ⟨by omega, this.2⟩

/-- a new row; an elder one may be gone with it -/
theorem RelE.new_row (R : RelE base X F0 B E s a w) (hb : base ≤ w.heap.size) {name : Nat} (hn : s.mem name = none) (hltP : name < PN) {w' : World} {v : Value} {row : Option Nat} (hg : w.grownBy w' row)
    {u : List (Nat × Blk)} (hu : (u = [] ∧ row = none) ∨ ∃ m z0 n0 r0, s.mem m = some (.row z0 n0 r0) ∧ row = (E.ν m).ownBlock ∧ u = [(m, .dead)])
    {z : Nat} {n : Int} {r : Row} {e : TypeId} {xs : List Value} (hz : 0 < z) (h0 : 0 ≤ n) (ho : w'.ownsRow base e z v n.toNat xs) (hr : RepRow E.F w' z n r xs) (hfresh : ∀ k, v.ownBlock = some k → w.heap.size ≤ k ∨ row = some k)
    (dst : Option Tmp) (p : Prop) (li : List Tmp) (gen : Nat) :
    (∃ E', RelE base X F0 B E' ⟨setTmp s.tmps dst (gnow (.x (.c (.own name n)))), applyU s.mem ((name, .row z n r) :: u), p, li, gen⟩ (a.put dst v) w') ∧ Keep base X w w' := by
  have hlt : name < GB := Nat.lt_trans hltP PN_lt
  have hnl : ¬ live s name := fun h => h.elim (fun h => by rw [hn] at h; simp at h) (fun h => by omega)
  have hrowF : ∀ k, row = some k → ¬ E.F k ∧ base ≤ k := by
    intro k hk
    rcases hu with ⟨_, rfl⟩ | ⟨m, z0, n0, r0, hm, rfl, _⟩
    · simp at hk
    · obtain ⟨_, _, _, h3, e0, xs0, h4, _⟩ := R.mem m _ hm
      exact ⟨h3 k hk, (h4.lt k hk).1⟩
  let E' : Env := ⟨E.F, E.β, fun m => if m = name then v else E.ν m⟩
  have T : Later (live s) E E' w w' := by
    refine ⟨fun _ h => h, fun k hk => hg.block k (R.frz k hk).1 (fun e => (hrowF k e.symm).1 hk), fun _ _ _ => rfl, fun m hm _ => ?_⟩
    show (if m = name then v else E.ν m) = E.ν m
    rw [if_neg (fun (e : m = name) => hnl (e ▸ hm))]
  have GG : ∀ m, GB ≤ m → E'.ν m = E.ν m := fun m hm => by show (if m = name then v else E.ν m) = E.ν m; rw [if_neg (by omega)]
  have hLL : ∀ m, live s m → live ⟨s.tmps, applyU s.mem ((name, .row z n r) :: u), p, li, gen⟩ m := fun m hm => hm.elim (fun h => Or.inl (applyU_some h)) Or.inr
  have eν : E'.ν name = v := by show (if name = name then v else E.ν name) = _; rw [if_pos rfl]
  have bo : ∀ m b, m ≠ name → blockOf E' m b = blockOf E m b := by
    intro m b hm
    cases b with
    | row z n r =>
      show (if m = name then v else E.ν m).ownBlock = _
      rw [if_neg hm]; rfl
    | _ => rfl
  -- what stands at another name than the new one
  have other : ∀ m b, m ≠ name → applyU s.mem ((name, .row z n r) :: u) m = some b → (∃ b0, s.mem m = some b0 ∧ (b = .dead ∨ (b = b0 ∧ ∀ k, blockOf E m b0 = some k → row ≠ some k))) := by
    intro m b hm h
    rw [applyU_ne hm] at h
    rcases hu with ⟨rfl, rfl⟩ | ⟨m0, z0, n0, r0, h0, rfl, rfl⟩
    · exact ⟨b, h, Or.inr ⟨rfl, fun k _ => by simp⟩⟩
    · by_cases e : m = m0
      · subst e
        rw [applyU_self] at h
        simp only [Option.some.injEq] at h
        exact ⟨_, h0, Or.inl h.symm⟩
      · rw [applyU_ne e] at h
        exact ⟨b, h, Or.inr ⟨rfl, fun k hk hr => R.sep m m0 b _ h h0 e k hk (by simpa [blockOf] using hr)⟩⟩
  refine ⟨⟨E', R.go dst _ _ p li gen T GG (fun m h => applyU_some h) (fun _ => ?_) ?_ ?_ (fun k hk => ?_) hg.size (fun m hm h => applyU_pin (fun q hq => ?_) hm h)⟩, ⟨hg.os, hg.tape, hg.output, hg.size, fun k hk _ => hg.block k (by omega) (fun e => by have := (hrowF k e.symm).2; omega)⟩⟩
  · refine ⟨Or.inl (by simp only [applyU_self]; rfl), eν.symm, h0, ?_⟩
    rcases ho.2 with ⟨rfl, hz⟩ | ⟨g, cap, cur, rfl, _⟩
    · exact Or.inl ⟨rfl, by omega⟩
    · exact Or.inr ⟨_, _, rfl⟩
  · intro m b hm
    by_cases e : m = name
    · subst e
      rw [applyU_self] at hm
      simp only [Option.some.injEq] at hm
      subst hm
      refine ⟨hlt, ?_⟩
      unfold BlkOK
      rw [eν]
      refine ⟨h0, hz, fun k hk hF => ?_, _, xs, ho, fun i j hi hj => ?_⟩
      · rcases hfresh k hk with h | h
        · have := (R.frz k hF).1; omega
        · exact (hrowF k h).1 hF
      · exact hr i j hi hj
    · obtain ⟨b0, h1, h2⟩ := other m b e hm
      obtain ⟨k1, k2⟩ := R.mem m b0 h1
      refine ⟨k1, ?_⟩
      rcases h2 with rfl | ⟨rfl, h2⟩
      · trivial
      · exact BlkOK.later T GG hLL (Or.inl (by rw [h1]; rfl)) k1 k2 fun k hk => ⟨hg.block k (blockOf_lt k2 hk) (fun e => h2 k hk e.symm), blockOf_nF k2 hk⟩
  · intro m m' b b' hm hm' hne k hk hk'
    have one : ∀ m b, m ≠ name → applyU s.mem ((name, .row z n r) :: u) m = some b → ∀ k, blockOf E' m b = some k → v.ownBlock ≠ some k := by
      intro m b e hm k hk hv
      obtain ⟨b0, h1, h2⟩ := other m b e hm
      rcases h2 with rfl | ⟨rfl, h2⟩
      · simp [blockOf] at hk
      · rw [bo _ _ e] at hk
        rcases hfresh k hv with h | h
        · have := blockOf_lt (R.mem m b h1).2 hk; omega
        · exact h2 k hk h
    by_cases e : m = name
    · subst e
      rw [applyU_self] at hm
      simp only [Option.some.injEq] at hm
      subst hm
      simp only [blockOf, eν] at hk
      exact one m' b' (fun h => hne h.symm) hm' k hk' hk
    · by_cases e' : m' = name
      · subst e'
        rw [applyU_self] at hm'
        simp only [Option.some.injEq] at hm'
        subst hm'
        simp only [blockOf, eν] at hk'
        exact one m b e hm k hk hk'
      · obtain ⟨b0, h1, h2⟩ := other m b e hm
        obtain ⟨b1, h3, h4⟩ := other m' b' e' hm'
        rcases h2 with rfl | ⟨rfl, h2⟩
        · simp [blockOf] at hk
        rcases h4 with rfl | ⟨rfl, h4⟩
        · simp [blockOf] at hk'
        rw [bo _ _ e] at hk
        rw [bo _ _ e'] at hk'
        exact R.sep m m' b b' h1 h3 hne k hk hk'
  · have := R.frz k hk
    exact ⟨Nat.lt_of_lt_of_le this.1 hg.size, this.2⟩
  · rcases List.mem_cons.1 hq with rfl | hq
    · exact Or.inl hltP
    · rcases hu with ⟨rfl, _⟩ | ⟨m0, z0, n0, r0, h0, _, rfl⟩
      · simp at hq
      · simp only [List.mem_singleton] at hq
        subst hq
        exact Or.inr (by simp [h0])
end
end Go.Proofs.YtafaadnjkkkafaaDoor.QR
