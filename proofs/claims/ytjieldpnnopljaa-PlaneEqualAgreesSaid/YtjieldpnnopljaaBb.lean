/-
  Opening arguments made of flat structs and arrays cell by cell, and the last step of a law that changes nothing below the heap's old size: its arguments read xs before.
  Contracts of wide.Of, Mul, Add, Sub and Compare and of the specification's Compare and Sub on two words.
  Contracts of wide.MulSmall and the specification's Sub and MulSmall on two words.
  The contract of the specification's MulSmall (by doubling) on two words: the product below 2^128, or false.
  Contracts of wide.DivMod, Half and Sqrt on two words: quotient and remainder, the nearest integer, the greatest integer whose square is at most the number.
  The laws of layer 2 (wide), walked: each returns true for all arguments in their ranges.
-/
import Derived.Test.YtjieldpnnopljaaProg
import Derived.ProofKit
import Derived.OpenShut
import Derived.Carry
import Derived.Below
import Derived.Test.YtjieldpnnopljaaBa
import Derived.Shelf.Spec.BitsCarry
import Derived.Deep.DeepMust
import Derived.Deep.RegionHeld3
namespace Go.Proofs.Ytjieldpnnopljaa
open Go.ChangeShapes Go.WideShapes Go.ChangeAt Go.RowKit
set_option linter.unusedVariables false

/-- two lists, related place by place -/
def All2 {α β : Type} (R : α → β → Prop) : List α → List β → Prop
  | [], [] => True
  | a :: xs, b :: ys => R a b ∧ All2 R xs ys
  | _, _ => False
theorem All2.cons {α β : Type} {R : α → β → Prop} {a : α} {xs : List α} {ys : List β} (h : All2 R (a :: xs) ys) : ∃ b ys', ys = b :: ys' ∧ R a b ∧ All2 R xs ys' := by
  cases ys with
  | nil => exact h.elim
  | cons b ys => exact ⟨b, ys, rfl, h.1, h.2⟩
theorem All2.nil {α β : Type} {R : α → β → Prop} {ys : List β} (h : All2 R [] ys) : ys = [] := by
  cases ys with
  | nil => rfl
  | cons b ys => exact h.elim
theorem All2.append {α β : Type} {R : α → β → Prop} : ∀ (xs xs' : List α) (ys : List β), All2 R xs (ys.take xs.length) → All2 R xs' (ys.drop xs.length) → All2 R (xs ++ xs') ys
  | [], xs', ys, _, h => by simpa using h
  | a :: xs, xs', [], h, _ => by simp [All2] at h
  | a :: xs, xs', b :: ys, h, k => by
    simp only [List.length_cons, List.take_succ_cons, All2] at h
    simp only [List.length_cons, List.drop_succ_cons] at k
    exact ⟨h.1, All2.append xs xs' ys h.2 k⟩
theorem All2.imp {α β : Type} {R S : α → β → Prop} (f : ∀ a b, R a b → S a b) : ∀ (xs : List α) (ys : List β), All2 R xs ys → All2 S xs ys
  | [], [], _ => trivial
  | [], _ :: _, h => h.elim
  | _ :: _, [], h => h.elim
  | a :: xs, b :: ys, h => ⟨f _ _ h.1, All2.imp f xs ys h.2⟩

/-- the cells' types of a type made of structs and arrays, where they lie without gaps -/
def flatFields (P : Program) (rec : TypeId → Option (List TypeId)) : List Field → Nat → Option (List TypeId)
  | [], _ => some []
  | f :: fs, off => match rec f.type, flatFields P rec fs (off + P.cellsOf f.type) with
    | some us, some vs => if f.offset = off ∧ us.length = P.cellsOf f.type then some (us ++ vs) else none
    | _, _ => none
def flat (P : Program) : Nat → TypeId → Option (List TypeId)
  | 0, _ => none
  | n + 1, t => match P.underlying t with
    | some (.struct fs) => match flatFields P (flat P n) fs.toList 0 with
      | some us => if us.length = P.cellsOf t then some us else none
      | none => none
    | some (.array m e) => match flat P n e with
      | some us => if us.length = P.cellsOf e ∧ m * us.length = P.cellsOf t then some (List.replicate m us).flatten else none
      | none => none
    | _ => some [t]

section
variable {H : Type} {enc : TypeId × Value → H} {P : Program} {w : World} {base : Nat} {sp : Nat → Bool} {hd : Bool}

/-- a cell that reads xs a datum of its type -/
def Leaf (enc : TypeId × Value → H) (P : Program) (w : World) (base : Nat) (sp : Nat → Bool) (hd : Bool) (ps : List MemPlace) (u : TypeId) (c : Value) : Prop :=
  ∃ fuel y, DataW.trod enc P w base sp hd fuel u [c] = some y ∧ ∀ q ∈ y.2, q ∈ ps

theorem Leaf.mono {ps ps' : List MemPlace} {u : TypeId} {c : Value} (h : Leaf enc P w base sp hd ps u c) (hs : ∀ q ∈ ps, q ∈ ps') : Leaf enc P w base sp hd ps' u c := by
  obtain ⟨f, y, h1, h2⟩ := h
  exact ⟨f, y, h1, fun q hq => hs q (h2 q hq)⟩

theorem flatFields_read {n m : Nat} {cs : List Value} {ps : List MemPlace} (ih : ∀ (t : TypeId) (us : List TypeId) (cs : List Value) (x : DataW H × List MemPlace), flat P n t = some us → DataW.trod enc P w base sp hd m t cs = some x → All2 (Leaf enc P w base sp hd x.2) us cs) :
    ∀ (fs : List Field) (off : Nat) (us : List TypeId), flatFields P (flat P n) fs off = some us →
      (∀ f ∈ fs, ∃ x, DataW.trod enc P w base sp hd m f.type ((cs.drop f.offset).take (P.cellsOf f.type)) = some x ∧ ∀ q ∈ x.2, q ∈ ps) →
      All2 (Leaf enc P w base sp hd ps) us ((cs.drop off).take us.length)
  | [], off, us, h, _ => by
    simp only [flatFields, Option.some.injEq] at h
    subst h
    simp [All2]
  | f :: fs, off, us, h, hf => by
    simp only [flatFields] at h
    split at h <;> try simp at h
    rename_i us1 vs h1 h2
    obtain ⟨⟨ho, hl⟩, rfl⟩ := h
    obtain ⟨x, hx, hxp⟩ := hf f (by simp)
    have a1 := ih _ _ _ _ h1 hx
    have a2 := flatFields_read ih fs _ vs h2 (fun g hg => hf g (by simp [hg]))
    refine All2.append _ _ _ ?_ ?_
    · rw [List.take_take, List.length_append, Nat.min_eq_left (by omega), hl, ← ho]
      exact All2.imp (fun a b h => Leaf.mono h hxp) _ _ a1
    · rw [List.drop_take, List.length_append, Nat.add_sub_cancel_left, List.drop_drop, hl]
      exact a2

theorem flat_rows {n m : Nat} {us : List TypeId} {k : Nat} {e : TypeId} {ps : List MemPlace} (hl : us.length = P.cellsOf e) :
    ∀ (j i : Nat) (cs : List Value), (∀ q, q < j → All2 (Leaf enc P w base sp hd ps) us ((cs.drop (q * P.cellsOf e)).take (P.cellsOf e))) → cs.length = j * us.length → All2 (Leaf enc P w base sp hd ps) (List.replicate j us).flatten cs
  | 0, i, cs, _, h => by
    have : cs = [] := by simpa using h
    subst this
    simp [All2]
  | j + 1, i, cs, h, hc => by
    rw [List.replicate_succ, List.flatten_cons]
    refine All2.append _ _ _ ?_ ?_
    · have := h 0 (by omega)
      simpa [hl] using this
    · refine flat_rows (n := n) (m := m) (k := k) hl j i _ (fun q hq => ?_) (by simp [hc, Nat.add_mul])
      have := h (q + 1) (by omega)
      rw [List.drop_drop, hl, Nat.add_comm (P.cellsOf e), ← Nat.succ_mul]
      exact this

theorem flat_read : ∀ (n : Nat) (t : TypeId) (us : List TypeId) (fuel : Nat) (cs : List Value) (x : DataW H × List MemPlace), flat P n t = some us → DataW.trod enc P w base sp hd fuel t cs = some x → All2 (Leaf enc P w base sp hd x.2) us cs
  | 0, _, _, _, _, _, h, _ => by simp [flat] at h
  | n + 1, t, us, fuel, cs, x, h, hx => by
    unfold flat at h
    split at h
    · rename_i fs hs
      obtain ⟨xs, m, rfl, rfl, hl, hlen, hf⟩ := DataW.trod_struct hs hx
      split at h <;> try simp at h
      rename_i us' h1
      obtain ⟨h2, rfl⟩ := h
      have a := flatFields_read (cs := cs) (ps := xs.flatMap (·.2)) (fun t us cs x h k => flat_read n t us m cs x h k) fs.toList 0 us' h1 (fun f hfm => by
        obtain ⟨i, hi, rfl⟩ := List.getElem_of_mem hfm
        have e : fs[i]? = some fs.toList[i] := by simp at hi ⊢
        have hi' : i < xs.length := by rw [hlen]; simpa using hi
        have := hf i _ e
        rw [List.getElem?_eq_getElem hi'] at this
        exact ⟨_, this, fun q hq => List.mem_flatMap.2 ⟨_, List.getElem_mem hi', hq⟩⟩)
      rw [h2, ← hl] at a
      simpa using a
    · rename_i k e hs
      obtain ⟨xs, m, rfl, rfl, hl, hlen, hf⟩ := DataW.trod_array hs hx
      split at h <;> try simp at h
      rename_i us' h1
      obtain ⟨⟨h2, h3⟩, rfl⟩ := h
      refine flat_rows (n := 0) (m := 0) (k := 0) h2 k 0 cs (fun q hq => ?_) (by rw [hl, h3])
      have hi' : q < xs.length := by rw [hlen]; exact hq
      have := hf q hq
      rw [List.getElem?_eq_getElem hi'] at this
      exact All2.imp (fun a b h => Leaf.mono h (fun z hz => List.mem_flatMap.2 ⟨_, List.getElem_mem hi', hz⟩)) _ _ (flat_read n e us' m _ _ h1 this)
    · rename_i hns hna
      simp only [Option.some.injEq] at h
      subst h
      have : ∃ c, cs = [c] := by
        cases fuel with
        | zero => simp [DataW.trod] at hx
        | succ m =>
          unfold DataW.trod at hx
          split at hx <;> first | exact ⟨_, rfl⟩ | (exfalso; simp_all; done) | simp_all
      obtain ⟨c, rfl⟩ := this
      exact ⟨⟨fuel, x, hx, fun q hq => hq⟩, trivial⟩

/-- a struct or an array by value, opened cell by cell -/
theorem open_flat {r : Reach} {b0 : Nat} {t : TypeId} {v : Value} {d : DataW H} {ps : List MemPlace} (us : List TypeId) (hfl : flat P 8 t = some us)
    (hk : (∃ fs, P.underlying t = some (.struct fs)) ∨ ∃ n e, P.underlying t = some (.array n e)) (hv : Value.okWide P w r b0 t v) (h : DataW.Trod enc P w base sp hd t v d ps) :
    ∃ l : List Value, v = .agg l.toArray ∧ All2 (Leaf enc P w base sp hd ps) us l := by
  obtain ⟨cs, rfl⟩ : ∃ cs, v = .agg cs := by
    rcases hk with ⟨fs, hs⟩ | ⟨n, e, hs⟩ <;> simp only [Value.okWide, hs] at hv <;> (obtain ⟨cs, h1, _⟩ := hv; exact ⟨cs, h1⟩)
  obtain ⟨fuel, hf⟩ := h
  have := flat_read 8 t us fuel _ _ hfl hf
  exact ⟨cs.toList, by simp, by simpa [Value.cells] using this⟩

theorem Leaf.int {ps : List MemPlace} {u : TypeId} {c : Value} {k : IntKind} (h : Leaf enc P w base sp hd ps u c) (hu : P.underlying u = some (.int k)) : ∃ n, c = .int k n ∧ (Lit.int k n).wf = true := by
  obtain ⟨f, y, hy, _⟩ := h
  obtain ⟨n, h1, _, h3⟩ := DataW.trod_int hu hy
  exact ⟨n, by simpa using h1, h3⟩
theorem Leaf.bool {ps : List MemPlace} {u : TypeId} {c : Value} (h : Leaf enc P w base sp hd ps u c) (hu : P.underlying u = some .bool) : ∃ b, c = .bool b := by
  obtain ⟨f, y, hy, _⟩ := h
  obtain ⟨n, h1, _⟩ := DataW.trod_bool hu hy
  exact ⟨n, by simpa using h1⟩
theorem Leaf.string {ps : List MemPlace} {u : TypeId} {c : Value} (h : Leaf enc P w base sp hd ps u c) (hu : P.underlying u = some .string) : ∃ s : ByteArray, c = .string s ∧ s.size ≤ maxLen := by
  obtain ⟨f, y, hy, _⟩ := h
  obtain ⟨n, h1, _, h3⟩ := DataW.trod_string hu hy
  exact ⟨n, by simpa using h1, h3⟩
end

/-- every argument reads behind the call xs before, if nothing below the heap's old size has turned -/
theorem trodAll_keep {H : Type} {enc : TypeId × Value → H} {P : Program} (hl : laidOutB P = true) {W W' : World} (hb : Below W.heap.size W W') :
    ∀ (ts : List TypeId) (vs : List Value) (ds : List (DataW H)) (ps : List MemPlace), (∀ t ∈ ts, P.readableRec t = true ∧ t < P.types.size) → DataW.TrodAll enc P W 0 (fun _ => true) true ts vs ds ps →
      (∀ x ∈ ps, x.block < W.heap.size) → DataW.TrodAll enc P W' 0 (fun b => decide (b < W.heap.size)) true ts vs ds ps
  | [], [], [], _, _, h, _ => h
  | t :: ts, v :: vs, d :: ds, ps, hr, h, hlt => by
    obtain ⟨p, q, h1, h2, rfl⟩ := h
    exact ⟨p, q, Below.trod hl (hr t (by simp)).1 (hr t (by simp)).2 h1 hb (fun x hx => hlt x (by simp [hx])), trodAll_keep hl hb ts vs ds q (fun t ht => hr t (by simp [ht])) h2 (fun x hx => hlt x (by simp [hx])), rfl⟩
  | [], [], _ :: _, _, _, h, _ | [], _ :: _, _, _, _, h, _ | _ :: _, [], _, _, _, h, _ | _ :: _, _ :: _, [], _, _, h, _ => by simp [DataW.TrodAll] at h

/-- the last step of a law that changes nothing below the heap's old size -/
theorem Law.keep {H : Type} {enc : TypeId × Value → H} {P : Program} {f : Func} {s : ChangeSpec} {apart fresh handsOn : Bool} {W W' : World} {args : Array Value} {v : Value} {ds gs : List (DataW H)} {before : List MemPlace}
    (hl : laidOutB P = true) (hr : ∀ t ∈ f.params.toList, P.readableRec t = true ∧ t < P.types.size) (hsv : s.vars = [])
    (hW : DataW.Whole enc P f.params.toList s.vars apart W args.toList ds gs before)
    (hlt : ∀ x ∈ before, x.block < W.heap.size)
    (hb : Below W.heap.size W W')
    (hfa : (s.fn H (ds ++ gs)).args = ds) (hfv : (s.fn H (ds ++ gs)).vars = [])
    (hres : ∀ (b : Nat) (sp : Nat → Bool) (hd : Bool), DataW.TrodAll enc P W' b sp hd f.resultTypes.toList (v.resultList f.resultTypes.size) (s.fn H (ds ++ gs)).results []) :
    s.post enc P f apart fresh handsOn false W args v W' := by
  have hW0 := hW
  obtain ⟨p, q, hA, hV, rfl, _, _⟩ := hW
  refine ⟨ds, gs, p ++ q, [], p, [], hW0, hres _ _ _, ?_, ?_, World.keptBut_mono (fun _ h => absurd h (by simp)) (hb.frame (fun _ => False)), fun h => by simp at h⟩
  · rw [hfa]
    exact trodAll_keep hl hb _ _ _ _ hr hA (fun x hx => hlt x (by simp [hx]))
  · rw [hfv, hsv]
    exact rfl
end Go.Proofs.Ytjieldpnnopljaa
namespace Go.Proofs.Ytjieldpnnopljaa
open Go.RowKit
set_option linter.unusedVariables false

theorem Word2.lt {n hi lo : Nat} (h : Word2 n hi lo) : n < 340282366920938463463374607431768211456 := by
  obtain ⟨a, b, c⟩ := h; omega
theorem Word2.unique {n a b c d : Nat} (h : Word2 n a b) (k : Word2 n c d) : a = c ∧ b = d := by
  obtain ⟨h1, h2, h3⟩ := h; obtain ⟨k1, k2, k3⟩ := k; omega
theorem Word2.inj {n m a b : Nat} (h : Word2 n a b) (k : Word2 m a b) : n = m := by
  obtain ⟨h1, h2, h3⟩ := h; obtain ⟨k1, k2, k3⟩ := k; omega
theorem word2_of (n : Nat) (h : n < 340282366920938463463374607431768211456) : ∃ hi lo, Word2 n hi lo := ⟨n / 18446744073709551616, n % 18446744073709551616, by omega, by omega, by omega⟩
theorem word2_mk (hi lo : Nat) (h : hi < 18446744073709551616) (k : lo < 18446744073709551616) : Word2 (hi * 18446744073709551616 + lo) hi lo := ⟨rfl, k, h⟩

/-- what both comparisons answer -/
def cmp3 (x y : Nat) : Int := if x < y then -1 else if x = y then 0 else 1

theorem cmp3_lt {x y : Nat} (h : x < y) : cmp3 x y = -1 := by unfold cmp3; rw [if_pos h]
theorem cmp3_eq (x : Nat) : cmp3 x x = 0 := by unfold cmp3; rw [if_neg (by omega), if_pos rfl]
theorem cmp3_gt {x y : Nat} (h : y < x) : cmp3 x y = 1 := by unfold cmp3; rw [if_neg (by omega), if_neg (by omega)]

theorem below_alloc {w a : World} (h : Below w.heap.size w a) (o : Obj) : Below w.heap.size w (a.alloc o) := h.alloc h.size o
theorem below_drew {w a : World} (h : Below w.heap.size w a) : Below w.heap.size w a.drew := h.drew
theorem below_drewn {w a : World} (h : Below w.heap.size w a) (n : Nat) : Below w.heap.size w (a.drewN n) := h.trans ⟨rfl, rfl, rfl, Nat.le_refl _, fun _ _ => rfl⟩
theorem below_set {w a : World} (h : Below w.heap.size w a) {p : Addr} (hp : w.heap.size ≤ p.block) (u : Value) : Below w.heap.size w (a.setCell p u) := h.setCell hp u

end Go.Proofs.Ytjieldpnnopljaa
namespace Go.Proofs.Ytjieldpnnopljaa
open Go.RowKit
set_option linter.unusedVariables false

theorem mul_split {n ah al k : Nat} (h : Word2 n ah al) (m l o p : Nat) (e1 : al * k = m * 18446744073709551616 + l) (e2 : ah * k = o * 18446744073709551616 + p) :
    n * k = (o * 18446744073709551616 + p + m) * 18446744073709551616 + l := by
  rw [← h.1, Nat.add_mul, Nat.mul_right_comm, e1, e2]; omega

end Go.Proofs.Ytjieldpnnopljaa
namespace Go.Proofs.Ytjieldpnnopljaa
open Go.RowKit
set_option linter.unusedVariables false

/-- a box of two words that may be written -/
def Box2 (w : World) (b : Nat) (x y : Value) : Prop := w.cell? ⟨b, 0, none⟩ = some x ∧ w.cell? ⟨b, 1, none⟩ = some y ∧ w.frozen? ⟨b, 0, none⟩ = false ∧ w.frozen? ⟨b, 1, none⟩ = false

theorem Box2.keep {w w' : World} {b : Nat} {x y : Value} (h : Box2 w b x y) (hb : Below w.heap.size w w') (hlt : b < w.heap.size) : Box2 w' b x y := by
  obtain ⟨h1, h2, h3, h4⟩ := h
  obtain ⟨hc, hf⟩ := bcell hb
  exact ⟨(hc b 0 hlt).trans h1, (hc b 1 hlt).trans h2, (hf b 0 hlt).trans h3, (hf b 1 hlt).trans h4⟩

theorem Box2.set {w : World} {b : Nat} {x y : Value} (h : Box2 w b x y) (u v : Value) : Box2 ((w.setCell ⟨b, 0, none⟩ u).setCell ⟨b, 1, none⟩ v) b u v := by
  obtain ⟨h1, h2, h3, h4⟩ := h
  refine ⟨?_, ?_, ?_, ?_⟩ <;> simp [go_sem, h1, h2, h3, h4]
theorem Box2.other {w : World} {b : Nat} {x y : Value} (h : Box2 w b x y) {p : Addr} (hp : p.block ≠ b) (u : Value) : Box2 (w.setCell p u) b x y := by
  obtain ⟨h1, h2, h3, h4⟩ := h
  have e1 : p ≠ ⟨b, 0, none⟩ := by intro h; subst h; exact hp rfl
  have e2 : p ≠ ⟨b, 1, none⟩ := by intro h; subst h; exact hp rfl
  refine ⟨?_, ?_, ?_, ?_⟩ <;> simp [go_sem, h1, h2, h3, h4, e1, e2]

/-- a result that fits into 128 bits, or zero and false -/
def Ans (n hi lo : Nat) (b : Bool) : Prop := (b = true ∧ Word2 n hi lo) ∨ (b = false ∧ hi = 0 ∧ lo = 0 ∧ ¬ n < 340282366920938463463374607431768211456)
theorem Ans.unique {n h l h' l' : Nat} {b b' : Bool} (x : Ans n h l b) (y : Ans n h' l' b') : h = h' ∧ l = l' ∧ b = b' := by
  rcases x with ⟨rfl, x⟩ | ⟨rfl, rfl, rfl, x⟩ <;> rcases y with ⟨rfl, y⟩ | ⟨rfl, rfl, rfl, y⟩
  · obtain ⟨h1, h2⟩ := x.unique y; exact ⟨h1, h2, rfl⟩
  · exact absurd x.lt y
  · exact absurd y.lt x
  · exact ⟨rfl, rfl, rfl⟩

/-- the pair of such a result -/
def AnsOf (n : Nat) (e : Ending) : Prop := ∃ (hi lo : Nat) (b : Bool), e = .returned (.tuple #[.agg #[.int .u64 hi, .int .u64 lo], .bool b]) ∧ Ans n hi lo b
theorem AnsOf.yes {n hi lo : Nat} (h : Word2 n hi lo) : AnsOf n (.returned (.tuple #[.agg #[.int .u64 hi, .int .u64 lo], .bool true])) := ⟨hi, lo, true, rfl, Or.inl ⟨rfl, h⟩⟩
theorem AnsOf.no {n : Nat} (h : ¬ n < 340282366920938463463374607431768211456) : AnsOf n (.returned (.tuple #[.agg #[.int .u64 0, .int .u64 0], .bool false])) := ⟨0, 0, false, rfl, Or.inr ⟨rfl, rfl, rfl, h⟩⟩

/-- a difference, or zero and false where it is negative -/
def Dif (x y hi lo : Nat) (b : Bool) : Prop := (b = true ∧ Word2 (x - y) hi lo ∧ y ≤ x) ∨ (b = false ∧ hi = 0 ∧ lo = 0 ∧ ¬ y ≤ x)
theorem Dif.unique {x y h l h' l' : Nat} {b b' : Bool} (p : Dif x y h l b) (q : Dif x y h' l' b') : h = h' ∧ l = l' ∧ b = b' := by
  rcases p with ⟨rfl, p, p'⟩ | ⟨rfl, rfl, rfl, p⟩ <;> rcases q with ⟨rfl, q, q'⟩ | ⟨rfl, rfl, rfl, q⟩
  · obtain ⟨h1, h2⟩ := p.unique q; exact ⟨h1, h2, rfl⟩
  · exact absurd p' q
  · exact absurd q' p
  · exact ⟨rfl, rfl, rfl⟩
def DifOf (x y : Nat) (e : Ending) : Prop := ∃ (hi lo : Nat) (b : Bool), e = .returned (.tuple #[.agg #[.int .u64 hi, .int .u64 lo], .bool b]) ∧ Dif x y hi lo b
theorem DifOf.yes {x y hi lo : Nat} (h : Word2 (x - y) hi lo) (k : y ≤ x) : DifOf x y (.returned (.tuple #[.agg #[.int .u64 hi, .int .u64 lo], .bool true])) := ⟨hi, lo, true, rfl, Or.inl ⟨rfl, h, k⟩⟩
theorem DifOf.no {x y : Nat} (h : ¬ y ≤ x) : DifOf x y (.returned (.tuple #[.agg #[.int .u64 0, .int .u64 0], .bool false])) := ⟨0, 0, false, rfl, Or.inr ⟨rfl, rfl, rfl, h⟩⟩
end Go.Proofs.Ytjieldpnnopljaa
namespace Go.Proofs.Ytjieldpnnopljaa
open Go.RowKit
set_option linter.unusedVariables false

theorem Box2.drew {w : World} {b : Nat} {x y : Value} (h : Box2 w b x y) : Box2 w.drew b x y := h
theorem Box2.alloc {w : World} {b : Nat} {x y : Value} (h : Box2 w b x y) (hlt : b < w.heap.size) (o : Obj) : Box2 (w.alloc o) b x y :=
  h.keep ((Below.refl _ _).alloc (Nat.le_refl _) o) hlt

theorem two_div (hi lo d : Nat) (hd : 0 < d) :
    (hi * 18446744073709551616 + lo) / d = hi / d * 18446744073709551616 + (hi % d * 18446744073709551616 + lo) / d ∧ (hi * 18446744073709551616 + lo) % d = (hi % d * 18446744073709551616 + lo) % d := by
  have e : hi * 18446744073709551616 + lo = (hi % d * 18446744073709551616 + lo) + hi / d * 18446744073709551616 * d := by
    have h1 := Nat.div_add_mod hi d
    have h2 : hi * 18446744073709551616 = (d * (hi / d) + hi % d) * 18446744073709551616 := by rw [h1]
    rw [Nat.add_mul, Nat.mul_comm d, Nat.mul_right_comm] at h2
    rw [h2, Nat.add_right_comm, Nat.add_comm]
    generalize hi / d * 18446744073709551616 * d = a
    generalize hi % d * 18446744073709551616 = b
    omega
  constructor
  · rw [e, Nat.add_mul_div_right _ _ hd]; omega
  · rw [e, Nat.add_mul_mod_self_right]

theorem wroot_lt {n s : Nat} (h : IsRoot n s) (hn : n < 340282366920938463463374607431768211456) : s < 18446744073709551616 := by
  by_cases hl : s < 18446744073709551616
  · exact hl
  · have h2 := Nat.mul_le_mul (by omega : 18446744073709551616 ≤ s) (by omega : 18446744073709551616 ≤ s)
    have := h.1
    omega
theorem wroot_start {n s b : Nat} (h : IsRoot n s) (hb : n < 2 ^ b) : s < 2 ^ ((b + 1) / 2) := by
  have h1 : 2 ^ b ≤ 2 ^ ((b + 1) / 2) * 2 ^ ((b + 1) / 2) := by
    rw [← Nat.pow_add]; exact Nat.pow_le_pow_right (by decide) (by omega)
  by_cases hl : s < 2 ^ ((b + 1) / 2)
  · exact hl
  · have h2 := Nat.mul_le_mul (by omega : 2 ^ ((b + 1) / 2) ≤ s) (by omega : 2 ^ ((b + 1) / 2) ≤ s)
    have := h.1
    omega
theorem root_ge {n s x : Nat} (h : IsRoot n s) (hx : x * x ≤ n) : x ≤ s := by
  by_cases hl : x ≤ s
  · exact hl
  · have h2 := Nat.mul_le_mul (by omega : s + 1 ≤ x) (by omega : s + 1 ≤ x)
    have := h.2
    omega

theorem shl_one (k : Nat) (hk : k ≤ 64) : IntKind.u64.wrap (IntKind.u64.wrap ((2 : Int) ^ k) - 1) = ((2 ^ k - 1 : Nat) : Int) := by
  have e : (2 : Int) ^ k = ((2 ^ k : Nat) : Int) := by simp
  have h1 : 2 ^ k ≤ 18446744073709551616 := Nat.pow_le_pow_right (n := 2) (j := 64) (by decide) hk
  have h2 := Nat.two_pow_pos k
  rw [e]
  generalize 2 ^ k = z at *
  rw [IntKind.wrap_u64, IntKind.wrap_u64]
  omega

end Go.Proofs.Ytjieldpnnopljaa
namespace Go.Proofs.Ytjieldpnnopljaa
open Go.RowKit
set_option linter.unusedVariables false

theorem Box2.lt {w : World} {b : Nat} {x y : Value} (h : Box2 w b x y) : b < w.heap.size := World.block_lt_of_cell? w ⟨b, 0, none⟩ h.1
theorem Box2.thru {w v w' : World} {b : Nat} {x y : Value} (h : Box2 w b x y) (hx : Below v.heap.size v w') (hm : Below w.heap.size w v) : Box2 w' b x y :=
  (h.keep hm h.lt).keep hx (Nat.lt_of_lt_of_le h.lt hm.size)

theorem held_of {v w' : World} (h : Below v.heap.size v w') : (∀ b o, b < v.heap.size → w'.cell? ⟨b, o, none⟩ = v.cell? ⟨b, o, none⟩) ∧ Below v.heap.size v w' := ⟨fun b o hb => (bcell h).1 b o hb, h⟩
theorem held_then {v a b : World} (h : (∀ i o, i < v.heap.size → a.cell? ⟨i, o, none⟩ = v.cell? ⟨i, o, none⟩) ∧ Below v.heap.size v a) (k : Below a.heap.size a b) :
    (∀ i o, i < v.heap.size → b.cell? ⟨i, o, none⟩ = v.cell? ⟨i, o, none⟩) ∧ Below v.heap.size v b := held_of (below_then h.2 k)

theorem held_alloc {v a : World} (h : (∀ i o, i < v.heap.size → a.cell? ⟨i, o, none⟩ = v.cell? ⟨i, o, none⟩) ∧ Below v.heap.size v a) (o : Obj) :
    (∀ i p, i < v.heap.size → (a.alloc o).cell? ⟨i, p, none⟩ = v.cell? ⟨i, p, none⟩) ∧ Below v.heap.size v (a.alloc o) := held_of (below_alloc h.2 o)
theorem held_set {v a : World} (h : (∀ i o, i < v.heap.size → a.cell? ⟨i, o, none⟩ = v.cell? ⟨i, o, none⟩) ∧ Below v.heap.size v a) (p : Addr) (hp : v.heap.size ≤ p.block) (u : Value) :
    (∀ i q, i < v.heap.size → (a.setCell p u).cell? ⟨i, q, none⟩ = v.cell? ⟨i, q, none⟩) ∧ Below v.heap.size v (a.setCell p u) := held_of (below_set h.2 hp u)

theorem held_below {v a : World} (h : (∀ i o, i < v.heap.size → a.cell? ⟨i, o, none⟩ = v.cell? ⟨i, o, none⟩) ∧ Below v.heap.size v a) : Below v.heap.size v a := h.2

theorem held_un {v a : World} {o : Obj} (h : (∀ i p, i < v.heap.size → (a.alloc o).cell? ⟨i, p, none⟩ = v.cell? ⟨i, p, none⟩) ∧ Below v.heap.size v (a.alloc o)) (hz : v.heap.size ≤ a.heap.size) : Below v.heap.size v a :=
  ⟨h.2.os, h.2.tape, h.2.output, hz, fun k hk => by rw [← Below.heap_alloc a o k (Nat.lt_of_lt_of_le hk hz)]; exact h.2.block k hk⟩

theorem word2_mul (a b : Nat) (ha : a < 18446744073709551616) (hb : b < 18446744073709551616) : ∃ hi lo, Word2 (a * b) hi lo :=
  word2_of _ (Nat.lt_of_le_of_lt (Nat.mul_le_mul (by omega : a ≤ 18446744073709551615) (by omega : b ≤ 18446744073709551615)) (by decide))

end Go.Proofs.Ytjieldpnnopljaa
