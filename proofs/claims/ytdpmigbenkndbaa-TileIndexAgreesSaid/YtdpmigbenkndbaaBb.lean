import Derived.Test.YtdpmigbenkndbaaProg
import Derived.ProofKit
import Derived.OpenShut
import Derived.Carry
import Derived.Below
import Derived.Test.YtdpmigbenkndbaaBa
import Derived.Shelf.Spec.BitsCarry
import Derived.Deep.DeepMust
import Derived.Deep.RegionHeld3
namespace Go.Proofs.Ytdpmigbenkndbaa
open Go.ChangeShapes Go.WideShapes Go.ChangeAt Go.RowKit
set_option linter.unusedVariables false
def All2 {α β : Type} (R : α → β → Prop) : List α → List β → Prop
  | [], [] => True
  | a :: xs, b :: ys => R a b ∧ All2 R xs ys
  | _, _ => False
theorem All2.cons {α β : Type} {R : α → β → Prop} {a : α} {xs : List α} {ys : List β} (h : All2 R (a :: xs) ys) : ∃ b ys', ys = b :: ys' ∧ R a b ∧ All2 R xs ys' := by
  cases ys with
  | nil => exact h.elim
  | cons b ys => exact ⟨b, ys, rfl, h.1, h.2⟩
theorem All2.nil {α β : Type} {R : α → β → Prop} {ys : List β} (h : All2 R [] ys) : ys = [] := by
  cases ys with
  | nil => rfl
  | cons b ys => exact h.elim
theorem All2.append {α β : Type} {R : α → β → Prop} : ∀ (xs xs' : List α) (ys : List β), All2 R xs (ys.take xs.length) → All2 R xs' (ys.drop xs.length) → All2 R (xs ++ xs') ys
  | [], xs', ys, _, h => by simpa using h
  | a :: xs, xs', [], h, _ => by simp [All2] at h
  | a :: xs, xs', b :: ys, h, k => by
    simp only [List.length_cons, List.take_succ_cons, All2] at h
    simp only [List.length_cons, List.drop_succ_cons] at k
    exact ⟨h.1, All2.append xs xs' ys h.2 k⟩
theorem All2.imp {α β : Type} {R S : α → β → Prop} (f : ∀ a b, R a b → S a b) : ∀ (xs : List α) (ys : List β), All2 R xs ys → All2 S xs ys
  | [], [], _ => trivial
  | [], _ :: _, h => h.elim
  | _ :: _, [], h => h.elim
  | a :: xs, b :: ys, h => ⟨f _ _ h.1, All2.imp f xs ys h.2⟩
def flatFields (P : Program) (rec : TypeId → Option (List TypeId)) : List Field → Nat → Option (List TypeId)
  | [], _ => some []
  | f :: fs, off => match rec f.type, flatFields P rec fs (off + P.cellsOf f.type) with
    | some us, some vs => if f.offset = off ∧ us.length = P.cellsOf f.type then some (us ++ vs) else none
    | _, _ => none
def flat (P : Program) : Nat → TypeId → Option (List TypeId)
  | 0, _ => none
  | n + 1, t => match P.underlying t with
    | some (.struct fs) => match flatFields P (flat P n) fs.toList 0 with
      | some us => if us.length = P.cellsOf t then some us else none
      | none => none
    | some (.array m e) => match flat P n e with
      | some us => if us.length = P.cellsOf e ∧ m * us.length = P.cellsOf t then some (List.replicate m us).flatten else none
      | none => none
    | _ => some [t]
section
variable {H : Type} {enc : TypeId × Value → H} {P : Program} {w : World} {base : Nat} {sp : Nat → Bool} {hd : Bool}
def Leaf (enc : TypeId × Value → H) (P : Program) (w : World) (base : Nat) (sp : Nat → Bool) (hd : Bool) (ps : List MemPlace) (u : TypeId) (c : Value) : Prop :=
  ∃ fuel y, DataW.trod enc P w base sp hd fuel u [c] = some y ∧ ∀ q ∈ y.2, q ∈ ps
theorem Leaf.mono {ps ps' : List MemPlace} {u : TypeId} {c : Value} (h : Leaf enc P w base sp hd ps u c) (hs : ∀ q ∈ ps, q ∈ ps') : Leaf enc P w base sp hd ps' u c := by
  obtain ⟨f, y, h1, h2⟩ := h
  exact ⟨f, y, h1, fun q hq => hs q (h2 q hq)⟩
theorem flatFields_read {n m : Nat} {cs : List Value} {ps : List MemPlace} (ih : ∀ (t : TypeId) (us : List TypeId) (cs : List Value) (x : DataW H × List MemPlace), flat P n t = some us → DataW.trod enc P w base sp hd m t cs = some x → All2 (Leaf enc P w base sp hd x.2) us cs) :
    ∀ (fs : List Field) (off : Nat) (us : List TypeId), flatFields P (flat P n) fs off = some us →
      (∀ f ∈ fs, ∃ x, DataW.trod enc P w base sp hd m f.type ((cs.drop f.offset).take (P.cellsOf f.type)) = some x ∧ ∀ q ∈ x.2, q ∈ ps) →
      All2 (Leaf enc P w base sp hd ps) us ((cs.drop off).take us.length)
  | [], off, us, h, _ => by
    simp only [flatFields, Option.some.injEq] at h
    subst h
    simp [All2]
  | f :: fs, off, us, h, hf => by
    simp only [flatFields] at h
    split at h <;> try simp at h
    rename_i us1 vs h1 h2
    obtain ⟨⟨ho, hl⟩, rfl⟩ := h
    obtain ⟨x, hx, hxp⟩ := hf f (by simp)
    have a1 := ih _ _ _ _ h1 hx
    have a2 := flatFields_read ih fs _ vs h2 (fun g hg => hf g (by simp [hg]))
    refine All2.append _ _ _ ?_ ?_
    · rw [List.take_take, List.length_append, Nat.min_eq_left (by omega), hl, ← ho]
      exact All2.imp (fun a b h => Leaf.mono h hxp) _ _ a1
    · rw [List.drop_take, List.length_append, Nat.add_sub_cancel_left, List.drop_drop, hl]
      exact a2
theorem flat_rows {n m : Nat} {us : List TypeId} {k : Nat} {e : TypeId} {ps : List MemPlace} (hl : us.length = P.cellsOf e) :
    ∀ (j i : Nat) (cs : List Value), (∀ q, q < j → All2 (Leaf enc P w base sp hd ps) us ((cs.drop (q * P.cellsOf e)).take (P.cellsOf e))) → cs.length = j * us.length → All2 (Leaf enc P w base sp hd ps) (List.replicate j us).flatten cs
  | 0, i, cs, _, h => by
    have : cs = [] := by simpa using h
    subst this
    simp [All2]
  | j + 1, i, cs, h, hc => by
    rw [List.replicate_succ, List.flatten_cons]
    refine All2.append _ _ _ ?_ ?_
    · have := h 0 (by omega)
      simpa [hl] using this
    · refine flat_rows (n := n) (m := m) (k := k) hl j i _ (fun q hq => ?_) (by simp [hc, Nat.add_mul])
      have := h (q + 1) (by omega)
      rw [List.drop_drop, hl, Nat.add_comm (P.cellsOf e), ← Nat.succ_mul]
      exact this
theorem flat_read : ∀ (n : Nat) (t : TypeId) (us : List TypeId) (fuel : Nat) (cs : List Value) (x : DataW H × List MemPlace), flat P n t = some us → DataW.trod enc P w base sp hd fuel t cs = some x → All2 (Leaf enc P w base sp hd x.2) us cs
  | 0, _, _, _, _, _, h, _ => by simp [flat] at h
  | n + 1, t, us, fuel, cs, x, h, hx => by
    unfold flat at h
    split at h
    · rename_i fs hs
      obtain ⟨xs, m, rfl, rfl, hl, hlen, hf⟩ := DataW.trod_struct hs hx
      split at h <;> try simp at h
      rename_i us' h1
      obtain ⟨h2, rfl⟩ := h
      have a := flatFields_read (cs := cs) (ps := xs.flatMap (·.2)) (fun t us cs x h k => flat_read n t us m cs x h k) fs.toList 0 us' h1 (fun f hfm => by
        obtain ⟨i, hi, rfl⟩ := List.getElem_of_mem hfm
        have e : fs[i]? = some fs.toList[i] := by simp at hi ⊢
        have hi' : i < xs.length := by rw [hlen]; simpa using hi
        have := hf i _ e
        rw [List.getElem?_eq_getElem hi'] at this
        exact ⟨_, this, fun q hq => List.mem_flatMap.2 ⟨_, List.getElem_mem hi', hq⟩⟩)
      rw [h2, ← hl] at a
      simpa using a
    · rename_i k e hs
      obtain ⟨xs, m, rfl, rfl, hl, hlen, hf⟩ := DataW.trod_array hs hx
      split at h <;> try simp at h
      rename_i us' h1
      obtain ⟨⟨h2, h3⟩, rfl⟩ := h
      refine flat_rows (n := 0) (m := 0) (k := 0) h2 k 0 cs (fun q hq => ?_) (by rw [hl, h3])
      have hi' : q < xs.length := by rw [hlen]; exact hq
      have := hf q hq
      rw [List.getElem?_eq_getElem hi'] at this
      exact All2.imp (fun a b h => Leaf.mono h (fun z hz => List.mem_flatMap.2 ⟨_, List.getElem_mem hi', hz⟩)) _ _ (flat_read n e us' m _ _ h1 this)
    · rename_i hns hna
      simp only [Option.some.injEq] at h
      subst h
      have : ∃ c, cs = [c] := by
        cases fuel with
        | zero => simp [DataW.trod] at hx
        | succ m =>
          unfold DataW.trod at hx
          split at hx <;> first | exact ⟨_, rfl⟩ | (exfalso; simp_all; done) | simp_all
      obtain ⟨c, rfl⟩ := this
      exact ⟨⟨fuel, x, hx, fun q hq => hq⟩, trivial⟩
theorem open_flat {r : Reach} {b0 : Nat} {t : TypeId} {v : Value} {d : DataW H} {ps : List MemPlace} (us : List TypeId) (hfl : flat P 8 t = some us)
    (hk : (∃ fs, P.underlying t = some (.struct fs)) ∨ ∃ n e, P.underlying t = some (.array n e)) (hv : Value.okWide P w r b0 t v) (h : DataW.Trod enc P w base sp hd t v d ps) :
    ∃ l : List Value, v = .agg l.toArray ∧ All2 (Leaf enc P w base sp hd ps) us l := by
  obtain ⟨cs, rfl⟩ : ∃ cs, v = .agg cs := by
    rcases hk with ⟨fs, hs⟩ | ⟨n, e, hs⟩ <;> simp only [Value.okWide, hs] at hv <;> (obtain ⟨cs, h1, _⟩ := hv; exact ⟨cs, h1⟩)
  obtain ⟨fuel, hf⟩ := h
  have := flat_read 8 t us fuel _ _ hfl hf
  exact ⟨cs.toList, by simp, by simpa [Value.cells] using this⟩
theorem Leaf.int {ps : List MemPlace} {u : TypeId} {c : Value} {k : IntKind} (h : Leaf enc P w base sp hd ps u c) (hu : P.underlying u = some (.int k)) : ∃ n, c = .int k n ∧ (Lit.int k n).wf = true := by
  obtain ⟨f, y, hy, _⟩ := h
  obtain ⟨n, h1, _, h3⟩ := DataW.trod_int hu hy
  exact ⟨n, by simpa using h1, h3⟩
theorem Leaf.bool {ps : List MemPlace} {u : TypeId} {c : Value} (h : Leaf enc P w base sp hd ps u c) (hu : P.underlying u = some .bool) : ∃ b, c = .bool b := by
  obtain ⟨f, y, hy, _⟩ := h
  obtain ⟨n, h1, _⟩ := DataW.trod_bool hu hy
  exact ⟨n, by simpa using h1⟩
theorem Leaf.string {ps : List MemPlace} {u : TypeId} {c : Value} (h : Leaf enc P w base sp hd ps u c) (hu : P.underlying u = some .string) : ∃ s : ByteArray, c = .string s ∧ s.size ≤ maxLen := by
  obtain ⟨f, y, hy, _⟩ := h
  obtain ⟨n, h1, _, h3⟩ := DataW.trod_string hu hy
  exact ⟨n, by simpa using h1, h3⟩
end
theorem trodAll_keep {H : Type} {enc : TypeId × Value → H} {P : Program} (hl : laidOutB P = true) {W W' : World} (hb : Below W.heap.size W W') :
    ∀ (ts : List TypeId) (vs : List Value) (ds : List (DataW H)) (ps : List MemPlace), (∀ t ∈ ts, P.readableRec t = true ∧ t < P.types.size) → DataW.TrodAll enc P W 0 (fun _ => true) true ts vs ds ps →
      (∀ x ∈ ps, x.block < W.heap.size) → DataW.TrodAll enc P W' 0 (fun b => decide (b < W.heap.size)) true ts vs ds ps
  | [], [], [], _, _, h, _ => h
  | t :: ts, v :: vs, d :: ds, ps, hr, h, hlt => by
    obtain ⟨p, q, h1, h2, rfl⟩ := h
    exact ⟨p, q, Below.trod hl (hr t (by simp)).1 (hr t (by simp)).2 h1 hb (fun x hx => hlt x (by simp [hx])), trodAll_keep hl hb ts vs ds q (fun t ht => hr t (by simp [ht])) h2 (fun x hx => hlt x (by simp [hx])), rfl⟩
  | [], [], _ :: _, _, _, h, _ | [], _ :: _, _, _, _, h, _ | _ :: _, [], _, _, _, h, _ | _ :: _, _ :: _, [], _, _, h, _ => by simp [DataW.TrodAll] at h
theorem Law.keep {H : Type} {enc : TypeId × Value → H} {P : Program} {f : Func} {s : ChangeSpec} {apart fresh handsOn : Bool} {W W' : World} {args : Array Value} {v : Value} {ds gs : List (DataW H)} {before : List MemPlace}
    (hl : laidOutB P = true) (hr : ∀ t ∈ f.params.toList, P.readableRec t = true ∧ t < P.types.size) (hsv : s.vars = [])
    (hW : DataW.Whole enc P f.params.toList s.vars apart W args.toList ds gs before)
    (hlt : ∀ x ∈ before, x.block < W.heap.size)
    (hb : Below W.heap.size W W')
    (hfa : (s.fn H (ds ++ gs)).args = ds) (hfv : (s.fn H (ds ++ gs)).vars = [])
    (hres : ∀ (b : Nat) (sp : Nat → Bool) (hd : Bool), DataW.TrodAll enc P W' b sp hd f.resultTypes.toList (v.resultList f.resultTypes.size) (s.fn H (ds ++ gs)).results []) :
    s.post enc P f apart fresh handsOn false W args v W' := by
  have hW0 := hW
  obtain ⟨p, q, hA, hV, rfl, _, _⟩ := hW
  refine ⟨ds, gs, p ++ q, [], p, [], hW0, hres _ _ _, ?_, ?_, World.keptBut_mono (fun _ h => absurd h (by simp)) (hb.frame (fun _ => False)), fun h => by simp at h⟩
  · rw [hfa]
    exact trodAll_keep hl hb _ _ _ _ hr hA (fun x hx => hlt x (by simp [hx]))
  · rw [hfv, hsv]
    exact rfl
end Go.Proofs.Ytdpmigbenkndbaa
namespace Go.Proofs.Ytdpmigbenkndbaa
open Go.RowKit
set_option linter.unusedVariables false
theorem Word2.lt {n hi lo : Nat} (h : Word2 n hi lo) : n < 340282366920938463463374607431768211456 := by
  obtain ⟨a, b, c⟩ := h; omega
theorem Word2.inj {n m a b : Nat} (h : Word2 n a b) (k : Word2 m a b) : n = m := by
  obtain ⟨h1, h2, h3⟩ := h; obtain ⟨k1, k2, k3⟩ := k; omega
end Go.Proofs.Ytdpmigbenkndbaa
namespace Go.Proofs.Ytdpmigbenkndbaa
open Go.RowKit
set_option linter.unusedVariables false
end Go.Proofs.Ytdpmigbenkndbaa
namespace Go.Proofs.Ytdpmigbenkndbaa
open Go.RowKit
set_option linter.unusedVariables false
def Box2 (w : World) (b : Nat) (x y : Value) : Prop := w.cell? ⟨b, 0, none⟩ = some x ∧ w.cell? ⟨b, 1, none⟩ = some y ∧ w.frozen? ⟨b, 0, none⟩ = false ∧ w.frozen? ⟨b, 1, none⟩ = false
theorem Box2.keep {w w' : World} {b : Nat} {x y : Value} (h : Box2 w b x y) (hb : Below w.heap.size w w') (hlt : b < w.heap.size) : Box2 w' b x y := by
  obtain ⟨h1, h2, h3, h4⟩ := h
  obtain ⟨hc, hf⟩ := bcell hb
  exact ⟨(hc b 0 hlt).trans h1, (hc b 1 hlt).trans h2, (hf b 0 hlt).trans h3, (hf b 1 hlt).trans h4⟩
theorem Box2.set {w : World} {b : Nat} {x y : Value} (h : Box2 w b x y) (u v : Value) : Box2 ((w.setCell ⟨b, 0, none⟩ u).setCell ⟨b, 1, none⟩ v) b u v := by
  obtain ⟨h1, h2, h3, h4⟩ := h
  refine ⟨?_, ?_, ?_, ?_⟩ <;> simp [go_sem, h1, h2, h3, h4]
theorem Box2.other {w : World} {b : Nat} {x y : Value} (h : Box2 w b x y) {p : Addr} (hp : p.block ≠ b) (u : Value) : Box2 (w.setCell p u) b x y := by
  obtain ⟨h1, h2, h3, h4⟩ := h
  have e1 : p ≠ ⟨b, 0, none⟩ := by intro h; subst h; exact hp rfl
  have e2 : p ≠ ⟨b, 1, none⟩ := by intro h; subst h; exact hp rfl
  refine ⟨?_, ?_, ?_, ?_⟩ <;> simp [go_sem, h1, h2, h3, h4, e1, e2]
def Ans (n hi lo : Nat) (b : Bool) : Prop := (b = true ∧ Word2 n hi lo) ∨ (b = false ∧ hi = 0 ∧ lo = 0 ∧ ¬ n < 340282366920938463463374607431768211456)
def AnsOf (n : Nat) (e : Ending) : Prop := ∃ (hi lo : Nat) (b : Bool), e = .returned (.tuple #[.agg #[.int .u64 hi, .int .u64 lo], .bool b]) ∧ Ans n hi lo b
theorem AnsOf.no {n : Nat} (h : ¬ n < 340282366920938463463374607431768211456) : AnsOf n (.returned (.tuple #[.agg #[.int .u64 0, .int .u64 0], .bool false])) := ⟨0, 0, false, rfl, Or.inr ⟨rfl, rfl, rfl, h⟩⟩
def Dif (x y hi lo : Nat) (b : Bool) : Prop := (b = true ∧ Word2 (x - y) hi lo ∧ y ≤ x) ∨ (b = false ∧ hi = 0 ∧ lo = 0 ∧ ¬ y ≤ x)
def DifOf (x y : Nat) (e : Ending) : Prop := ∃ (hi lo : Nat) (b : Bool), e = .returned (.tuple #[.agg #[.int .u64 hi, .int .u64 lo], .bool b]) ∧ Dif x y hi lo b
theorem DifOf.no {x y : Nat} (h : ¬ y ≤ x) : DifOf x y (.returned (.tuple #[.agg #[.int .u64 0, .int .u64 0], .bool false])) := ⟨0, 0, false, rfl, Or.inr ⟨rfl, rfl, rfl, h⟩⟩
end Go.Proofs.Ytdpmigbenkndbaa
namespace Go.Proofs.Ytdpmigbenkndbaa
open Go.RowKit
set_option linter.unusedVariables false
theorem Box2.alloc {w : World} {b : Nat} {x y : Value} (h : Box2 w b x y) (hlt : b < w.heap.size) (o : Obj) : Box2 (w.alloc o) b x y :=
  h.keep ((Below.refl _ _).alloc (Nat.le_refl _) o) hlt
end Go.Proofs.Ytdpmigbenkndbaa
namespace Go.Proofs.Ytdpmigbenkndbaa
open Go.RowKit
set_option linter.unusedVariables false
theorem Box2.lt {w : World} {b : Nat} {x y : Value} (h : Box2 w b x y) : b < w.heap.size := World.block_lt_of_cell? w ⟨b, 0, none⟩ h.1
end Go.Proofs.Ytdpmigbenkndbaa
