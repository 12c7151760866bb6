import Derived.Test.YtdpmigbenkndbaaBf
import Derived.Deep.Slices
namespace Go.Proofs.Ytdpmigbenkndbaa
open Go.RowKit PR QR Go.Deep Go.WideShapes
set_option linter.unusedVariables false
section
variable {H : Type} {enc : TypeId × Value → H} {P : Program} {W : World} {sp : Nat → Bool} {hd : Bool} {ps : List MemPlace}
theorem cell_arr {a : Addr} {v : Value} (h : W.cell? a = some v) : a.spot = none ∧ ∃ arr t fr, W.heap[a.block]? = some (.cells arr t fr) ∧ arr[a.off]? = some v := by
  unfold World.cell? at h
  split at h
  · rename_i c t fr hb
    split at h
    · simp at h
    · rename_i hs
      exact ⟨by cases hh : a.spot with | none => rfl | some _ => rw [hh] at hs; simp at hs, c, t, fr, hb, h⟩
  · simp at h
theorem add_block (a : Addr) (n : Nat) : (a.add n).block = a.block := by unfold Addr.add; split <;> rfl
theorem add_off (a : Addr) (n : Nat) : (a.add n).off = a.off + n := by unfold Addr.add; split <;> simp_all
theorem All2.get {α β : Type} {R : α → β → Prop} : ∀ {l : List α} {m : List β}, All2 R l m → l.length = m.length ∧ ∀ (j : Nat) (a : α), l[j]? = some a → ∃ b, m[j]? = some b ∧ R a b
  | [], [], _ => ⟨rfl, fun j a h => by simp at h⟩
  | [], b :: m, h => by simp [All2] at h
  | a :: l, [], h => by simp [All2] at h
  | a :: l, b :: m, h => by
    simp only [All2] at h
    obtain ⟨e, k⟩ := All2.get h.2
    refine ⟨by simp [e], fun j x hj => ?_⟩
    cases j with
    | zero => simp at hj; subst hj; exact ⟨b, by simp, h.1⟩
    | succ j => simpa using k j x (by simpa using hj)
theorem open_rows {t e : TypeId} {v : Value} (us : List TypeId) (ht : P.underlying t = some (.slice e)) (hfl : flat P 8 e = some us) (hz : P.cellsOf e = us.length) (h0 : 0 < us.length) (h : Leaf enc P W 0 sp hd ps t v) :
    ∃ (n : Nat) (C : Nat → Nat → Value), n ≤ maxLen ∧ (∀ (i j : Nat) (u : TypeId), i < n → us[j]? = some u → Leaf enc P W 0 sp hd ps u (C i j)) ∧
      ∀ (F : Nat → Prop) (r : QR.Row), (∀ x ∈ ps, F x.block) → (∀ i j : Nat, i < n → j < us.length → Rep F W (den r i j) (C i j)) → Rep F W (.slc us.length n r) v := by
  obtain ⟨fuel, y, hy, hps⟩ := h
  rcases open_slice ht hy with ⟨h1, rfl⟩ | ⟨a, len, cap, m, k, D, Pl, h1, hb, hl, hm, hmm, rfl, hx⟩
  · obtain rfl : v = .slice none 0 0 := by simpa using h1
    exact ⟨0, fun _ _ => undef, Nat.zero_le _, fun i j u hi => absurd hi (by omega), fun F r _ _ => .nil h0 (fun _ => rfl)⟩
  · obtain rfl : v = .slice (some a) len cap := by simpa using h1
    have hlm : len ≤ m := by rw [hmm]; split <;> omega
    have hrow : ∀ i, i < len → ∃ cs, W.cells? 0 (a.add (i * us.length)) us.length = some cs ∧ All2 (Leaf enc P W 0 sp hd ps) us cs := by
      intro i hi
      obtain ⟨cs, c1, c2⟩ := hx i (by omega)
      rw [hz] at c1
      refine ⟨cs, c1, All2.imp (fun a b hl => Leaf.mono hl (fun q hq => hps q ?_)) _ _ (flat_read 8 e us _ _ _ hfl c2)⟩
      exact List.mem_append_right _ (List.mem_flatMap.2 ⟨i, List.mem_range.2 (by omega), hq⟩)
    obtain ⟨R, hR⟩ := choose_lt (α := List Value) (p := fun i cs => W.cells? 0 (a.add (i * us.length)) us.length = some cs ∧ All2 (Leaf enc P W 0 sp hd ps) us cs) hrow
    refine ⟨len, fun i j => (R i).getD j undef, by omega, fun i j u hi hu => ?_, fun F r hF hr => ?_⟩
    · obtain ⟨b, e1, e2⟩ := (hR i hi).2.get.2 j u hu
      show Leaf enc P W 0 sp hd ps u ((R i).getD j undef)
      rw [List.getD, e1]; exact e2
    · by_cases hl0 : len = 0
      · subst hl0
        exact .nil h0 (fun e => by simp at e)
      have hcell : ∀ i j, i < len → j < us.length → W.cell? ((a.add (i * us.length)).add j) = some ((R i).getD j undef) := by
        intro i j hi hj
        obtain ⟨_, q2, q3⟩ := World.cells?_some (hR i hi).1
        rw [q3 j hj, List.getD, List.getElem?_eq_getElem (by omega)]
        rfl
      have c00 := hcell 0 0 (by omega) h0
      rw [Nat.zero_mul] at c00
      obtain ⟨s0, arr, ty, fr, g1, _⟩ := cell_arr c00
      have sa : a.spot = none := by simpa [Addr.add] using s0
      have ba : ((a.add 0).add 0).block = a.block := by rw [add_block, add_block]
      rw [ba] at g1
      have hblk : F a.block := by
        have : MemPlace.cell a.block (a.off + 0) ∈ ps := hps _ (List.mem_append_left _ (MemPlace.mem_row.2 ⟨0, by rw [hz]; exact Nat.mul_pos (by omega) h0, rfl⟩))
        exact hF _ this
      obtain ⟨ab, ao, asp⟩ := a
      simp only at sa
      subst sa
      refine .slc (fun i j => (R i).getD j undef) h0 hl hblk g1 (fun i j hi hj => ?_) (fun i j hi hj => hr i j hi hj)
      obtain ⟨_, arr', ty', fr', g2, g3⟩ := cell_arr (hcell i j hi hj)
      rw [add_block, add_block] at g2
      rw [add_off, add_off] at g3
      rw [g1] at g2
      simp only [Option.some.injEq, Obj.cells.injEq] at g2
      rw [g2.1]
      exact g3
theorem open_slc_ints {t e : TypeId} {v : Value} {k : IntKind} (us : List TypeId) (ht : P.underlying t = some (.slice e)) (hfl : flat P 8 e = some us) (hz : P.cellsOf e = us.length) (h0 : 0 < us.length)
    (hk : ∀ u ∈ us, P.underlying u = some (.int k)) (h : Leaf enc P W 0 sp hd ps t v) :
    ∃ (n : Nat) (f : Int → Nat → Int), n ≤ maxLen ∧ (∀ (i j : Nat), i < n → j < us.length → (Lit.int k (f i j)).wf = true) ∧
      ∀ (F : Nat → Prop), (∀ x ∈ ps, F x.block) → Rep F W (.slc us.length n (.fn fun i j => .v (.int k (f i j)))) v := by
  obtain ⟨n, C, hz', h1, h2⟩ := open_rows us ht hfl hz h0 h
  have hc : ∀ (i j : Nat), i < n → j < us.length → ∃ x, C i j = .int k x ∧ (Lit.int k x).wf = true := by
    intro i j hi hj
    have := h1 i j us[j] hi (List.getElem?_eq_getElem hj)
    exact Leaf.int this (hk _ (List.getElem_mem hj))
  refine ⟨n, fun i j => (match C i.toNat j with | .int _ x => x | _ => 0), hz', fun i j hi hj => ?_, fun F hF => h2 F _ hF (fun i j hi hj => ?_)⟩
  · obtain ⟨x, e1, e2⟩ := hc i j hi hj
    simp only [Int.toNat_natCast, e1]; exact e2
  · obtain ⟨x, e1, e2⟩ := hc i j hi hj
    show Rep F W (.v (.int k (match C ((i : Int).toNat) j with | .int _ x => x | _ => 0))) (C i j)
    rw [Int.toNat_natCast, e1]
    exact .v rfl
theorem leaf_slice {r0 : Reach} {b0 : Nat} {t e : TypeId} {v : Value} {d : DataW H} (ht : P.underlying t = some (.slice e)) (hv : Value.okWide P W r0 b0 t v) (h : DataW.Trod enc P W 0 sp hd t v d ps) : Leaf enc P W 0 sp hd ps t v := by
  obtain ⟨a, l, c, rfl⟩ := okWide_slice ht hv
  obtain ⟨fuel, hf⟩ := h
  exact ⟨fuel, _, hf, fun q hq => hq⟩
section
variable {n : Nat} {C : Nat → Nat → Value} {j : Nat} {u : TypeId}
end
end
def intC : CV → Int
  | .v (.int _ x) => x
  | _ => 0
def intRow (k : IntKind) (z : Nat) (n : Int) (r : QR.Row) : Prop := ∀ i j : Nat, (i : Int) < n → j < z → den r i j = .v (.int k (intC (den r i j)))
theorem intRow_fn (k : IntKind) (z : Nat) (n : Int) (f : Int → Nat → Int) : intRow k z n (.fn fun i j => .v (.int k (f i j))) := fun i j _ _ => rfl
def ints (k : IntKind) (r : QR.Row) : QR.Row := .fn fun i j => .v (.int k (intC (den r i j)))
theorem intRow_eq {k : IntKind} {z : Nat} {n : Int} {r : QR.Row} (h : intRow k z n r) : EqC (.slc z n r) (.slc z n (ints k r)) := by
  refine .slc fun i j hi hj => ?_
  have := h i j hi hj
  show EqC (den r i j) (.v (.int k (intC (den r i j))))
  obtain ⟨x, e⟩ : ∃ x, den r i j = .v (.int k x) := ⟨_, this⟩
  rw [e]; exact .v _
def avEq : AV → AV → Prop
  | .x (.c a), .x (.c b) => EqC a b
  | a, b => a = b
def avsEq : List AV → List AV → Prop
  | [], [] => True
  | a :: l, b :: m => avEq a b ∧ avsEq l m
  | _, _ => False
theorem conc_args_eq {F : Nat → Prop} {w : World} : ∀ {al al' : List AV} {ys : List Value} {bs : List Nat}, avsEq al al' → ConcArgs F w al ys bs → ConcArgs F w al' ys bs
  | [], [], ys, bs, _, h => h
  | [], _ :: _, _, _, e, _ => e.elim
  | _ :: _, [], _, _, e, _ => e.elim
  | a :: al, b :: al', ys, bs, e, h => by
    obtain ⟨e1, e2⟩ := e
    unfold avEq at e1
    split at e1
    · rename_i c c'
      cases ys with
      | nil => exact h.elim
      | cons y ys => exact ⟨Rep.eq e1 h.1, conc_args_eq e2 h.2⟩
    · subst e1
      match a, ys, bs, h with
      | .x v, y :: ys, bs, h => exact ⟨h.1, conc_args_eq e2 h.2⟩
      | .ref off c, y :: ys, b :: bs, h => exact ⟨h.1, h.2.1, h.2.2.1, h.2.2.2.1, conc_args_eq e2 h.2.2.2.2⟩
theorem does_args {P : Program} {f : FuncId} {al al' : List AV} {ans : QR.Ans} (e : avsEq al al') (h : DoesX P f al' ans) : DoesX P f al ans :=
  fun w F ys bs hG hF hA => h w F ys bs hG hF (conc_args_eq e hA)
theorem laid_more {F F' : Nat → Prop} {w : World} (h : Laid F w) (hF : ∀ k, F k → F' k) : Laid F' w := by
  intro m l e hm
  obtain ⟨h1, arr, t, h2, h3⟩ := h m l e hm
  exact ⟨hF _ h1, arr, t, h2, h3.mono fun _ _ => Rep.mono hF (fun _ _ => rfl)⟩
theorem more_laid {w : World} {ps : List MemPlace} (h : ∃ F, Laid F w ∧ ∀ k, F k → k < w.heap.size) (hlt : ∀ x ∈ ps, x.block < w.heap.size) : ∃ F : Nat → Prop, Laid F w ∧ (∀ k, F k → k < w.heap.size) ∧ ∀ x ∈ ps, F x.block := by
  obtain ⟨F, h1, h2⟩ := h
  refine ⟨fun k => F k ∨ ∃ x ∈ ps, x.block = k, laid_more h1 fun k hk => Or.inl hk, ?_, fun x hx => Or.inr ⟨x, hx, rfl⟩⟩
  rintro k (hk | ⟨x, hx, rfl⟩)
  · exact h2 k hk
  · exact hlt x hx
theorem law_of_conc {O : QR.Oracle} (hO : QR.OSound Try.prog O) (hm : Try.prog.follows .mixedOrders = true) (L : Nat → Option QR.Ann) {f : FuncId} {fn : Func} (hf : Try.prog.funcs[f]? = some fn) (hb : fn.body = some (fn.body.getD .skip)) {vs : List Value} {args : List AV} (hl : args.length ≤ 500)
    (h : QR.evalBody Try.prog O L (fn.body.getD .skip) fn.results.toList fn.ntmps args (okAns ⟨[.c (.v (.bool true))], [], []⟩)) (w : World) {F : Nat → Prop} (hG : Laid F w) (hF : ∀ k, F k → k < w.heap.size) (hA : ConcArgs F w args vs []) :
    Calls Try.prog f vs.toArray w fun e w' => e = .returned (.bool true) ∧ Below w.heap.size w w' := by
  refine (QR.evalBody_sound hO hm hf hb hl h hG hF hA).mono ?_
  rintro e w' ⟨v, rfl, res, upd, ⟨h1, h2⟩, hl, hk, F', f', f1, f2, fb, f3, f4⟩
  have : v = .bool true := by
    rcases eqXs_out h1 hl (by decide) f3 with ⟨g, _⟩ | g
    · have g : Rep _ w' (.v (.bool true)) v := g
      cases g; rfl
    · have g : Rep _ w' (.v (.bool true)) v := g
      cases g; rfl
  subst this
  exact ⟨rfl, ⟨hk.os, hk.tape, hk.output, hk.size, fun k hk' => hk.block k hk' (by simp)⟩⟩
def slcOf (z : Nat) : CV → Option (Int × QR.Row)
  | .slc z' n r => bif Nat.beq z' z then some (n, r) else none
  | .v (.slice _ _ _) => some (0, .zer [])
  | _ => none
theorem slcOf_ints {k : IntKind} {z : Nat} {c : CV} {n : Int} {r : QR.Row} (h : slcOf z c = some (n, r)) (hz : 0 < z) (hr : intRow k z n r) : EqC c (.slc z n (ints k r)) := by
  unfold slcOf at h
  split at h
  · rename_i z' n' r'
    cases e : Nat.beq z' z
    · rw [e] at h; simp at h
    · rw [e, cond_true, Option.some.injEq, Prod.mk.injEq] at h
      obtain ⟨rfl, rfl⟩ := h
      obtain rfl := Nat.eq_of_beq_eq_true e
      exact intRow_eq hr
  · rw [Option.some.injEq, Prod.mk.injEq] at h
    obtain ⟨rfl, rfl⟩ := h
    exact .nil hz rfl
  · simp at h
def eqCs : List CV → List CV → Prop
  | [], [] => True
  | a :: l, b :: m => EqC a b ∧ eqCs l m
  | _, _ => False
def avEq2 : AV → AV → Prop
  | .x (.c a), .x (.c b) => EqC a b
  | .x (.agg l), .x (.agg m) => eqCs l m
  | _, _ => False
def avsEq2 : List AV → List AV → Prop
  | [], [] => True
  | a :: l, b :: m => avEq2 a b ∧ avsEq2 l m
  | _, _ => False
theorem eqCs_rep {F : Nat → Prop} {w : World} : ∀ {l m : List CV} {ys : List Value}, eqCs l m → Fa2 (Rep F w) l ys → Fa2 (Rep F w) m ys
  | [], [], ys, _, h => h
  | [], _ :: _, _, e, _ => e.elim
  | _ :: _, [], _, e, _ => e.elim
  | a :: l, b :: m, [], _, h => h.elim
  | a :: l, b :: m, y :: ys, e, h => ⟨Rep.eq e.1 h.1, eqCs_rep e.2 h.2⟩
theorem conc_args_eq2 {F : Nat → Prop} {w : World} : ∀ {al al' : List AV} {ys : List Value} {bs : List Nat}, avsEq2 al al' → ConcArgs F w al ys bs → ConcArgs F w al' ys bs
  | [], [], ys, bs, _, h => h
  | [], _ :: _, ys, bs, e, _ => e.elim
  | _ :: _, [], ys, bs, e, _ => e.elim
  | a :: al, b :: al', ys, bs, e, h => by
    obtain ⟨e1, e2⟩ := e
    unfold avEq2 at e1
    split at e1
    · rename_i c c'
      cases ys with
      | nil => exact h.elim
      | cons y ys => exact ⟨Rep.eq e1 h.1, conc_args_eq2 e2 h.2⟩
    · rename_i l m
      cases ys with
      | nil => exact h.elim
      | cons y ys =>
        obtain ⟨zs, hz, h1⟩ := h.1
        exact ⟨⟨zs, hz, eqCs_rep e1 h1⟩, conc_args_eq2 e2 h.2⟩
    · exact e1.elim
theorem does_args2 {P : Program} {f : FuncId} {al al' : List AV} {ans : QR.Ans} (e : avsEq2 al al') (h : DoesX P f al' ans) : DoesX P f al ans :=
  fun w F ys bs hG hF hA => h w F ys bs hG hF (conc_args_eq2 e hA)
def sameP (z : Nat) (n m : Int) (r s : QR.Row) : Prop := n = m ∧ ∀ i j : Nat, (i : Int) < n → j < z → intC (den r i j) = intC (den s i j)
def sameR (z : Nat) (n m : Int) (r s : QR.Row) : Bool := n == m && (List.range n.toNat).all fun i => (List.range z).all fun j => intC (den r i j) == intC (den s i j)
theorem sameR_iff {z : Nat} {n m : Int} {r s : QR.Row} : sameR z n m r s = true ↔ sameP z n m r s := by
  unfold sameR sameP
  rw [Bool.and_eq_true, beq_iff_eq, List.all_eq_true]
  refine and_congr_right fun _ => ⟨fun h i j hi hj => ?_, fun h i hi => List.all_eq_true.2 fun j hj => ?_⟩
  · have := List.all_eq_true.1 (h i (List.mem_range.2 (by omega))) j (List.mem_range.2 hj)
    exact beq_iff_eq.1 this
  · exact beq_iff_eq.2 (h i j (by have := List.mem_range.1 hi; omega) (List.mem_range.1 hj))
theorem slc_len {F : Nat → Prop} {w : World} {z : Nat} {m : Int} {r : QR.Row} {a : Option Addr} {l c : Nat} (h : Rep F w (.slc z m r) (.slice a l c)) : m = (l : Int) := by
  cases h with
  | nil => rfl
  | slc => rfl
def in64 (a : Int) : Bool := decide (-9223372036854775808 ≤ a ∧ a ≤ 9223372036854775807)
theorem ine_t {a b : Int} (h : a ≠ b) : ine a b = true := by simp [ine, h]
theorem ine_f (a : Int) : ine a a = false := by simp [ine]
theorem isel_t (a b : Int) : isel true a b = a := rfl
theorem isel_f (a b : Int) : isel false a b = b := rfl
theorem igt_le' (a b : Int) : igt a b = !(decide (a ≤ b)) := by
  unfold igt; rw [Bool.eq_iff_iff]; simp only [Bool.not_eq_true', decide_eq_true_eq, decide_eq_false_iff_not]; omega
theorem ile_t {a b : Int} (h : a ≤ b) : ile a b = true := decide_eq_true h
theorem ile_tt {a b : Int} (h : ile a b = true) : a ≤ b := of_decide_eq_true h
theorem ilt_t {a b : Int} (h : a < b) : ilt a b = true := decide_eq_true h
theorem ilt_tt {a b : Int} (h : ilt a b = true) : a < b := of_decide_eq_true h
theorem ilt_ff {a b : Int} (h : ilt a b = false) : b ≤ a := by have := of_decide_eq_false h; omega
theorem ilt_f {a b : Int} (h : b ≤ a) : ilt a b = false := decide_eq_false (by omega)
end Go.Proofs.Ytdpmigbenkndbaa
