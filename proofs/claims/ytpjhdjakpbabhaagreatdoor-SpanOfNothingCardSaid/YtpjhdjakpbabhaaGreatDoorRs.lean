import Derived.Test.YtpjhdjakpbabhaaGreatDoorBf
import Derived.Deep.Slices
namespace Go.Proofs.YtpjhdjakpbabhaaGreatDoor
open Go.RowKit PR QR Go.Deep Go.WideShapes
set_option linter.unusedVariables false
section
variable {H : Type} {enc : TypeId × Value → H} {P : Program} {W : World} {sp : Nat → Bool} {hd : Bool} {ps : List MemPlace}
section
variable {n : Nat} {C : Nat → Nat → Value} {j : Nat} {u : TypeId}
end
end
def intC : CV → Int
  | .v (.int _ x) => x
  | _ => 0
def intRow (k : IntKind) (z : Nat) (n : Int) (r : QR.Row) : Prop := ∀ i j : Nat, (i : Int) < n → j < z → den r i j = .v (.int k (intC (den r i j)))
theorem intRow_fn (k : IntKind) (z : Nat) (n : Int) (f : Int → Nat → Int) : intRow k z n (.fn fun i j => .v (.int k (f i j))) := fun i j _ _ => rfl
def ints (k : IntKind) (r : QR.Row) : QR.Row := .fn fun i j => .v (.int k (intC (den r i j)))
theorem intRow_eq {k : IntKind} {z : Nat} {n : Int} {r : QR.Row} (h : intRow k z n r) : EqC (.slc z n r) (.slc z n (ints k r)) := by
  refine .slc fun i j hi hj => ?_
  have := h i j hi hj
  show EqC (den r i j) (.v (.int k (intC (den r i j))))
  obtain ⟨x, e⟩ : ∃ x, den r i j = .v (.int k x) := ⟨_, this⟩
  rw [e]; exact .v _
def avEq : AV → AV → Prop
  | .x (.c a), .x (.c b) => EqC a b
  | a, b => a = b
def avsEq : List AV → List AV → Prop
  | [], [] => True
  | a :: l, b :: m => avEq a b ∧ avsEq l m
  | _, _ => False
theorem conc_args_eq {F : Nat → Prop} {w : World} : ∀ {al al' : List AV} {ys : List Value} {bs : List Nat}, avsEq al al' → ConcArgs F w al ys bs → ConcArgs F w al' ys bs
  | [], [], ys, bs, _, h => h
  | [], _ :: _, _, _, e, _ => e.elim
  | _ :: _, [], _, _, e, _ => e.elim
  | a :: al, b :: al', ys, bs, e, h => by
    obtain ⟨e1, e2⟩ := e
    unfold avEq at e1
    split at e1
    · rename_i c c'
      cases ys with
      | nil => exact h.elim
      | cons y ys => exact ⟨Rep.eq e1 h.1, conc_args_eq e2 h.2⟩
    · subst e1
      match a, ys, bs, h with
      | .x v, y :: ys, bs, h => exact ⟨h.1, conc_args_eq e2 h.2⟩
      | .ref off c, y :: ys, b :: bs, h => exact ⟨h.1, h.2.1, h.2.2.1, h.2.2.2.1, conc_args_eq e2 h.2.2.2.2⟩
theorem does_args {P : Program} {f : FuncId} {al al' : List AV} {ans : QR.Ans} (e : avsEq al al') (h : DoesX P f al' ans) : DoesX P f al ans :=
  fun w F ys bs hG hF hA => h w F ys bs hG hF (conc_args_eq e hA)
theorem laid_more {F F' : Nat → Prop} {w : World} (h : Laid F w) (hF : ∀ k, F k → F' k) : Laid F' w := by
  intro m l e hm
  obtain ⟨h1, arr, t, h2, h3⟩ := h m l e hm
  exact ⟨hF _ h1, arr, t, h2, h3.mono fun _ _ => Rep.mono hF (fun _ _ => rfl)⟩
theorem more_laid {w : World} {ps : List MemPlace} (h : ∃ F, Laid F w ∧ ∀ k, F k → k < w.heap.size) (hlt : ∀ x ∈ ps, x.block < w.heap.size) : ∃ F : Nat → Prop, Laid F w ∧ (∀ k, F k → k < w.heap.size) ∧ ∀ x ∈ ps, F x.block := by
  obtain ⟨F, h1, h2⟩ := h
  refine ⟨fun k => F k ∨ ∃ x ∈ ps, x.block = k, laid_more h1 fun k hk => Or.inl hk, ?_, fun x hx => Or.inr ⟨x, hx, rfl⟩⟩
  rintro k (hk | ⟨x, hx, rfl⟩)
  · exact h2 k hk
  · exact hlt x hx
def slcOf (z : Nat) : CV → Option (Int × QR.Row)
  | .slc z' n r => bif Nat.beq z' z then some (n, r) else none
  | .v (.slice _ _ _) => some (0, .zer [])
  | _ => none
theorem slcOf_ints {k : IntKind} {z : Nat} {c : CV} {n : Int} {r : QR.Row} (h : slcOf z c = some (n, r)) (hz : 0 < z) (hr : intRow k z n r) : EqC c (.slc z n (ints k r)) := by
  unfold slcOf at h
  split at h
  · rename_i z' n' r'
    cases e : Nat.beq z' z
    · rw [e] at h; simp at h
    · rw [e, cond_true, Option.some.injEq, Prod.mk.injEq] at h
      obtain ⟨rfl, rfl⟩ := h
      obtain rfl := Nat.eq_of_beq_eq_true e
      exact intRow_eq hr
  · rw [Option.some.injEq, Prod.mk.injEq] at h
    obtain ⟨rfl, rfl⟩ := h
    exact .nil hz rfl
  · simp at h
def eqCs : List CV → List CV → Prop
  | [], [] => True
  | a :: l, b :: m => EqC a b ∧ eqCs l m
  | _, _ => False
def avEq2 : AV → AV → Prop
  | .x (.c a), .x (.c b) => EqC a b
  | .x (.agg l), .x (.agg m) => eqCs l m
  | _, _ => False
def avsEq2 : List AV → List AV → Prop
  | [], [] => True
  | a :: l, b :: m => avEq2 a b ∧ avsEq2 l m
  | _, _ => False
theorem eqCs_rep {F : Nat → Prop} {w : World} : ∀ {l m : List CV} {ys : List Value}, eqCs l m → Fa2 (Rep F w) l ys → Fa2 (Rep F w) m ys
  | [], [], ys, _, h => h
  | [], _ :: _, _, e, _ => e.elim
  | _ :: _, [], _, e, _ => e.elim
  | a :: l, b :: m, [], _, h => h.elim
  | a :: l, b :: m, y :: ys, e, h => ⟨Rep.eq e.1 h.1, eqCs_rep e.2 h.2⟩
theorem conc_args_eq2 {F : Nat → Prop} {w : World} : ∀ {al al' : List AV} {ys : List Value} {bs : List Nat}, avsEq2 al al' → ConcArgs F w al ys bs → ConcArgs F w al' ys bs
  | [], [], ys, bs, _, h => h
  | [], _ :: _, ys, bs, e, _ => e.elim
  | _ :: _, [], ys, bs, e, _ => e.elim
  | a :: al, b :: al', ys, bs, e, h => by
    obtain ⟨e1, e2⟩ := e
    unfold avEq2 at e1
    split at e1
    · rename_i c c'
      cases ys with
      | nil => exact h.elim
      | cons y ys => exact ⟨Rep.eq e1 h.1, conc_args_eq2 e2 h.2⟩
    · rename_i l m
      cases ys with
      | nil => exact h.elim
      | cons y ys =>
        obtain ⟨zs, hz, h1⟩ := h.1
        exact ⟨⟨zs, hz, eqCs_rep e1 h1⟩, conc_args_eq2 e2 h.2⟩
    · exact e1.elim
theorem does_args2 {P : Program} {f : FuncId} {al al' : List AV} {ans : QR.Ans} (e : avsEq2 al al') (h : DoesX P f al' ans) : DoesX P f al ans :=
  fun w F ys bs hG hF hA => h w F ys bs hG hF (conc_args_eq2 e hA)
def sameR (z : Nat) (n m : Int) (r s : QR.Row) : Bool := n == m && (List.range n.toNat).all fun i => (List.range z).all fun j => intC (den r i j) == intC (den s i j)
def in64 (a : Int) : Bool := decide (-9223372036854775808 ≤ a ∧ a ≤ 9223372036854775807)
theorem ine_t {a b : Int} (h : a ≠ b) : ine a b = true := by simp [ine, h]
theorem ine_f (a : Int) : ine a a = false := by simp [ine]
theorem isel_t (a b : Int) : isel true a b = a := rfl
theorem isel_f (a b : Int) : isel false a b = b := rfl
theorem igt_le' (a b : Int) : igt a b = !(decide (a ≤ b)) := by
  unfold igt; rw [Bool.eq_iff_iff]; simp only [Bool.not_eq_true', decide_eq_true_eq, decide_eq_false_iff_not]; omega
theorem ile_t {a b : Int} (h : a ≤ b) : ile a b = true := decide_eq_true h
theorem ile_tt {a b : Int} (h : ile a b = true) : a ≤ b := of_decide_eq_true h
theorem ilt_t {a b : Int} (h : a < b) : ilt a b = true := decide_eq_true h
theorem ilt_tt {a b : Int} (h : ilt a b = true) : a < b := of_decide_eq_true h
theorem ilt_ff {a b : Int} (h : ilt a b = false) : b ≤ a := by have := of_decide_eq_false h; omega
end Go.Proofs.YtpjhdjakpbabhaaGreatDoor
