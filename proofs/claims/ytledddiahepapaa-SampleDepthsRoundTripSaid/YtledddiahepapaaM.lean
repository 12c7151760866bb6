/-
  The contract of the specification's MulSmall (by doubling) on two words: the product below 2^128, or false.
-/
import Derived.Test.YtledddiahepapaaL
namespace Go.Proofs.Ytledddiahepapaa
open Go.RowKit
set_option linter.unusedVariables false

/-- a box of two words that may be written -/
def Box2 (w : World) (b : Nat) (x y : Value) : Prop := w.cell? ⟨b, 0, none⟩ = some x ∧ w.cell? ⟨b, 1, none⟩ = some y ∧ w.frozen? ⟨b, 0, none⟩ = false ∧ w.frozen? ⟨b, 1, none⟩ = false

theorem Box2.keep {w w' : World} {b : Nat} {x y : Value} (h : Box2 w b x y) (hb : Below w.heap.size w w') (hlt : b < w.heap.size) : Box2 w' b x y := by
  obtain ⟨h1, h2, h3, h4⟩ := h
  obtain ⟨hc, hf⟩ := bcell hb
  exact ⟨(hc b 0 hlt).trans h1, (hc b 1 hlt).trans h2, (hf b 0 hlt).trans h3, (hf b 1 hlt).trans h4⟩

theorem Box2.set {w : World} {b : Nat} {x y : Value} (h : Box2 w b x y) (u v : Value) : Box2 ((w.setCell ⟨b, 0, none⟩ u).setCell ⟨b, 1, none⟩ v) b u v := by
  obtain ⟨h1, h2, h3, h4⟩ := h
  refine ⟨?_, ?_, ?_, ?_⟩ <;> simp [go_sem, h1, h2, h3, h4]
theorem Box2.other {w : World} {b : Nat} {x y : Value} (h : Box2 w b x y) {p : Addr} (hp : p.block ≠ b) (u : Value) : Box2 (w.setCell p u) b x y := by
  obtain ⟨h1, h2, h3, h4⟩ := h
  have e1 : p ≠ ⟨b, 0, none⟩ := by intro h; subst h; exact hp rfl
  have e2 : p ≠ ⟨b, 1, none⟩ := by intro h; subst h; exact hp rfl
  refine ⟨?_, ?_, ?_, ?_⟩ <;> simp [go_sem, h1, h2, h3, h4, e1, e2]

/-- a result that fits into 128 bits, or zero and false -/
def Ans (n hi lo : Nat) (b : Bool) : Prop := (b = true ∧ Word2 n hi lo) ∨ (b = false ∧ hi = 0 ∧ lo = 0 ∧ ¬ n < 340282366920938463463374607431768211456)
theorem Ans.unique {n h l h' l' : Nat} {b b' : Bool} (x : Ans n h l b) (y : Ans n h' l' b') : h = h' ∧ l = l' ∧ b = b' := by
  rcases x with ⟨rfl, x⟩ | ⟨rfl, rfl, rfl, x⟩ <;> rcases y with ⟨rfl, y⟩ | ⟨rfl, rfl, rfl, y⟩
  · obtain ⟨h1, h2⟩ := x.unique y; exact ⟨h1, h2, rfl⟩
  · exact absurd x.lt y
  · exact absurd y.lt x
  · exact ⟨rfl, rfl, rfl⟩

/-- the pair of such a result -/
def AnsOf (n : Nat) (e : Ending) : Prop := ∃ (hi lo : Nat) (b : Bool), e = .returned (.tuple #[.agg #[.int .u64 hi, .int .u64 lo], .bool b]) ∧ Ans n hi lo b
theorem AnsOf.yes {n hi lo : Nat} (h : Word2 n hi lo) : AnsOf n (.returned (.tuple #[.agg #[.int .u64 hi, .int .u64 lo], .bool true])) := ⟨hi, lo, true, rfl, Or.inl ⟨rfl, h⟩⟩
theorem AnsOf.no {n : Nat} (h : ¬ n < 340282366920938463463374607431768211456) : AnsOf n (.returned (.tuple #[.agg #[.int .u64 0, .int .u64 0], .bool false])) := ⟨0, 0, false, rfl, Or.inr ⟨rfl, rfl, rfl, h⟩⟩

/-- a difference, or zero and false where it is negative -/
def Dif (x y hi lo : Nat) (b : Bool) : Prop := (b = true ∧ Word2 (x - y) hi lo ∧ y ≤ x) ∨ (b = false ∧ hi = 0 ∧ lo = 0 ∧ ¬ y ≤ x)
theorem Dif.unique {x y h l h' l' : Nat} {b b' : Bool} (p : Dif x y h l b) (q : Dif x y h' l' b') : h = h' ∧ l = l' ∧ b = b' := by
  rcases p with ⟨rfl, p, p'⟩ | ⟨rfl, rfl, rfl, p⟩ <;> rcases q with ⟨rfl, q, q'⟩ | ⟨rfl, rfl, rfl, q⟩
  · obtain ⟨h1, h2⟩ := p.unique q; exact ⟨h1, h2, rfl⟩
  · exact absurd p' q
  · exact absurd q' p
  · exact ⟨rfl, rfl, rfl⟩
def DifOf (x y : Nat) (e : Ending) : Prop := ∃ (hi lo : Nat) (b : Bool), e = .returned (.tuple #[.agg #[.int .u64 hi, .int .u64 lo], .bool b]) ∧ Dif x y hi lo b
theorem DifOf.yes {x y hi lo : Nat} (h : Word2 (x - y) hi lo) (k : y ≤ x) : DifOf x y (.returned (.tuple #[.agg #[.int .u64 hi, .int .u64 lo], .bool true])) := ⟨hi, lo, true, rfl, Or.inl ⟨rfl, h, k⟩⟩
theorem DifOf.no {x y : Nat} (h : ¬ y ≤ x) : DifOf x y (.returned (.tuple #[.agg #[.int .u64 0, .int .u64 0], .bool false])) := ⟨0, 0, false, rfl, Or.inr ⟨rfl, rfl, rfl, h⟩⟩
end Go.Proofs.Ytledddiahepapaa
