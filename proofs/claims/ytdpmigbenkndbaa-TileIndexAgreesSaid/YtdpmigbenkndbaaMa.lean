import Derived.Test.YtdpmigbenkndbaaRs
namespace Go.Proofs.Ytdpmigbenkndbaa
open Go.RowKit PR QR
set_option linter.unusedVariables false
set_option linter.unusedSimpArgs false
def rvB (a b c d : Int) : Bool := decide ((-1073741824 ≤ a ∧ a ≤ 1073741824) ∧ (-1073741824 ≤ b ∧ b ≤ 1073741824) ∧ (-1073741824 ≤ c ∧ c ≤ 1073741824) ∧ (-1073741824 ≤ d ∧ d ≤ 1073741824))
def reB (a b c d : Int) : Bool := !(decide (((-1073741824 ≤ a ∧ a ≤ 1073741824) ∧ (-1073741824 ≤ b ∧ b ≤ 1073741824) ∧ (-1073741824 ≤ c ∧ c ≤ 1073741824) ∧ (-1073741824 ≤ d ∧ d ≤ 1073741824)) ∧ a < c ∧ b < d))
def raV (a b c d : Int) : Int := if reB a b c d = true then 0 else (c - a) * (d - b)
def rcB (a b c d x y : Int) : Bool := decide (reB a b c d = false ∧ a ≤ x ∧ x < c ∧ b ≤ y ∧ y < d)
structure R4 where
  a : Int
  b : Int
  c : Int
  d : Int
instance : DecidableEq R4 := fun x y => if h : x.a = y.a ∧ x.b = y.b ∧ x.c = y.c ∧ x.d = y.d then isTrue (by cases x; cases y; simp_all) else isFalse (fun e => h (by subst e; simp))
def r4z : R4 := ⟨0, 0, 0, 0⟩
def r4G : Nat → R4 → Int
  | 0, x => x.a
  | 1, x => x.b
  | 2, x => x.c
  | _, x => x.d
def r4E (x : R4) : Bool := reB x.a x.b x.c x.d
def r4T (x : R4) : R4 := if r4E x = true then r4z else x
def r4I (x y : R4) : R4 := if r4E x = true ∨ r4E y = true then r4z else r4T ⟨if x.a ≤ y.a then y.a else x.a, if x.b ≤ y.b then y.b else x.b, if x.c ≤ y.c then x.c else y.c, if x.d ≤ y.d then x.d else y.d⟩
def riV (j : Nat) (a b c d e f g h : Int) : Int := r4G j (r4I ⟨a, b, c, d⟩ ⟨e, f, g, h⟩)
def rcovB (a b c d e f g h : Int) : Bool := decide (reB e f g h = true ∨ r4I ⟨a, b, c, d⟩ ⟨e, f, g, h⟩ = ⟨e, f, g, h⟩)
def F30 (a : Int) : Prop := -1073741824 ≤ a ∧ a ≤ 1073741824
theorem re_f {a b c d : Int} : reB a b c d = false ↔ (F30 a ∧ F30 b ∧ F30 c ∧ F30 d) ∧ a < c ∧ b < d := by
  unfold reB F30; simp only [Bool.not_eq_false', decide_eq_true_eq]
theorem r4T_f {x : R4} (h : r4E x = false) : r4T x = x := by unfold r4T; rw [if_neg (by simp [h])]
theorem r4I_f {x y : R4} (hx : r4E x = false) (hy : r4E y = false) : r4I x y = r4T ⟨if x.a ≤ y.a then y.a else x.a, if x.b ≤ y.b then y.b else x.b, if x.c ≤ y.c then x.c else y.c, if x.d ≤ y.d then x.d else y.d⟩ := by
  unfold r4I; rw [if_neg (by simp [hx, hy])]
theorem r4I_t {x y : R4} (h : r4E x = true ∨ r4E y = true) : r4I x y = r4z := by unfold r4I; rw [if_pos h]
end Go.Proofs.Ytdpmigbenkndbaa
