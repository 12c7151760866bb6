import Derived.Test.YtcckcifmhhaepaaRs
namespace Go.Proofs.Ytcckcifmhhaepaa
open Go.RowKit PR QR
set_option linter.unusedVariables false
set_option linter.unusedSimpArgs false
def rvB (a b c d : Int) : Bool := decide ((-1073741824 ≤ a ∧ a ≤ 1073741824) ∧ (-1073741824 ≤ b ∧ b ≤ 1073741824) ∧ (-1073741824 ≤ c ∧ c ≤ 1073741824) ∧ (-1073741824 ≤ d ∧ d ≤ 1073741824))
def reB (a b c d : Int) : Bool := !(decide (((-1073741824 ≤ a ∧ a ≤ 1073741824) ∧ (-1073741824 ≤ b ∧ b ≤ 1073741824) ∧ (-1073741824 ≤ c ∧ c ≤ 1073741824) ∧ (-1073741824 ≤ d ∧ d ≤ 1073741824)) ∧ a < c ∧ b < d))
def raV (a b c d : Int) : Int := if reB a b c d = true then 0 else (c - a) * (d - b)
def rcB (a b c d x y : Int) : Bool := decide (reB a b c d = false ∧ a ≤ x ∧ x < c ∧ b ≤ y ∧ y < d)
structure R4 where
  a : Int
  b : Int
  c : Int
  d : Int
instance : DecidableEq R4 := fun x y => if h : x.a = y.a ∧ x.b = y.b ∧ x.c = y.c ∧ x.d = y.d then isTrue (by cases x; cases y; simp_all) else isFalse (fun e => h (by subst e; simp))
def r4z : R4 := ⟨0, 0, 0, 0⟩
def r4G : Nat → R4 → Int
  | 0, x => x.a
  | 1, x => x.b
  | 2, x => x.c
  | _, x => x.d
def r4E (x : R4) : Bool := reB x.a x.b x.c x.d
def r4T (x : R4) : R4 := if r4E x = true then r4z else x
def r4I (x y : R4) : R4 := if r4E x = true ∨ r4E y = true then r4z else r4T ⟨if x.a ≤ y.a then y.a else x.a, if x.b ≤ y.b then y.b else x.b, if x.c ≤ y.c then x.c else y.c, if x.d ≤ y.d then x.d else y.d⟩
def r4V (x y : R4) : Bool := decide (r4E y = true ∨ r4I x y = y)
def rcovB (a b c d e f g h : Int) : Bool := decide (reB e f g h = true ∨ r4I ⟨a, b, c, d⟩ ⟨e, f, g, h⟩ = ⟨e, f, g, h⟩)
def r4H (h x : R4) : R4 := if r4E x = true then h else if r4E h = true then x else ⟨if x.a ≤ h.a then x.a else h.a, if x.b ≤ h.b then x.b else h.b, if x.c ≤ h.c then h.c else x.c, if x.d ≤ h.d then h.d else x.d⟩
def huN (r : QR.Row) : Nat → R4
  | 0 => r4z
  | i + 1 => r4H (huN r i) ⟨intC (den r i 0), intC (den r i 1), intC (den r i 2), intC (den r i 3)⟩
def huR (j : Nat) (n : Int) (r : QR.Row) : Int := r4G j (huN r n.toNat)
def F30 (a : Int) : Prop := -1073741824 ≤ a ∧ a ≤ 1073741824
theorem re_f {a b c d : Int} : reB a b c d = false ↔ (F30 a ∧ F30 b ∧ F30 c ∧ F30 d) ∧ a < c ∧ b < d := by
  unfold reB F30; simp only [Bool.not_eq_false', decide_eq_true_eq]
theorem r4E_z : r4E r4z = true := rfl
theorem r4T_f {x : R4} (h : r4E x = false) : r4T x = x := by unfold r4T; rw [if_neg (by simp [h])]
theorem r4T_t {x : R4} (h : r4E x = true) : r4T x = r4z := by unfold r4T; rw [if_pos h]
theorem r4I_f {x y : R4} (hx : r4E x = false) (hy : r4E y = false) : r4I x y = r4T ⟨if x.a ≤ y.a then y.a else x.a, if x.b ≤ y.b then y.b else x.b, if x.c ≤ y.c then x.c else y.c, if x.d ≤ y.d then x.d else y.d⟩ := by
  unfold r4I; rw [if_neg (by simp [hx, hy])]
theorem r4I_t {x y : R4} (h : r4E x = true ∨ r4E y = true) : r4I x y = r4z := by unfold r4I; rw [if_pos h]
theorem r4I_sub {x y : R4} (h : r4E (r4I x y) = false) : (F30 x.a ∧ F30 x.b ∧ F30 x.c ∧ F30 x.d) ∧ (F30 (r4I x y).a ∧ F30 (r4I x y).b ∧ F30 (r4I x y).c ∧ F30 (r4I x y).d) ∧ (x.a ≤ (r4I x y).a ∧ (r4I x y).a < (r4I x y).c ∧ (r4I x y).c ≤ x.c) ∧ x.b ≤ (r4I x y).b ∧ (r4I x y).b < (r4I x y).d ∧ (r4I x y).d ≤ x.d := by
  by_cases hx : r4E x = true
  · rw [r4I_t (Or.inl hx), r4E_z] at h; simp at h
  by_cases hy : r4E y = true
  · rw [r4I_t (Or.inr hy), r4E_z] at h; simp at h
  have hx := Bool.not_eq_true _ ▸ hx
  have hy := Bool.not_eq_true _ ▸ hy
  rw [r4I_f hx hy] at h ⊢
  have h1 := re_f.1 hx
  have h2 := re_f.1 hy
  generalize e : (⟨if x.a ≤ y.a then y.a else x.a, if x.b ≤ y.b then y.b else x.b, if x.c ≤ y.c then x.c else y.c, if x.d ≤ y.d then x.d else y.d⟩ : R4) = w at *
  by_cases hw : r4E w = true
  · rw [r4T_t hw, r4E_z] at h; simp at h
  rw [r4T_f (Bool.not_eq_true _ ▸ hw)] at h ⊢
  have h3 := re_f.1 h
  refine ⟨h1.1, h3.1, ?_⟩
  have e1 : x.a ≤ w.a := by rw [← e]; simp only; split <;> omega
  have e2 : x.b ≤ w.b := by rw [← e]; simp only; split <;> omega
  have e3 : w.c ≤ x.c := by rw [← e]; simp only; split <;> omega
  have e4 : w.d ≤ x.d := by rw [← e]; simp only; split <;> omega
  exact ⟨⟨e1, h3.2.1, e3⟩, e2, h3.2.2, e4⟩
theorem r4V_in {h x : R4} (hh : r4E h = false) (hx : r4E x = false) (h1 : h.a ≤ x.a) (h2 : h.b ≤ x.b) (h3 : x.c ≤ h.c) (h4 : x.d ≤ h.d) : r4V h x = true := by
  unfold r4V
  rw [decide_eq_true_eq]
  refine Or.inr ?_
  rw [r4I_f hh hx]
  have e : (⟨if h.a ≤ x.a then x.a else h.a, if h.b ≤ x.b then x.b else h.b, if h.c ≤ x.c then h.c else x.c, if h.d ≤ x.d then h.d else x.d⟩ : R4) = x := by
    cases x; simp only at h1 h2 h3 h4 ⊢
    rw [if_pos h1, if_pos h2]
    split <;> split <;> simp only [R4.mk.injEq, true_and, and_true] <;> omega
  rw [e, r4T_f hx]
end Go.Proofs.Ytcckcifmhhaepaa
