/-
  Layer 13 (rect): rectangles on integers, and what the laws ask of them.
-/
import Derived.Test.YthkndeafhjhdiaaRs
namespace Go.Proofs.Ythkndeafhjhdiaa
open Go.RowKit PR QR
set_option linter.unusedVariables false
set_option linter.unusedSimpArgs false

-- SPEC rvB reB raV rcB riV rcovB rtV huR sbN sbV sameR
def rvB (a b c d : Int) : Bool := decide ((-1073741824 ≤ a ∧ a ≤ 1073741824) ∧ (-1073741824 ≤ b ∧ b ≤ 1073741824) ∧ (-1073741824 ≤ c ∧ c ≤ 1073741824) ∧ (-1073741824 ≤ d ∧ d ≤ 1073741824))
def reB (a b c d : Int) : Bool := !(decide (((-1073741824 ≤ a ∧ a ≤ 1073741824) ∧ (-1073741824 ≤ b ∧ b ≤ 1073741824) ∧ (-1073741824 ≤ c ∧ c ≤ 1073741824) ∧ (-1073741824 ≤ d ∧ d ≤ 1073741824)) ∧ a < c ∧ b < d))
def raV (a b c d : Int) : Int := if reB a b c d = true then 0 else (c - a) * (d - b)
def rcB (a b c d x y : Int) : Bool := decide (reB a b c d = false ∧ a ≤ x ∧ x < c ∧ b ≤ y ∧ y < d)
structure R4 where
  a : Int
  b : Int
  c : Int
  d : Int
instance : DecidableEq R4 := fun x y => if h : x.a = y.a ∧ x.b = y.b ∧ x.c = y.c ∧ x.d = y.d then isTrue (by cases x; cases y; simp_all) else isFalse (fun e => h (by subst e; simp))
def r4z : R4 := ⟨0, 0, 0, 0⟩
def r4G : Nat → R4 → Int
  | 0, x => x.a
  | 1, x => x.b
  | 2, x => x.c
  | _, x => x.d
def r4E (x : R4) : Bool := reB x.a x.b x.c x.d
def r4A (x : R4) : Int := raV x.a x.b x.c x.d
def r4C (x : R4) (u v : Int) : Bool := rcB x.a x.b x.c x.d u v
def r4T (x : R4) : R4 := if r4E x = true then r4z else x
def r4I (x y : R4) : R4 := if r4E x = true ∨ r4E y = true then r4z else r4T ⟨if x.a ≤ y.a then y.a else x.a, if x.b ≤ y.b then y.b else x.b, if x.c ≤ y.c then x.c else y.c, if x.d ≤ y.d then x.d else y.d⟩
def riV (j : Nat) (a b c d e f g h : Int) : Int := r4G j (r4I ⟨a, b, c, d⟩ ⟨e, f, g, h⟩)
def r4V (x y : R4) : Bool := decide (r4E y = true ∨ r4I x y = y)
def rcovB (a b c d e f g h : Int) : Bool := decide (reB e f g h = true ∨ r4I ⟨a, b, c, d⟩ ⟨e, f, g, h⟩ = ⟨e, f, g, h⟩)
def rtV (j : Nat) (a b c d x y : Int) : Int := r4G j (if reB a b c d = true then r4z else r4T ⟨a + x, b + y, c + x, d + y⟩)
/-- the hull of what there was and one more -/
def r4H (h x : R4) : R4 := if r4E x = true then h else if r4E h = true then x else ⟨if x.a ≤ h.a then x.a else h.a, if x.b ≤ h.b then x.b else h.b, if x.c ≤ h.c then h.c else x.c, if x.d ≤ h.d then h.d else x.d⟩
def huN (r : QR.Row) : Nat → R4
  | 0 => r4z
  | i + 1 => r4H (huN r i) ⟨intC (den r i 0), intC (den r i 1), intC (den r i 2), intC (den r i 3)⟩
def huR (j : Nat) (n : Int) (r : QR.Row) : Int := r4G j (huN r n.toNat)
def sbP (x c : R4) : List R4 := [⟨x.a, x.b, x.c, c.b⟩, ⟨x.a, c.d, x.c, x.d⟩, ⟨x.a, c.b, c.a, c.d⟩, ⟨c.c, c.b, x.c, c.d⟩]
def sbL (x y : R4) : List R4 := if r4E x = true then [] else if r4E (r4I x y) = true then [x] else (sbP x (r4I x y)).filter (fun p => !r4E p)
def sbN (a b c d e f g h : Int) : Int := ((sbL ⟨a, b, c, d⟩ ⟨e, f, g, h⟩).length : Nat)
def sbV (a b c d e f g h i : Int) (j : Nat) : Int := r4G j ((sbL ⟨a, b, c, d⟩ ⟨e, f, g, h⟩).getD i.toNat r4z)
def F30 (a : Int) : Prop := -1073741824 ≤ a ∧ a ≤ 1073741824
theorem re_f {a b c d : Int} : reB a b c d = false ↔ (F30 a ∧ F30 b ∧ F30 c ∧ F30 d) ∧ a < c ∧ b < d := by
  unfold reB F30; simp only [Bool.not_eq_false', decide_eq_true_eq]
theorem re_t {a b c d : Int} : reB a b c d = true ↔ ¬ ((F30 a ∧ F30 b ∧ F30 c ∧ F30 d) ∧ a < c ∧ b < d) := by
  unfold reB F30; simp only [Bool.not_eq_true', decide_eq_false_iff_not]
theorem r4E_z : r4E r4z = true := rfl
theorem r4T_f {x : R4} (h : r4E x = false) : r4T x = x := by unfold r4T; rw [if_neg (by simp [h])]
theorem r4T_t {x : R4} (h : r4E x = true) : r4T x = r4z := by unfold r4T; rw [if_pos h]
theorem ra_flat {a b c d : Int} (h : F30 a ∧ F30 b ∧ F30 c ∧ F30 d) (h1 : a ≤ c) (h2 : b ≤ d) : raV a b c d = (c - a) * (d - b) := by
  unfold raV
  split
  · rename_i k
    rw [re_t] at k
    have : c - a = 0 ∨ d - b = 0 := by
      by_cases e : a < c
      · by_cases e' : b < d
        · exact absurd ⟨h, e, e'⟩ k
        · omega
      · omega
    rcases this with e | e <;> rw [e] <;> simp
  · rfl
theorem rc_iff {a b c d x y : Int} : rcB a b c d x y = true ↔ (F30 a ∧ F30 b ∧ F30 c ∧ F30 d) ∧ (a ≤ x ∧ x < c) ∧ (b ≤ y ∧ y < d) := by
  unfold rcB; rw [decide_eq_true_eq, re_f]; unfold F30; omega
/-- what is in both -/
theorem r4I_f {x y : R4} (hx : r4E x = false) (hy : r4E y = false) : r4I x y = r4T ⟨if x.a ≤ y.a then y.a else x.a, if x.b ≤ y.b then y.b else x.b, if x.c ≤ y.c then x.c else y.c, if x.d ≤ y.d then x.d else y.d⟩ := by
  unfold r4I; rw [if_neg (by simp [hx, hy])]
theorem r4I_t {x y : R4} (h : r4E x = true ∨ r4E y = true) : r4I x y = r4z := by unfold r4I; rw [if_pos h]
theorem rc_z (u v : Int) : r4C r4z u v = false := by
  cases h : r4C r4z u v
  · rfl
  · have := rc_iff.1 h; unfold r4z at this; simp only at this; omega
theorem rc_e {x : R4} (h : r4E x = true) (u v : Int) : r4C x u v = false := by
  cases k : r4C x u v
  · rfl
  · have q := rc_iff.1 k
    exact absurd ⟨q.1, by omega, by omega⟩ (re_t.1 h)
theorem rc_inter (x y : R4) (u v : Int) : r4C (r4I x y) u v = (r4C x u v && r4C y u v) := by
  by_cases hx : r4E x = true
  · rw [r4I_t (Or.inl hx), rc_z, rc_e hx]; rfl
  by_cases hy : r4E y = true
  · rw [r4I_t (Or.inr hy), rc_z, rc_e hy]; simp
  have hx := Bool.not_eq_true _ ▸ hx
  have hy := Bool.not_eq_true _ ▸ hy
  rw [r4I_f hx hy]
  have h1 := re_f.1 hx
  have h2 := re_f.1 hy
  unfold F30 at h1 h2
  generalize e : (⟨if x.a ≤ y.a then y.a else x.a, if x.b ≤ y.b then y.b else x.b, if x.c ≤ y.c then x.c else y.c, if x.d ≤ y.d then x.d else y.d⟩ : R4) = w
  have key : r4C w u v = (r4C x u v && r4C y u v) := by
    rw [Bool.eq_iff_iff, Bool.and_eq_true]
    unfold r4C
    rw [rc_iff, rc_iff, rc_iff]
    subst e
    unfold F30
    simp only
    split <;> split <;> split <;> split <;> omega
  by_cases hw : r4E w = true
  · rw [r4T_t hw, rc_z, ← key, rc_e hw]
  · rw [r4T_f (Bool.not_eq_true _ ▸ hw), key]
theorem r4I_sub {x y : R4} (h : r4E (r4I x y) = false) : (F30 x.a ∧ F30 x.b ∧ F30 x.c ∧ F30 x.d) ∧ (F30 (r4I x y).a ∧ F30 (r4I x y).b ∧ F30 (r4I x y).c ∧ F30 (r4I x y).d) ∧ (x.a ≤ (r4I x y).a ∧ (r4I x y).a < (r4I x y).c ∧ (r4I x y).c ≤ x.c) ∧ x.b ≤ (r4I x y).b ∧ (r4I x y).b < (r4I x y).d ∧ (r4I x y).d ≤ x.d := by
  by_cases hx : r4E x = true
  · rw [r4I_t (Or.inl hx), r4E_z] at h; simp at h
  by_cases hy : r4E y = true
  · rw [r4I_t (Or.inr hy), r4E_z] at h; simp at h
  have hx := Bool.not_eq_true _ ▸ hx
  have hy := Bool.not_eq_true _ ▸ hy
  rw [r4I_f hx hy] at h ⊢
  have h1 := re_f.1 hx
  have h2 := re_f.1 hy
  generalize e : (⟨if x.a ≤ y.a then y.a else x.a, if x.b ≤ y.b then y.b else x.b, if x.c ≤ y.c then x.c else y.c, if x.d ≤ y.d then x.d else y.d⟩ : R4) = w at *
  by_cases hw : r4E w = true
  · rw [r4T_t hw, r4E_z] at h; simp at h
  rw [r4T_f (Bool.not_eq_true _ ▸ hw)] at h ⊢
  have h3 := re_f.1 h
  refine ⟨h1.1, h3.1, ?_⟩
  have e1 : x.a ≤ w.a := by rw [← e]; simp only; split <;> omega
  have e2 : x.b ≤ w.b := by rw [← e]; simp only; split <;> omega
  have e3 : w.c ≤ x.c := by rw [← e]; simp only; split <;> omega
  have e4 : w.d ≤ x.d := by rw [← e]; simp only; split <;> omega
  exact ⟨⟨e1, h3.2.1, e3⟩, e2, h3.2.2, e4⟩
theorem r4V_inter (x y : R4) : r4V x (r4I x y) = true := by
  unfold r4V
  rw [decide_eq_true_eq]
  by_cases h : r4E (r4I x y) = true
  · exact Or.inl h
  have h := Bool.not_eq_true _ ▸ h
  refine Or.inr ?_
  obtain ⟨q1, q2, q3, q4⟩ := r4I_sub h
  have hx : r4E x = false := re_f.2 ⟨q1, by omega, by omega⟩
  generalize r4I x y = w at *
  rw [r4I_f hx h]
  have e : (⟨if x.a ≤ w.a then w.a else x.a, if x.b ≤ w.b then w.b else x.b, if x.c ≤ w.c then x.c else w.c, if x.d ≤ w.d then x.d else w.d⟩ : R4) = w := by
    cases w; simp only at q3 q4 ⊢
    rw [if_pos (by omega), if_pos (by omega)]
    split <;> split <;> simp only [R4.mk.injEq, true_and, and_true] <;> omega
  rw [e, r4T_f h]
/-- the hull of two -/
theorem r4H_two (x y : R4) : r4H (r4H r4z x) y = r4H (r4T x) y := by
  by_cases h : r4E x = true
  · have : r4H r4z x = r4z := by unfold r4H; rw [if_pos h]
    rw [this, r4T_t h]
  · have : r4H r4z x = x := by unfold r4H; rw [if_neg h, if_pos r4E_z]
    rw [this, r4T_f (Bool.not_eq_true _ ▸ h)]
theorem r4H_cases (h x : R4) : (r4E x = true ∧ r4H h x = h) ∨ (r4E x = false ∧ r4E h = true ∧ r4H h x = x) ∨ (r4E x = false ∧ r4E h = false ∧ r4E (r4H h x) = false ∧ (r4H h x).a ≤ h.a ∧ (r4H h x).a ≤ x.a ∧ (r4H h x).b ≤ h.b ∧ (r4H h x).b ≤ x.b ∧ h.c ≤ (r4H h x).c ∧ x.c ≤ (r4H h x).c ∧ h.d ≤ (r4H h x).d ∧ x.d ≤ (r4H h x).d) := by
  by_cases hx : r4E x = true
  · exact Or.inl ⟨hx, by unfold r4H; rw [if_pos hx]⟩
  have hx' := Bool.not_eq_true _ ▸ hx
  by_cases hh : r4E h = true
  · exact Or.inr (Or.inl ⟨hx', hh, by unfold r4H; rw [if_neg hx, if_pos hh]⟩)
  have hh' := Bool.not_eq_true _ ▸ hh
  refine Or.inr (Or.inr ⟨hx', hh', ?_⟩)
  have h1 := re_f.1 hx'
  have h2 := re_f.1 hh'
  unfold F30 at h1 h2
  unfold r4H
  rw [if_neg hx, if_neg hh]
  refine ⟨re_f.2 ?_, ?_⟩
  · unfold F30; simp only; split <;> split <;> split <;> split <;> omega
  · simp only; split <;> split <;> split <;> split <;> omega
theorem rc_hull (h x : R4) (u v : Int) (k : r4C h u v = true ∨ r4C x u v = true) : r4C (r4H h x) u v = true := by
  rcases r4H_cases h x with ⟨e, q⟩ | ⟨e, e', q⟩ | ⟨e, e', q⟩
  · rw [q]; rw [rc_e e] at k; simpa using k
  · rw [q]; rw [rc_e e'] at k; simpa using k
  · have f := re_f.1 q.1
    have c : (h.a ≤ u ∧ u < h.c ∧ h.b ≤ v ∧ v < h.d) ∨ (x.a ≤ u ∧ u < x.c ∧ x.b ≤ v ∧ v < x.d) := by
      rcases k with k | k
      · have := rc_iff.1 k; omega
      · have := rc_iff.1 k; omega
    exact rc_iff.2 ⟨f.1, by omega, by omega⟩
/-- what is inside is covered -/
theorem r4V_in {h x : R4} (hh : r4E h = false) (hx : r4E x = false) (h1 : h.a ≤ x.a) (h2 : h.b ≤ x.b) (h3 : x.c ≤ h.c) (h4 : x.d ≤ h.d) : r4V h x = true := by
  unfold r4V
  rw [decide_eq_true_eq]
  refine Or.inr ?_
  rw [r4I_f hh hx]
  have e : (⟨if h.a ≤ x.a then x.a else h.a, if h.b ≤ x.b then x.b else h.b, if h.c ≤ x.c then h.c else x.c, if h.d ≤ x.d then h.d else x.d⟩ : R4) = x := by
    cases x; simp only at h1 h2 h3 h4 ⊢
    rw [if_pos h1, if_pos h2]
    split <;> split <;> simp only [R4.mk.injEq, true_and, and_true] <;> omega
  rw [e, r4T_f hx]
theorem r4V_hull (x y : R4) : r4V (r4H (r4T x) y) x = true := by
  by_cases hx : r4E x = true
  · unfold r4V; rw [decide_eq_true_eq]; exact Or.inl hx
  have hx := Bool.not_eq_true _ ▸ hx
  rw [r4T_f hx]
  rcases r4H_cases x y with ⟨e, q⟩ | ⟨e, e', q⟩ | ⟨e, e', q⟩
  · rw [q]; exact r4V_in hx hx (by omega) (by omega) (by omega) (by omega)
  · rw [hx] at e'; simp at e'
  · exact r4V_in q.1 hx (by omega) (by omega) (by omega) (by omega)
/-- a translation and back -/
theorem r4M {x : R4} {u v : Int} (h : r4E x = false) (k : r4E ⟨x.a + u, x.b + v, x.c + u, x.d + v⟩ = false) (p q : Int) :
    r4T ⟨x.a + u + -u, x.b + v + -v, x.c + u + -u, x.d + v + -v⟩ = x ∧ r4C ⟨x.a + u, x.b + v, x.c + u, x.d + v⟩ (p + u) (q + v) = r4C x p q ∧ r4A ⟨x.a + u, x.b + v, x.c + u, x.d + v⟩ = r4A x := by
  have h1 := re_f.1 h
  have h2 := re_f.1 k
  simp only at h2
  refine ⟨?_, ?_, ?_⟩
  · have e : (⟨x.a + u + -u, x.b + v + -v, x.c + u + -u, x.d + v + -v⟩ : R4) = x := by
      cases x; simp only [R4.mk.injEq]; omega
    rw [e, r4T_f h]
  · rw [Bool.eq_iff_iff]; unfold r4C; rw [rc_iff, rc_iff]; exact ⟨fun h => by have q := h.2; simp only at q; exact ⟨h1.1, by omega, by omega⟩, fun h => ⟨h2.1, by simp only; omega, by simp only; omega⟩⟩
  · unfold r4A
    rw [ra_flat h2.1 (by omega) (by omega), ra_flat h1.1 (by omega) (by omega)]
    rw [show x.c + u - (x.a + u) = x.c - x.a by omega, show x.d + v - (x.b + v) = x.d - x.b by omega]
/- the pieces of a difference -/
def b01 (b : Bool) : Int := bif b then 1 else 0
def cntL (u v : Int) : List R4 → Int
  | [] => 0
  | p :: l => b01 (r4C p u v) + cntL u v l
def areaL : List R4 → Int
  | [] => 0
  | p :: l => r4A p + areaL l
theorem cnt_filter (u v : Int) : ∀ l : List R4, cntL u v (l.filter fun p => !r4E p) = cntL u v l
  | [] => rfl
  | p :: l => by
    rw [List.filter_cons]
    cases h : r4E p
    · simp [cntL, cnt_filter u v l]
    · simp [cntL, cnt_filter u v l, rc_e h, b01]
theorem area_filter : ∀ l : List R4, areaL (l.filter fun p => !r4E p) = areaL l
  | [] => rfl
  | p :: l => by
    rw [List.filter_cons]
    cases h : r4E p
    · simp [areaL, area_filter l]
    · have : r4A p = 0 := by exact if_pos h
      simp [areaL, area_filter l, this]
theorem r4A_le (x : R4) : 0 ≤ r4A x ∧ r4A x ≤ 4611686018427387904 := by
  unfold r4A raV
  split
  · exact ⟨Int.le_refl 0, by decide⟩
  · rename_i h
    have h := re_f.1 (Bool.not_eq_true _ ▸ h)
    unfold F30 at h
    have p1 := Int.mul_nonneg (show 0 ≤ x.c - x.a by omega) (show 0 ≤ x.d - x.b by omega)
    have p2 := Int.mul_le_mul (show x.c - x.a ≤ 2147483648 by omega) (show x.d - x.b ≤ 2147483648 by omega) (by omega) (by decide)
    exact ⟨p1, by omega⟩
theorem area_take : ∀ (L : List R4) (k : Nat), 0 ≤ areaL (L.take k) ∧ areaL (L.take k) ≤ areaL L
  | [], k => by simp [areaL]
  | x :: L, 0 => by
    have h := area_take L L.length
    rw [List.take_length] at h
    have := (r4A_le x).1
    simp only [List.take_zero, areaL]; omega
  | x :: L, k + 1 => by
    have h := area_take L k
    have := (r4A_le x).1
    simp only [List.take_succ_cons, areaL]; omega
theorem cnt_le (u v : Int) : ∀ L : List R4, 0 ≤ cntL u v L ∧ cntL u v L ≤ L.length
  | [] => by simp [cntL]
  | x :: L => by
    have h := cnt_le u v L
    have : 0 ≤ b01 (r4C x u v) ∧ b01 (r4C x u v) ≤ 1 := by cases r4C x u v <;> simp [b01]
    simp only [cntL, List.length_cons]; omega
theorem sb_len (x y : R4) : (sbL x y).length ≤ 4 := by
  unfold sbL
  split
  · simp
  split
  · simp
  · exact Nat.le_trans (List.length_filter_le _ _) (by simp [sbP])
theorem sb_area (x y : R4) : r4A (r4I x y) + areaL (sbL x y) = r4A x := by
  unfold sbL
  by_cases hx : r4E x = true
  · rw [if_pos hx, r4I_t (Or.inl hx)]
    have : r4A x = 0 := by exact if_pos hx
    rw [this]; rfl
  rw [if_neg hx]
  by_cases hc : r4E (r4I x y) = true
  · rw [if_pos hc]
    have : r4A (r4I x y) = 0 := by exact if_pos hc
    rw [this]; simp [areaL]
  rw [if_neg hc, area_filter]
  obtain ⟨q1, q2, q3, q4⟩ := r4I_sub (Bool.not_eq_true _ ▸ hc)
  generalize r4I x y = c at *
  unfold sbP areaL areaL areaL areaL areaL r4A
  simp only
  rw [ra_flat q2 (by omega) (by omega), ra_flat q1 (by omega) (by omega), ra_flat ⟨q1.1, q1.2.1, q1.2.2.1, q2.2.1⟩ (by omega) (by omega), ra_flat ⟨q1.1, q2.2.2.2, q1.2.2.1, q1.2.2.2⟩ (by omega) (by omega), ra_flat ⟨q1.1, q2.2.1, q2.1, q2.2.2.2⟩ (by omega) (by omega), ra_flat ⟨q2.2.2.1, q2.2.1, q1.2.2.1, q2.2.2.2⟩ (by omega) (by omega)]
  grind
theorem sb_count (x y : R4) (u v : Int) : cntL u v (sbL x y) = b01 (r4C x u v && !r4C y u v) := by
  unfold sbL
  by_cases hx : r4E x = true
  · rw [if_pos hx, rc_e hx]; rfl
  rw [if_neg hx]
  have hi := rc_inter x y u v
  by_cases hc : r4E (r4I x y) = true
  · rw [if_pos hc]
    rw [rc_e hc] at hi
    cases h1 : r4C x u v <;> cases h2 : r4C y u v <;> simp [h1, h2] at hi <;> simp [cntL, h1, b01]
  rw [if_neg hc, cnt_filter]
  obtain ⟨q1, q2, q3, q4⟩ := r4I_sub (Bool.not_eq_true _ ▸ hc)
  have e : (r4C x u v && !r4C y u v) = (r4C x u v && !r4C (r4I x y) u v) := by rw [hi]; cases r4C x u v <;> cases r4C y u v <;> rfl
  rw [e]
  generalize r4I x y = c at *
  have hb : ∀ (p : R4) (P : Prop) [Decidable P], (r4C p u v = true ↔ P) → b01 (r4C p u v) = if P then 1 else 0 := by
    intro p P _ h
    cases k : r4C p u v
    · rw [if_neg (by rw [← h, k]; simp)]; rfl
    · rw [if_pos (h.1 k)]; rfl
  have hw : b01 (r4C x u v && !r4C c u v) = if ((x.a ≤ u ∧ u < x.c) ∧ (x.b ≤ v ∧ v < x.d)) ∧ ¬ ((c.a ≤ u ∧ u < c.c) ∧ (c.b ≤ v ∧ v < c.d)) then 1 else 0 := by
    have k1 : r4C x u v = true ↔ (x.a ≤ u ∧ u < x.c) ∧ (x.b ≤ v ∧ v < x.d) := rc_iff.trans ⟨fun h => h.2, fun h => ⟨q1, h⟩⟩
    have k2 : r4C c u v = true ↔ (c.a ≤ u ∧ u < c.c) ∧ (c.b ≤ v ∧ v < c.d) := rc_iff.trans ⟨fun h => h.2, fun h => ⟨q2, h⟩⟩
    cases h1 : r4C x u v <;> cases h2 : r4C c u v <;> simp only [h1, h2, Bool.false_eq_true, false_iff, true_iff] at k1 k2 <;> simp only [b01, Bool.not_false, Bool.not_true, Bool.and_true, Bool.and_false, cond_true, cond_false]
    · rw [if_neg (fun h => k1 h.1)]
    · rw [if_neg (fun h => k1 h.1)]
    · rw [if_pos ⟨k1, k2⟩]
    · rw [if_neg (fun h => h.2 k2)]
  rw [hw]
  unfold sbP cntL cntL cntL cntL cntL
  rw [hb ⟨x.a, x.b, x.c, c.b⟩ ((x.a ≤ u ∧ u < x.c) ∧ (x.b ≤ v ∧ v < c.b)) (rc_iff.trans ⟨fun h => h.2, fun h => ⟨⟨q1.1, q1.2.1, q1.2.2.1, q2.2.1⟩, h⟩⟩),
    hb ⟨x.a, c.d, x.c, x.d⟩ ((x.a ≤ u ∧ u < x.c) ∧ (c.d ≤ v ∧ v < x.d)) (rc_iff.trans ⟨fun h => h.2, fun h => ⟨⟨q1.1, q2.2.2.2, q1.2.2.1, q1.2.2.2⟩, h⟩⟩),
    hb ⟨x.a, c.b, c.a, c.d⟩ ((x.a ≤ u ∧ u < c.a) ∧ (c.b ≤ v ∧ v < c.d)) (rc_iff.trans ⟨fun h => h.2, fun h => ⟨⟨q1.1, q2.2.1, q2.1, q2.2.2.2⟩, h⟩⟩),
    hb ⟨c.c, c.b, x.c, c.d⟩ ((c.c ≤ u ∧ u < x.c) ∧ (c.b ≤ v ∧ v < c.d)) (rc_iff.trans ⟨fun h => h.2, fun h => ⟨⟨q2.2.2.1, q2.2.1, q1.2.2.1, q2.2.2.2⟩, h⟩⟩)]
  split <;> split <;> split <;> split <;> split <;> omega
end Go.Proofs.Ythkndeafhjhdiaa
