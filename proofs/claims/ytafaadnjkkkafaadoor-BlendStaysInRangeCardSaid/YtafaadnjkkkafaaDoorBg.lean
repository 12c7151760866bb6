/-
  Layer 6 (blend): the blend term on integers, and its range.
  Layer 6 (blend): the blend term compared, rounded, and with its complements.
  Layer 6 (blend): the conditions of the calls, by the second edition.
  Layer 6 (blend): what each call answers.
  Layer 6 (blend): what each call answers: the terms.
  The laws of layer 6 (blend): their conditions.
  The laws of layer 6 (blend): each returns true for all arguments in their ranges.
  The laws of layer 6 (blend), second part.
  The laws of layer 6 (blend), third part: complements and neutral colours.
-/
import Derived.Test.YtafaadnjkkkafaaDoorSu
import Derived.Test.YtafaadnjkkkafaaDoorRt
import Derived.Test.YtafaadnjkkkafaaDoorVb
namespace Go.Proofs.YtafaadnjkkkafaaDoor
open Go.RowKit PR
set_option linter.unusedVariables false

-- SPEC blP blQ blR blD blOk
def hardI (s a d b : Int) : Int := if 2 * s ≤ a then 2 * s * d else a * b - 2 * (b - d) * (a - s)
def dodgeP (s a d b : Int) : Int := if d = 0 then 0 else if b * (a - s) ≤ d * a then a * b else a * a * d
def dodgeD (s a d b : Int) : Int := if d = 0 then 1 else if b * (a - s) ≤ d * a then 1 else a - s
def burnP (s a d b : Int) : Int := if d = b then a * b else if s * b ≤ (b - d) * a then 0 else a * b * s - (b - d) * a * a
def burnD (s a d b : Int) : Int := if d = b then 1 else if s * b ≤ (b - d) * a then 1 else s
def softP (s a d b : Int) : Int := if b = 0 then 0 else if 2 * s ≤ a then d * a * b - (a - 2 * s) * d * (b - d) else if 4 * d ≤ b then d * a * (b * b) + (2 * s - a) * d * (16 * d * d + 3 * b * b - 12 * d * b) else 2 * d * (a - s)
def softQ (s a d b : Int) : Int := if b = 0 then 0 else if 2 * s ≤ a then 0 else if 4 * d ≤ b then 0 else 2 * s - a
def softR (s a d b : Int) : Int := if b = 0 then 0 else if 2 * s ≤ a then 0 else if 4 * d ≤ b then 0 else d * b
def softD (s a d b : Int) : Int := if b = 0 then 1 else if 2 * s ≤ a then b else if 4 * d ≤ b then b * b else 1
def minI (x y : Int) : Int := if x ≤ y then x else y
def maxI (x y : Int) : Int := if x ≤ y then y else x
/-- the term's parts, by the mode: P, Q, R, Den -/
def blT (k s a d b : Int) : Int :=
  if k = 1 then s * b else if k = 2 then s * d else if k = 3 then s * b + d * a - s * d else if k = 4 then hardI d b s a
  else if k = 5 then minI (s * b) (d * a) else if k = 6 then maxI (s * b) (d * a) else if k = 7 then dodgeP s a d b else if k = 8 then burnP s a d b
  else if k = 9 then hardI s a d b else if k = 10 then softP s a d b else if k = 11 then maxI (s * b) (d * a) - minI (s * b) (d * a) else s * b + d * a - 2 * s * d
def blOk (k s a d b : Int) : Bool := decide (1 ≤ k ∧ k ≤ 12 ∧ s ≤ a ∧ d ≤ b)
def blP (k s a d b : Int) : Int := bif blOk k s a d b then blT k s a d b else 0
def blQ (k s a d b : Int) : Int := bif blOk k s a d b then (if k = 10 then softQ s a d b else 0) else 0
def blR (k s a d b : Int) : Int := bif blOk k s a d b then (if k = 10 then softR s a d b else 0) else 0
def blD (k s a d b : Int) : Int := bif blOk k s a d b then (if k = 7 then dodgeD s a d b else if k = 8 then burnD s a d b else if k = 10 then softD s a d b else 1) else 0

section
variable {s a d b : Int}
theorem hard_range (h0 : 0 ≤ s) (h1 : s ≤ a) (h2 : 0 ≤ d) (h3 : d ≤ b) : 0 ≤ hardI s a d b ∧ hardI s a d b ≤ a * b := by
  have p1 := Int.mul_nonneg h0 h2
  have p2 := Int.mul_nonneg (show 0 ≤ a - s by omega) (show 0 ≤ b - d by omega)
  have p3 := Int.mul_nonneg (show 0 ≤ a by omega) (show 0 ≤ b - d by omega)
  unfold hardI
  split
  · have p4 := Int.mul_nonneg (show 0 ≤ a - 2 * s by omega) h2
    exact ⟨by grind, by grind⟩
  · have p4 := Int.mul_nonneg (show 0 ≤ 2 * s - a by omega) (show 0 ≤ b - d by omega)
    have p5 := Int.mul_nonneg (show 0 ≤ a by omega) h2
    exact ⟨by grind, by grind⟩
theorem dodge_range (h0 : 0 ≤ s) (h1 : s ≤ a) (h2 : 0 ≤ d) (h3 : d ≤ b) : 0 < dodgeD s a d b ∧ 0 ≤ dodgeP s a d b ∧ dodgeP s a d b ≤ dodgeD s a d b * (a * b) := by
  have p1 := Int.mul_nonneg (show 0 ≤ a by omega) (show 0 ≤ b by omega)
  have p2 := Int.mul_nonneg h2 (show 0 ≤ a by omega)
  unfold dodgeD dodgeP
  split
  · exact ⟨by decide, by decide, by omega⟩
  · split
    · exact ⟨by decide, p1, by omega⟩
    · rename_i h5
      have q : 0 < a - s := by
        rcases Int.lt_or_eq_of_le (show 0 ≤ a - s by omega) with h | h
        · exact h
        · rw [← h] at h5; simp at h5; omega
      have p3 := Int.mul_nonneg (show 0 ≤ a by omega) (show 0 ≤ b * (a - s) - d * a by omega)
      have p4 := Int.mul_nonneg p2 (show 0 ≤ a by omega)
      exact ⟨q, by grind, by grind⟩
theorem burn_range (h0 : 0 ≤ s) (h1 : s ≤ a) (h2 : 0 ≤ d) (h3 : d ≤ b) : 0 < burnD s a d b ∧ 0 ≤ burnP s a d b ∧ burnP s a d b ≤ burnD s a d b * (a * b) := by
  have p1 := Int.mul_nonneg (show 0 ≤ a by omega) (show 0 ≤ b by omega)
  have p2 := Int.mul_nonneg (show 0 ≤ b - d by omega) (show 0 ≤ a by omega)
  unfold burnD burnP
  split
  · exact ⟨by decide, p1, by omega⟩
  · split
    · exact ⟨by decide, by decide, by omega⟩
    · rename_i h5
      have q : 0 < s := by
        rcases Int.lt_or_eq_of_le h0 with h | h
        · exact h
        · rw [← h] at h5; simp at h5; omega
      have p3 := Int.mul_nonneg (show 0 ≤ a by omega) (show 0 ≤ s * b - (b - d) * a by omega)
      have p4 := Int.mul_nonneg p2 (show 0 ≤ a by omega)
      exact ⟨q, by grind, by grind⟩
/-- soft-light without a root -/
theorem soft_range (h0 : 0 ≤ s) (h1 : s ≤ a) (h2 : 0 ≤ d) (h3 : d ≤ b) : 0 < softD s a d b ∧ 0 ≤ softP s a d b ∧ 0 ≤ softQ s a d b ∧ 0 ≤ softR s a d b ∧ (softQ s a d b = 0 → softR s a d b = 0 → softP s a d b ≤ softD s a d b * (a * b)) := by
  unfold softD softP softQ softR
  split
  · rename_i hb; subst hb; exact ⟨by decide, by decide, by decide, by decide, fun _ _ => by simp⟩
  · have hb : 0 < b := by omega
    have ha : 0 ≤ a := by omega
    split
    · have p1 := Int.mul_nonneg h2 (show 0 ≤ b - d by omega)
      have p2 := Int.mul_nonneg (show 0 ≤ a - 2 * s by omega) p1
      have p3 := Int.mul_nonneg ha (show 0 ≤ b - d by omega)
      have p4 := Int.mul_nonneg p3 (show 0 ≤ b by omega)
      have p5 := Int.mul_nonneg (Int.mul_nonneg ha h2) h2
      have p6 := Int.mul_nonneg h0 p1
      exact ⟨hb, by grind, by decide, by decide, fun _ _ => by grind⟩
    · split
      · have p0 : 0 ≤ 16 * d * d + 3 * b * b - 12 * d * b := by
          obtain ⟨e, he⟩ : ∃ e, b = 4 * d + e := ⟨b - 4 * d, by omega⟩
          have := Int.mul_nonneg h2 (show 0 ≤ e by omega)
          have := Int.mul_nonneg h2 h2
          have := Int.mul_nonneg (show 0 ≤ e by omega) (show 0 ≤ e by omega)
          subst he; grind
        have p1 := Int.mul_nonneg (show 0 ≤ 2 * s - a by omega) (Int.mul_nonneg h2 p0)
        have p2 := Int.mul_nonneg (Int.mul_nonneg h2 ha) (Int.mul_nonneg (show 0 ≤ b by omega) (show 0 ≤ b by omega))
        have p3 := Int.mul_nonneg (show 0 ≤ 2 * (a - s) by omega) (Int.mul_nonneg h2 p0)
        have p4 : 0 ≤ b * b * b - d * (b * b) - d * (16 * d * d + 3 * b * b - 12 * d * b) := by
          obtain ⟨e, he⟩ : ∃ e, b = 4 * d + e := ⟨b - 4 * d, by omega⟩
          have he0 : 0 ≤ e := by omega
          have := Int.mul_nonneg h2 he0
          have := Int.mul_nonneg h2 h2
          have := Int.mul_nonneg he0 he0
          have := Int.mul_nonneg (Int.mul_nonneg h2 h2) h2
          have := Int.mul_nonneg (Int.mul_nonneg h2 h2) he0
          have := Int.mul_nonneg (Int.mul_nonneg h2 he0) he0
          have := Int.mul_nonneg (Int.mul_nonneg he0 he0) he0
          subst he; grind
        have p5 := Int.mul_nonneg ha p4
        have hbb := Int.mul_pos hb hb
        exact ⟨hbb, by grind, by decide, by decide, fun _ _ => by grind⟩
      · have p1 := Int.mul_nonneg h2 (show 0 ≤ a - s by omega)
        have p2 := Int.mul_nonneg h2 (show 0 ≤ b by omega)
        refine ⟨by decide, by grind, by omega, p2, fun h _ => ?_⟩
        omega
theorem min_max (x y : Int) : (minI x y = x ∧ maxI x y = y ∧ x ≤ y) ∨ (minI x y = y ∧ maxI x y = x ∧ y ≤ x) := by
  unfold minI maxI
  by_cases h : x ≤ y
  · rw [if_pos h, if_pos h]; exact Or.inl ⟨rfl, rfl, h⟩
  · rw [if_neg h, if_neg h]; exact Or.inr ⟨rfl, rfl, by omega⟩
end
end Go.Proofs.YtafaadnjkkkafaaDoor
namespace Go.Proofs.YtafaadnjkkkafaaDoor
open Go.RowKit PR
set_option linter.unusedVariables false

theorem ordZ_flat_le {p r m : Int} (h : p ≤ m) : ordZ p 0 r m ≤ 0 := by
  unfold ordZ cmpZ
  rw [if_neg (by omega)]
  have := Int.mul_nonneg (show 0 ≤ m - p by omega) (show 0 ≤ m - p by omega)
  have e : (0 : Int) * 0 * r = 0 := by simp
  rw [e]
  split
  · omega
  · split <;> omega
theorem ordZ_root_le {p q r m : Int} (h : p ≤ m) (k : q * q * r ≤ (m - p) * (m - p)) : ordZ p q r m ≤ 0 := by
  unfold ordZ cmpZ
  rw [if_neg (by omega)]
  split
  · omega
  · split <;> omega

/-- soft-light with a root is at most the product of the alphas -/
theorem soft_root {s a d b : Int} (h0 : 0 ≤ s) (h1 : s ≤ a) (h2 : 0 ≤ d) (h3 : d ≤ b) (h4 : a ≤ 2 * s) : 2 * d * (a - s) ≤ a * b ∧ (2 * s - a) * (2 * s - a) * (d * b) ≤ (a * b - 2 * d * (a - s)) * (a * b - 2 * d * (a - s)) := by
  obtain ⟨u, hu⟩ : ∃ u, a = s + u := ⟨a - s, by omega⟩
  obtain ⟨v, hv⟩ : ∃ v, b = d + v := ⟨b - d, by omega⟩
  obtain ⟨t, ht⟩ : ∃ t, s = u + t := ⟨s - u, by omega⟩
  have hu0 : 0 ≤ u := by omega
  have hv0 : 0 ≤ v := by omega
  have ht0 : 0 ≤ t := by omega
  have hb0 : 0 ≤ b := by omega
  have p1 := Int.mul_nonneg ht0 h2
  have p2 := Int.mul_nonneg hu0 hv0
  have p3 := Int.mul_nonneg ht0 hv0
  -- the difference is at least t * b
  have key : t * b ≤ a * b - 2 * d * (a - s) := by subst hu hv ht; grind
  have tb := Int.mul_nonneg ht0 hb0
  have e : 2 * s - a = t := by omega
  refine ⟨by omega, ?_⟩
  rw [e]
  have sq := Int.mul_le_mul key key tb (Int.le_trans tb key)
  have tt := Int.mul_nonneg ht0 ht0
  have q := Int.mul_nonneg tt (Int.mul_nonneg hv0 hb0)
  have : t * t * (d * b) ≤ t * b * (t * b) := by subst hv; grind
  omega

theorem bl_small {s a d b : Int} (h0 : 0 ≤ s) (h1 : s ≤ a) (ha : a ≤ 65535) (h2 : 0 ≤ d) (h3 : d ≤ b) (hb : b ≤ 65535) : 0 ≤ s * b ∧ s * b ≤ a * b ∧ 0 ≤ d * a ∧ d * a ≤ a * b ∧ 0 ≤ s * d ∧ s * d ≤ s * b ∧ s * d ≤ d * a ∧ s * b + d * a - s * d ≤ a * b ∧ 0 ≤ a * b ∧ a * b ≤ 4294836225 ∧ s * b + d * a - 2 * s * d ≤ a * b := by
  have p1 := Int.mul_nonneg h0 (show 0 ≤ b by omega)
  have p2 := Int.mul_nonneg (show 0 ≤ a - s by omega) (show 0 ≤ b by omega)
  have p3 := Int.mul_nonneg h2 (show 0 ≤ a by omega)
  have p4 := Int.mul_nonneg (show 0 ≤ b - d by omega) (show 0 ≤ a by omega)
  have p5 := Int.mul_nonneg h0 h2
  have p6 := Int.mul_nonneg h0 (show 0 ≤ b - d by omega)
  have p7 := Int.mul_nonneg (show 0 ≤ a - s by omega) h2
  have p8 := Int.mul_nonneg (show 0 ≤ a - s by omega) (show 0 ≤ b - d by omega)
  have p9 := Int.mul_nonneg (show 0 ≤ 65535 - a by omega) (show 0 ≤ b by omega)
  refine ⟨p1, by grind, p3, by grind, p5, by grind, by grind, by grind, by grind, by grind, by grind⟩

/-- the parts of a term: sizes, and the term is at most the product of the alphas -/
theorem bl_facts {k s a d b : Int} (hk : 1 ≤ k ∧ k ≤ 12) (h0 : 0 ≤ s) (h1 : s ≤ a) (ha : a ≤ 65535) (h2 : 0 ≤ d) (h3 : d ≤ b) (hb : b ≤ 65535) :
    0 ≤ blP k s a d b ∧ blP k s a d b < 36893488147419103232 ∧ 0 ≤ blQ k s a d b ∧ blQ k s a d b ≤ 65535 ∧ 0 ≤ blR k s a d b ∧ blR k s a d b ≤ 4294836225 ∧ 0 < blD k s a d b ∧ blD k s a d b ≤ 4294836225 ∧
    ordZ (blP k s a d b) (blQ k s a d b) (blR k s a d b) (a * b * blD k s a d b) ≤ 0 := by
  have ok : blOk k s a d b = true := decide_eq_true ⟨hk.1, hk.2, h1, h3⟩
  obtain ⟨q1, q2, q3, q4, q5, q6, q7, q8, q9, q10, q11⟩ := bl_small h0 h1 ha h2 h3 hb
  have hb0 : 0 ≤ b := by omega
  have hbb : b * b ≤ 4294836225 := by
    have := Int.mul_le_mul hb hb hb0 (by decide); omega
  have big : ∀ D P : Int, 0 < D → D ≤ 4294836225 → P ≤ D * (a * b) → P < 36893488147419103232 := by
    intro D P hD hD2 hP
    have := Int.mul_le_mul hD2 q10 q9 (by decide)
    omega
  unfold blP blQ blR blD
  rw [ok]
  simp only [cond_true]
  -- modes without a root: P at most Den * a * b
  have flat : ∀ D P : Int, 0 < D → D ≤ 4294836225 → 0 ≤ P → P ≤ D * (a * b) → 0 ≤ P ∧ P < 36893488147419103232 ∧ (0 : Int) ≤ 0 ∧ (0 : Int) ≤ 65535 ∧ (0 : Int) ≤ 0 ∧ (0 : Int) ≤ 4294836225 ∧ 0 < D ∧ D ≤ 4294836225 ∧ ordZ P 0 0 (a * b * D) ≤ 0 :=
    fun D P hD hD2 h0 hP => ⟨h0, big D P hD hD2 hP, by decide, by decide, by decide, by decide, hD, hD2, ordZ_flat_le (by rw [Int.mul_comm]; exact hP)⟩
  by_cases k7 : k = 7
  · subst k7
    obtain ⟨r1, r2, r3⟩ := dodge_range h0 h1 h2 h3
    have : dodgeD s a d b ≤ 4294836225 := by unfold dodgeD; split; omega; split <;> omega
    exact flat _ _ r1 this r2 r3
  by_cases k8 : k = 8
  · subst k8
    obtain ⟨r1, r2, r3⟩ := burn_range h0 h1 h2 h3
    have : burnD s a d b ≤ 4294836225 := by unfold burnD; split; omega; split <;> omega
    exact flat _ _ r1 this r2 r3
  by_cases k10 : k = 10
  · subst k10
    obtain ⟨r1, r2, r3, r4, r5⟩ := soft_range h0 h1 h2 h3
    have e : blT 10 s a d b = softP s a d b := rfl
    simp only [e]
    by_cases hroot : b = 0 ∨ 2 * s ≤ a ∨ 4 * d ≤ b
    · have eq : softQ s a d b = 0 ∧ softR s a d b = 0 := by
        unfold softQ softR
        by_cases c1 : b = 0
        · simp [c1]
        · by_cases c2 : 2 * s ≤ a
          · simp [c1, c2]
          · simp [c1, c2, show 4 * d ≤ b by omega]
      have eD : softD s a d b ≤ 4294836225 := by unfold softD; split; omega; split; omega; split <;> omega
      rw [eq.1, eq.2]
      exact flat _ _ r1 eD r2 (r5 eq.1 eq.2)
    · have c1 : ¬ b = 0 := by omega
      have c2 : ¬ 2 * s ≤ a := by omega
      have c3 : ¬ 4 * d ≤ b := by omega
      have x1 : softP s a d b = 2 * d * (a - s) := by unfold softP; rw [if_neg c1, if_neg c2, if_neg c3]
      have x2 : softQ s a d b = 2 * s - a := by unfold softQ; rw [if_neg c1, if_neg c2, if_neg c3]
      have x3 : softR s a d b = d * b := by unfold softR; rw [if_neg c1, if_neg c2, if_neg c3]
      have x4 : softD s a d b = 1 := by unfold softD; rw [if_neg c1, if_neg c2, if_neg c3]
      obtain ⟨y1, y2⟩ := soft_root h0 h1 h2 h3 (by omega)
      have db : d * b ≤ 4294836225 := by
        have := Int.mul_le_mul (show d ≤ 65535 by omega) hb hb0 (by decide); omega
      have db0 := Int.mul_nonneg h2 hb0
      rw [x1] at r2
      simp only [show ((10 : Int) = 7) = False from by simp, show ((10 : Int) = 8) = False from by simp, if_false, if_true, x1, x2, x3, x4, Int.mul_one]
      exact ⟨r2, by omega, by omega, by omega, db0, db, by decide, by decide, ordZ_root_le y1 y2⟩
  · simp only [k7, k8, k10, if_false]
    have t : 0 ≤ blT k s a d b ∧ blT k s a d b ≤ a * b := by
      unfold blT
      obtain ⟨z1, z2⟩ := hard_range h0 h1 h2 h3
      obtain ⟨z3, z4⟩ := hard_range h2 h3 h0 h1
      rw [Int.mul_comm b a] at z4
      have mm := min_max (s * b) (d * a)
      simp only [k7, k8, k10, if_false]
      split
      · omega
      split
      · omega
      split
      · omega
      split
      · exact ⟨z3, z4⟩
      split
      · omega
      split
      · omega
      split
      · exact ⟨z1, z2⟩
      split
      · omega
      · have e : 2 * s * d = 2 * (s * d) := Int.mul_assoc 2 s d
        omega
    exact flat 1 _ (by decide) (by decide) t.1 (by omega)

/-- rounding a quotient -/
theorem hv_flat {p r d : Int} (hd : 0 < d) : hvZ p 0 r d = (2 * p + d) / (2 * d) := by
  rw [hv_whole (s := 0) (by decide) (by simp) hd, Int.add_zero]
  have e := Int.mul_ediv_add_emod p d
  have m0 := Int.emod_nonneg p (by omega : d ≠ 0)
  have m1 := Int.emod_lt_of_pos p hd
  generalize p / d = q at *
  generalize p % d = t at *
  have hq : (2 * q + 1) * d = 2 * (d * q) + d := by grind
  symm
  split
  · rename_i h
    rw [Int.ediv_eq_iff_of_pos (by omega)]
    have : (q + 1) * (2 * d) = 2 * (d * q) + 2 * d := by grind
    constructor <;> grind
  · rename_i h
    rw [Int.ediv_eq_iff_of_pos (by omega)]
    constructor <;> grind
/-- two terms that make up the whole: their roundings do, up to one -/
theorem dual_sum {p p' n m : Int} (hn : 0 < n) (h : p + p' = n * m) : (2 * p + n) / (2 * n) + (2 * p' + n) / (2 * n) = m ∨ (2 * p + n) / (2 * n) + (2 * p' + n) / (2 * n) = m + 1 := by
  have e1 := Int.mul_ediv_add_emod (2 * p + n) (2 * n)
  have e2 := Int.mul_ediv_add_emod (2 * p' + n) (2 * n)
  have a0 := Int.emod_nonneg (2 * p + n) (show 2 * n ≠ 0 by omega)
  have a1 := Int.emod_lt_of_pos (2 * p + n) (show 0 < 2 * n by omega)
  have b0 := Int.emod_nonneg (2 * p' + n) (show 2 * n ≠ 0 by omega)
  have b1 := Int.emod_lt_of_pos (2 * p' + n) (show 0 < 2 * n by omega)
  generalize (2 * p + n) / (2 * n) = x at *
  generalize (2 * p' + n) / (2 * n) = y at *
  -- 2 n (x + y) = 2 n m + 2 n - rests
  have k : 2 * n * (x + y - m) = 2 * n - ((2 * p + n) % (2 * n) + (2 * p' + n) % (2 * n)) := by grind
  generalize (2 * p + n) % (2 * n) = r1 at *
  generalize (2 * p' + n) % (2 * n) = r2 at *
  have l1 : x + y - m ≤ 1 := by
    by_cases c : x + y - m ≤ 1
    · exact c
    · have := Int.mul_le_mul_of_nonneg_left (show 2 ≤ x + y - m by omega) (show 0 ≤ 2 * n by omega)
      omega
  have l2 : 0 ≤ x + y - m := by
    by_cases c : 0 ≤ x + y - m
    · exact c
    · have := Int.mul_le_mul_of_nonneg_left (show x + y - m ≤ -1 by omega) (show 0 ≤ 2 * n by omega)
      omega
  omega
/-- the complements of a term -/
theorem dual_screen {s d m : Int} : (s * m + d * m - s * d) + (m - s) * (m - d) = 1 * m * m := by grind
theorem dual_hard {s d m : Int} (h0 : 0 ≤ s) (h1 : s ≤ m) : hardI s m d m + hardI (m - s) m (m - d) m = 1 * m * m := by
  unfold hardI
  by_cases c1 : 2 * s ≤ m <;> by_cases c2 : 2 * (m - s) ≤ m
  · have e : m = 2 * s := by omega
    rw [if_pos c1, if_pos c2]; subst e; grind
  · rw [if_pos c1, if_neg c2]; grind
  · rw [if_neg c1, if_pos c2]; grind
  · omega
theorem dual_max {s d m : Int} (hm : 0 ≤ m) : maxI (s * m) (d * m) + minI ((m - s) * m) ((m - d) * m) = 1 * m * m := by
  have a := min_max (s * m) (d * m)
  have b := min_max ((m - s) * m) ((m - d) * m)
  have e1 : (m - s) * m = m * m - s * m := by grind
  have e2 : (m - d) * m = m * m - d * m := by grind
  grind
theorem dual_burn {s d m : Int} (h0 : 0 ≤ s) (h1 : s ≤ m) (h2 : 0 ≤ d) (h3 : d ≤ m) : burnD s m d m = dodgeD (m - s) m (m - d) m ∧ burnP s m d m + dodgeP (m - s) m (m - d) m = burnD s m d m * m * m := by
  unfold burnD dodgeD burnP dodgeP
  by_cases c1 : d = m
  · rw [if_pos c1, if_pos c1, if_pos (show m - d = 0 by omega), if_pos (show m - d = 0 by omega)]
    exact ⟨rfl, by grind⟩
  · rw [if_neg c1, if_neg c1, if_neg (show ¬ m - d = 0 by omega), if_neg (show ¬ m - d = 0 by omega)]
    by_cases c2 : s * m ≤ (m - d) * m
    · have c3 : m * (m - (m - s)) ≤ (m - d) * m := by grind
      rw [if_pos c2, if_pos c2, if_pos c3, if_pos c3]
      exact ⟨rfl, by grind⟩
    · have c3 : ¬ m * (m - (m - s)) ≤ (m - d) * m := by grind
      rw [if_neg c2, if_neg c2, if_neg c3, if_neg c3]
      exact ⟨by omega, by grind⟩
end Go.Proofs.YtafaadnjkkkafaaDoor
namespace Go.Proofs.YtafaadnjkkkafaaDoor
open Go.RowKit PR QR
set_option linter.unusedVariables false

-- SPEC mname mparse mparsed blA modeB mx16 hardI dodgeP dodgeD burnP burnD softP softQ softR softD blP blQ blR blD blOk wdH wdL wdOk stOk6 stV6 rdV
def mname (m : Int) : ByteArray := if m = 1 then bs [110, 111, 114, 109, 97, 108] else if m = 2 then bs [109, 117, 108, 116, 105, 112, 108, 121] else if m = 3 then bs [115, 99, 114, 101, 101, 110] else if m = 4 then bs [111, 118, 101, 114, 108, 97, 121] else if m = 5 then bs [100, 97, 114, 107, 101, 110] else if m = 6 then bs [108, 105, 103, 104, 116, 101, 110] else if m = 7 then bs [99, 111, 108, 111, 114, 45, 100, 111, 100, 103, 101] else if m = 8 then bs [99, 111, 108, 111, 114, 45, 98, 117, 114, 110] else if m = 9 then bs [104, 97, 114, 100, 45, 108, 105, 103, 104, 116] else if m = 10 then bs [115, 111, 102, 116, 45, 108, 105, 103, 104, 116] else if m = 11 then bs [100, 105, 102, 102, 101, 114, 101, 110, 99, 101] else if m = 12 then bs [101, 120, 99, 108, 117, 115, 105, 111, 110] else bs []
def mparse (s : ByteArray) : Int := bif seqB (mname 1) s then 1 else bif seqB (mname 2) s then 2 else bif seqB (mname 3) s then 3 else bif seqB (mname 4) s then 4 else bif seqB (mname 5) s then 5 else bif seqB (mname 6) s then 6 else bif seqB (mname 7) s then 7 else bif seqB (mname 8) s then 8 else bif seqB (mname 9) s then 9 else bif seqB (mname 10) s then 10 else bif seqB (mname 11) s then 11 else bif seqB (mname 12) s then 12 else 0
def mparsed (s : ByteArray) : Bool := bif seqB (mname 1) s then true else bif seqB (mname 2) s then true else bif seqB (mname 3) s then true else bif seqB (mname 4) s then true else bif seqB (mname 5) s then true else bif seqB (mname 6) s then true else bif seqB (mname 7) s then true else bif seqB (mname 8) s then true else bif seqB (mname 9) s then true else bif seqB (mname 10) s then true else bif seqB (mname 11) s then true else bif seqB (mname 12) s then true else false
def blA (s a d b : Int) : Bool := decide (0 ≤ s ∧ s ≤ a ∧ a ≤ 65535 ∧ 0 ≤ d ∧ d ≤ b ∧ b ≤ 65535)
def modeB (k : Int) : Bool := decide (1 ≤ k ∧ k ≤ 12)
def mx16 (a b : Int) : Int := if b < a then a else b
def wdOk (a b c : Int) : Bool := decide (0 ≤ a * b * c ∧ a * b * c < 340282366920938463463374607431768211456)
def wdH (a b c : Int) : Int := hi64 (a * b * c)
def wdL (a b c : Int) : Int := lo64 (a * b * c)
def stOk6 (k s d m : Int) : Bool := blOk k s m d m && decide (m ≠ 0)
def rdV (p q r d : Int) : Int := hvV 0 p q r d
def stV6 (k s d m : Int) : Int := bif stOk6 k s d m then iconv .u16 (rdV (blP k s m d m) (blQ k s m d m) (blR k s m d m) (imul .u64 (blD k s m d m) (iconv .u64 m))) else 0

def s_known6 : List AV → Option QR.Ans
  | [.x (.c (.v (.int .i64 m)))] => some ⟨[.c (.v (.bool (band (ige m 1) (ile m 12))))], [], []⟩
  | _ => none
def s_mname : List AV → Option QR.Ans
  | [.x (.c (.v (.int .i64 m)))] => some ⟨[.c (.v (.string (mname m)))], [], []⟩
  | _ => none
def s_mparse : List AV → Option QR.Ans
  | [.x (.c (.v (.string s)))] => some ⟨[.c (.v (.int .i64 (mparse s))), .c (.v (.bool (mparsed s)))], [], []⟩
  | _ => none
def s_max16 : List AV → Option QR.Ans
  | [.x (.c (.v (.int .u16 a))), .x (.c (.v (.int .u16 b)))] => some ⟨[.c (.v (.int .u16 (mx16 a b)))], [], []⟩
  | _ => none
def s_whole6 : List AV → Option QR.Ans
  | [.x (.c (.v (.int .u64 n)))] => some ⟨[.agg [.v (.int .u64 0), .v (.int .u64 n), .v (.int .u64 0), .v (.int .u64 0), .v (.int .u64 1)]], [], []⟩
  | _ => none
def s_quot6 : List AV → Option QR.Ans
  | [.x (.c (.v (.int .u64 n))), .x (.c (.v (.int .u64 d)))] => some ⟨[.agg [.v (.int .u64 0), .v (.int .u64 n), .v (.int .u64 0), .v (.int .u64 0), .v (.int .u64 d)]], [], []⟩
  | _ => none
def s_wide6 : List AV → Option QR.Ans
  | [.x (.c (.v (.int .u64 a))), .x (.c (.v (.int .u64 b))), .x (.c (.v (.int .u64 c)))] => some ⟨[.agg [.v (.int .u64 (wdH a b c)), .v (.int .u64 (wdL a b c))]], [], [inU a = true, inU b = true, inU c = true, wdOk a b c = true]⟩
  | _ => none
def s_hard6 : List AV → Option QR.Ans
  | [.x (.c (.v (.int .u64 s))), .x (.c (.v (.int .u64 a))), .x (.c (.v (.int .u64 d))), .x (.c (.v (.int .u64 b)))] => some ⟨[.c (.v (.int .u64 (hardI s a d b)))], [], [blA s a d b = true]⟩
  | _ => none
def s_dodge6 : List AV → Option QR.Ans
  | [.x (.c (.v (.int .u64 s))), .x (.c (.v (.int .u64 a))), .x (.c (.v (.int .u64 d))), .x (.c (.v (.int .u64 b)))] => some ⟨[.agg [.v (.int .u64 0), .v (.int .u64 (dodgeP s a d b)), .v (.int .u64 0), .v (.int .u64 0), .v (.int .u64 (dodgeD s a d b))]], [], [blA s a d b = true]⟩
  | _ => none
def s_burn6 : List AV → Option QR.Ans
  | [.x (.c (.v (.int .u64 s))), .x (.c (.v (.int .u64 a))), .x (.c (.v (.int .u64 d))), .x (.c (.v (.int .u64 b)))] => some ⟨[.agg [.v (.int .u64 0), .v (.int .u64 (burnP s a d b)), .v (.int .u64 0), .v (.int .u64 0), .v (.int .u64 (burnD s a d b))]], [], [blA s a d b = true]⟩
  | _ => none
def s_soft6 : List AV → Option QR.Ans
  | [.x (.c (.v (.int .u64 s))), .x (.c (.v (.int .u64 a))), .x (.c (.v (.int .u64 d))), .x (.c (.v (.int .u64 b)))] => some ⟨[.agg [.v (.int .u64 0), .v (.int .u64 (softP s a d b)), .v (.int .u64 (softQ s a d b)), .v (.int .u64 (softR s a d b)), .v (.int .u64 (softD s a d b))]], [], [blA s a d b = true]⟩
  | _ => none
def s_term6 : List AV → Option QR.Ans
  | [.x (.c (.v (.int .i64 k))), .x (.c (.v (.int .u64 s))), .x (.c (.v (.int .u64 a))), .x (.c (.v (.int .u64 d))), .x (.c (.v (.int .u64 b)))] => some ⟨[.agg [.v (.int .u64 0), .v (.int .u64 (blP k s a d b)), .v (.int .u64 (blQ k s a d b)), .v (.int .u64 (blR k s a d b)), .v (.int .u64 (blD k s a d b))]], [], [modeB k = true, blA s a d b = true]⟩
  | _ => none
def s_bl : List AV → Option QR.Ans
  | [.x (.c (.v (.int .i64 k))), .x (.c (.v (.int .u16 s))), .x (.c (.v (.int .u16 a))), .x (.c (.v (.int .u16 d))), .x (.c (.v (.int .u16 b)))] => some ⟨[.agg [.v (.int .u64 0), .v (.int .u64 (blP k s a d b)), .v (.int .u64 (blQ k s a d b)), .v (.int .u64 (blR k s a d b)), .v (.int .u64 (blD k s a d b))], .c (.v (.bool (blOk k s a d b)))], [], [in16 s = true, in16 a = true, in16 d = true, in16 b = true]⟩
  | _ => none
def s_str6 : List AV → Option QR.Ans
  | [.x (.c (.v (.int .i64 k))), .x (.c (.v (.int .u16 s))), .x (.c (.v (.int .u16 d))), .x (.c (.v (.int .u16 m)))] => some ⟨[.c (.v (.int .u16 (stV6 k s d m))), .c (.v (.bool (stOk6 k s d m)))], [], [in16 s = true, in16 d = true, in16 m = true]⟩
  | _ => none
def s_rounded6 : List AV → Option QR.Ans
  | [.x (.agg [.v (.int .u64 h), .v (.int .u64 p), .v (.int .u64 q), .v (.int .u64 r), .v (.int .u64 d)])] => some ⟨[.c (.v (.int .u64 (rdV p q r d)))], [], [h = 0, inU p = true, inU q = true, inU r = true, inU d = true]⟩
  | _ => none

def o_n6 : QR.Oracle := QR.orc [(28, s_known6)]
def o_rn6 : QR.Oracle := QR.orc [(15, s_mname)]
set_option maxRecDepth 100000 in
theorem known6_vc (m : Int) (V : List QR.XV → List (List QR.CV) → Prop) : QR.evalBody Tryd.prog (QR.orc []) (QR.noLoops) (Tryd.f28.body.getD .skip) Tryd.f28.results.toList Tryd.f28.ntmps [.x (.c (.v (.int .i64 m)))] V = (True ∧ bcond (ige m 1) (True ∧ True ∧ V [XV.c (CV.v (Value.bool (ile m 12)))] []) (True ∧ True ∧ V [XV.c (CV.v (Value.bool false))] [])) := by
  kernel_rfl
set_option maxRecDepth 100000 in
theorem ismode_vc (m : Int) (V : List QR.XV → List (List QR.CV) → Prop) : QR.evalBody Tryd.prog (o_rn6) (QR.noLoops) (Tryd.f31.body.getD .skip) Tryd.f31.results.toList Tryd.f31.ntmps [.x (.c (.v (.int .i64 m)))] V = (True ∧ True ∧ True ∧ V [XV.c (CV.v (Value.bool (bnot (seqB (mname m) (bs [])))))] []) := by
  try delta o_rn6
  try delta s_mname
  generalize @mname = mname
  kernel_rfl
set_option maxRecDepth 100000 in
theorem rmname_vc (m : Int) (V : List QR.XV → List (List QR.CV) → Prop) : QR.evalBody Tryd.prog (QR.orc []) (QR.noLoops) (Tryd.f15.body.getD .skip) Tryd.f15.results.toList Tryd.f15.ntmps [.x (.c (.v (.int .i64 m)))] V = (True ∧ True ∧ bcond (ilt m 1) (True ∧ True ∧ True ∧ V [XV.c (CV.v (Value.string (bs [])))] []) (∀ (i : Int), i = 13 → True ∧ bcond (ige m i) (True ∧ True ∧ V [XV.c (CV.v (Value.string (bs [])))] []) ((ile 0 m = true ∧ ilt m 13 = true ∧ True) ∧ True ∧ V [XV.c (CV.v (Value.string (ssel (ieq m 12) (bs [101, 120, 99, 108, 117, 115, 105, 111, 110]) (ssel (ieq m 11) (bs [100, 105, 102, 102, 101, 114, 101, 110, 99, 101]) (ssel (ieq m 10) (bs [115, 111, 102, 116, 45, 108, 105, 103, 104, 116]) (ssel (ieq m 9) (bs [104, 97, 114, 100, 45, 108, 105, 103, 104, 116]) (ssel (ieq m 8) (bs [99, 111, 108, 111, 114, 45, 98, 117, 114, 110]) (ssel (ieq m 7) (bs [99, 111, 108, 111, 114, 45, 100, 111, 100, 103, 101]) (ssel (ieq m 6) (bs [108, 105, 103, 104, 116, 101, 110]) (ssel (ieq m 5) (bs [100, 97, 114, 107, 101, 110]) (ssel (ieq m 4) (bs [111, 118, 101, 114, 108, 97, 121]) (ssel (ieq m 3) (bs [115, 99, 114, 101, 101, 110]) (ssel (ieq m 2) (bs [109, 117, 108, 116, 105, 112, 108, 121]) (ssel (ieq m 1) (bs [110, 111, 114, 109, 97, 108]) (ssel (ieq m 0) (bs []) (bs []))))))))))))))))] []))) := by
  kernel_rfl
set_option maxRecDepth 100000 in
theorem mname_vc (m : Int) (V : List QR.XV → List (List QR.CV) → Prop) : QR.evalBody Tryd.prog (o_n6) (QR.noLoops) (Tryd.f17.body.getD .skip) Tryd.f17.results.toList Tryd.f17.ntmps [.x (.c (.v (.int .i64 m)))] V = (True ∧ True ∧ bcond (bnot (band (ige m 1) (ile m 12))) (True ∧ True ∧ V [XV.c (CV.v (Value.string (bs [])))] []) (bcond (ieq m 0) ((true = true ∧ true = true ∧ True) ∧ True ∧ V [XV.c (CV.v (Value.string (bs [])))] []) (bcond (ieq m 1) ((true = true ∧ true = true ∧ True) ∧ True ∧ V [XV.c (CV.v (Value.string (bs [110, 111, 114, 109, 97, 108])))] []) (bcond (ieq m 2) ((true = true ∧ true = true ∧ True) ∧ True ∧ V [XV.c (CV.v (Value.string (bs [109, 117, 108, 116, 105, 112, 108, 121])))] []) (bcond (ieq m 3) ((true = true ∧ true = true ∧ True) ∧ True ∧ V [XV.c (CV.v (Value.string (bs [115, 99, 114, 101, 101, 110])))] []) (bcond (ieq m 4) ((true = true ∧ true = true ∧ True) ∧ True ∧ V [XV.c (CV.v (Value.string (bs [111, 118, 101, 114, 108, 97, 121])))] []) (bcond (ieq m 5) ((true = true ∧ true = true ∧ True) ∧ True ∧ V [XV.c (CV.v (Value.string (bs [100, 97, 114, 107, 101, 110])))] []) (bcond (ieq m 6) ((true = true ∧ true = true ∧ True) ∧ True ∧ V [XV.c (CV.v (Value.string (bs [108, 105, 103, 104, 116, 101, 110])))] []) (bcond (ieq m 7) ((true = true ∧ true = true ∧ True) ∧ True ∧ V [XV.c (CV.v (Value.string (bs [99, 111, 108, 111, 114, 45, 100, 111, 100, 103, 101])))] []) (bcond (ieq m 8) ((true = true ∧ true = true ∧ True) ∧ True ∧ V [XV.c (CV.v (Value.string (bs [99, 111, 108, 111, 114, 45, 98, 117, 114, 110])))] []) (bcond (ieq m 9) ((true = true ∧ true = true ∧ True) ∧ True ∧ V [XV.c (CV.v (Value.string (bs [104, 97, 114, 100, 45, 108, 105, 103, 104, 116])))] []) (bcond (ieq m 10) ((true = true ∧ true = true ∧ True) ∧ True ∧ V [XV.c (CV.v (Value.string (bs [115, 111, 102, 116, 45, 108, 105, 103, 104, 116])))] []) (bcond (ieq m 11) ((true = true ∧ true = true ∧ True) ∧ True ∧ V [XV.c (CV.v (Value.string (bs [100, 105, 102, 102, 101, 114, 101, 110, 99, 101])))] []) (bcond (ieq m 12) ((true = true ∧ true = true ∧ True) ∧ True ∧ V [XV.c (CV.v (Value.string (bs [101, 120, 99, 108, 117, 115, 105, 111, 110])))] []) False)))))))))))))) := by
  try delta o_n6
  try delta s_known6
  kernel_rfl
set_option maxRecDepth 100000 in
theorem mparse_vc (s : ByteArray) (V : List QR.XV → List (List QR.CV) → Prop) : QR.evalBody Tryd.prog (o_n6) (fun n => bif Nat.beq n 2 then some (.rounds 14) else none) (Tryd.f13.body.getD .skip) Tryd.f13.results.toList Tryd.f13.ntmps [.x (.c (.v (.string s)))] V = (True ∧ True ∧ True ∧ (true = true ∧ true = true ∧ True) ∧ True ∧ True ∧ True ∧ (true = true ∧ true = true ∧ True) ∧ True ∧ bcond (seqB (bs [110, 111, 114, 109, 97, 108]) s) (True ∧ True ∧ V [XV.c (CV.v (Value.int .i64 1)), XV.c (CV.v (Value.bool true))] []) (True ∧ True ∧ (true = true ∧ true = true ∧ True) ∧ True ∧ bcond (seqB (bs [109, 117, 108, 116, 105, 112, 108, 121]) s) (True ∧ True ∧ V [XV.c (CV.v (Value.int .i64 2)), XV.c (CV.v (Value.bool true))] []) (True ∧ True ∧ (true = true ∧ true = true ∧ True) ∧ True ∧ bcond (seqB (bs [115, 99, 114, 101, 101, 110]) s) (True ∧ True ∧ V [XV.c (CV.v (Value.int .i64 3)), XV.c (CV.v (Value.bool true))] []) (True ∧ True ∧ (true = true ∧ true = true ∧ True) ∧ True ∧ bcond (seqB (bs [111, 118, 101, 114, 108, 97, 121]) s) (True ∧ True ∧ V [XV.c (CV.v (Value.int .i64 4)), XV.c (CV.v (Value.bool true))] []) (True ∧ True ∧ (true = true ∧ true = true ∧ True) ∧ True ∧ bcond (seqB (bs [100, 97, 114, 107, 101, 110]) s) (True ∧ True ∧ V [XV.c (CV.v (Value.int .i64 5)), XV.c (CV.v (Value.bool true))] []) (True ∧ True ∧ (true = true ∧ true = true ∧ True) ∧ True ∧ bcond (seqB (bs [108, 105, 103, 104, 116, 101, 110]) s) (True ∧ True ∧ V [XV.c (CV.v (Value.int .i64 6)), XV.c (CV.v (Value.bool true))] []) (True ∧ True ∧ (true = true ∧ true = true ∧ True) ∧ True ∧ bcond (seqB (bs [99, 111, 108, 111, 114, 45, 100, 111, 100, 103, 101]) s) (True ∧ True ∧ V [XV.c (CV.v (Value.int .i64 7)), XV.c (CV.v (Value.bool true))] []) (True ∧ True ∧ (true = true ∧ true = true ∧ True) ∧ True ∧ bcond (seqB (bs [99, 111, 108, 111, 114, 45, 98, 117, 114, 110]) s) (True ∧ True ∧ V [XV.c (CV.v (Value.int .i64 8)), XV.c (CV.v (Value.bool true))] []) (True ∧ True ∧ (true = true ∧ true = true ∧ True) ∧ True ∧ bcond (seqB (bs [104, 97, 114, 100, 45, 108, 105, 103, 104, 116]) s) (True ∧ True ∧ V [XV.c (CV.v (Value.int .i64 9)), XV.c (CV.v (Value.bool true))] []) (True ∧ True ∧ (true = true ∧ true = true ∧ True) ∧ True ∧ bcond (seqB (bs [115, 111, 102, 116, 45, 108, 105, 103, 104, 116]) s) (True ∧ True ∧ V [XV.c (CV.v (Value.int .i64 10)), XV.c (CV.v (Value.bool true))] []) (True ∧ True ∧ (true = true ∧ true = true ∧ True) ∧ True ∧ bcond (seqB (bs [100, 105, 102, 102, 101, 114, 101, 110, 99, 101]) s) (True ∧ True ∧ V [XV.c (CV.v (Value.int .i64 11)), XV.c (CV.v (Value.bool true))] []) (True ∧ True ∧ (true = true ∧ true = true ∧ True) ∧ True ∧ bcond (seqB (bs [101, 120, 99, 108, 117, 115, 105, 111, 110]) s) (True ∧ True ∧ V [XV.c (CV.v (Value.int .i64 12)), XV.c (CV.v (Value.bool true))] []) (True ∧ True ∧ True ∧ True ∧ V [XV.c (CV.v (Value.int .i64 0)), XV.c (CV.v (Value.bool false))] []))))))))))))) := by
  try delta o_n6
  try delta s_known6
  kernel_rfl
set_option maxRecDepth 100000 in
theorem rmparse_vc (s : ByteArray) (V : List QR.XV → List (List QR.CV) → Prop) : QR.evalBody Tryd.prog (o_rn6) (fun n => bif Nat.beq n 2 then some (.rounds 14) else none) (Tryd.f14.body.getD .skip) Tryd.f14.results.toList Tryd.f14.ntmps [.x (.c (.v (.string s)))] V = (True ∧ True ∧ True ∧ True ∧ bcond (seqB (mname 1) s) (True ∧ True ∧ V [XV.c (CV.v (Value.int .i64 1)), XV.c (CV.v (Value.bool true))] []) (True ∧ True ∧ True ∧ bcond (seqB (mname 2) s) (True ∧ True ∧ V [XV.c (CV.v (Value.int .i64 2)), XV.c (CV.v (Value.bool true))] []) (True ∧ True ∧ True ∧ bcond (seqB (mname 3) s) (True ∧ True ∧ V [XV.c (CV.v (Value.int .i64 3)), XV.c (CV.v (Value.bool true))] []) (True ∧ True ∧ True ∧ bcond (seqB (mname 4) s) (True ∧ True ∧ V [XV.c (CV.v (Value.int .i64 4)), XV.c (CV.v (Value.bool true))] []) (True ∧ True ∧ True ∧ bcond (seqB (mname 5) s) (True ∧ True ∧ V [XV.c (CV.v (Value.int .i64 5)), XV.c (CV.v (Value.bool true))] []) (True ∧ True ∧ True ∧ bcond (seqB (mname 6) s) (True ∧ True ∧ V [XV.c (CV.v (Value.int .i64 6)), XV.c (CV.v (Value.bool true))] []) (True ∧ True ∧ True ∧ bcond (seqB (mname 7) s) (True ∧ True ∧ V [XV.c (CV.v (Value.int .i64 7)), XV.c (CV.v (Value.bool true))] []) (True ∧ True ∧ True ∧ bcond (seqB (mname 8) s) (True ∧ True ∧ V [XV.c (CV.v (Value.int .i64 8)), XV.c (CV.v (Value.bool true))] []) (True ∧ True ∧ True ∧ bcond (seqB (mname 9) s) (True ∧ True ∧ V [XV.c (CV.v (Value.int .i64 9)), XV.c (CV.v (Value.bool true))] []) (True ∧ True ∧ True ∧ bcond (seqB (mname 10) s) (True ∧ True ∧ V [XV.c (CV.v (Value.int .i64 10)), XV.c (CV.v (Value.bool true))] []) (True ∧ True ∧ True ∧ bcond (seqB (mname 11) s) (True ∧ True ∧ V [XV.c (CV.v (Value.int .i64 11)), XV.c (CV.v (Value.bool true))] []) (True ∧ True ∧ True ∧ bcond (seqB (mname 12) s) (True ∧ True ∧ V [XV.c (CV.v (Value.int .i64 12)), XV.c (CV.v (Value.bool true))] []) (True ∧ True ∧ True ∧ True ∧ V [XV.c (CV.v (Value.int .i64 0)), XV.c (CV.v (Value.bool false))] []))))))))))))) := by
  try delta o_rn6
  try delta s_mname
  generalize @mname = mname
  kernel_rfl
set_option maxRecDepth 100000 in
theorem max16_vc (a b : Int) (V : List QR.XV → List (List QR.CV) → Prop) : QR.evalBody Tryd.prog (QR.orc []) (QR.noLoops) (Tryd.f22.body.getD .skip) Tryd.f22.results.toList Tryd.f22.ntmps [.x (.c (.v (.int .u16 a))), .x (.c (.v (.int .u16 b)))] V = (True ∧ True ∧ bcond (igt a b) (True ∧ True ∧ V [XV.c (CV.v (Value.int .u16 a))] []) (True ∧ True ∧ V [XV.c (CV.v (Value.int .u16 b))] [])) := by
  kernel_rfl
def o_q6 : QR.Oracle := QR.orc [(56, s_quot6)]
def o_w6 : QR.Oracle := QR.orc [(56, s_quot6), (40, s_whole6)]
def o_t6 : QR.Oracle := QR.orc [(40, s_whole6), (41, s_hard6), (42, s_dodge6), (43, s_burn6), (44, s_soft6)]
def o_x6 : QR.Oracle := QR.orc [(28, s_known6), (30, s_term6)]
def o_s6 : QR.Oracle := QR.orc [(20, s_bl), (37, QR.lift1 s_halfX)]
set_option maxRecDepth 100000 in
theorem quot6_vc (n d : Int) (V : List QR.XV → List (List QR.CV) → Prop) : QR.evalBody Tryd.prog (QR.orc []) (QR.noLoops) (Tryd.f56.body.getD .skip) Tryd.f56.results.toList Tryd.f56.ntmps [.x (.c (.v (.int .u64 n))), .x (.c (.v (.int .u64 d)))] V = (True ∧ True ∧ True ∧ V [XV.agg [CV.v (Value.int .u64 0), CV.v (Value.int .u64 n), CV.v (Value.int .u64 0), CV.v (Value.int .u64 0), CV.v (Value.int .u64 d)]] []) := by
  kernel_rfl
set_option maxRecDepth 100000 in
theorem whole6_vc (n : Int) (V : List QR.XV → List (List QR.CV) → Prop) : QR.evalBody Tryd.prog (o_q6) (QR.noLoops) (Tryd.f40.body.getD .skip) Tryd.f40.results.toList Tryd.f40.ntmps [.x (.c (.v (.int .u64 n)))] V = (True ∧ ∀ (i : Int), i = 0 → ∀ (i_1 : Int), i_1 = n → ∀ (i_2 : Int), i_2 = 0 → ∀ (i_3 : Int), i_3 = 0 → ∀ (i_4 : Int), i_4 = 1 → True ∧ True ∧ V [XV.agg [CV.v (Value.int .u64 i), CV.v (Value.int .u64 i_1), CV.v (Value.int .u64 i_2), CV.v (Value.int .u64 i_3), CV.v (Value.int .u64 i_4)]] []) := by
  try delta o_q6
  try delta s_quot6
  kernel_rfl
set_option maxRecDepth 100000 in
theorem hard6_vc (s a d b : Int) (V : List QR.XV → List (List QR.CV) → Prop) : QR.evalBody Tryd.prog (QR.orc []) (QR.noLoops) (Tryd.f41.body.getD .skip) Tryd.f41.results.toList Tryd.f41.ntmps [.x (.c (.v (.int .u64 s))), .x (.c (.v (.int .u64 a))), .x (.c (.v (.int .u64 d))), .x (.c (.v (.int .u64 b)))] V = (True ∧ True ∧ bcond (ile (imul IntKind.u64 2 s) a) (True ∧ True ∧ V [XV.c (CV.v (Value.int .u64 (imul IntKind.u64 (imul IntKind.u64 2 s) d)))] []) (True ∧ True ∧ V [XV.c (CV.v (Value.int .u64 (isub IntKind.u64 (imul IntKind.u64 a b) (imul IntKind.u64 (imul IntKind.u64 2 (isub IntKind.u64 b d)) (isub IntKind.u64 a s)))))] [])) := by
  kernel_rfl
set_option maxRecDepth 100000 in
theorem dodge6_vc (s a d b : Int) (V : List QR.XV → List (List QR.CV) → Prop) : QR.evalBody Tryd.prog (o_w6) (QR.noLoops) (Tryd.f42.body.getD .skip) Tryd.f42.results.toList Tryd.f42.ntmps [.x (.c (.v (.int .u64 s))), .x (.c (.v (.int .u64 a))), .x (.c (.v (.int .u64 d))), .x (.c (.v (.int .u64 b)))] V = (True ∧ True ∧ bcond (ieq d 0) (∀ (i : Int), i = 0 → ∀ (i_1 : Int), i_1 = 0 → ∀ (i_2 : Int), i_2 = 0 → ∀ (i_3 : Int), i_3 = 0 → ∀ (i_4 : Int), i_4 = 1 → True ∧ True ∧ V [XV.agg [CV.v (Value.int .u64 i), CV.v (Value.int .u64 i_1), CV.v (Value.int .u64 i_2), CV.v (Value.int .u64 i_3), CV.v (Value.int .u64 i_4)]] []) (True ∧ bcond (ige (imul IntKind.u64 d a) (imul IntKind.u64 b (isub IntKind.u64 a s))) (∀ (i : Int), i = 0 → ∀ (i_1 : Int), i_1 = imul IntKind.u64 a b → ∀ (i_2 : Int), i_2 = 0 → ∀ (i_3 : Int), i_3 = 0 → ∀ (i_4 : Int), i_4 = 1 → True ∧ True ∧ V [XV.agg [CV.v (Value.int .u64 i), CV.v (Value.int .u64 i_1), CV.v (Value.int .u64 i_2), CV.v (Value.int .u64 i_3), CV.v (Value.int .u64 i_4)]] []) (∀ (i : Int), i = 0 → ∀ (i_1 : Int), i_1 = imul IntKind.u64 (imul IntKind.u64 a a) d → ∀ (i_2 : Int), i_2 = 0 → ∀ (i_3 : Int), i_3 = 0 → ∀ (i_4 : Int), i_4 = isub IntKind.u64 a s → True ∧ True ∧ V [XV.agg [CV.v (Value.int .u64 i), CV.v (Value.int .u64 i_1), CV.v (Value.int .u64 i_2), CV.v (Value.int .u64 i_3), CV.v (Value.int .u64 i_4)]] []))) := by
  try delta o_w6
  try delta s_quot6
  try delta s_whole6
  kernel_rfl
set_option maxRecDepth 100000 in
theorem burn6_vc (s a d b : Int) (V : List QR.XV → List (List QR.CV) → Prop) : QR.evalBody Tryd.prog (o_w6) (QR.noLoops) (Tryd.f43.body.getD .skip) Tryd.f43.results.toList Tryd.f43.ntmps [.x (.c (.v (.int .u64 s))), .x (.c (.v (.int .u64 a))), .x (.c (.v (.int .u64 d))), .x (.c (.v (.int .u64 b)))] V = (True ∧ True ∧ bcond (ieq d b) (∀ (i : Int), i = 0 → ∀ (i_1 : Int), i_1 = imul IntKind.u64 a b → ∀ (i_2 : Int), i_2 = 0 → ∀ (i_3 : Int), i_3 = 0 → ∀ (i_4 : Int), i_4 = 1 → True ∧ True ∧ V [XV.agg [CV.v (Value.int .u64 i), CV.v (Value.int .u64 i_1), CV.v (Value.int .u64 i_2), CV.v (Value.int .u64 i_3), CV.v (Value.int .u64 i_4)]] []) (True ∧ bcond (ige (imul IntKind.u64 (isub IntKind.u64 b d) a) (imul IntKind.u64 s b)) (∀ (i : Int), i = 0 → ∀ (i_1 : Int), i_1 = 0 → ∀ (i_2 : Int), i_2 = 0 → ∀ (i_3 : Int), i_3 = 0 → ∀ (i_4 : Int), i_4 = 1 → True ∧ True ∧ V [XV.agg [CV.v (Value.int .u64 i), CV.v (Value.int .u64 i_1), CV.v (Value.int .u64 i_2), CV.v (Value.int .u64 i_3), CV.v (Value.int .u64 i_4)]] []) (∀ (i : Int), i = 0 → ∀ (i_1 : Int), i_1 = isub IntKind.u64 (imul IntKind.u64 (imul IntKind.u64 a b) s) (imul IntKind.u64 (imul IntKind.u64 (isub IntKind.u64 b d) a) a) → ∀ (i_2 : Int), i_2 = 0 → ∀ (i_3 : Int), i_3 = 0 → ∀ (i_4 : Int), i_4 = s → True ∧ True ∧ V [XV.agg [CV.v (Value.int .u64 i), CV.v (Value.int .u64 i_1), CV.v (Value.int .u64 i_2), CV.v (Value.int .u64 i_3), CV.v (Value.int .u64 i_4)]] []))) := by
  try delta o_w6
  try delta s_quot6
  try delta s_whole6
  kernel_rfl
set_option maxRecDepth 100000 in
theorem soft6_vc (s a d b : Int) (V : List QR.XV → List (List QR.CV) → Prop) : QR.evalBody Tryd.prog (o_w6) (QR.noLoops) (Tryd.f44.body.getD .skip) Tryd.f44.results.toList Tryd.f44.ntmps [.x (.c (.v (.int .u64 s))), .x (.c (.v (.int .u64 a))), .x (.c (.v (.int .u64 d))), .x (.c (.v (.int .u64 b)))] V = (True ∧ True ∧ bcond (ieq b 0) (∀ (i : Int), i = 0 → ∀ (i_1 : Int), i_1 = 0 → ∀ (i_2 : Int), i_2 = 0 → ∀ (i_3 : Int), i_3 = 0 → ∀ (i_4 : Int), i_4 = 1 → True ∧ True ∧ V [XV.agg [CV.v (Value.int .u64 i), CV.v (Value.int .u64 i_1), CV.v (Value.int .u64 i_2), CV.v (Value.int .u64 i_3), CV.v (Value.int .u64 i_4)]] []) (True ∧ bcond (ile (imul IntKind.u64 2 s) a) (∀ (i : Int), i = 0 → ∀ (i_1 : Int), i_1 = isub IntKind.u64 (imul IntKind.u64 (imul IntKind.u64 d a) b) (imul IntKind.u64 (imul IntKind.u64 (isub IntKind.u64 a (imul IntKind.u64 2 s)) d) (isub IntKind.u64 b d)) → ∀ (i_2 : Int), i_2 = 0 → ∀ (i_3 : Int), i_3 = 0 → ∀ (i_4 : Int), i_4 = b → True ∧ True ∧ V [XV.agg [CV.v (Value.int .u64 i), CV.v (Value.int .u64 i_1), CV.v (Value.int .u64 i_2), CV.v (Value.int .u64 i_3), CV.v (Value.int .u64 i_4)]] []) (True ∧ bcond (ile (imul IntKind.u64 4 d) b) (∀ (i : Int), i = 0 → ∀ (i_1 : Int), i_1 = iadd IntKind.u64 (imul IntKind.u64 (imul IntKind.u64 (imul IntKind.u64 d a) b) b) (imul IntKind.u64 (imul IntKind.u64 (isub IntKind.u64 (imul IntKind.u64 2 s) a) d) (isub IntKind.u64 (iadd IntKind.u64 (imul IntKind.u64 (imul IntKind.u64 16 d) d) (imul IntKind.u64 (imul IntKind.u64 3 b) b)) (imul IntKind.u64 (imul IntKind.u64 12 d) b))) → ∀ (i_2 : Int), i_2 = 0 → ∀ (i_3 : Int), i_3 = 0 → ∀ (i_4 : Int), i_4 = imul IntKind.u64 b b → True ∧ True ∧ V [XV.agg [CV.v (Value.int .u64 i), CV.v (Value.int .u64 i_1), CV.v (Value.int .u64 i_2), CV.v (Value.int .u64 i_3), CV.v (Value.int .u64 i_4)]] []) (True ∧ True ∧ V [XV.agg [CV.v (Value.int .u64 0), CV.v (Value.int .u64 (imul IntKind.u64 (imul IntKind.u64 2 d) (isub IntKind.u64 a s))), CV.v (Value.int .u64 (isub IntKind.u64 (imul IntKind.u64 2 s) a)), CV.v (Value.int .u64 (imul IntKind.u64 d b)), CV.v (Value.int .u64 1)]] [])))) := by
  try delta o_w6
  try delta s_quot6
  try delta s_whole6
  kernel_rfl
set_option maxRecDepth 100000 in
theorem term6_vc (k s a d b : Int) (V : List QR.XV → List (List QR.CV) → Prop) : QR.evalBody Tryd.prog (o_t6) (QR.noLoops) (Tryd.f30.body.getD .skip) Tryd.f30.results.toList Tryd.f30.ntmps [.x (.c (.v (.int .i64 k))), .x (.c (.v (.int .u64 s))), .x (.c (.v (.int .u64 a))), .x (.c (.v (.int .u64 d))), .x (.c (.v (.int .u64 b)))] V = (True ∧ True ∧ True ∧ bcond (ieq k 2) (∀ (i : Int), i = 0 → ∀ (i_1 : Int), i_1 = imul IntKind.u64 s d → ∀ (i_2 : Int), i_2 = 0 → ∀ (i_3 : Int), i_3 = 0 → ∀ (i_4 : Int), i_4 = 1 → True ∧ True ∧ V [XV.agg [CV.v (Value.int .u64 i), CV.v (Value.int .u64 i_1), CV.v (Value.int .u64 i_2), CV.v (Value.int .u64 i_3), CV.v (Value.int .u64 i_4)]] []) (True ∧ bcond (ieq k 3) (∀ (i : Int), i = 0 → ∀ (i_1 : Int), i_1 = iadd IntKind.u64 (imul IntKind.u64 s b) (imul IntKind.u64 d (isub IntKind.u64 a s)) → ∀ (i_2 : Int), i_2 = 0 → ∀ (i_3 : Int), i_3 = 0 → ∀ (i_4 : Int), i_4 = 1 → True ∧ True ∧ V [XV.agg [CV.v (Value.int .u64 i), CV.v (Value.int .u64 i_1), CV.v (Value.int .u64 i_2), CV.v (Value.int .u64 i_3), CV.v (Value.int .u64 i_4)]] []) (True ∧ bcond (ieq k 4) (∀ (i : Int), i = hardI d b s a → ∀ (i_1 : Int), i_1 = 0 → ∀ (i_2 : Int), i_2 = i → ∀ (i : Int), i = 0 → ∀ (i_3 : Int), i_3 = 0 → ∀ (i_4 : Int), i_4 = 1 → (blA d b s a = true ∧ True) ∧ True ∧ V [XV.agg [CV.v (Value.int .u64 i_1), CV.v (Value.int .u64 i_2), CV.v (Value.int .u64 i), CV.v (Value.int .u64 i_3), CV.v (Value.int .u64 i_4)]] []) (True ∧ bcond (ieq k 5) (∀ (i : Int), i = iimin (imul IntKind.u64 s b) (imul IntKind.u64 d a) → ∀ (i_1 : Int), i_1 = 0 → ∀ (i_2 : Int), i_2 = i → ∀ (i : Int), i = 0 → ∀ (i_3 : Int), i_3 = 0 → ∀ (i_4 : Int), i_4 = 1 → True ∧ True ∧ V [XV.agg [CV.v (Value.int .u64 i_1), CV.v (Value.int .u64 i_2), CV.v (Value.int .u64 i), CV.v (Value.int .u64 i_3), CV.v (Value.int .u64 i_4)]] []) (True ∧ bcond (ieq k 6) (∀ (i : Int), i = iimax (imul IntKind.u64 s b) (imul IntKind.u64 d a) → ∀ (i_1 : Int), i_1 = 0 → ∀ (i_2 : Int), i_2 = i → ∀ (i : Int), i = 0 → ∀ (i_3 : Int), i_3 = 0 → ∀ (i_4 : Int), i_4 = 1 → True ∧ True ∧ V [XV.agg [CV.v (Value.int .u64 i_1), CV.v (Value.int .u64 i_2), CV.v (Value.int .u64 i), CV.v (Value.int .u64 i_3), CV.v (Value.int .u64 i_4)]] []) (True ∧ bcond (ieq k 7) (∀ (i : Int), i = 0 → ∀ (i_1 : Int), i_1 = dodgeP s a d b → ∀ (i_2 : Int), i_2 = 0 → ∀ (i_3 : Int), i_3 = 0 → ∀ (i_4 : Int), i_4 = dodgeD s a d b → (blA s a d b = true ∧ True) ∧ True ∧ V [XV.agg [CV.v (Value.int .u64 i), CV.v (Value.int .u64 i_1), CV.v (Value.int .u64 i_2), CV.v (Value.int .u64 i_3), CV.v (Value.int .u64 i_4)]] []) (True ∧ bcond (ieq k 8) (∀ (i : Int), i = 0 → ∀ (i_1 : Int), i_1 = burnP s a d b → ∀ (i_2 : Int), i_2 = 0 → ∀ (i_3 : Int), i_3 = 0 → ∀ (i_4 : Int), i_4 = burnD s a d b → (blA s a d b = true ∧ True) ∧ True ∧ V [XV.agg [CV.v (Value.int .u64 i), CV.v (Value.int .u64 i_1), CV.v (Value.int .u64 i_2), CV.v (Value.int .u64 i_3), CV.v (Value.int .u64 i_4)]] []) (True ∧ bcond (ieq k 9) (∀ (i : Int), i = hardI s a d b → ∀ (i_1 : Int), i_1 = 0 → ∀ (i_2 : Int), i_2 = i → ∀ (i : Int), i = 0 → ∀ (i_3 : Int), i_3 = 0 → ∀ (i_4 : Int), i_4 = 1 → (blA s a d b = true ∧ True) ∧ True ∧ V [XV.agg [CV.v (Value.int .u64 i_1), CV.v (Value.int .u64 i_2), CV.v (Value.int .u64 i), CV.v (Value.int .u64 i_3), CV.v (Value.int .u64 i_4)]] []) (True ∧ bcond (ieq k 10) (∀ (i : Int), i = 0 → ∀ (i_1 : Int), i_1 = softP s a d b → ∀ (i_2 : Int), i_2 = softQ s a d b → ∀ (i_3 : Int), i_3 = softR s a d b → ∀ (i_4 : Int), i_4 = softD s a d b → (blA s a d b = true ∧ True) ∧ True ∧ V [XV.agg [CV.v (Value.int .u64 i), CV.v (Value.int .u64 i_1), CV.v (Value.int .u64 i_2), CV.v (Value.int .u64 i_3), CV.v (Value.int .u64 i_4)]] []) (True ∧ bcond (ieq k 11) (∀ (i : Int), i = iimax (imul IntKind.u64 s b) (imul IntKind.u64 d a) → ∀ (i_1 : Int), i_1 = iimin (imul IntKind.u64 s b) (imul IntKind.u64 d a) → ∀ (i_2 : Int), i_2 = 0 → ∀ (i_3 : Int), i_3 = isub IntKind.u64 i i_1 → ∀ (i : Int), i = 0 → ∀ (i_4 : Int), i_4 = 0 → ∀ (i_5 : Int), i_5 = 1 → True ∧ True ∧ V [XV.agg [CV.v (Value.int .u64 i_2), CV.v (Value.int .u64 i_3), CV.v (Value.int .u64 i), CV.v (Value.int .u64 i_4), CV.v (Value.int .u64 i_5)]] []) (True ∧ bcond (ieq k 12) (∀ (i : Int), i = 0 → ∀ (i_1 : Int), i_1 = iadd IntKind.u64 (imul IntKind.u64 s (isub IntKind.u64 b d)) (imul IntKind.u64 d (isub IntKind.u64 a s)) → ∀ (i_2 : Int), i_2 = 0 → ∀ (i_3 : Int), i_3 = 0 → ∀ (i_4 : Int), i_4 = 1 → True ∧ True ∧ V [XV.agg [CV.v (Value.int .u64 i), CV.v (Value.int .u64 i_1), CV.v (Value.int .u64 i_2), CV.v (Value.int .u64 i_3), CV.v (Value.int .u64 i_4)]] []) (∀ (i : Int), i = 0 → ∀ (i_1 : Int), i_1 = imul IntKind.u64 s b → ∀ (i_2 : Int), i_2 = 0 → ∀ (i_3 : Int), i_3 = 0 → ∀ (i_4 : Int), i_4 = 1 → True ∧ True ∧ V [XV.agg [CV.v (Value.int .u64 i), CV.v (Value.int .u64 i_1), CV.v (Value.int .u64 i_2), CV.v (Value.int .u64 i_3), CV.v (Value.int .u64 i_4)]] [])))))))))))) := by
  try delta o_t6
  try delta s_whole6
  try delta s_hard6
  try delta s_dodge6
  try delta s_burn6
  try delta s_soft6
  generalize @blA = blA
  generalize @burnD = burnD
  generalize @burnP = burnP
  generalize @dodgeD = dodgeD
  generalize @dodgeP = dodgeP
  generalize @hardI = hardI
  generalize @softD = softD
  generalize @softP = softP
  generalize @softQ = softQ
  generalize @softR = softR
  kernel_rfl
set_option maxRecDepth 100000 in
theorem exact6_vc (k s a d b : Int) (V : List QR.XV → List (List QR.CV) → Prop) : QR.evalBody Tryd.prog (o_x6) (QR.noLoops) (Tryd.f20.body.getD .skip) Tryd.f20.results.toList Tryd.f20.ntmps [.x (.c (.v (.int .i64 k))), .x (.c (.v (.int .u16 s))), .x (.c (.v (.int .u16 a))), .x (.c (.v (.int .u16 d))), .x (.c (.v (.int .u16 b)))] V = (True ∧ bcond (bnot (band (ige k 1) (ile k 12))) (True ∧ True ∧ True ∧ V [XV.agg [CV.v (Value.int .u64 0), CV.v (Value.int .u64 0), CV.v (Value.int .u64 0), CV.v (Value.int .u64 0), CV.v (Value.int .u64 0)], XV.c (CV.v (Value.bool false))] []) (bcond (igt s a) (True ∧ True ∧ True ∧ V [XV.agg [CV.v (Value.int .u64 0), CV.v (Value.int .u64 0), CV.v (Value.int .u64 0), CV.v (Value.int .u64 0), CV.v (Value.int .u64 0)], XV.c (CV.v (Value.bool false))] []) (True ∧ bcond (igt d b) (True ∧ True ∧ V [XV.agg [CV.v (Value.int .u64 0), CV.v (Value.int .u64 0), CV.v (Value.int .u64 0), CV.v (Value.int .u64 0), CV.v (Value.int .u64 0)], XV.c (CV.v (Value.bool false))] []) (∀ (i : Int), i = 0 → ∀ (i_1 : Int), i_1 = blP k (iconv IntKind.u64 s) (iconv IntKind.u64 a) (iconv IntKind.u64 d) (iconv IntKind.u64 b) → ∀ (i_2 : Int), i_2 = blQ k (iconv IntKind.u64 s) (iconv IntKind.u64 a) (iconv IntKind.u64 d) (iconv IntKind.u64 b) → ∀ (i_3 : Int), i_3 = blR k (iconv IntKind.u64 s) (iconv IntKind.u64 a) (iconv IntKind.u64 d) (iconv IntKind.u64 b) → ∀ (i_4 : Int), i_4 = blD k (iconv IntKind.u64 s) (iconv IntKind.u64 a) (iconv IntKind.u64 d) (iconv IntKind.u64 b) → (modeB k = true ∧ blA (iconv IntKind.u64 s) (iconv IntKind.u64 a) (iconv IntKind.u64 d) (iconv IntKind.u64 b) = true ∧ True) ∧ True ∧ V [XV.agg [CV.v (Value.int .u64 i), CV.v (Value.int .u64 i_1), CV.v (Value.int .u64 i_2), CV.v (Value.int .u64 i_3), CV.v (Value.int .u64 i_4)], XV.c (CV.v (Value.bool true))] [])))) := by
  try delta o_x6
  try delta s_known6
  try delta s_term6
  generalize @blA = blA
  generalize @blD = blD
  generalize @blP = blP
  generalize @blQ = blQ
  generalize @blR = blR
  generalize @modeB = modeB
  kernel_rfl
set_option maxRecDepth 100000 in
theorem str6_vc (k s d m : Int) (V : List QR.XV → List (List QR.CV) → Prop) : QR.evalBody Tryd.prog (o_s6) (QR.noLoops) (Tryd.f23.body.getD .skip) Tryd.f23.results.toList Tryd.f23.ntmps [.x (.c (.v (.int .i64 k))), .x (.c (.v (.int .u16 s))), .x (.c (.v (.int .u16 d))), .x (.c (.v (.int .u16 m)))] V = (True ∧ ∀ (i : Int), i = 0 → ∀ (i_1 : Int), i_1 = blP k s m d m → ∀ (i_2 : Int), i_2 = blQ k s m d m → ∀ (i_3 : Int), i_3 = blR k s m d m → ∀ (i_4 : Int), i_4 = blD k s m d m → (in16 s = true ∧ in16 m = true ∧ in16 d = true ∧ in16 m = true ∧ True) ∧ bcond (bnot (blOk k s m d m)) (True ∧ True ∧ True ∧ V [XV.c (CV.v (Value.int .u16 0)), XV.c (CV.v (Value.bool false))] []) (True ∧ bcond (ieq m 0) (True ∧ True ∧ V [XV.c (CV.v (Value.int .u16 0)), XV.c (CV.v (Value.bool false))] []) (True ∧ ∀ (i_5 : Int), i_5 = hvV i i_1 i_2 i_3 (imul IntKind.u64 i_4 (iconv IntKind.u64 m)) → (inU i = true ∧ inU i_1 = true ∧ inU i_2 = true ∧ inU i_3 = true ∧ inU (imul IntKind.u64 i_4 (iconv IntKind.u64 m)) = true ∧ True) ∧ True ∧ True ∧ V [XV.c (CV.v (Value.int .u16 (iconv IntKind.u16 i_5))), XV.c (CV.v (Value.bool true))] []))) := by
  try delta o_s6
  try delta s_bl
  try delta s_halfX
  generalize @blD = blD
  generalize @blOk = blOk
  generalize @blP = blP
  generalize @blQ = blQ
  generalize @blR = blR
  generalize @hvOk = hvOk
  generalize @hvV = hvV
  generalize @in16 = in16
  generalize @inU = inU
  kernel_rfl
def o_rw6 : QR.Oracle := QR.orc [(46, QR.lift1 s_mul), (45, QR.lift1 s_mulsmall)]
def o_rs6 : QR.Oracle := QR.orc [(32, s_whole6), (34, s_wide6), (35, QR.lift1 s_sub), (49, QR.lift1 s_add)]
def o_rb6 : QR.Oracle := QR.orc [(31, s_known6), (32, s_whole6), (33, s_hard6), (36, s_soft6), (34, s_wide6), (35, QR.lift1 s_sub)]
def o_rt6 : QR.Oracle := QR.orc [(21, s_bl), (39, QR.lift1 s_halfX)]
def o_rr6 : QR.Oracle := QR.orc [(39, QR.lift1 s_halfX)]
set_option maxRecDepth 100000 in
theorem rwhole6_vc (n : Int) (V : List QR.XV → List (List QR.CV) → Prop) : QR.evalBody Tryd.prog (QR.orc []) (QR.noLoops) (Tryd.f32.body.getD .skip) Tryd.f32.results.toList Tryd.f32.ntmps [.x (.c (.v (.int .u64 n)))] V = (True ∧ True ∧ True ∧ V [XV.agg [CV.v (Value.int .u64 0), CV.v (Value.int .u64 n), CV.v (Value.int .u64 0), CV.v (Value.int .u64 0), CV.v (Value.int .u64 1)]] []) := by
  kernel_rfl
set_option maxRecDepth 100000 in
theorem wide6_vc (a b c : Int) (V : List QR.XV → List (List QR.CV) → Prop) : QR.evalBody Tryd.prog (o_rw6) (QR.noLoops) (Tryd.f34.body.getD .skip) Tryd.f34.results.toList Tryd.f34.ntmps [.x (.c (.v (.int .u64 a))), .x (.c (.v (.int .u64 b))), .x (.c (.v (.int .u64 c)))] V = (True ∧ ∀ (i : Int), i = wmH a b → ∀ (i_1 : Int), i_1 = wmL a b → ∀ (i_2 : Int), i_2 = wkH i i_1 c → ∀ (i_3 : Int), i_3 = wkL i i_1 c → (inU i = true ∧ inU i_1 = true ∧ inU c = true ∧ inU a = true ∧ inU b = true ∧ True) ∧ True ∧ True ∧ V [XV.agg [CV.v (Value.int .u64 i_2), CV.v (Value.int .u64 i_3)]] []) := by
  try delta o_rw6
  try delta s_mul
  try delta s_mulsmall
  generalize @inU = inU
  generalize @wkH = wkH
  generalize @wkL = wkL
  generalize @wkOk = wkOk
  generalize @wmH = wmH
  generalize @wmL = wmL
  kernel_rfl
set_option maxRecDepth 100000 in
theorem rhard6_vc (s a d b : Int) (V : List QR.XV → List (List QR.CV) → Prop) : QR.evalBody Tryd.prog (QR.orc []) (QR.noLoops) (Tryd.f33.body.getD .skip) Tryd.f33.results.toList Tryd.f33.ntmps [.x (.c (.v (.int .u64 s))), .x (.c (.v (.int .u64 a))), .x (.c (.v (.int .u64 d))), .x (.c (.v (.int .u64 b)))] V = (True ∧ True ∧ bcond (ile (imul IntKind.u64 2 s) a) (True ∧ True ∧ V [XV.c (CV.v (Value.int .u64 (imul IntKind.u64 (imul IntKind.u64 2 s) d)))] []) (True ∧ True ∧ V [XV.c (CV.v (Value.int .u64 (isub IntKind.u64 (imul IntKind.u64 a b) (imul IntKind.u64 (imul IntKind.u64 2 (isub IntKind.u64 b d)) (isub IntKind.u64 a s)))))] [])) := by
  kernel_rfl
set_option maxRecDepth 100000 in
theorem rsoft6_vc (s a d b : Int) (V : List QR.XV → List (List QR.CV) → Prop) : QR.evalBody Tryd.prog (o_rs6) (QR.noLoops) (Tryd.f36.body.getD .skip) Tryd.f36.results.toList Tryd.f36.ntmps [.x (.c (.v (.int .u64 s))), .x (.c (.v (.int .u64 a))), .x (.c (.v (.int .u64 d))), .x (.c (.v (.int .u64 b)))] V = (True ∧ True ∧ bcond (ieq b 0) (∀ (i : Int), i = 0 → ∀ (i_1 : Int), i_1 = 0 → ∀ (i_2 : Int), i_2 = 0 → ∀ (i_3 : Int), i_3 = 0 → ∀ (i_4 : Int), i_4 = 1 → True ∧ True ∧ V [XV.agg [CV.v (Value.int .u64 i), CV.v (Value.int .u64 i_1), CV.v (Value.int .u64 i_2), CV.v (Value.int .u64 i_3), CV.v (Value.int .u64 i_4)]] []) (True ∧ bcond (ile (imul IntKind.u64 2 s) a) (∀ (i : Int), i = wdH (imul IntKind.u64 d a) b 1 → ∀ (i_1 : Int), i_1 = wdL (imul IntKind.u64 d a) b 1 → ∀ (i_2 : Int), i_2 = wdH (imul IntKind.u64 (isub IntKind.u64 a (imul IntKind.u64 2 s)) d) (isub IntKind.u64 b d) 1 → ∀ (i_3 : Int), i_3 = wdL (imul IntKind.u64 (isub IntKind.u64 a (imul IntKind.u64 2 s)) d) (isub IntKind.u64 b d) 1 → ∀ (i_4 : Int), i_4 = wsH i i_1 i_2 i_3 → ∀ (i_5 : Int), i_5 = wsL i i_1 i_2 i_3 → (inU i = true ∧ inU i_1 = true ∧ inU i_2 = true ∧ inU i_3 = true ∧ inU (imul IntKind.u64 (isub IntKind.u64 a (imul IntKind.u64 2 s)) d) = true ∧ inU (isub IntKind.u64 b d) = true ∧ inU 1 = true ∧ wdOk (imul IntKind.u64 (isub IntKind.u64 a (imul IntKind.u64 2 s)) d) (isub IntKind.u64 b d) 1 = true ∧ inU (imul IntKind.u64 d a) = true ∧ inU b = true ∧ inU 1 = true ∧ wdOk (imul IntKind.u64 d a) b 1 = true ∧ True) ∧ True ∧ True ∧ V [XV.agg [CV.v (Value.int .u64 i_4), CV.v (Value.int .u64 i_5), CV.v (Value.int .u64 0), CV.v (Value.int .u64 0), CV.v (Value.int .u64 b)]] []) (True ∧ bcond (ile (imul IntKind.u64 4 d) b) (∀ (i : Int), i = wdH (imul IntKind.u64 d a) (imul IntKind.u64 b b) 1 → ∀ (i_1 : Int), i_1 = wdL (imul IntKind.u64 d a) (imul IntKind.u64 b b) 1 → ∀ (i_2 : Int), i_2 = wdH (imul IntKind.u64 (isub IntKind.u64 (imul IntKind.u64 2 s) a) d) (isub IntKind.u64 (iadd IntKind.u64 (imul IntKind.u64 (imul IntKind.u64 16 d) d) (imul IntKind.u64 (imul IntKind.u64 3 b) b)) (imul IntKind.u64 (imul IntKind.u64 12 d) b)) 1 → ∀ (i_3 : Int), i_3 = wdL (imul IntKind.u64 (isub IntKind.u64 (imul IntKind.u64 2 s) a) d) (isub IntKind.u64 (iadd IntKind.u64 (imul IntKind.u64 (imul IntKind.u64 16 d) d) (imul IntKind.u64 (imul IntKind.u64 3 b) b)) (imul IntKind.u64 (imul IntKind.u64 12 d) b)) 1 → ∀ (i_4 : Int), i_4 = waH i i_1 i_2 i_3 → ∀ (i_5 : Int), i_5 = waL i i_1 i_2 i_3 → (inU i = true ∧ inU i_1 = true ∧ inU i_2 = true ∧ inU i_3 = true ∧ inU (imul IntKind.u64 (isub IntKind.u64 (imul IntKind.u64 2 s) a) d) = true ∧ inU (isub IntKind.u64 (iadd IntKind.u64 (imul IntKind.u64 (imul IntKind.u64 16 d) d) (imul IntKind.u64 (imul IntKind.u64 3 b) b)) (imul IntKind.u64 (imul IntKind.u64 12 d) b)) = true ∧ inU 1 = true ∧ wdOk (imul IntKind.u64 (isub IntKind.u64 (imul IntKind.u64 2 s) a) d) (isub IntKind.u64 (iadd IntKind.u64 (imul IntKind.u64 (imul IntKind.u64 16 d) d) (imul IntKind.u64 (imul IntKind.u64 3 b) b)) (imul IntKind.u64 (imul IntKind.u64 12 d) b)) 1 = true ∧ inU (imul IntKind.u64 d a) = true ∧ inU (imul IntKind.u64 b b) = true ∧ inU 1 = true ∧ wdOk (imul IntKind.u64 d a) (imul IntKind.u64 b b) 1 = true ∧ True) ∧ True ∧ True ∧ V [XV.agg [CV.v (Value.int .u64 i_4), CV.v (Value.int .u64 i_5), CV.v (Value.int .u64 0), CV.v (Value.int .u64 0), CV.v (Value.int .u64 (imul IntKind.u64 b b))]] []) (True ∧ True ∧ V [XV.agg [CV.v (Value.int .u64 0), CV.v (Value.int .u64 (imul IntKind.u64 (imul IntKind.u64 2 d) (isub IntKind.u64 a s))), CV.v (Value.int .u64 (isub IntKind.u64 (imul IntKind.u64 2 s) a)), CV.v (Value.int .u64 (imul IntKind.u64 d b)), CV.v (Value.int .u64 1)]] [])))) := by
  try delta o_rs6
  try delta s_whole6
  try delta s_wide6
  try delta s_sub
  try delta s_add
  generalize @inU = inU
  generalize @waH = waH
  generalize @waL = waL
  generalize @waOk = waOk
  generalize @wdH = wdH
  generalize @wdL = wdL
  generalize @wdOk = wdOk
  generalize @wsH = wsH
  generalize @wsL = wsL
  generalize @wsOk = wsOk
  kernel_rfl
set_option maxRecDepth 100000 in
theorem rbl_vc (k s a d b : Int) (V : List QR.XV → List (List QR.CV) → Prop) : QR.evalBody Tryd.prog (o_rb6) (QR.noLoops) (Tryd.f21.body.getD .skip) Tryd.f21.results.toList Tryd.f21.ntmps [.x (.c (.v (.int .i64 k))), .x (.c (.v (.int .u16 s))), .x (.c (.v (.int .u16 a))), .x (.c (.v (.int .u16 d))), .x (.c (.v (.int .u16 b)))] V = (True ∧ bcond (bnot (band (ige k 1) (ile k 12))) (True ∧ True ∧ True ∧ V [XV.agg [CV.v (Value.int .u64 0), CV.v (Value.int .u64 0), CV.v (Value.int .u64 0), CV.v (Value.int .u64 0), CV.v (Value.int .u64 0)], XV.c (CV.v (Value.bool false))] []) (bcond (igt s a) (True ∧ True ∧ True ∧ V [XV.agg [CV.v (Value.int .u64 0), CV.v (Value.int .u64 0), CV.v (Value.int .u64 0), CV.v (Value.int .u64 0), CV.v (Value.int .u64 0)], XV.c (CV.v (Value.bool false))] []) (True ∧ bcond (igt d b) (True ∧ True ∧ V [XV.agg [CV.v (Value.int .u64 0), CV.v (Value.int .u64 0), CV.v (Value.int .u64 0), CV.v (Value.int .u64 0), CV.v (Value.int .u64 0)], XV.c (CV.v (Value.bool false))] []) (True ∧ True ∧ True ∧ bcond (ieq k 1) (∀ (i : Int), i = 0 → ∀ (i_1 : Int), i_1 = imul IntKind.u64 (iconv IntKind.u64 s) (iconv IntKind.u64 b) → ∀ (i_2 : Int), i_2 = 0 → ∀ (i_3 : Int), i_3 = 0 → ∀ (i_4 : Int), i_4 = 1 → True ∧ True ∧ V [XV.agg [CV.v (Value.int .u64 i), CV.v (Value.int .u64 i_1), CV.v (Value.int .u64 i_2), CV.v (Value.int .u64 i_3), CV.v (Value.int .u64 i_4)], XV.c (CV.v (Value.bool true))] []) (True ∧ bcond (ieq k 2) (∀ (i : Int), i = 0 → ∀ (i_1 : Int), i_1 = imul IntKind.u64 (iconv IntKind.u64 s) (iconv IntKind.u64 d) → ∀ (i_2 : Int), i_2 = 0 → ∀ (i_3 : Int), i_3 = 0 → ∀ (i_4 : Int), i_4 = 1 → True ∧ True ∧ V [XV.agg [CV.v (Value.int .u64 i), CV.v (Value.int .u64 i_1), CV.v (Value.int .u64 i_2), CV.v (Value.int .u64 i_3), CV.v (Value.int .u64 i_4)], XV.c (CV.v (Value.bool true))] []) (True ∧ bcond (ieq k 3) (∀ (i : Int), i = 0 → ∀ (i_1 : Int), i_1 = isub IntKind.u64 (iadd IntKind.u64 (imul IntKind.u64 (iconv IntKind.u64 s) (iconv IntKind.u64 b)) (imul IntKind.u64 (iconv IntKind.u64 d) (iconv IntKind.u64 a))) (imul IntKind.u64 (iconv IntKind.u64 s) (iconv IntKind.u64 d)) → ∀ (i_2 : Int), i_2 = 0 → ∀ (i_3 : Int), i_3 = 0 → ∀ (i_4 : Int), i_4 = 1 → True ∧ True ∧ V [XV.agg [CV.v (Value.int .u64 i), CV.v (Value.int .u64 i_1), CV.v (Value.int .u64 i_2), CV.v (Value.int .u64 i_3), CV.v (Value.int .u64 i_4)], XV.c (CV.v (Value.bool true))] []) (True ∧ bcond (ieq k 4) (∀ (i : Int), i = hardI (iconv IntKind.u64 d) (iconv IntKind.u64 b) (iconv IntKind.u64 s) (iconv IntKind.u64 a) → ∀ (i_1 : Int), i_1 = 0 → ∀ (i_2 : Int), i_2 = i → ∀ (i : Int), i = 0 → ∀ (i_3 : Int), i_3 = 0 → ∀ (i_4 : Int), i_4 = 1 → (blA (iconv IntKind.u64 d) (iconv IntKind.u64 b) (iconv IntKind.u64 s) (iconv IntKind.u64 a) = true ∧ True) ∧ True ∧ V [XV.agg [CV.v (Value.int .u64 i_1), CV.v (Value.int .u64 i_2), CV.v (Value.int .u64 i), CV.v (Value.int .u64 i_3), CV.v (Value.int .u64 i_4)], XV.c (CV.v (Value.bool true))] []) (True ∧ bcond (ieq k 5) (∀ (i : Int), i = iimin (imul IntKind.u64 (iconv IntKind.u64 s) (iconv IntKind.u64 b)) (imul IntKind.u64 (iconv IntKind.u64 d) (iconv IntKind.u64 a)) → ∀ (i_1 : Int), i_1 = 0 → ∀ (i_2 : Int), i_2 = i → ∀ (i : Int), i = 0 → ∀ (i_3 : Int), i_3 = 0 → ∀ (i_4 : Int), i_4 = 1 → True ∧ True ∧ V [XV.agg [CV.v (Value.int .u64 i_1), CV.v (Value.int .u64 i_2), CV.v (Value.int .u64 i), CV.v (Value.int .u64 i_3), CV.v (Value.int .u64 i_4)], XV.c (CV.v (Value.bool true))] []) (True ∧ bcond (ieq k 6) (∀ (i : Int), i = iimax (imul IntKind.u64 (iconv IntKind.u64 s) (iconv IntKind.u64 b)) (imul IntKind.u64 (iconv IntKind.u64 d) (iconv IntKind.u64 a)) → ∀ (i_1 : Int), i_1 = 0 → ∀ (i_2 : Int), i_2 = i → ∀ (i : Int), i = 0 → ∀ (i_3 : Int), i_3 = 0 → ∀ (i_4 : Int), i_4 = 1 → True ∧ True ∧ V [XV.agg [CV.v (Value.int .u64 i_1), CV.v (Value.int .u64 i_2), CV.v (Value.int .u64 i), CV.v (Value.int .u64 i_3), CV.v (Value.int .u64 i_4)], XV.c (CV.v (Value.bool true))] []) (True ∧ bcond (ieq k 7) (True ∧ bcond (ieq (iconv IntKind.u64 d) 0) (∀ (i : Int), i = 0 → ∀ (i_1 : Int), i_1 = 0 → ∀ (i_2 : Int), i_2 = 0 → ∀ (i_3 : Int), i_3 = 0 → ∀ (i_4 : Int), i_4 = 1 → True ∧ True ∧ V [XV.agg [CV.v (Value.int .u64 i), CV.v (Value.int .u64 i_1), CV.v (Value.int .u64 i_2), CV.v (Value.int .u64 i_3), CV.v (Value.int .u64 i_4)], XV.c (CV.v (Value.bool true))] []) (True ∧ bcond (ige (imul IntKind.u64 (iconv IntKind.u64 d) (iconv IntKind.u64 a)) (imul IntKind.u64 (iconv IntKind.u64 b) (isub IntKind.u64 (iconv IntKind.u64 a) (iconv IntKind.u64 s)))) (∀ (i : Int), i = 0 → ∀ (i_1 : Int), i_1 = imul IntKind.u64 (iconv IntKind.u64 a) (iconv IntKind.u64 b) → ∀ (i_2 : Int), i_2 = 0 → ∀ (i_3 : Int), i_3 = 0 → ∀ (i_4 : Int), i_4 = 1 → True ∧ True ∧ V [XV.agg [CV.v (Value.int .u64 i), CV.v (Value.int .u64 i_1), CV.v (Value.int .u64 i_2), CV.v (Value.int .u64 i_3), CV.v (Value.int .u64 i_4)], XV.c (CV.v (Value.bool true))] []) (∀ (i : Int), i = wdH (iconv IntKind.u64 a) (iconv IntKind.u64 a) (iconv IntKind.u64 d) → ∀ (i_1 : Int), i_1 = wdL (iconv IntKind.u64 a) (iconv IntKind.u64 a) (iconv IntKind.u64 d) → (inU (iconv IntKind.u64 a) = true ∧ inU (iconv IntKind.u64 a) = true ∧ inU (iconv IntKind.u64 d) = true ∧ wdOk (iconv IntKind.u64 a) (iconv IntKind.u64 a) (iconv IntKind.u64 d) = true ∧ True) ∧ True ∧ V [XV.agg [CV.v (Value.int .u64 i), CV.v (Value.int .u64 i_1), CV.v (Value.int .u64 0), CV.v (Value.int .u64 0), CV.v (Value.int .u64 (isub IntKind.u64 (iconv IntKind.u64 a) (iconv IntKind.u64 s)))], XV.c (CV.v (Value.bool true))] []))) (True ∧ bcond (ieq k 8) (True ∧ bcond (ieq (iconv IntKind.u64 d) (iconv IntKind.u64 b)) (∀ (i : Int), i = 0 → ∀ (i_1 : Int), i_1 = imul IntKind.u64 (iconv IntKind.u64 a) (iconv IntKind.u64 b) → ∀ (i_2 : Int), i_2 = 0 → ∀ (i_3 : Int), i_3 = 0 → ∀ (i_4 : Int), i_4 = 1 → True ∧ True ∧ V [XV.agg [CV.v (Value.int .u64 i), CV.v (Value.int .u64 i_1), CV.v (Value.int .u64 i_2), CV.v (Value.int .u64 i_3), CV.v (Value.int .u64 i_4)], XV.c (CV.v (Value.bool true))] []) (True ∧ bcond (ige (imul IntKind.u64 (isub IntKind.u64 (iconv IntKind.u64 b) (iconv IntKind.u64 d)) (iconv IntKind.u64 a)) (imul IntKind.u64 (iconv IntKind.u64 s) (iconv IntKind.u64 b))) (∀ (i : Int), i = 0 → ∀ (i_1 : Int), i_1 = 0 → ∀ (i_2 : Int), i_2 = 0 → ∀ (i_3 : Int), i_3 = 0 → ∀ (i_4 : Int), i_4 = 1 → True ∧ True ∧ V [XV.agg [CV.v (Value.int .u64 i), CV.v (Value.int .u64 i_1), CV.v (Value.int .u64 i_2), CV.v (Value.int .u64 i_3), CV.v (Value.int .u64 i_4)], XV.c (CV.v (Value.bool true))] []) (∀ (i : Int), i = wdH (iconv IntKind.u64 a) (iconv IntKind.u64 b) (iconv IntKind.u64 s) → ∀ (i_1 : Int), i_1 = wdL (iconv IntKind.u64 a) (iconv IntKind.u64 b) (iconv IntKind.u64 s) → ∀ (i_2 : Int), i_2 = wdH (isub IntKind.u64 (iconv IntKind.u64 b) (iconv IntKind.u64 d)) (iconv IntKind.u64 a) (iconv IntKind.u64 a) → ∀ (i_3 : Int), i_3 = wdL (isub IntKind.u64 (iconv IntKind.u64 b) (iconv IntKind.u64 d)) (iconv IntKind.u64 a) (iconv IntKind.u64 a) → ∀ (i_4 : Int), i_4 = wsH i i_1 i_2 i_3 → ∀ (i_5 : Int), i_5 = wsL i i_1 i_2 i_3 → (inU i = true ∧ inU i_1 = true ∧ inU i_2 = true ∧ inU i_3 = true ∧ inU (isub IntKind.u64 (iconv IntKind.u64 b) (iconv IntKind.u64 d)) = true ∧ inU (iconv IntKind.u64 a) = true ∧ inU (iconv IntKind.u64 a) = true ∧ wdOk (isub IntKind.u64 (iconv IntKind.u64 b) (iconv IntKind.u64 d)) (iconv IntKind.u64 a) (iconv IntKind.u64 a) = true ∧ inU (iconv IntKind.u64 a) = true ∧ inU (iconv IntKind.u64 b) = true ∧ inU (iconv IntKind.u64 s) = true ∧ wdOk (iconv IntKind.u64 a) (iconv IntKind.u64 b) (iconv IntKind.u64 s) = true ∧ True) ∧ True ∧ True ∧ V [XV.agg [CV.v (Value.int .u64 i_4), CV.v (Value.int .u64 i_5), CV.v (Value.int .u64 0), CV.v (Value.int .u64 0), CV.v (Value.int .u64 (iconv IntKind.u64 s))], XV.c (CV.v (Value.bool true))] []))) (True ∧ bcond (ieq k 9) (∀ (i : Int), i = hardI (iconv IntKind.u64 s) (iconv IntKind.u64 a) (iconv IntKind.u64 d) (iconv IntKind.u64 b) → ∀ (i_1 : Int), i_1 = 0 → ∀ (i_2 : Int), i_2 = i → ∀ (i : Int), i = 0 → ∀ (i_3 : Int), i_3 = 0 → ∀ (i_4 : Int), i_4 = 1 → (blA (iconv IntKind.u64 s) (iconv IntKind.u64 a) (iconv IntKind.u64 d) (iconv IntKind.u64 b) = true ∧ True) ∧ True ∧ V [XV.agg [CV.v (Value.int .u64 i_1), CV.v (Value.int .u64 i_2), CV.v (Value.int .u64 i), CV.v (Value.int .u64 i_3), CV.v (Value.int .u64 i_4)], XV.c (CV.v (Value.bool true))] []) (True ∧ bcond (ieq k 10) (∀ (i : Int), i = 0 → ∀ (i_1 : Int), i_1 = softP (iconv IntKind.u64 s) (iconv IntKind.u64 a) (iconv IntKind.u64 d) (iconv IntKind.u64 b) → ∀ (i_2 : Int), i_2 = softQ (iconv IntKind.u64 s) (iconv IntKind.u64 a) (iconv IntKind.u64 d) (iconv IntKind.u64 b) → ∀ (i_3 : Int), i_3 = softR (iconv IntKind.u64 s) (iconv IntKind.u64 a) (iconv IntKind.u64 d) (iconv IntKind.u64 b) → ∀ (i_4 : Int), i_4 = softD (iconv IntKind.u64 s) (iconv IntKind.u64 a) (iconv IntKind.u64 d) (iconv IntKind.u64 b) → (blA (iconv IntKind.u64 s) (iconv IntKind.u64 a) (iconv IntKind.u64 d) (iconv IntKind.u64 b) = true ∧ True) ∧ True ∧ V [XV.agg [CV.v (Value.int .u64 i), CV.v (Value.int .u64 i_1), CV.v (Value.int .u64 i_2), CV.v (Value.int .u64 i_3), CV.v (Value.int .u64 i_4)], XV.c (CV.v (Value.bool true))] []) (True ∧ bcond (ieq k 11) (∀ (i : Int), i = iimax (imul IntKind.u64 (iconv IntKind.u64 s) (iconv IntKind.u64 b)) (imul IntKind.u64 (iconv IntKind.u64 d) (iconv IntKind.u64 a)) → ∀ (i_1 : Int), i_1 = iimin (imul IntKind.u64 (iconv IntKind.u64 s) (iconv IntKind.u64 b)) (imul IntKind.u64 (iconv IntKind.u64 d) (iconv IntKind.u64 a)) → ∀ (i_2 : Int), i_2 = 0 → ∀ (i_3 : Int), i_3 = isub IntKind.u64 i i_1 → ∀ (i : Int), i = 0 → ∀ (i_4 : Int), i_4 = 0 → ∀ (i_5 : Int), i_5 = 1 → True ∧ True ∧ V [XV.agg [CV.v (Value.int .u64 i_2), CV.v (Value.int .u64 i_3), CV.v (Value.int .u64 i), CV.v (Value.int .u64 i_4), CV.v (Value.int .u64 i_5)], XV.c (CV.v (Value.bool true))] []) (∀ (i : Int), i = 0 → ∀ (i_1 : Int), i_1 = isub IntKind.u64 (iadd IntKind.u64 (imul IntKind.u64 (iconv IntKind.u64 s) (iconv IntKind.u64 b)) (imul IntKind.u64 (iconv IntKind.u64 d) (iconv IntKind.u64 a))) (imul IntKind.u64 (imul IntKind.u64 2 (iconv IntKind.u64 s)) (iconv IntKind.u64 d)) → ∀ (i_2 : Int), i_2 = 0 → ∀ (i_3 : Int), i_3 = 0 → ∀ (i_4 : Int), i_4 = 1 → True ∧ True ∧ V [XV.agg [CV.v (Value.int .u64 i), CV.v (Value.int .u64 i_1), CV.v (Value.int .u64 i_2), CV.v (Value.int .u64 i_3), CV.v (Value.int .u64 i_4)], XV.c (CV.v (Value.bool true))] []))))))))))))))) := by
  try delta o_rb6
  try delta s_known6
  try delta s_whole6
  try delta s_hard6
  try delta s_soft6
  try delta s_wide6
  try delta s_sub
  generalize @blA = blA
  generalize @hardI = hardI
  generalize @inU = inU
  generalize @softD = softD
  generalize @softP = softP
  generalize @softQ = softQ
  generalize @softR = softR
  generalize @wdH = wdH
  generalize @wdL = wdL
  generalize @wdOk = wdOk
  generalize @wsH = wsH
  generalize @wsL = wsL
  generalize @wsOk = wsOk
  kernel_rfl
set_option maxRecDepth 100000 in
theorem rstr6_vc (k s d m : Int) (V : List QR.XV → List (List QR.CV) → Prop) : QR.evalBody Tryd.prog (o_rt6) (QR.noLoops) (Tryd.f26.body.getD .skip) Tryd.f26.results.toList Tryd.f26.ntmps [.x (.c (.v (.int .i64 k))), .x (.c (.v (.int .u16 s))), .x (.c (.v (.int .u16 d))), .x (.c (.v (.int .u16 m)))] V = (True ∧ True ∧ bcond (ieq m 0) (True ∧ True ∧ V [XV.c (CV.v (Value.int .u16 0)), XV.c (CV.v (Value.bool false))] []) (∀ (i : Int), i = 0 → ∀ (i_1 : Int), i_1 = blP k s m d m → ∀ (i_2 : Int), i_2 = blQ k s m d m → ∀ (i_3 : Int), i_3 = blR k s m d m → ∀ (i_4 : Int), i_4 = blD k s m d m → (in16 s = true ∧ in16 m = true ∧ in16 d = true ∧ in16 m = true ∧ True) ∧ True ∧ bcond (bnot (blOk k s m d m)) (True ∧ True ∧ V [XV.c (CV.v (Value.int .u16 0)), XV.c (CV.v (Value.bool false))] []) (True ∧ ∀ (i_5 : Int), i_5 = hvV i i_1 i_2 i_3 (imul IntKind.u64 i_4 (iconv IntKind.u64 m)) → (inU i = true ∧ inU i_1 = true ∧ inU i_2 = true ∧ inU i_3 = true ∧ inU (imul IntKind.u64 i_4 (iconv IntKind.u64 m)) = true ∧ True) ∧ True ∧ True ∧ V [XV.c (CV.v (Value.int .u16 (iconv IntKind.u16 i_5))), XV.c (CV.v (Value.bool true))] []))) := by
  try delta o_rt6
  try delta s_bl
  try delta s_halfX
  generalize @blD = blD
  generalize @blOk = blOk
  generalize @blP = blP
  generalize @blQ = blQ
  generalize @blR = blR
  generalize @hvOk = hvOk
  generalize @hvV = hvV
  generalize @in16 = in16
  generalize @inU = inU
  kernel_rfl
set_option maxRecDepth 100000 in
theorem rounded6_vc (h p q r d : Int) (V : List QR.XV → List (List QR.CV) → Prop) : QR.evalBody Tryd.prog (o_rr6) (QR.noLoops) (Tryd.f27.body.getD .skip) Tryd.f27.results.toList Tryd.f27.ntmps [.x (.agg [.v (.int .u64 h), .v (.int .u64 p), .v (.int .u64 q), .v (.int .u64 r), .v (.int .u64 d)])] V = (True ∧ ∀ (i : Int), i = hvV h p q r d → (inU h = true ∧ inU p = true ∧ inU q = true ∧ inU r = true ∧ inU d = true ∧ True) ∧ True ∧ True ∧ V [XV.c (CV.v (Value.int .u64 i))] []) := by
  try delta o_rr6
  try delta s_halfX
  generalize @hvOk = hvOk
  generalize @hvV = hvV
  generalize @inU = inU
  kernel_rfl
end Go.Proofs.YtafaadnjkkkafaaDoor
namespace Go.Proofs.YtafaadnjkkkafaaDoor
open Go.RowKit PR QR
set_option linter.unusedVariables false
set_option linter.unusedSimpArgs false

/- arithmetic of 64 bits: one remainder at the end -/
theorem iaddU (a b : Int) : iadd .u64 a b = (a + b) % 18446744073709551616 := by unfold iadd; rw [IntKind.wrap_u64]
theorem isubU (a b : Int) : isub .u64 a b = (a - b) % 18446744073709551616 := by unfold isub; rw [IntKind.wrap_u64]
theorem imulU (a b : Int) : imul .u64 a b = (a * b) % 18446744073709551616 := by unfold imul; rw [IntKind.wrap_u64]
theorem eMl (a b m : Int) : (a % m * b) % m = (a * b) % m := by rw [Int.mul_emod, Int.emod_emod, ← Int.mul_emod]
theorem eMr (a b m : Int) : (a * (b % m)) % m = (a * b) % m := by rw [Int.mul_emod, Int.emod_emod, ← Int.mul_emod]
theorem eAl (a b m : Int) : (a % m + b) % m = (a + b) % m := by rw [Int.add_emod, Int.emod_emod, ← Int.add_emod]
theorem eAr (a b m : Int) : (a + b % m) % m = (a + b) % m := by rw [Int.add_emod, Int.emod_emod, ← Int.add_emod]
theorem eSl (a b m : Int) : (a % m - b) % m = (a - b) % m := by rw [Int.sub_emod, Int.emod_emod, ← Int.sub_emod]
theorem eSr (a b m : Int) : (a - b % m) % m = (a - b) % m := by rw [Int.sub_emod, Int.emod_emod, ← Int.sub_emod]
theorem blA_iff {s a d b : Int} : blA s a d b = true ↔ 0 ≤ s ∧ s ≤ a ∧ a ≤ 65535 ∧ 0 ≤ d ∧ d ≤ b ∧ b ≤ 65535 := by simp [blA]
theorem modM {x : Int} (h : 0 ≤ x) (k : x < 18446744073709551616) : x % 18446744073709551616 = x := Int.emod_eq_of_lt h k
theorem big48 {D P a b : Int} (hD : D ≤ 65535) (hP : P ≤ D * (a * b)) (h0 : 0 ≤ a * b) (h1 : a * b ≤ 4294836225) : P < 18446744073709551616 := by
  have := Int.mul_le_mul hD h1 h0 (by decide)
  omega
/-- soft-light's third case fits in 64 bits -/
theorem soft3_lt {s a d b : Int} (h0 : 0 ≤ s) (h1 : s ≤ a) (ha : a ≤ 65535) (h2 : 0 ≤ d) (h4 : 4 * d ≤ b) (hb : b ≤ 65535) :
    0 ≤ 16 * d * d + 3 * b * b - 12 * d * b ∧ 16 * d * d + 3 * b * b - 12 * d * b ≤ 12884508675 ∧ d * a * (b * b) + (2 * s - a) * d * (16 * d * d + 3 * b * b - 12 * d * b) < 18446744073709551616 := by
  obtain ⟨e, he⟩ : ∃ e, b = 4 * d + e := ⟨b - 4 * d, by omega⟩
  have he0 : 0 ≤ e := by omega
  have ha0 : 0 ≤ a := by omega
  have hb0 : 0 ≤ b := by omega
  have t1 := Int.mul_nonneg h2 he0
  have t2 := Int.mul_nonneg h2 h2
  have t3 := Int.mul_nonneg he0 he0
  have bb := Int.mul_le_mul hb hb hb0 (by decide)
  have bb0 := Int.mul_nonneg hb0 hb0
  have p0 : 0 ≤ 16 * d * d + 3 * b * b - 12 * d * b := by subst he; grind
  have p1 : 16 * d * d + 3 * b * b - 12 * d * b ≤ 3 * (b * b) := by subst he; grind
  refine ⟨p0, by omega, ?_⟩
  have q : 0 ≤ d * (16 * d * d + 3 * b * b - 12 * d * b) := Int.mul_nonneg h2 p0
  have q1 : (2 * s - a) * (d * (16 * d * d + 3 * b * b - 12 * d * b)) ≤ a * (d * (16 * d * d + 3 * b * b - 12 * d * b)) := Int.mul_le_mul_of_nonneg_right (by omega) q
  have q2 : 2 * (d * (b * b) + d * (16 * d * d + 3 * b * b - 12 * d * b)) ≤ b * (b * b) := by
    have := Int.mul_nonneg (Int.mul_nonneg h2 h2) h2
    have := Int.mul_nonneg (Int.mul_nonneg h2 h2) he0
    have := Int.mul_nonneg (Int.mul_nonneg h2 he0) he0
    have := Int.mul_nonneg (Int.mul_nonneg he0 he0) he0
    subst he; grind
  have q3 := Int.mul_le_mul_of_nonneg_left q2 ha0
  have q4 : a * (b * (b * b)) ≤ 65535 * (65535 * (65535 * 65535)) := Int.mul_le_mul ha (Int.mul_le_mul hb bb bb0 (by decide)) (Int.mul_nonneg hb0 bb0) (by decide)
  have e1 : d * a * (b * b) + (2 * s - a) * d * (16 * d * d + 3 * b * b - 12 * d * b) = a * (d * (b * b)) + (2 * s - a) * (d * (16 * d * d + 3 * b * b - 12 * d * b)) := by grind
  have e2 : a * (2 * (d * (b * b) + d * (16 * d * d + 3 * b * b - 12 * d * b))) = 2 * (a * (d * (b * b)) + a * (d * (16 * d * d + 3 * b * b - 12 * d * b))) := by grind
  rw [e1]
  omega

theorem a_hard6 : Answers2 41 s_hard6 := by
  intro al ans h hq
  unfold s_hard6 at h
  split at h <;> try (simp at h; done)
  rename_i s a d b
  simp only [Option.some.injEq] at h
  subst h
  have hq := asked hq
  refine QR.does_of_eval (O := (QR.orc [])) QR.orc_nil mixed (QR.noLoops) Tryd.func41 (by kernel_rfl) (by kernel_rfl) (by simp) ?_
  rw [hard6_vc]
  obtain ⟨h, _⟩ := hq
  obtain ⟨h0, h1, ha, h2, h3, hb⟩ := blA_iff.1 h
  obtain ⟨q1, q2, q3, q4, q5, q6, q7, q8, q9, q10, q11⟩ := bl_small h0 h1 ha h2 h3 hb
  have r := hard_range h0 h1 h2 h3
  have e1 : 2 * s % 18446744073709551616 = 2 * s := by omega
  simp only [bcond_iff, okAns, eqXs, eqX, eqL, eqc, veq, eqUs, forall_eq, true_and, and_true, iaddU, isubU, imulU, eMl, eMr, eAl, eAr, eSl, eSr, ile, ige, igt, ilt, ieq, ge_iff_le, gt_iff_lt, decide_eq_true_eq, decide_eq_false_iff_not, beq_iff_eq, beq_eq_false_iff_ne, ne_eq, Int.mul_one, e1]
  unfold hardI at *
  refine ⟨fun c => ?_, fun c => ?_⟩
  · rw [if_pos c] at *; exact modM r.1 (by omega)
  · rw [if_neg c] at *; exact modM r.1 (by omega)
theorem a_rhard6 : Answers2 33 s_hard6 := by
  intro al ans h hq
  unfold s_hard6 at h
  split at h <;> try (simp at h; done)
  rename_i s a d b
  simp only [Option.some.injEq] at h
  subst h
  have hq := asked hq
  refine QR.does_of_eval (O := (QR.orc [])) QR.orc_nil mixed (QR.noLoops) Tryd.func33 (by kernel_rfl) (by kernel_rfl) (by simp) ?_
  rw [rhard6_vc]
  obtain ⟨h, _⟩ := hq
  obtain ⟨h0, h1, ha, h2, h3, hb⟩ := blA_iff.1 h
  obtain ⟨q1, q2, q3, q4, q5, q6, q7, q8, q9, q10, q11⟩ := bl_small h0 h1 ha h2 h3 hb
  have r := hard_range h0 h1 h2 h3
  have e1 : 2 * s % 18446744073709551616 = 2 * s := by omega
  simp only [bcond_iff, okAns, eqXs, eqX, eqL, eqc, veq, eqUs, forall_eq, true_and, and_true, iaddU, isubU, imulU, eMl, eMr, eAl, eAr, eSl, eSr, ile, ige, igt, ilt, ieq, ge_iff_le, gt_iff_lt, decide_eq_true_eq, decide_eq_false_iff_not, beq_iff_eq, beq_eq_false_iff_ne, ne_eq, Int.mul_one, e1]
  unfold hardI at *
  refine ⟨fun c => ?_, fun c => ?_⟩
  · rw [if_pos c] at *; exact modM r.1 (by omega)
  · rw [if_neg c] at *; exact modM r.1 (by omega)
theorem a_quot6 : Answers2 56 s_quot6 := by
  intro al ans h hq
  unfold s_quot6 at h
  split at h <;> try (simp at h; done)
  rename_i n d
  simp only [Option.some.injEq] at h
  subst h
  have hq := asked hq
  refine QR.does_of_eval (O := (QR.orc [])) QR.orc_nil mixed (QR.noLoops) Tryd.func56 (by kernel_rfl) (by kernel_rfl) (by simp) ?_
  rw [quot6_vc]
  simp only [bcond_iff, okAns, eqXs, eqX, eqL, eqc, veq, eqUs, forall_eq, true_and, and_true, iaddU, isubU, imulU, eMl, eMr, eAl, eAr, eSl, eSr, ile, ige, igt, ilt, ieq, ge_iff_le, gt_iff_lt, decide_eq_true_eq, decide_eq_false_iff_not, beq_iff_eq, beq_eq_false_iff_ne, ne_eq, Int.mul_one, and_self]
theorem a_whole6 : Answers2 40 s_whole6 := by
  intro al ans h hq
  unfold s_whole6 at h
  split at h <;> try (simp at h; done)
  rename_i n
  simp only [Option.some.injEq] at h
  subst h
  have hq := asked hq
  refine QR.does_of_eval (O := o_q6) (QR.orc_cons a_quot6 QR.orc_nil) mixed (QR.noLoops) Tryd.func40 (by kernel_rfl) (by kernel_rfl) (by simp) ?_
  rw [whole6_vc]
  simp only [bcond_iff, okAns, eqXs, eqX, eqL, eqc, veq, eqUs, forall_eq, true_and, and_true, iaddU, isubU, imulU, eMl, eMr, eAl, eAr, eSl, eSr, ile, ige, igt, ilt, ieq, ge_iff_le, gt_iff_lt, decide_eq_true_eq, decide_eq_false_iff_not, beq_iff_eq, beq_eq_false_iff_ne, ne_eq, Int.mul_one, and_self]
theorem a_rwhole6 : Answers2 32 s_whole6 := by
  intro al ans h hq
  unfold s_whole6 at h
  split at h <;> try (simp at h; done)
  rename_i n
  simp only [Option.some.injEq] at h
  subst h
  have hq := asked hq
  refine QR.does_of_eval (O := (QR.orc [])) QR.orc_nil mixed (QR.noLoops) Tryd.func32 (by kernel_rfl) (by kernel_rfl) (by simp) ?_
  rw [rwhole6_vc]
  simp only [bcond_iff, okAns, eqXs, eqX, eqL, eqc, veq, eqUs, forall_eq, true_and, and_true, iaddU, isubU, imulU, eMl, eMr, eAl, eAr, eSl, eSr, ile, ige, igt, ilt, ieq, ge_iff_le, gt_iff_lt, decide_eq_true_eq, decide_eq_false_iff_not, beq_iff_eq, beq_eq_false_iff_ne, ne_eq, Int.mul_one, and_self]
theorem a_dodge6 : Answers2 42 s_dodge6 := by
  intro al ans h hq
  unfold s_dodge6 at h
  split at h <;> try (simp at h; done)
  rename_i s a d b
  simp only [Option.some.injEq] at h
  subst h
  have hq := asked hq
  refine QR.does_of_eval (O := o_w6) (QR.orc_cons a_quot6 (QR.orc_cons a_whole6 QR.orc_nil)) mixed (QR.noLoops) Tryd.func42 (by kernel_rfl) (by kernel_rfl) (by simp) ?_
  rw [dodge6_vc]
  obtain ⟨h, _⟩ := hq
  obtain ⟨h0, h1, ha, h2, h3, hb⟩ := blA_iff.1 h
  obtain ⟨q1, q2, q3, q4, q5, q6, q7, q8, q9, q10, q11⟩ := bl_small h0 h1 ha h2 h3 hb
  have r := dodge_range h0 h1 h2 h3
  have eb : b * (a - s) = a * b - s * b := by grind
  have e1 : b * (a - s) % 18446744073709551616 = b * (a - s) := modM (by omega) (by omega)
  have e2 : d * a % 18446744073709551616 = d * a := modM (by omega) (by omega)
  have e3 : a * b % 18446744073709551616 = a * b := modM (by omega) (by omega)
  have e4 : (a - s) % 18446744073709551616 = a - s := modM (by omega) (by omega)
  simp only [bcond_iff, okAns, eqXs, eqX, eqL, eqc, veq, eqUs, forall_eq, true_and, and_true, iaddU, isubU, imulU, eMl, eMr, eAl, eAr, eSl, eSr, ile, ige, igt, ilt, ieq, ge_iff_le, gt_iff_lt, decide_eq_true_eq, decide_eq_false_iff_not, beq_iff_eq, beq_eq_false_iff_ne, ne_eq, Int.mul_one, e1, e2, e3, e4]
  unfold dodgeP dodgeD at *
  refine ⟨fun c => ?_, fun c => ⟨fun k => ?_, fun k => ?_⟩⟩
  · simp [c]
  · simp [c, k]
  · simp only [c, k, if_false] at r ⊢
    exact ⟨modM r.2.1 (big48 (show a - s ≤ 65535 by omega) r.2.2 q9 q10), trivial⟩
theorem a_burn6 : Answers2 43 s_burn6 := by
  intro al ans h hq
  unfold s_burn6 at h
  split at h <;> try (simp at h; done)
  rename_i s a d b
  simp only [Option.some.injEq] at h
  subst h
  have hq := asked hq
  refine QR.does_of_eval (O := o_w6) (QR.orc_cons a_quot6 (QR.orc_cons a_whole6 QR.orc_nil)) mixed (QR.noLoops) Tryd.func43 (by kernel_rfl) (by kernel_rfl) (by simp) ?_
  rw [burn6_vc]
  obtain ⟨h, _⟩ := hq
  obtain ⟨h0, h1, ha, h2, h3, hb⟩ := blA_iff.1 h
  obtain ⟨q1, q2, q3, q4, q5, q6, q7, q8, q9, q10, q11⟩ := bl_small h0 h1 ha h2 h3 hb
  have r := burn_range h0 h1 h2 h3
  have eb : (b - d) * a = a * b - d * a := by grind
  have e1 : (b - d) * a % 18446744073709551616 = (b - d) * a := modM (by omega) (by omega)
  have e2 : s * b % 18446744073709551616 = s * b := modM (by omega) (by omega)
  have e3 : a * b % 18446744073709551616 = a * b := modM (by omega) (by omega)
  simp only [bcond_iff, okAns, eqXs, eqX, eqL, eqc, veq, eqUs, forall_eq, true_and, and_true, iaddU, isubU, imulU, eMl, eMr, eAl, eAr, eSl, eSr, ile, ige, igt, ilt, ieq, ge_iff_le, gt_iff_lt, decide_eq_true_eq, decide_eq_false_iff_not, beq_iff_eq, beq_eq_false_iff_ne, ne_eq, Int.mul_one, e1, e2, e3]
  unfold burnP burnD at *
  refine ⟨fun c => ?_, fun c => ⟨fun k => ?_, fun k => ?_⟩⟩
  · simp [c]
  · simp [c, k]
  · simp only [c, k, if_false] at r ⊢
    exact ⟨modM r.2.1 (big48 (show s ≤ 65535 by omega) r.2.2 q9 q10), trivial⟩
theorem a_soft6 : Answers2 44 s_soft6 := by
  intro al ans h hq
  unfold s_soft6 at h
  split at h <;> try (simp at h; done)
  rename_i s a d b
  simp only [Option.some.injEq] at h
  subst h
  have hq := asked hq
  refine QR.does_of_eval (O := o_w6) (QR.orc_cons a_quot6 (QR.orc_cons a_whole6 QR.orc_nil)) mixed (QR.noLoops) Tryd.func44 (by kernel_rfl) (by kernel_rfl) (by simp) ?_
  rw [soft6_vc]
  obtain ⟨h, _⟩ := hq
  obtain ⟨h0, h1, ha, h2, h3, hb⟩ := blA_iff.1 h
  obtain ⟨q1, q2, q3, q4, q5, q6, q7, q8, q9, q10, q11⟩ := bl_small h0 h1 ha h2 h3 hb
  have r := soft_range h0 h1 h2 h3
  have e1 : 2 * s % 18446744073709551616 = 2 * s := by omega
  have e2 : 4 * d % 18446744073709551616 = 4 * d := by omega
  simp only [bcond_iff, okAns, eqXs, eqX, eqL, eqc, veq, eqUs, forall_eq, true_and, and_true, iaddU, isubU, imulU, eMl, eMr, eAl, eAr, eSl, eSr, ile, ige, igt, ilt, ieq, ge_iff_le, gt_iff_lt, decide_eq_true_eq, decide_eq_false_iff_not, beq_iff_eq, beq_eq_false_iff_ne, ne_eq, Int.mul_one, e1, e2]
  unfold softP softQ softR softD at *
  refine ⟨fun c => ?_, fun c => ⟨fun k => ?_, fun k => ⟨fun l => ?_, fun l => ?_⟩⟩⟩
  · simp [c]
  · simp only [c, k, if_false, if_true] at r ⊢
    exact ⟨modM r.2.1 (big48 (show b ≤ 65535 by omega) (r.2.2.2.2 trivial trivial) q9 q10), trivial, trivial, trivial⟩
  · simp only [c, k, l, if_false, if_true] at r ⊢
    have r3 := soft3_lt h0 h1 ha h2 l hb
    have bb := Int.mul_le_mul hb hb (by omega) (by decide)
    have bb0 := Int.mul_nonneg (show 0 ≤ b by omega) (show 0 ≤ b by omega)
    have ee : d * a * b * b = d * a * (b * b) := Int.mul_assoc _ _ _
    rw [ee]
    exact ⟨modM r.2.1 r3.2.2, trivial, trivial, modM bb0 (by omega)⟩
  · simp only [c, k, l, if_false] at r ⊢
    have db := Int.mul_le_mul (show d ≤ 65535 by omega) hb (by omega) (by decide)
    have db0 := Int.mul_nonneg h2 (show 0 ≤ b by omega)
    have y := soft_root h0 h1 h2 h3 (by omega)
    exact ⟨modM r.2.1 (by omega), modM (by omega) (by omega), modM db0 (by omega), trivial⟩
end Go.Proofs.YtafaadnjkkkafaaDoor
namespace Go.Proofs.YtafaadnjkkkafaaDoor
open Go.RowKit PR QR
set_option linter.unusedVariables false
set_option linter.unusedSimpArgs false

theorem bl_at {k s a d b : Int} (ok : blOk k s a d b = true) : blP k s a d b = blT k s a d b ∧ blQ k s a d b = (if k = 10 then softQ s a d b else 0) ∧ blR k s a d b = (if k = 10 then softR s a d b else 0) ∧
    blD k s a d b = (if k = 7 then dodgeD s a d b else if k = 8 then burnD s a d b else if k = 10 then softD s a d b else 1) := by
  unfold blP blQ blR blD; rw [ok]; exact ⟨rfl, rfl, rfl, rfl⟩
theorem bl_no {k s a d b : Int} (ok : blOk k s a d b = false) : blP k s a d b = 0 ∧ blQ k s a d b = 0 ∧ blR k s a d b = 0 ∧ blD k s a d b = 0 := by
  unfold blP blQ blR blD; rw [ok]; exact ⟨rfl, rfl, rfl, rfl⟩
theorem modes {k : Int} (h : 1 ≤ k ∧ k ≤ 12) : k = 1 ∨ k = 2 ∨ k = 3 ∨ k = 4 ∨ k = 5 ∨ k = 6 ∨ k = 7 ∨ k = 8 ∨ k = 9 ∨ k = 10 ∨ k = 11 ∨ k = 12 := by omega
theorem iimin_eq (a b : Int) : iimin a b = minI a b := by unfold iimin minI; split <;> split <;> omega
theorem iimax_eq (a b : Int) : iimax a b = maxI a b := by unfold iimax maxI; split <;> split <;> omega
theorem bl_lt {k s a d b : Int} (hk : 1 ≤ k ∧ k ≤ 12) (h0 : 0 ≤ s) (h1 : s ≤ a) (ha : a ≤ 65535) (h2 : 0 ≤ d) (h3 : d ≤ b) (hb : b ≤ 65535) : 0 ≤ blT k s a d b ∧ blT k s a d b < 18446744073709551616 := by
  obtain ⟨q1, q2, q3, q4, q5, q6, q7, q8, q9, q10, q11⟩ := bl_small h0 h1 ha h2 h3 hb
  by_cases k7 : k = 7
  · subst k7
    have r := dodge_range h0 h1 h2 h3
    have : dodgeD s a d b ≤ 65535 := by unfold dodgeD; split; omega; split <;> omega
    exact ⟨r.2.1, big48 this r.2.2 q9 q10⟩
  by_cases k8 : k = 8
  · subst k8
    have r := burn_range h0 h1 h2 h3
    have : burnD s a d b ≤ 65535 := by unfold burnD; split; omega; split <;> omega
    exact ⟨r.2.1, big48 this r.2.2 q9 q10⟩
  by_cases k10 : k = 10
  · subst k10
    have r := soft_range h0 h1 h2 h3
    show 0 ≤ softP s a d b ∧ softP s a d b < _
    refine ⟨r.2.1, ?_⟩
    unfold softP softQ softR softD at *
    by_cases c1 : b = 0
    · simp [c1]
    · by_cases c2 : 2 * s ≤ a
      · simp only [c1, c2, if_false, if_true] at r ⊢
        exact big48 hb (r.2.2.2.2 trivial trivial) q9 q10
      · by_cases c3 : 4 * d ≤ b
        · simp only [c1, c2, c3, if_false, if_true] at r ⊢
          exact (soft3_lt h0 h1 ha h2 c3 hb).2.2
        · simp only [c1, c2, c3, if_false] at r ⊢
          have y := soft_root h0 h1 h2 h3 (by omega)
          omega
  · unfold blT
    obtain ⟨z1, z2⟩ := hard_range h0 h1 h2 h3
    obtain ⟨z3, z4⟩ := hard_range h2 h3 h0 h1
    rw [Int.mul_comm b a] at z4
    have mm := min_max (s * b) (d * a)
    simp only [k7, k8, k10, if_false]
    split
    · omega
    split
    · omega
    split
    · omega
    split
    · omega
    split
    · omega
    split
    · omega
    split
    · omega
    split
    · omega
    · have e : 2 * s * d = 2 * (s * d) := Int.mul_assoc 2 s d
      omega

theorem a_term6 : Answers2 30 s_term6 := by
  intro al ans h hq
  unfold s_term6 at h
  split at h <;> try (simp at h; done)
  rename_i k s a d b
  simp only [Option.some.injEq] at h
  subst h
  have hq := asked hq
  refine QR.does_of_eval (O := o_t6) (QR.orc_cons a_whole6 (QR.orc_cons a_hard6 (QR.orc_cons a_dodge6 (QR.orc_cons a_burn6 (QR.orc_cons a_soft6 QR.orc_nil))))) mixed (QR.noLoops) Tryd.func30 (by kernel_rfl) (by kernel_rfl) (by simp) ?_
  rw [term6_vc]
  obtain ⟨hk, h, _⟩ := hq
  obtain ⟨h0, h1, ha, h2, h3, hb⟩ := blA_iff.1 h
  have h' : blA d b s a = true := blA_iff.2 ⟨h2, h3, hb, h0, h1, ha⟩
  have hk := of_decide_eq_true hk
  obtain ⟨q1, q2, q3, q4, q5, q6, q7, q8, q9, q10, q11⟩ := bl_small h0 h1 ha h2 h3 hb
  obtain ⟨b1, b2, b3, b4⟩ := bl_at (decide_eq_true ⟨hk.1, hk.2, h1, h3⟩ : blOk k s a d b = true)
  have x1 : s * b + d * (a - s) = s * b + d * a - s * d := by grind
  have x2 : s * (b - d) + d * (a - s) = s * b + d * a - 2 * s * d := by grind
  have x3 : 2 * s * d = 2 * (s * d) := Int.mul_assoc 2 s d
  have mm := min_max (s * b) (d * a)
  have e1 : s * d % 18446744073709551616 = s * d := modM (by omega) (by omega)
  have e2 : s * b % 18446744073709551616 = s * b := modM (by omega) (by omega)
  have e3 : d * a % 18446744073709551616 = d * a := modM (by omega) (by omega)
  have e4 : (s * b + d * a - s * d) % 18446744073709551616 = s * b + d * a - s * d := modM (by omega) (by omega)
  have e5 : (s * b + d * a - 2 * s * d) % 18446744073709551616 = s * b + d * a - 2 * s * d := modM (by omega) (by omega)
  have e6 : (maxI (s * b) (d * a) - minI (s * b) (d * a)) % 18446744073709551616 = maxI (s * b) (d * a) - minI (s * b) (d * a) := modM (by omega) (by omega)
  rw [b1, b2, b3, b4]
  unfold blT
  rcases modes hk with rfl | rfl | rfl | rfl | rfl | rfl | rfl | rfl | rfl | rfl | rfl | rfl <;> simp only [bcond_iff, okAns, eqXs, eqX, eqL, eqc, veq, eqUs, forall_eq, true_and, and_true, iaddU, isubU, imulU, eMl, eMr, eAl, eAr, eSl, eSr, ile, ige, igt, ilt, ieq, ge_iff_le, gt_iff_lt, decide_eq_true_eq, decide_eq_false_iff_not, beq_iff_eq, beq_eq_false_iff_ne, ne_eq, Int.mul_one, false_implies, true_implies, implies_true, not_false_eq_true, not_true_eq_false, if_true, if_false, reduceIte, Int.reduceEq, Int.reduceLE, Int.reduceMul, and_self, iimin_eq, iimax_eq, x1, x2, e1, e2, e3, e4, e5, e6, h, h']

theorem knownB {m : Int} : band (ige m 1) (ile m 12) = decide (1 ≤ m ∧ m ≤ 12) := by
  unfold band ige ile; simp
theorem a_known6 : Answers2 28 s_known6 := by
  intro al ans h hq
  unfold s_known6 at h
  split at h <;> try (simp at h; done)
  rename_i m
  simp only [Option.some.injEq] at h
  subst h
  have hq := asked hq
  refine QR.does_of_eval (O := (QR.orc [])) QR.orc_nil mixed (QR.noLoops) Tryd.func28 (by kernel_rfl) (by kernel_rfl) (by simp) ?_
  rw [known6_vc]
  simp only [bcond_iff, okAns, eqXs, eqX, eqL, eqc, veq, eqUs, forall_eq, true_and, and_true, iaddU, isubU, imulU, eMl, eMr, eAl, eAr, eSl, eSr, ile, ige, igt, ilt, ieq, ge_iff_le, gt_iff_lt, decide_eq_true_eq, decide_eq_false_iff_not, beq_iff_eq, beq_eq_false_iff_ne, ne_eq, Int.mul_one]
  refine ⟨fun c => ?_, fun c => ?_⟩
  · simp [band, c]
  · simp [band, c]
theorem a_exact6 : Answers2 20 s_bl := by
  intro al ans h hq
  unfold s_bl at h
  split at h <;> try (simp at h; done)
  rename_i k s a d b
  simp only [Option.some.injEq] at h
  subst h
  have hq := asked hq
  refine QR.does_of_eval (O := o_x6) (QR.orc_cons a_known6 (QR.orc_cons a_term6 QR.orc_nil)) mixed (QR.noLoops) Tryd.func20 (by kernel_rfl) (by kernel_rfl) (by simp) ?_
  rw [exact6_vc]
  obtain ⟨g1, g2, g3, g4, _⟩ := hq
  rw [in16_iff] at g1 g2 g3 g4
  rw [u64_id g1.1 (by omega), u64_id g2.1 (by omega), u64_id g3.1 (by omega), u64_id g4.1 (by omega), knownB]
  simp only [bcond_iff, okAns, eqXs, eqX, eqL, eqc, veq, eqUs, forall_eq, true_and, and_true, bnot, igt, gt_iff_lt, Bool.not_eq_true', Bool.not_eq_false', decide_eq_true_eq, decide_eq_false_iff_not]
  refine ⟨fun c => ?_, fun c => ⟨fun e => ?_, fun e => ⟨fun f => ?_, fun f => ?_⟩⟩⟩
  · have no : blOk k s a d b = false := decide_eq_false (by omega)
    obtain ⟨z1, z2, z3, z4⟩ := bl_no no
    simp [z1, z2, z3, z4, no]
  · have no : blOk k s a d b = false := decide_eq_false (by omega)
    obtain ⟨z1, z2, z3, z4⟩ := bl_no no
    simp [z1, z2, z3, z4, no]
  · have no : blOk k s a d b = false := decide_eq_false (by omega)
    obtain ⟨z1, z2, z3, z4⟩ := bl_no no
    simp [z1, z2, z3, z4, no]
  · have ok : blOk k s a d b = true := decide_eq_true (by omega)
    have c1 : modeB k = true := decide_eq_true c
    have c2 : blA s a d b = true := blA_iff.2 (by omega)
    simp [ok, c1, c2]

/-- sizes of a term's parts -/
theorem bl_in {k s a d b : Int} (h0 : 0 ≤ s) (ha : a ≤ 65535) (h2 : 0 ≤ d) (hb : b ≤ 65535) : inU (blP k s a d b) = true ∧ inU (blQ k s a d b) = true ∧ inU (blR k s a d b) = true ∧ inU (blD k s a d b) = true := by
  simp only [inU_iff]
  cases ok : blOk k s a d b
  · obtain ⟨z1, z2, z3, z4⟩ := bl_no ok
    rw [z1, z2, z3, z4]
    decide
  · have g := of_decide_eq_true ok
    have f := bl_facts (s := s) (a := a) (d := d) (b := b) ⟨g.1, g.2.1⟩ h0 g.2.2.1 ha h2 g.2.2.2 hb
    have l := bl_lt (s := s) (a := a) (d := d) (b := b) ⟨g.1, g.2.1⟩ h0 g.2.2.1 ha h2 g.2.2.2 hb
    rw [← (bl_at ok).1] at l
    omega
theorem inU_zero : inU 0 = true := rfl
theorem stOk_iff {k s d m : Int} (h0 : 0 ≤ s) (hm : m ≤ 65535) : stOk6 k s d m = true ↔ blOk k s m d m = true ∧ m ≠ 0 := by unfold stOk6; simp
theorem a_str6 : Answers2 23 s_str6 := by
  intro al ans h hq
  unfold s_str6 at h
  split at h <;> try (simp at h; done)
  rename_i k s d m
  simp only [Option.some.injEq] at h
  subst h
  have hq := asked hq
  refine QR.does_of_eval (O := o_s6) (QR.orc_cons a_exact6 (QR.orc_cons (up a_half3) QR.orc_nil)) mixed (QR.noLoops) Tryd.func23 (by kernel_rfl) (by kernel_rfl) (by simp) ?_
  rw [str6_vc]
  obtain ⟨g1, g2, g3, _⟩ := hq
  have w1 := in16_iff.1 g1
  have w2 := in16_iff.1 g2
  have w3 := in16_iff.1 g3
  obtain ⟨z1, z2, z3, z4⟩ := bl_in (k := k) (s := s) (a := m) (d := d) (b := m) w1.1 (by omega) w2.1 (by omega)
  simp only [bcond_iff, okAns, eqXs, eqX, eqL, eqc, veq, eqUs, forall_eq, true_and, and_true, bnot, Bool.not_eq_true', Bool.not_eq_false', g1, g2, g3, z1, z2, z3, inU_mul, inU_zero, ieq, beq_iff_eq, beq_eq_false_iff_ne, ne_eq]
  refine ⟨fun c => ?_, fun c => ⟨fun e => ?_, fun e => ?_⟩⟩
  · have no : stOk6 k s d m = false := by unfold stOk6; rw [c]; rfl
    simp [stV6, no]
  · have no : stOk6 k s d m = false := by unfold stOk6; rw [c]; simp [e]
    simp [stV6, no]
  · have ok : stOk6 k s d m = true := by unfold stOk6; rw [c]; simp [e]
    simp [stV6, ok, rdV]
/- names -/
theorem mname_known {m : Int} : bnot (seqB (mname m) (bs [])) = decide (1 ≤ m ∧ m ≤ 12) := by
  by_cases h : 1 ≤ m ∧ m ≤ 12
  · rcases modes h with rfl | rfl | rfl | rfl | rfl | rfl | rfl | rfl | rfl | rfl | rfl | rfl <;> rfl
  · have e : mname m = bs [] := by unfold mname; rw [if_neg (by omega), if_neg (by omega), if_neg (by omega), if_neg (by omega), if_neg (by omega), if_neg (by omega), if_neg (by omega), if_neg (by omega), if_neg (by omega), if_neg (by omega), if_neg (by omega), if_neg (by omega)]
    rw [e, decide_eq_false h]; rfl
theorem mname_none {m : Int} (h : ¬ (1 ≤ m ∧ m ≤ 12)) : mname m = bs [] := by unfold mname; rw [if_neg (by omega), if_neg (by omega), if_neg (by omega), if_neg (by omega), if_neg (by omega), if_neg (by omega), if_neg (by omega), if_neg (by omega), if_neg (by omega), if_neg (by omega), if_neg (by omega), if_neg (by omega)]
theorem a_rmname : Answers2 15 s_mname := by
  intro al ans h hq
  unfold s_mname at h
  split at h <;> try (simp at h; done)
  rename_i m
  simp only [Option.some.injEq] at h
  subst h
  have hq := asked hq
  refine QR.does_of_eval (O := (QR.orc [])) QR.orc_nil mixed (QR.noLoops) Tryd.func15 (by kernel_rfl) (by kernel_rfl) (by simp) ?_
  rw [rmname_vc]
  simp only [bcond_iff, okAns, eqXs, eqX, eqc, veq, eqUs, forall_eq, true_and, and_true, ilt, ile, ige, ge_iff_le, decide_eq_true_eq, decide_eq_false_iff_not]
  refine ⟨fun c => ?_, fun c => ⟨fun e => ?_, fun e => ?_⟩⟩
  · exact (mname_none (by omega)).symm
  · exact (mname_none (by omega)).symm
  · refine ⟨by omega, ?_⟩
    rcases modes (k := m) (by omega) with rfl | rfl | rfl | rfl | rfl | rfl | rfl | rfl | rfl | rfl | rfl | rfl <;> rfl
theorem a_ismode : Answers2 31 s_known6 := by
  intro al ans h hq
  unfold s_known6 at h
  split at h <;> try (simp at h; done)
  rename_i m
  simp only [Option.some.injEq] at h
  subst h
  have hq := asked hq
  refine QR.does_of_eval (O := o_rn6) (QR.orc_cons a_rmname QR.orc_nil) mixed (QR.noLoops) Tryd.func31 (by kernel_rfl) (by kernel_rfl) (by simp) ?_
  rw [ismode_vc]
  simp only [okAns, eqXs, eqX, eqc, veq, eqUs, true_and, and_true, mname_known, knownB]
theorem a_mname : Answers2 17 s_mname := by
  intro al ans h hq
  unfold s_mname at h
  split at h <;> try (simp at h; done)
  rename_i m
  simp only [Option.some.injEq] at h
  subst h
  have hq := asked hq
  refine QR.does_of_eval (O := o_n6) (QR.orc_cons a_known6 QR.orc_nil) mixed (QR.noLoops) Tryd.func17 (by kernel_rfl) (by kernel_rfl) (by simp) ?_
  rw [mname_vc]
  rw [knownB]
  by_cases h : 1 ≤ m ∧ m ≤ 12
  · rcases modes h with rfl | rfl | rfl | rfl | rfl | rfl | rfl | rfl | rfl | rfl | rfl | rfl <;> simp [bcond_iff, bnot, ieq, okAns, eqXs, eqX, eqc, veq, eqUs, mname]
  · simp [bcond_iff, bnot, h, okAns, eqXs, eqX, eqc, veq, eqUs, mname_none]
theorem a_mparse : Answers2 13 s_mparse := by
  intro al ans h hq
  unfold s_mparse at h
  split at h <;> try (simp at h; done)
  rename_i s
  simp only [Option.some.injEq] at h
  subst h
  have hq := asked hq
  refine QR.does_of_eval (O := o_n6) (QR.orc_cons a_known6 QR.orc_nil) mixed ((fun n => bif Nat.beq n 2 then some (.rounds 14) else none)) Tryd.func13 (by kernel_rfl) (by kernel_rfl) (by simp) ?_
  rw [mparse_vc]
  unfold mparse mparsed mname
  simp only [bcond_iff, okAns, eqXs, eqX, eqc, veq, eqUs, true_and, and_true, Int.reduceEq, if_true, if_false]
  simp +contextual
theorem a_rmparse : Answers2 14 s_mparse := by
  intro al ans h hq
  unfold s_mparse at h
  split at h <;> try (simp at h; done)
  rename_i s
  simp only [Option.some.injEq] at h
  subst h
  have hq := asked hq
  refine QR.does_of_eval (O := o_rn6) (QR.orc_cons a_rmname QR.orc_nil) mixed ((fun n => bif Nat.beq n 2 then some (.rounds 14) else none)) Tryd.func14 (by kernel_rfl) (by kernel_rfl) (by simp) ?_
  rw [rmparse_vc]
  unfold mparse mparsed
  simp only [bcond_iff, okAns, eqXs, eqX, eqc, veq, eqUs, true_and, and_true, Int.reduceEq, if_true, if_false]
  simp +contextual
/- a pair of words -/
theorem hl_small {n : Int} (h : 0 ≤ n) (k : n < 18446744073709551616) : hi64 n = 0 ∧ lo64 n = n := by unfold hi64 lo64; omega
theorem wd_in {a b c : Int} (h : wdOk a b c = true) : inU (wdH a b c) = true ∧ inU (wdL a b c) = true ∧ w2 (wdH a b c) (wdL a b c) = a * b * c := by
  have h := of_decide_eq_true h
  exact hilo_range _ h.1 h.2
theorem wd_small {a b c : Int} (h : 0 ≤ a * b * c) (k : a * b * c < 18446744073709551616) : wdOk a b c = true ∧ wdH a b c = 0 ∧ wdL a b c = a * b * c := by
  have := hl_small h k
  exact ⟨decide_eq_true ⟨h, by omega⟩, this.1, this.2⟩
theorem sub_small {x y : Int} (h0 : 0 ≤ y) (h : y ≤ x) (k : x < 18446744073709551616) : wsH 0 x 0 y = 0 ∧ wsL 0 x 0 y = x - y := by
  have e1 : w2 0 x = x := by unfold w2; omega
  have e2 : w2 0 y = y := by unfold w2; omega
  have ok : wsOk 0 x 0 y = true := by unfold wsOk; rw [e1, e2]; exact decide_eq_true h
  unfold wsH wsL
  rw [ok, e1, e2]
  exact hl_small (n := x - y) (by omega) (by omega)
theorem add_small {x y : Int} (h0 : 0 ≤ x) (h : 0 ≤ y) (k : x + y < 18446744073709551616) : waH 0 x 0 y = 0 ∧ waL 0 x 0 y = x + y := by
  have e1 : w2 0 x = x := by unfold w2; omega
  have e2 : w2 0 y = y := by unfold w2; omega
  have ok : waOk 0 x 0 y = true := by unfold waOk; rw [e1, e2]; exact decide_eq_true (by omega)
  unfold waH waL
  rw [ok, e1, e2]
  exact hl_small (n := x + y) (by omega) (by omega)
theorem a_wide6 : Answers2 34 s_wide6 := by
  intro al ans h hq
  unfold s_wide6 at h
  split at h <;> try (simp at h; done)
  rename_i a b c
  simp only [Option.some.injEq] at h
  subst h
  have hq := asked hq
  refine QR.does_of_eval (O := o_rw6) (QR.orc_cons (up a_rmul) (QR.orc_cons (up a_rmulsmall) QR.orc_nil)) mixed (QR.noLoops) Tryd.func34 (by kernel_rfl) (by kernel_rfl) (by simp) ?_
  rw [wide6_vc]
  obtain ⟨g1, g2, g3, g4, _⟩ := hq
  obtain ⟨m1, m2, m3⟩ := wm_spec g1 g2
  have ok : wkOk (wmH a b) (wmL a b) c = true := by unfold wkOk; rw [m3]; exact decide_eq_true (of_decide_eq_true g4).2
  have e1 : wkH (wmH a b) (wmL a b) c = wdH a b c := by unfold wkH wdH; rw [ok, m3]; rfl
  have e2 : wkL (wmH a b) (wmL a b) c = wdL a b c := by unfold wkL wdL; rw [ok, m3]; rfl
  simp [okAns, eqXs, eqX, eqL, eqc, veq, eqUs, g1, g2, g3, m1, m2, e1, e2]
theorem a_rsoft6 : Answers2 36 s_soft6 := by
  intro al ans h hq
  unfold s_soft6 at h
  split at h <;> try (simp at h; done)
  rename_i s a d b
  simp only [Option.some.injEq] at h
  subst h
  have hq := asked hq
  refine QR.does_of_eval (O := o_rs6) (QR.orc_cons a_rwhole6 (QR.orc_cons a_wide6 (QR.orc_cons (up a_rsub) (QR.orc_cons (up a_radd) QR.orc_nil)))) mixed (QR.noLoops) Tryd.func36 (by kernel_rfl) (by kernel_rfl) (by simp) ?_
  rw [rsoft6_vc]
  obtain ⟨h, _⟩ := hq
  obtain ⟨h0, h1, ha, h2, h3, hb⟩ := blA_iff.1 h
  obtain ⟨q1, q2, q3, q4, q5, q6, q7, q8, q9, q10, q11⟩ := bl_small h0 h1 ha h2 h3 hb
  have r := soft_range h0 h1 h2 h3
  have hb0 : 0 ≤ b := by omega
  have e1 : 2 * s % 18446744073709551616 = 2 * s := by omega
  have e2 : 4 * d % 18446744073709551616 = 4 * d := by omega
  have e3 : d * a % 18446744073709551616 = d * a := modM (by omega) (by omega)
  have e4 : (b - d) % 18446744073709551616 = b - d := modM (by omega) (by omega)
  have bb := Int.mul_le_mul hb hb hb0 (by decide)
  have bb0 := Int.mul_nonneg hb0 hb0
  have e5 : b * b % 18446744073709551616 = b * b := modM bb0 (by omega)
  have i1 : inU 1 = true := rfl
  have ib : inU b = true := inU_iff.2 (by omega)
  have ibd : inU (b - d) = true := inU_iff.2 (by omega)
  have ida : inU (d * a) = true := inU_iff.2 (by omega)
  have ibb : inU (b * b) = true := inU_iff.2 (by omega)
  simp only [bcond_iff, okAns, eqXs, eqX, eqL, eqc, veq, eqUs, forall_eq, true_and, and_true, iaddU, isubU, imulU, eMl, eMr, eAl, eAr, eSl, eSr, ile, ige, igt, ilt, ieq, ge_iff_le, gt_iff_lt, decide_eq_true_eq, decide_eq_false_iff_not, beq_iff_eq, beq_eq_false_iff_ne, ne_eq, Int.mul_one, e1, e2, e3, e4, e5, i1, ib, ibd, ida, ibb]
  unfold softP softQ softR softD at *
  refine ⟨fun c => ?_, fun c => ⟨fun k => ?_, fun k => ⟨fun l => ?_, fun l => ?_⟩⟩⟩
  · simp [c]
  · simp only [c, k, if_false, if_true] at r ⊢
    have dd := Int.mul_le_mul (show d ≤ 65535 by omega) (show b - d ≤ 65535 by omega) (by omega) (by decide)
    have dd0 := Int.mul_nonneg h2 (show 0 ≤ b - d by omega)
    have t0 := Int.mul_nonneg (show 0 ≤ a - 2 * s by omega) h2
    have t1 := Int.mul_le_mul (show a - 2 * s ≤ 65535 by omega) (show d ≤ 65535 by omega) h2 (by decide)
    have u0 := Int.mul_nonneg t0 (show 0 ≤ b - d by omega)
    have u1 := Int.mul_le_mul t1 (show b - d ≤ 65535 by omega) (by omega) (by decide)
    have v0 := Int.mul_nonneg q3 hb0
    have v1 := Int.mul_le_mul (show d * a ≤ 4294836225 by omega) hb hb0 (by decide)
    have f1 : (a - 2 * s) * d % 18446744073709551616 = (a - 2 * s) * d := modM t0 (by omega)
    have it : inU ((a - 2 * s) * d) = true := inU_iff.2 (by omega)
    obtain ⟨y1, y2, y3⟩ := wd_small (a := d * a) (b := b) (c := 1) (by rw [Int.mul_one]; exact v0) (by rw [Int.mul_one]; omega)
    obtain ⟨z1, z2, z3⟩ := wd_small (a := (a - 2 * s) * d) (b := b - d) (c := 1) (by rw [Int.mul_one]; exact u0) (by rw [Int.mul_one]; omega)
    rw [Int.mul_one] at y3 z3
    obtain ⟨p1, p2⟩ := sub_small (x := d * a * b) (y := (a - 2 * s) * d * (b - d)) u0 (by omega) (by omega)
    have iy : inU (d * a * b) = true := inU_iff.2 (by omega)
    have iz : inU ((a - 2 * s) * d * (b - d)) = true := inU_iff.2 (by omega)
    simp only [f1, it, y1, y2, y3, z1, z2, z3, p1, p2, iy, iz, inU_zero, and_self]
  · simp only [c, k, l, if_false, if_true] at r ⊢
    obtain ⟨o1, o2, o3⟩ := soft3_lt h0 h1 ha h2 l hb
    have t0 := Int.mul_nonneg (show 0 ≤ 2 * s - a by omega) h2
    have t1 := Int.mul_le_mul (show 2 * s - a ≤ 65535 by omega) (show d ≤ 65535 by omega) h2 (by decide)
    have u0 := Int.mul_nonneg t0 o1
    have v0 := Int.mul_nonneg q3 bb0
    have f1 : (2 * s - a) * d % 18446744073709551616 = (2 * s - a) * d := modM t0 (by omega)
    have f2 : (16 * d * d + 3 * b * b - 12 * d * b) % 18446744073709551616 = 16 * d * d + 3 * b * b - 12 * d * b := modM o1 (by omega)
    have it : inU ((2 * s - a) * d) = true := inU_iff.2 (by omega)
    have io : inU (16 * d * d + 3 * b * b - 12 * d * b) = true := inU_iff.2 (by omega)
    obtain ⟨y1, y2, y3⟩ := wd_small (a := d * a) (b := b * b) (c := 1) (by rw [Int.mul_one]; exact v0) (by rw [Int.mul_one]; omega)
    obtain ⟨z1, z2, z3⟩ := wd_small (a := (2 * s - a) * d) (b := 16 * d * d + 3 * b * b - 12 * d * b) (c := 1) (by rw [Int.mul_one]; exact u0) (by rw [Int.mul_one]; omega)
    rw [Int.mul_one] at y3 z3
    obtain ⟨p1, p2⟩ := add_small v0 u0 o3
    have iy : inU (d * a * (b * b)) = true := inU_iff.2 (by omega)
    have iz : inU ((2 * s - a) * d * (16 * d * d + 3 * b * b - 12 * d * b)) = true := inU_iff.2 (by omega)
    simp only [f1, f2, it, io, y1, y2, y3, z1, z2, z3, p1, p2, iy, iz, inU_zero, and_self]
  · simp only [c, k, l, if_false] at r ⊢
    have db := Int.mul_le_mul (show d ≤ 65535 by omega) hb (by omega) (by decide)
    have db0 := Int.mul_nonneg h2 (show 0 ≤ b by omega)
    have y := soft_root h0 h1 h2 h3 (by omega)
    exact ⟨modM r.2.1 (by omega), modM (by omega) (by omega), modM db0 (by omega), trivial⟩

theorem a_rbl : Answers2 21 s_bl := by
  intro al ans h hq
  unfold s_bl at h
  split at h <;> try (simp at h; done)
  rename_i k s a d b
  simp only [Option.some.injEq] at h
  subst h
  have hq := asked hq
  refine QR.does_of_eval (O := o_rb6) (QR.orc_cons a_ismode (QR.orc_cons a_rwhole6 (QR.orc_cons a_rhard6 (QR.orc_cons a_rsoft6 (QR.orc_cons a_wide6 (QR.orc_cons (up a_rsub) QR.orc_nil)))))) mixed (QR.noLoops) Tryd.func21 (by kernel_rfl) (by kernel_rfl) (by simp) ?_
  rw [rbl_vc]
  obtain ⟨g1, g2, g3, g4, _⟩ := hq
  rw [in16_iff] at g1 g2 g3 g4
  rw [u64_id g1.1 (by omega), u64_id g2.1 (by omega), u64_id g3.1 (by omega), u64_id g4.1 (by omega), knownB, bcond_iff]
  refine ⟨trivial, fun c => ?_, fun c => ?_⟩
  · simp only [bnot, Bool.not_eq_true', decide_eq_false_iff_not] at c
    have no : blOk k s a d b = false := decide_eq_false (by omega)
    obtain ⟨z1, z2, z3, z4⟩ := bl_no no
    simp [okAns, eqXs, eqX, eqL, eqc, veq, eqUs, z1, z2, z3, z4, no]
  simp only [bnot, Bool.not_eq_false', decide_eq_true_eq] at c
  rw [bcond_iff]
  refine ⟨fun e => ?_, fun e => ?_⟩
  · simp only [igt, gt_iff_lt, decide_eq_true_eq] at e
    have no : blOk k s a d b = false := decide_eq_false (by omega)
    obtain ⟨z1, z2, z3, z4⟩ := bl_no no
    simp [okAns, eqXs, eqX, eqL, eqc, veq, eqUs, z1, z2, z3, z4, no]
  simp only [igt, gt_iff_lt, decide_eq_false_iff_not] at e
  rw [bcond_iff]
  refine ⟨trivial, fun f => ?_, fun f => ?_⟩
  · simp only [igt, gt_iff_lt, decide_eq_true_eq] at f
    have no : blOk k s a d b = false := decide_eq_false (by omega)
    obtain ⟨z1, z2, z3, z4⟩ := bl_no no
    simp [okAns, eqXs, eqX, eqL, eqc, veq, eqUs, z1, z2, z3, z4, no]
  simp only [igt, gt_iff_lt, decide_eq_false_iff_not] at f
  have ok : blOk k s a d b = true := decide_eq_true (by omega)
  have h : blA s a d b = true := blA_iff.2 (by omega)
  have h' : blA d b s a = true := blA_iff.2 (by omega)
  obtain ⟨h0, h1, ha, h2, h3, hb⟩ := blA_iff.1 h
  obtain ⟨q1, q2, q3, q4, q5, q6, q7, q8, q9, q10, q11⟩ := bl_small h0 h1 ha h2 h3 hb
  obtain ⟨b1, b2, b3, b4⟩ := bl_at ok
  have x3 : 2 * s * d = 2 * (s * d) := Int.mul_assoc 2 s d
  have mm := min_max (s * b) (d * a)
  have e1 : s * d % 18446744073709551616 = s * d := modM (by omega) (by omega)
  have e2 : s * b % 18446744073709551616 = s * b := modM (by omega) (by omega)
  have e3 : d * a % 18446744073709551616 = d * a := modM (by omega) (by omega)
  have e4 : (s * b + d * a - s * d) % 18446744073709551616 = s * b + d * a - s * d := modM (by omega) (by omega)
  have e5 : (s * b + d * a - 2 * s * d) % 18446744073709551616 = s * b + d * a - 2 * s * d := modM (by omega) (by omega)
  have e6 : (maxI (s * b) (d * a) - minI (s * b) (d * a)) % 18446744073709551616 = maxI (s * b) (d * a) - minI (s * b) (d * a) := modM (by omega) (by omega)
  have e7 : a * b % 18446744073709551616 = a * b := modM (by omega) (by omega)
  have eb : b * (a - s) = a * b - s * b := by grind
  have ed : (b - d) * a = a * b - d * a := by grind
  have e8 : b * (a - s) % 18446744073709551616 = b * (a - s) := modM (by omega) (by omega)
  have e9 : (b - d) * a % 18446744073709551616 = (b - d) * a := modM (by omega) (by omega)
  have e10 : (a - s) % 18446744073709551616 = a - s := modM (by omega) (by omega)
  have e11 : (b - d) % 18446744073709551616 = b - d := modM (by omega) (by omega)
  have ia : inU a = true := inU_iff.2 (by omega)
  have ib : inU b = true := inU_iff.2 (by omega)
  have is : inU s = true := inU_iff.2 (by omega)
  have id : inU d = true := inU_iff.2 (by omega)
  have ibd : inU (b - d) = true := inU_iff.2 (by omega)
  have aa := Int.mul_le_mul ha ha (by omega) (by decide)
  have aa0 := Int.mul_nonneg (show 0 ≤ a by omega) (show 0 ≤ a by omega)
  have n1 := Int.mul_nonneg aa0 h2
  have n2 := Int.mul_le_mul aa (show d ≤ 65535 by omega) h2 (by decide)
  obtain ⟨w1, w2, w3⟩ := wd_small (a := a) (b := a) (c := d) n1 (by omega)
  have n3 := Int.mul_nonneg q9 h0
  have n4 := Int.mul_le_mul q10 (show s ≤ 65535 by omega) h0 (by decide)
  obtain ⟨w4, w5, w6⟩ := wd_small (a := a) (b := b) (c := s) n3 (by omega)
  have n5 := Int.mul_nonneg (show 0 ≤ (b - d) * a by omega) (show 0 ≤ a by omega)
  have n6 := Int.mul_le_mul (show (b - d) * a ≤ 4294836225 by omega) ha (show 0 ≤ a by omega) (by decide)
  obtain ⟨w7, w8, w9⟩ := wd_small (a := b - d) (b := a) (c := a) n5 (by omega)
  have iw6 : inU (a * b * s) = true := inU_iff.2 (by omega)
  have iw9 : inU ((b - d) * a * a) = true := inU_iff.2 (by omega)
  have ss : ¬ s * b ≤ (b - d) * a → wsH 0 (a * b * s) 0 ((b - d) * a * a) = 0 ∧ wsL 0 (a * b * s) 0 ((b - d) * a * a) = a * b * s - (b - d) * a * a := by
    intro h
    have := Int.mul_le_mul_of_nonneg_right (show (b - d) * a ≤ s * b by omega) (show 0 ≤ a by omega)
    have e : s * b * a = a * b * s := by grind
    exact sub_small n5 (by omega) (by omega)
  rw [b1, b2, b3, b4, ok]
  unfold blT
  rcases modes c with rfl | rfl | rfl | rfl | rfl | rfl | rfl | rfl | rfl | rfl | rfl | rfl <;> simp only [bcond_iff, okAns, eqXs, eqX, eqL, eqc, veq, eqUs, forall_eq, true_and, and_true, iaddU, isubU, imulU, eMl, eMr, eAl, eAr, eSl, eSr, ile, ige, igt, ilt, ieq, ge_iff_le, gt_iff_lt, decide_eq_true_eq, decide_eq_false_iff_not, beq_iff_eq, beq_eq_false_iff_ne, ne_eq, Int.mul_one, false_implies, true_implies, implies_true, not_false_eq_true, not_true_eq_false, if_true, if_false, reduceIte, Int.reduceEq, Int.reduceLE, Int.reduceMul, and_self, iimin_eq, iimax_eq, e1, e2, e3, e4, e5, e6, e7, e8, e9, e10, e11, h, h', ia, ib, is, id, ibd, inU_zero, w1, w2, w3, w4, w5, w6, w7, w8, w9, iw6, iw9]
  · unfold dodgeP dodgeD
    refine ⟨fun c => ?_, fun c => ⟨fun k => ?_, fun k => ?_⟩⟩
    · simp [c]
    · simp [c, k]
    · simp [c, k]
  · unfold burnP burnD
    refine ⟨fun c => ?_, fun c => ⟨fun k => ?_, fun k => ?_⟩⟩
    · simp [c]
    · simp [c, k]
    · simp [c, k, ss k]

theorem a_rstr6 : Answers2 26 s_str6 := by
  intro al ans h hq
  unfold s_str6 at h
  split at h <;> try (simp at h; done)
  rename_i k s d m
  simp only [Option.some.injEq] at h
  subst h
  have hq := asked hq
  refine QR.does_of_eval (O := o_rt6) (QR.orc_cons a_rbl (QR.orc_cons (up a_rhalf3) QR.orc_nil)) mixed (QR.noLoops) Tryd.func26 (by kernel_rfl) (by kernel_rfl) (by simp) ?_
  rw [rstr6_vc]
  obtain ⟨g1, g2, g3, _⟩ := hq
  have w1 := in16_iff.1 g1
  have w2 := in16_iff.1 g2
  have w3 := in16_iff.1 g3
  obtain ⟨z1, z2, z3, z4⟩ := bl_in (k := k) (s := s) (a := m) (d := d) (b := m) w1.1 (by omega) w2.1 (by omega)
  simp only [bcond_iff, okAns, eqXs, eqX, eqL, eqc, veq, eqUs, forall_eq, true_and, and_true, bnot, Bool.not_eq_true', Bool.not_eq_false', g1, g2, g3, z1, z2, z3, inU_mul, inU_zero, ieq, beq_iff_eq, beq_eq_false_iff_ne, ne_eq]
  refine ⟨fun e => ?_, fun e => ⟨fun c => ?_, fun c => ?_⟩⟩
  · have no : stOk6 k s d m = false := by unfold stOk6; simp [e]
    simp [stV6, no]
  · have no : stOk6 k s d m = false := by unfold stOk6; rw [c]; simp [e]
    simp [stV6, no]
  · have ok : stOk6 k s d m = true := by unfold stOk6; rw [c]; simp [e]
    simp [stV6, ok, rdV]
theorem a_rounded6 : Answers2 27 s_rounded6 := by
  intro al ans h hq
  unfold s_rounded6 at h
  split at h <;> try (simp at h; done)
  rename_i h p q r d
  simp only [Option.some.injEq] at h
  subst h
  have hq := asked hq
  refine QR.does_of_eval (O := o_rr6) (QR.orc_cons (up a_rhalf3) QR.orc_nil) mixed (QR.noLoops) Tryd.func27 (by kernel_rfl) (by kernel_rfl) (by simp) ?_
  rw [rounded6_vc]
  obtain ⟨rfl, g1, g2, g3, g4, _⟩ := hq
  simp [okAns, eqXs, eqX, eqc, veq, eqUs, g1, g2, g3, g4, inU_zero, rdV]
theorem a_max16 : Answers2 22 s_max16 := by
  intro al ans h hq
  unfold s_max16 at h
  split at h <;> try (simp at h; done)
  rename_i a b
  simp only [Option.some.injEq] at h
  subst h
  have hq := asked hq
  refine QR.does_of_eval (O := (QR.orc [])) QR.orc_nil mixed (QR.noLoops) Tryd.func22 (by kernel_rfl) (by kernel_rfl) (by simp) ?_
  rw [max16_vc]
  simp only [bcond_iff, okAns, eqXs, eqX, eqL, eqc, veq, eqUs, forall_eq, true_and, and_true, iaddU, isubU, imulU, eMl, eMr, eAl, eAr, eSl, eSr, ile, ige, igt, ilt, ieq, ge_iff_le, gt_iff_lt, decide_eq_true_eq, decide_eq_false_iff_not, beq_iff_eq, beq_eq_false_iff_ne, ne_eq, Int.mul_one]
  unfold mx16
  refine ⟨fun c => ?_, fun c => ?_⟩
  · rw [if_pos c]
  · rw [if_neg c]
end Go.Proofs.YtafaadnjkkkafaaDoor
namespace Go.Proofs.YtafaadnjkkkafaaDoor
open Go.RowKit PR QR
set_option linter.unusedVariables false

def s_yes6 : List AV → Option QR.Ans
  | [] => some ⟨[.c (.v (.bool true))], [], []⟩
  | _ => none
def o_aw6 : QR.Oracle := QR.orc [(23, s_str6), (20, s_bl), (17, s_mname)]
set_option maxRecDepth 100000 in
theorem awake6_vc  (V : List QR.XV → List (List QR.CV) → Prop) : QR.evalBody Tryd.prog (o_aw6) (QR.noLoops) (Tryd.f16.body.getD .skip) Tryd.f16.results.toList Tryd.f16.ntmps [] V = (True ∧ ∀ (i : Int), i = stV6 2 128 128 255 → (in16 128 = true ∧ in16 128 = true ∧ in16 255 = true ∧ True) ∧ ∀ (i_1 : Int), i_1 = stV6 10 255 64 255 → (in16 255 = true ∧ in16 64 = true ∧ in16 255 = true ∧ True) ∧ ∀ (i_2 : Int), i_2 = 0 → ∀ (i_3 : Int), i_3 = blP 7 1 2 1 4 → ∀ (i_4 : Int), i_4 = blQ 7 1 2 1 4 → ∀ (i_5 : Int), i_5 = blR 7 1 2 1 4 → ∀ (i_6 : Int), i_6 = blD 7 1 2 1 4 → (in16 1 = true ∧ in16 2 = true ∧ in16 1 = true ∧ in16 4 = true ∧ True) ∧ bcond (stOk6 2 128 128 255) (bcond (ieq i 64) (bcond (stOk6 10 255 64 255) (bcond (ieq i_1 128) (bcond (blOk 7 1 2 1 4) (bcond (band (band (ieq i_2 0) (band (ieq i_3 4) true)) (band (ieq i_4 0) (band (ieq i_5 0) (band (ieq i_6 1) true)))) (True ∧ True ∧ V [XV.c (CV.v (Value.bool (seqB (mname 9) (bs [104, 97, 114, 100, 45, 108, 105, 103, 104, 116]))))] []) (True ∧ True ∧ V [XV.c (CV.v (Value.bool false))] [])) (True ∧ True ∧ V [XV.c (CV.v (Value.bool false))] [])) (True ∧ True ∧ V [XV.c (CV.v (Value.bool false))] [])) (True ∧ True ∧ V [XV.c (CV.v (Value.bool false))] [])) (True ∧ True ∧ V [XV.c (CV.v (Value.bool false))] [])) (True ∧ True ∧ V [XV.c (CV.v (Value.bool false))] [])) := by
  try delta o_aw6
  try delta s_str6
  try delta s_bl
  try delta s_mname
  generalize @blD = blD
  generalize @blOk = blOk
  generalize @blP = blP
  generalize @blQ = blQ
  generalize @blR = blR
  generalize @in16 = in16
  generalize @mname = mname
  generalize @stOk6 = stOk6
  generalize @stV6 = stV6
  kernel_rfl
def o_law6a : QR.Oracle := QR.orc [(12, QR.lift1 s_mod), (13, s_mparse), (14, s_mparse), (15, s_mname), (17, s_mname), (16, s_yes6)]
set_option maxRecDepth 100000 in
theorem BlendNames_vc (mode : Int) (s : ByteArray) (V : List QR.XV → List (List QR.CV) → Prop) : QR.evalBody Tryd.prog (o_law6a) (QR.noLoops) (Tryd.f3.body.getD .skip) Tryd.f3.results.toList Tryd.f3.ntmps [.x (.c (.v (.int .i64 mode))), .x (.c (.v (.string s)))] V = (True ∧ ∀ (i : Int), i = gmod mode 15 → (modOk 15 = true ∧ True) ∧ ∀ (i_1 : Int), i_1 = mparse s → True ∧ ∀ (i_2 : Int), i_2 = mparse s → True ∧ ∀ (i_3 : Int), i_3 = mparse (mname (isub IntKind.i64 i 1)) → True ∧ ∀ (i_4 : Int), i_4 = mparse (mname (isub IntKind.i64 i 1)) → True ∧ bcond (ieq i_1 i_2) (bcond (beq' (mparsed s) (mparsed s)) (bcond (ieq i_3 i_4) (bcond (beq' (mparsed (mname (isub IntKind.i64 i 1))) (mparsed (mname (isub IntKind.i64 i 1)))) (bcond (seqB (mname mode) (mname mode)) (True ∧ True ∧ V [XV.c (CV.v (Value.bool (seqB (mname (isub IntKind.i64 i 1)) (mname (isub IntKind.i64 i 1)))))] []) (True ∧ True ∧ V [XV.c (CV.v (Value.bool false))] [])) (True ∧ True ∧ V [XV.c (CV.v (Value.bool false))] [])) (True ∧ True ∧ V [XV.c (CV.v (Value.bool false))] [])) (True ∧ True ∧ V [XV.c (CV.v (Value.bool false))] [])) (True ∧ True ∧ V [XV.c (CV.v (Value.bool false))] [])) := by
  try delta o_law6a
  try delta s_mod
  try delta s_mparse
  try delta s_mname
  try delta s_yes6
  generalize @gmod = gmod
  generalize @mname = mname
  generalize @modOk = modOk
  generalize @mparse = mparse
  generalize @mparsed = mparsed
  kernel_rfl
def o_law6b : QR.Oracle := QR.orc [(18, QR.lift1 s_gmax), (12, QR.lift1 s_mod), (19, QR.lift1 s_galpha), (20, s_bl), (21, s_bl), (22, s_max16), (16, s_yes6)]
set_option maxRecDepth 100000 in
theorem BlendExactAgrees_vc (mode s a d b n0 n1 n2 n3 m : Int) (V : List QR.XV → List (List QR.CV) → Prop) : QR.evalBody Tryd.prog (o_law6b) (QR.noLoops) (Tryd.f4.body.getD .skip) Tryd.f4.results.toList Tryd.f4.ntmps [.x (.c (.v (.int .i64 mode))), .x (.c (.v (.int .u16 s))), .x (.c (.v (.int .u16 a))), .x (.c (.v (.int .u16 d))), .x (.c (.v (.int .u16 b))), .x (.agg [.v (.int .i64 n0), .v (.int .i64 n1), .v (.int .i64 n2), .v (.int .i64 n3)]), .x (.c (.v (.int .i64 m)))] V = (True ∧ ∀ (i : Int), i = gxMax m → ∀ (i_1 : Int), i_1 = gmod mode 15 → (modOk 15 = true ∧ True) ∧ ∀ (i_2 : Int), i_2 = gsV n0 (gsV n1 i) → ∀ (i_3 : Int), i_3 = gsV n1 i → (in16 i = true ∧ true = true ∧ true = true ∧ true = true ∧ true = true ∧ True) ∧ ∀ (i_4 : Int), i_4 = gsV n2 (gsV n3 i) → ∀ (i_5 : Int), i_5 = gsV n3 i → (in16 i = true ∧ true = true ∧ true = true ∧ true = true ∧ true = true ∧ True) ∧ ∀ (i : Int), i = 0 → ∀ (i_6 : Int), i_6 = blP (isub IntKind.i64 i_1 1) i_2 i_3 i_4 i_5 → ∀ (i_7 : Int), i_7 = blQ (isub IntKind.i64 i_1 1) i_2 i_3 i_4 i_5 → ∀ (i_8 : Int), i_8 = blR (isub IntKind.i64 i_1 1) i_2 i_3 i_4 i_5 → ∀ (i_9 : Int), i_9 = blD (isub IntKind.i64 i_1 1) i_2 i_3 i_4 i_5 → (in16 i_2 = true ∧ in16 i_3 = true ∧ in16 i_4 = true ∧ in16 i_5 = true ∧ True) ∧ ∀ (i_10 : Int), i_10 = 0 → ∀ (i_11 : Int), i_11 = blP (isub IntKind.i64 i_1 1) i_2 i_3 i_4 i_5 → ∀ (i_12 : Int), i_12 = blQ (isub IntKind.i64 i_1 1) i_2 i_3 i_4 i_5 → ∀ (i_13 : Int), i_13 = blR (isub IntKind.i64 i_1 1) i_2 i_3 i_4 i_5 → ∀ (i_14 : Int), i_14 = blD (isub IntKind.i64 i_1 1) i_2 i_3 i_4 i_5 → (in16 i_2 = true ∧ in16 i_3 = true ∧ in16 i_4 = true ∧ in16 i_5 = true ∧ True) ∧ ∀ (i_15 : Int), i_15 = 0 → ∀ (i_16 : Int), i_16 = blP mode s a d b → ∀ (i_17 : Int), i_17 = blQ mode s a d b → ∀ (i_18 : Int), i_18 = blR mode s a d b → ∀ (i_19 : Int), i_19 = blD mode s a d b → (in16 s = true ∧ in16 a = true ∧ in16 d = true ∧ in16 b = true ∧ True) ∧ ∀ (i_20 : Int), i_20 = 0 → ∀ (i_21 : Int), i_21 = blP mode s a d b → ∀ (i_22 : Int), i_22 = blQ mode s a d b → ∀ (i_23 : Int), i_23 = blR mode s a d b → ∀ (i_24 : Int), i_24 = blD mode s a d b → (in16 s = true ∧ in16 a = true ∧ in16 d = true ∧ in16 b = true ∧ True) ∧ ∀ (i_25 : Int), i_25 = iimin s a → ∀ (i_26 : Int), i_26 = mx16 s a → ∀ (i_27 : Int), i_27 = iimin d b → ∀ (i_28 : Int), i_28 = mx16 d b → ∀ (i_29 : Int), i_29 = 0 → ∀ (i_30 : Int), i_30 = blP (isub IntKind.i64 i_1 1) i_25 i_26 i_27 i_28 → ∀ (i_31 : Int), i_31 = blQ (isub IntKind.i64 i_1 1) i_25 i_26 i_27 i_28 → ∀ (i_32 : Int), i_32 = blR (isub IntKind.i64 i_1 1) i_25 i_26 i_27 i_28 → ∀ (i_33 : Int), i_33 = blD (isub IntKind.i64 i_1 1) i_25 i_26 i_27 i_28 → (in16 i_25 = true ∧ in16 i_26 = true ∧ in16 i_27 = true ∧ in16 i_28 = true ∧ True) ∧ ∀ (i_34 : Int), i_34 = iimin s a → ∀ (i_35 : Int), i_35 = mx16 s a → ∀ (i_36 : Int), i_36 = iimin d b → ∀ (i_37 : Int), i_37 = mx16 d b → ∀ (i_38 : Int), i_38 = 0 → ∀ (i_39 : Int), i_39 = blP (isub IntKind.i64 i_1 1) i_34 i_35 i_36 i_37 → ∀ (i_40 : Int), i_40 = blQ (isub IntKind.i64 i_1 1) i_34 i_35 i_36 i_37 → ∀ (i_41 : Int), i_41 = blR (isub IntKind.i64 i_1 1) i_34 i_35 i_36 i_37 → ∀ (i_42 : Int), i_42 = blD (isub IntKind.i64 i_1 1) i_34 i_35 i_36 i_37 → (in16 i_34 = true ∧ in16 i_35 = true ∧ in16 i_36 = true ∧ in16 i_37 = true ∧ True) ∧ bcond (band (band (ieq i i_10) (band (ieq i_6 i_11) true)) (band (ieq i_7 i_12) (band (ieq i_8 i_13) (band (ieq i_9 i_14) true)))) (bcond (beq' (blOk (isub IntKind.i64 i_1 1) i_2 i_3 i_4 i_5) (blOk (isub IntKind.i64 i_1 1) i_2 i_3 i_4 i_5)) (bcond (band (band (ieq i_15 i_20) (band (ieq i_16 i_21) true)) (band (ieq i_17 i_22) (band (ieq i_18 i_23) (band (ieq i_19 i_24) true)))) (bcond (beq' (blOk mode s a d b) (blOk mode s a d b)) (bcond (band (band (ieq i_29 i_38) (band (ieq i_30 i_39) true)) (band (ieq i_31 i_40) (band (ieq i_32 i_41) (band (ieq i_33 i_42) true)))) (True ∧ True ∧ V [XV.c (CV.v (Value.bool (beq' (blOk (isub IntKind.i64 i_1 1) i_25 i_26 i_27 i_28) (blOk (isub IntKind.i64 i_1 1) i_34 i_35 i_36 i_37))))] []) (True ∧ True ∧ V [XV.c (CV.v (Value.bool false))] [])) (True ∧ True ∧ V [XV.c (CV.v (Value.bool false))] [])) (True ∧ True ∧ V [XV.c (CV.v (Value.bool false))] [])) (True ∧ True ∧ V [XV.c (CV.v (Value.bool false))] [])) (True ∧ True ∧ V [XV.c (CV.v (Value.bool false))] [])) := by
  try delta o_law6b
  try delta s_gmax
  try delta s_mod
  try delta s_galpha
  try delta s_bl
  try delta s_max16
  try delta s_yes6
  generalize @blD = blD
  generalize @blOk = blOk
  generalize @blP = blP
  generalize @blQ = blQ
  generalize @blR = blR
  generalize @gmod = gmod
  generalize @gsV = gsV
  generalize @gxMax = gxMax
  generalize @in16 = in16
  generalize @modOk = modOk
  generalize @mx16 = mx16
  kernel_rfl
def o_law6c : QR.Oracle := QR.orc [(12, QR.lift1 s_mod), (20, s_bl), (22, s_max16), (23, s_str6), (16, s_yes6)]
set_option maxRecDepth 100000 in
theorem BlendRejects_vc (mode y s a d b : Int) (V : List QR.XV → List (List QR.CV) → Prop) : QR.evalBody Tryd.prog (o_law6c) (QR.noLoops) (Tryd.f5.body.getD .skip) Tryd.f5.results.toList Tryd.f5.ntmps [.x (.c (.v (.int .i64 mode))), .x (.c (.v (.int .i64 y))), .x (.c (.v (.int .u16 s))), .x (.c (.v (.int .u16 a))), .x (.c (.v (.int .u16 d))), .x (.c (.v (.int .u16 b)))] V = (True ∧ ∀ (i : Int), i = gmod mode 12 → (modOk 12 = true ∧ True) ∧ ∀ (i_1 : Int), i_1 = gmod y 1000 → ∀ (i_2 : Int), i_2 = gmod y 1000 → ∀ (i_3 : Int), i_3 = gmod y 4 → (ile 0 i_3 = true ∧ ilt i_3 4 = true ∧ modOk 4 = true ∧ modOk 1000 = true ∧ modOk 1000 = true ∧ True) ∧ ∀ (i_4 : Int), i_4 = 0 → ∀ (i_5 : Int), i_5 = blP (isel (ieq i_3 3) (iadd IntKind.i64 13 i_2) (isel (ieq i_3 2) (isub IntKind.i64 (-1) i_1) (isel (ieq i_3 1) 13 (isel (ieq i_3 0) 0 0)))) s s d d → ∀ (i_6 : Int), i_6 = blQ (isel (ieq i_3 3) (iadd IntKind.i64 13 i_2) (isel (ieq i_3 2) (isub IntKind.i64 (-1) i_1) (isel (ieq i_3 1) 13 (isel (ieq i_3 0) 0 0)))) s s d d → ∀ (i_7 : Int), i_7 = blR (isel (ieq i_3 3) (iadd IntKind.i64 13 i_2) (isel (ieq i_3 2) (isub IntKind.i64 (-1) i_1) (isel (ieq i_3 1) 13 (isel (ieq i_3 0) 0 0)))) s s d d → ∀ (i_8 : Int), i_8 = blD (isel (ieq i_3 3) (iadd IntKind.i64 13 i_2) (isel (ieq i_3 2) (isub IntKind.i64 (-1) i_1) (isel (ieq i_3 1) 13 (isel (ieq i_3 0) 0 0)))) s s d d → (in16 s = true ∧ in16 s = true ∧ in16 d = true ∧ in16 d = true ∧ True) ∧ ∀ (i_9 : Int), i_9 = mx16 s 1 → ∀ (i_10 : Int), i_10 = mx16 s 1 → ∀ (i_11 : Int), i_11 = 0 → ∀ (i_12 : Int), i_12 = blP (iadd IntKind.i64 1 i) i_9 (isub IntKind.u16 i_10 1) d d → ∀ (i_13 : Int), i_13 = blQ (iadd IntKind.i64 1 i) i_9 (isub IntKind.u16 i_10 1) d d → ∀ (i_14 : Int), i_14 = blR (iadd IntKind.i64 1 i) i_9 (isub IntKind.u16 i_10 1) d d → ∀ (i_15 : Int), i_15 = blD (iadd IntKind.i64 1 i) i_9 (isub IntKind.u16 i_10 1) d d → (in16 i_9 = true ∧ in16 (isub IntKind.u16 i_10 1) = true ∧ in16 d = true ∧ in16 d = true ∧ True) ∧ ∀ (i_16 : Int), i_16 = mx16 d 1 → ∀ (i_17 : Int), i_17 = mx16 d 1 → ∀ (i_18 : Int), i_18 = 0 → ∀ (i_19 : Int), i_19 = blP (iadd IntKind.i64 1 i) s s i_16 (isub IntKind.u16 i_17 1) → ∀ (i_20 : Int), i_20 = blQ (iadd IntKind.i64 1 i) s s i_16 (isub IntKind.u16 i_17 1) → ∀ (i_21 : Int), i_21 = blR (iadd IntKind.i64 1 i) s s i_16 (isub IntKind.u16 i_17 1) → ∀ (i_22 : Int), i_22 = blD (iadd IntKind.i64 1 i) s s i_16 (isub IntKind.u16 i_17 1) → (in16 s = true ∧ in16 s = true ∧ in16 i_16 = true ∧ in16 (isub IntKind.u16 i_17 1) = true ∧ True) ∧ ∀ (i_23 : Int), i_23 = stV6 (iadd IntKind.i64 1 i) a b 0 → (in16 a = true ∧ in16 b = true ∧ in16 0 = true ∧ True) ∧ ∀ (i_24 : Int), i_24 = stV6 (isel (ieq i_3 3) (iadd IntKind.i64 13 i_2) (isel (ieq i_3 2) (isub IntKind.i64 (-1) i_1) (isel (ieq i_3 1) 13 (isel (ieq i_3 0) 0 0)))) 1 1 255 → (in16 1 = true ∧ in16 1 = true ∧ in16 255 = true ∧ True) ∧ True ∧ bcond (bnot (blOk (isel (ieq i_3 3) (iadd IntKind.i64 13 i_2) (isel (ieq i_3 2) (isub IntKind.i64 (-1) i_1) (isel (ieq i_3 1) 13 (isel (ieq i_3 0) 0 0)))) s s d d)) (bcond (bnot (blOk (iadd IntKind.i64 1 i) i_9 (isub IntKind.u16 i_10 1) d d)) (bcond (bnot (blOk (iadd IntKind.i64 1 i) s s i_16 (isub IntKind.u16 i_17 1))) (bcond (bnot (stOk6 (iadd IntKind.i64 1 i) a b 0)) (bcond (bnot (stOk6 (isel (ieq i_3 3) (iadd IntKind.i64 13 i_2) (isel (ieq i_3 2) (isub IntKind.i64 (-1) i_1) (isel (ieq i_3 1) 13 (isel (ieq i_3 0) 0 0)))) 1 1 255)) (bcond (band (band (ieq i_4 0) (band (ieq i_5 0) true)) (band (ieq i_6 0) (band (ieq i_7 0) (band (ieq i_8 0) true)))) (bcond (band (band (ieq i_11 0) (band (ieq i_12 0) true)) (band (ieq i_13 0) (band (ieq i_14 0) (band (ieq i_15 0) true)))) (bcond (band (band (ieq i_18 0) (band (ieq i_19 0) true)) (band (ieq i_20 0) (band (ieq i_21 0) (band (ieq i_22 0) true)))) (bcond (ieq i_23 0) (True ∧ True ∧ V [XV.c (CV.v (Value.bool (ieq i_24 0)))] []) (True ∧ True ∧ V [XV.c (CV.v (Value.bool false))] [])) (True ∧ True ∧ V [XV.c (CV.v (Value.bool false))] [])) (True ∧ True ∧ V [XV.c (CV.v (Value.bool false))] [])) (True ∧ True ∧ V [XV.c (CV.v (Value.bool false))] [])) (True ∧ True ∧ V [XV.c (CV.v (Value.bool false))] [])) (True ∧ True ∧ V [XV.c (CV.v (Value.bool false))] [])) (True ∧ True ∧ V [XV.c (CV.v (Value.bool false))] [])) (True ∧ True ∧ V [XV.c (CV.v (Value.bool false))] [])) (True ∧ True ∧ V [XV.c (CV.v (Value.bool false))] [])) := by
  try delta o_law6c
  try delta s_mod
  try delta s_bl
  try delta s_max16
  try delta s_str6
  try delta s_yes6
  generalize @blD = blD
  generalize @blOk = blOk
  generalize @blP = blP
  generalize @blQ = blQ
  generalize @blR = blR
  generalize @gmod = gmod
  generalize @in16 = in16
  generalize @modOk = modOk
  generalize @mx16 = mx16
  generalize @stOk6 = stOk6
  generalize @stV6 = stV6
  kernel_rfl
def o_law6d : QR.Oracle := QR.orc [(18, QR.lift1 s_gmax), (12, QR.lift1 s_mod), (19, QR.lift1 s_galpha), (20, s_bl), (16, s_yes6), (24, QR.lift1 s_valid), (25, QR.lift1 s_compare)]
set_option maxRecDepth 100000 in
theorem BlendStaysInRange_vc (mode n0 n1 n2 n3 m : Int) (V : List QR.XV → List (List QR.CV) → Prop) : QR.evalBody Tryd.prog (o_law6d) (QR.noLoops) (Tryd.f6.body.getD .skip) Tryd.f6.results.toList Tryd.f6.ntmps [.x (.c (.v (.int .i64 mode))), .x (.agg [.v (.int .i64 n0), .v (.int .i64 n1), .v (.int .i64 n2), .v (.int .i64 n3)]), .x (.c (.v (.int .i64 m)))] V = (True ∧ ∀ (i : Int), i = gxMax m → ∀ (i_1 : Int), i_1 = gmod mode 12 → (modOk 12 = true ∧ True) ∧ ∀ (i_2 : Int), i_2 = gsV n0 (gsV n1 i) → ∀ (i_3 : Int), i_3 = gsV n1 i → (in16 i = true ∧ true = true ∧ true = true ∧ true = true ∧ true = true ∧ True) ∧ ∀ (i_4 : Int), i_4 = gsV n2 (gsV n3 i) → ∀ (i_5 : Int), i_5 = gsV n3 i → (in16 i = true ∧ true = true ∧ true = true ∧ true = true ∧ true = true ∧ True) ∧ ∀ (i : Int), i = 0 → ∀ (i_6 : Int), i_6 = blP (iadd IntKind.i64 1 i_1) i_2 i_3 i_4 i_5 → ∀ (i_7 : Int), i_7 = blQ (iadd IntKind.i64 1 i_1) i_2 i_3 i_4 i_5 → ∀ (i_8 : Int), i_8 = blR (iadd IntKind.i64 1 i_1) i_2 i_3 i_4 i_5 → ∀ (i_9 : Int), i_9 = blD (iadd IntKind.i64 1 i_1) i_2 i_3 i_4 i_5 → (in16 i_2 = true ∧ in16 i_3 = true ∧ in16 i_4 = true ∧ in16 i_5 = true ∧ True) ∧ bcond (bnot (blOk (iadd IntKind.i64 1 i_1) i_2 i_3 i_4 i_5)) (True ∧ True ∧ True ∧ V [XV.c (CV.v (Value.bool false))] []) (True ∧ bcond (bnot (vldB i i_7 i_8 i_9)) (True ∧ True ∧ V [XV.c (CV.v (Value.bool false))] []) (∀ (i_10 : Int), i_10 = cmpX i i_6 i_7 i_8 i_9 (imul IntKind.u64 (iconv IntKind.u64 i_3) (iconv IntKind.u64 i_5)) → (inU i = true ∧ inU i_6 = true ∧ inU i_7 = true ∧ inU i_8 = true ∧ inU i_9 = true ∧ inU (imul IntKind.u64 (iconv IntKind.u64 i_3) (iconv IntKind.u64 i_5)) = true ∧ True) ∧ bcond (vldB i i_7 i_8 i_9) (True ∧ True ∧ V [XV.c (CV.v (Value.bool (ile i_10 0)))] []) (True ∧ True ∧ V [XV.c (CV.v (Value.bool false))] [])))) := by
  try delta o_law6d
  try delta s_gmax
  try delta s_mod
  try delta s_galpha
  try delta s_bl
  try delta s_yes6
  try delta s_valid
  try delta s_compare
  generalize @blD = blD
  generalize @blOk = blOk
  generalize @blP = blP
  generalize @blQ = blQ
  generalize @blR = blR
  generalize @cmpX = cmpX
  generalize @gmod = gmod
  generalize @gsV = gsV
  generalize @gxMax = gxMax
  generalize @in16 = in16
  generalize @inU = inU
  generalize @modOk = modOk
  generalize @vldB = vldB
  kernel_rfl
def o_law6e : QR.Oracle := QR.orc [(18, QR.lift1 s_gmax), (12, QR.lift1 s_mod), (19, QR.lift1 s_galpha), (20, s_bl), (16, s_yes6)]
set_option maxRecDepth 100000 in
theorem BlendSwaps_vc (mode n0 n1 n2 n3 m : Int) (V : List QR.XV → List (List QR.CV) → Prop) : QR.evalBody Tryd.prog (o_law6e) (QR.noLoops) (Tryd.f7.body.getD .skip) Tryd.f7.results.toList Tryd.f7.ntmps [.x (.c (.v (.int .i64 mode))), .x (.agg [.v (.int .i64 n0), .v (.int .i64 n1), .v (.int .i64 n2), .v (.int .i64 n3)]), .x (.c (.v (.int .i64 m)))] V = (True ∧ ∀ (i : Int), i = gxMax m → True ∧ ∀ (i_1 : Int), i_1 = gsV n0 (gsV n1 i) → ∀ (i_2 : Int), i_2 = gsV n1 i → (in16 i = true ∧ true = true ∧ true = true ∧ true = true ∧ true = true ∧ True) ∧ ∀ (i_3 : Int), i_3 = gsV n2 (gsV n3 i) → ∀ (i_4 : Int), i_4 = gsV n3 i → (in16 i = true ∧ true = true ∧ true = true ∧ true = true ∧ true = true ∧ True) ∧ ∀ (i : Int), i = gmod mode 6 → (ile 0 i = true ∧ ilt i 6 = true ∧ modOk 6 = true ∧ True) ∧ ∀ (i_5 : Int), i_5 = 0 → ∀ (i_6 : Int), i_6 = blP 4 i_1 i_2 i_3 i_4 → ∀ (i_7 : Int), i_7 = blQ 4 i_1 i_2 i_3 i_4 → ∀ (i_8 : Int), i_8 = blR 4 i_1 i_2 i_3 i_4 → ∀ (i_9 : Int), i_9 = blD 4 i_1 i_2 i_3 i_4 → (in16 i_1 = true ∧ in16 i_2 = true ∧ in16 i_3 = true ∧ in16 i_4 = true ∧ True) ∧ ∀ (i_10 : Int), i_10 = 0 → ∀ (i_11 : Int), i_11 = blP 9 i_3 i_4 i_1 i_2 → ∀ (i_12 : Int), i_12 = blQ 9 i_3 i_4 i_1 i_2 → ∀ (i_13 : Int), i_13 = blR 9 i_3 i_4 i_1 i_2 → ∀ (i_14 : Int), i_14 = blD 9 i_3 i_4 i_1 i_2 → (in16 i_3 = true ∧ in16 i_4 = true ∧ in16 i_1 = true ∧ in16 i_2 = true ∧ True) ∧ ∀ (i_15 : Int), i_15 = 0 → ∀ (i_16 : Int), i_16 = blP (isel (ieq i 5) 12 (isel (ieq i 4) 11 (isel (ieq i 3) 6 (isel (ieq i 2) 5 (isel (ieq i 1) 3 (isel (ieq i 0) 2 0)))))) i_1 i_2 i_3 i_4 → ∀ (i_17 : Int), i_17 = blQ (isel (ieq i 5) 12 (isel (ieq i 4) 11 (isel (ieq i 3) 6 (isel (ieq i 2) 5 (isel (ieq i 1) 3 (isel (ieq i 0) 2 0)))))) i_1 i_2 i_3 i_4 → ∀ (i_18 : Int), i_18 = blR (isel (ieq i 5) 12 (isel (ieq i 4) 11 (isel (ieq i 3) 6 (isel (ieq i 2) 5 (isel (ieq i 1) 3 (isel (ieq i 0) 2 0)))))) i_1 i_2 i_3 i_4 → ∀ (i_19 : Int), i_19 = blD (isel (ieq i 5) 12 (isel (ieq i 4) 11 (isel (ieq i 3) 6 (isel (ieq i 2) 5 (isel (ieq i 1) 3 (isel (ieq i 0) 2 0)))))) i_1 i_2 i_3 i_4 → (in16 i_1 = true ∧ in16 i_2 = true ∧ in16 i_3 = true ∧ in16 i_4 = true ∧ True) ∧ ∀ (i_20 : Int), i_20 = 0 → ∀ (i_21 : Int), i_21 = blP (isel (ieq i 5) 12 (isel (ieq i 4) 11 (isel (ieq i 3) 6 (isel (ieq i 2) 5 (isel (ieq i 1) 3 (isel (ieq i 0) 2 0)))))) i_3 i_4 i_1 i_2 → ∀ (i_22 : Int), i_22 = blQ (isel (ieq i 5) 12 (isel (ieq i 4) 11 (isel (ieq i 3) 6 (isel (ieq i 2) 5 (isel (ieq i 1) 3 (isel (ieq i 0) 2 0)))))) i_3 i_4 i_1 i_2 → ∀ (i_23 : Int), i_23 = blR (isel (ieq i 5) 12 (isel (ieq i 4) 11 (isel (ieq i 3) 6 (isel (ieq i 2) 5 (isel (ieq i 1) 3 (isel (ieq i 0) 2 0)))))) i_3 i_4 i_1 i_2 → ∀ (i_24 : Int), i_24 = blD (isel (ieq i 5) 12 (isel (ieq i 4) 11 (isel (ieq i 3) 6 (isel (ieq i 2) 5 (isel (ieq i 1) 3 (isel (ieq i 0) 2 0)))))) i_3 i_4 i_1 i_2 → (in16 i_3 = true ∧ in16 i_4 = true ∧ in16 i_1 = true ∧ in16 i_2 = true ∧ True) ∧ bcond (blOk 4 i_1 i_2 i_3 i_4) (bcond (blOk 9 i_3 i_4 i_1 i_2) (bcond (band (band (ieq i_5 i_10) (band (ieq i_6 i_11) true)) (band (ieq i_7 i_12) (band (ieq i_8 i_13) (band (ieq i_9 i_14) true)))) (bcond (blOk (isel (ieq i 5) 12 (isel (ieq i 4) 11 (isel (ieq i 3) 6 (isel (ieq i 2) 5 (isel (ieq i 1) 3 (isel (ieq i 0) 2 0)))))) i_1 i_2 i_3 i_4) (bcond (blOk (isel (ieq i 5) 12 (isel (ieq i 4) 11 (isel (ieq i 3) 6 (isel (ieq i 2) 5 (isel (ieq i 1) 3 (isel (ieq i 0) 2 0)))))) i_3 i_4 i_1 i_2) (True ∧ True ∧ V [XV.c (CV.v (Value.bool (band (band (ieq i_15 i_20) (band (ieq i_16 i_21) true)) (band (ieq i_17 i_22) (band (ieq i_18 i_23) (band (ieq i_19 i_24) true))))))] []) (True ∧ True ∧ V [XV.c (CV.v (Value.bool false))] [])) (True ∧ True ∧ V [XV.c (CV.v (Value.bool false))] [])) (True ∧ True ∧ V [XV.c (CV.v (Value.bool false))] [])) (True ∧ True ∧ V [XV.c (CV.v (Value.bool false))] [])) (True ∧ True ∧ V [XV.c (CV.v (Value.bool false))] [])) := by
  try delta o_law6e
  try delta s_gmax
  try delta s_mod
  try delta s_galpha
  try delta s_bl
  try delta s_yes6
  generalize @blD = blD
  generalize @blOk = blOk
  generalize @blP = blP
  generalize @blQ = blQ
  generalize @blR = blR
  generalize @gmod = gmod
  generalize @gsV = gsV
  generalize @gxMax = gxMax
  generalize @in16 = in16
  generalize @modOk = modOk
  kernel_rfl
def o_law6f : QR.Oracle := QR.orc [(18, QR.lift1 s_gmax), (12, QR.lift1 s_mod), (23, s_str6), (16, s_yes6)]
set_option maxRecDepth 100000 in
theorem BlendDuals_vc (mode cs cb m : Int) (V : List QR.XV → List (List QR.CV) → Prop) : QR.evalBody Tryd.prog (o_law6f) (QR.noLoops) (Tryd.f8.body.getD .skip) Tryd.f8.results.toList Tryd.f8.ntmps [.x (.c (.v (.int .i64 mode))), .x (.c (.v (.int .u16 cs))), .x (.c (.v (.int .u16 cb))), .x (.c (.v (.int .i64 m)))] V = (True ∧ ∀ (i : Int), i = gxMax m → True ∧ ∀ (i_1 : Int), i_1 = gmod (iconv IntKind.i64 cs) (iadd IntKind.i64 (iconv IntKind.i64 i) 1) → ∀ (i_2 : Int), i_2 = gmod (iconv IntKind.i64 cb) (iadd IntKind.i64 (iconv IntKind.i64 i) 1) → (modOk (iadd IntKind.i64 (iconv IntKind.i64 i) 1) = true ∧ modOk (iadd IntKind.i64 (iconv IntKind.i64 i) 1) = true ∧ True) ∧ ∀ (i_3 : Int), i_3 = gmod mode 4 → (ile 0 i_3 = true ∧ ilt i_3 4 = true ∧ modOk 4 = true ∧ True) ∧ ∀ (i_4 : Int), i_4 = stV6 (isel (ieq i_3 3) 9 (isel (ieq i_3 2) 8 (isel (ieq i_3 1) 6 (isel (ieq i_3 0) 3 0)))) (iconv IntKind.u16 i_1) (iconv IntKind.u16 i_2) i → (in16 (iconv IntKind.u16 i_1) = true ∧ in16 (iconv IntKind.u16 i_2) = true ∧ in16 i = true ∧ true = true ∧ true = true ∧ True) ∧ ∀ (i_5 : Int), i_5 = stV6 (isel (ieq i_3 3) 9 (isel (ieq i_3 2) 7 (isel (ieq i_3 1) 5 (isel (ieq i_3 0) 2 0)))) (isub IntKind.u16 i (iconv IntKind.u16 i_1)) (isub IntKind.u16 i (iconv IntKind.u16 i_2)) i → (in16 (isub IntKind.u16 i (iconv IntKind.u16 i_1)) = true ∧ in16 (isub IntKind.u16 i (iconv IntKind.u16 i_2)) = true ∧ in16 i = true ∧ true = true ∧ true = true ∧ True) ∧ True ∧ bcond (stOk6 (isel (ieq i_3 3) 9 (isel (ieq i_3 2) 8 (isel (ieq i_3 1) 6 (isel (ieq i_3 0) 3 0)))) (iconv IntKind.u16 i_1) (iconv IntKind.u16 i_2) i) (bcond (stOk6 (isel (ieq i_3 3) 9 (isel (ieq i_3 2) 7 (isel (ieq i_3 1) 5 (isel (ieq i_3 0) 2 0)))) (isub IntKind.u16 i (iconv IntKind.u16 i_1)) (isub IntKind.u16 i (iconv IntKind.u16 i_2)) i) (bcond (ieq (iadd IntKind.i64 (iconv IntKind.i64 i_4) (iconv IntKind.i64 i_5)) (iconv IntKind.i64 i)) (True ∧ True ∧ V [XV.c (CV.v (Value.bool true))] []) (True ∧ True ∧ V [XV.c (CV.v (Value.bool (ieq (iadd IntKind.i64 (iconv IntKind.i64 i_4) (iconv IntKind.i64 i_5)) (iadd IntKind.i64 (iconv IntKind.i64 i) 1))))] [])) (True ∧ True ∧ V [XV.c (CV.v (Value.bool false))] [])) (True ∧ True ∧ V [XV.c (CV.v (Value.bool false))] [])) := by
  try delta o_law6f
  try delta s_gmax
  try delta s_mod
  try delta s_str6
  try delta s_yes6
  generalize @gmod = gmod
  generalize @gxMax = gxMax
  generalize @in16 = in16
  generalize @modOk = modOk
  generalize @stOk6 = stOk6
  generalize @stV6 = stV6
  kernel_rfl
set_option maxRecDepth 100000 in
theorem BlendNeutralColours_vc (cb which m : Int) (V : List QR.XV → List (List QR.CV) → Prop) : QR.evalBody Tryd.prog (o_law6f) (QR.noLoops) (Tryd.f9.body.getD .skip) Tryd.f9.results.toList Tryd.f9.ntmps [.x (.c (.v (.int .u16 cb))), .x (.c (.v (.int .i64 which))), .x (.c (.v (.int .i64 m)))] V = (True ∧ ∀ (i : Int), i = gxMax m → True ∧ ∀ (i_1 : Int), i_1 = gmod (iconv IntKind.i64 cb) (iadd IntKind.i64 (iconv IntKind.i64 i) 1) → (modOk (iadd IntKind.i64 (iconv IntKind.i64 i) 1) = true ∧ True) ∧ ∀ (i_2 : Int), i_2 = gmod which 3 → (ile 0 i_2 = true ∧ ilt i_2 3 = true ∧ modOk 3 = true ∧ True) ∧ ∀ (i_3 : Int), i_3 = gmod which 5 → (ile 0 i_3 = true ∧ ilt i_3 5 = true ∧ modOk 5 = true ∧ True) ∧ ∀ (i_4 : Int), i_4 = stV6 (isel (ieq i_2 2) 5 (isel (ieq i_2 1) 8 (isel (ieq i_2 0) 2 0))) i (iconv IntKind.u16 i_1) i → (in16 i = true ∧ in16 (iconv IntKind.u16 i_1) = true ∧ in16 i = true ∧ True) ∧ ∀ (i_5 : Int), i_5 = stV6 (isel (ieq i_3 4) 12 (isel (ieq i_3 3) 11 (isel (ieq i_3 2) 6 (isel (ieq i_3 1) 7 (isel (ieq i_3 0) 3 0))))) 0 (iconv IntKind.u16 i_1) i → (in16 0 = true ∧ in16 (iconv IntKind.u16 i_1) = true ∧ in16 i = true ∧ True) ∧ ∀ (i_6 : Int), i_6 = stV6 1 (iconv IntKind.u16 i_1) (isub IntKind.u16 i (iconv IntKind.u16 i_1)) i → (in16 (iconv IntKind.u16 i_1) = true ∧ in16 (isub IntKind.u16 i (iconv IntKind.u16 i_1)) = true ∧ in16 i = true ∧ True) ∧ bcond (stOk6 (isel (ieq i_2 2) 5 (isel (ieq i_2 1) 8 (isel (ieq i_2 0) 2 0))) i (iconv IntKind.u16 i_1) i) (bcond (stOk6 (isel (ieq i_3 4) 12 (isel (ieq i_3 3) 11 (isel (ieq i_3 2) 6 (isel (ieq i_3 1) 7 (isel (ieq i_3 0) 3 0))))) 0 (iconv IntKind.u16 i_1) i) (bcond (stOk6 1 (iconv IntKind.u16 i_1) (isub IntKind.u16 i (iconv IntKind.u16 i_1)) i) (bcond (ieq i_4 (iconv IntKind.u16 i_1)) (bcond (ieq i_5 (iconv IntKind.u16 i_1)) (True ∧ True ∧ V [XV.c (CV.v (Value.bool (ieq i_6 (iconv IntKind.u16 i_1))))] []) (True ∧ True ∧ V [XV.c (CV.v (Value.bool false))] [])) (True ∧ True ∧ V [XV.c (CV.v (Value.bool false))] [])) (True ∧ True ∧ V [XV.c (CV.v (Value.bool false))] [])) (True ∧ True ∧ V [XV.c (CV.v (Value.bool false))] [])) (True ∧ True ∧ V [XV.c (CV.v (Value.bool false))] [])) := by
  try delta o_law6f
  try delta s_gmax
  try delta s_mod
  try delta s_str6
  try delta s_yes6
  generalize @gmod = gmod
  generalize @gxMax = gxMax
  generalize @in16 = in16
  generalize @modOk = modOk
  generalize @stOk6 = stOk6
  generalize @stV6 = stV6
  kernel_rfl
def o_law6h : QR.Oracle := QR.orc [(18, QR.lift1 s_gmax), (12, QR.lift1 s_mod), (23, s_str6), (26, s_str6), (16, s_yes6)]
set_option maxRecDepth 100000 in
theorem BlendStraightAgrees_vc (mode cs cb most m : Int) (V : List QR.XV → List (List QR.CV) → Prop) : QR.evalBody Tryd.prog (o_law6h) (QR.noLoops) (Tryd.f10.body.getD .skip) Tryd.f10.results.toList Tryd.f10.ntmps [.x (.c (.v (.int .i64 mode))), .x (.c (.v (.int .u16 cs))), .x (.c (.v (.int .u16 cb))), .x (.c (.v (.int .u16 most))), .x (.c (.v (.int .i64 m)))] V = (True ∧ ∀ (i : Int), i = gxMax m → ∀ (i_1 : Int), i_1 = gmod mode 14 → (modOk 14 = true ∧ True) ∧ ∀ (i_2 : Int), i_2 = gmod (iconv IntKind.i64 cs) (iadd IntKind.i64 (iconv IntKind.i64 i) 1) → ∀ (i_3 : Int), i_3 = gmod (iconv IntKind.i64 cb) (iadd IntKind.i64 (iconv IntKind.i64 i) 1) → (modOk (iadd IntKind.i64 (iconv IntKind.i64 i) 1) = true ∧ modOk (iadd IntKind.i64 (iconv IntKind.i64 i) 1) = true ∧ True) ∧ ∀ (i_4 : Int), i_4 = stV6 i_1 (iconv IntKind.u16 i_2) (iconv IntKind.u16 i_3) i → (in16 (iconv IntKind.u16 i_2) = true ∧ in16 (iconv IntKind.u16 i_3) = true ∧ in16 i = true ∧ True) ∧ ∀ (i_5 : Int), i_5 = stV6 i_1 (iconv IntKind.u16 i_2) (iconv IntKind.u16 i_3) i → (in16 (iconv IntKind.u16 i_2) = true ∧ in16 (iconv IntKind.u16 i_3) = true ∧ in16 i = true ∧ True) ∧ ∀ (i_6 : Int), i_6 = stV6 i_1 cs cb most → (in16 cs = true ∧ in16 cb = true ∧ in16 most = true ∧ True) ∧ ∀ (i_7 : Int), i_7 = stV6 i_1 cs cb most → (in16 cs = true ∧ in16 cb = true ∧ in16 most = true ∧ True) ∧ bcond (ieq i_4 i_5) (bcond (beq' (stOk6 i_1 (iconv IntKind.u16 i_2) (iconv IntKind.u16 i_3) i) (stOk6 i_1 (iconv IntKind.u16 i_2) (iconv IntKind.u16 i_3) i)) (bcond (ieq i_6 i_7) (True ∧ True ∧ V [XV.c (CV.v (Value.bool (beq' (stOk6 i_1 cs cb most) (stOk6 i_1 cs cb most))))] []) (True ∧ True ∧ V [XV.c (CV.v (Value.bool false))] [])) (True ∧ True ∧ V [XV.c (CV.v (Value.bool false))] [])) (True ∧ True ∧ V [XV.c (CV.v (Value.bool false))] [])) := by
  try delta o_law6h
  try delta s_gmax
  try delta s_mod
  try delta s_str6
  try delta s_yes6
  generalize @gmod = gmod
  generalize @gxMax = gxMax
  generalize @in16 = in16
  generalize @modOk = modOk
  generalize @stOk6 = stOk6
  generalize @stV6 = stV6
  kernel_rfl
def o_law6i : QR.Oracle := QR.orc [(18, QR.lift1 s_gmax), (12, QR.lift1 s_mod), (19, QR.lift1 s_galpha), (20, s_bl), (27, s_rounded6), (16, s_yes6)]
set_option maxRecDepth 100000 in
theorem BlendOfTheTransparent_vc (mode n0 n1 n2 n3 m : Int) (V : List QR.XV → List (List QR.CV) → Prop) : QR.evalBody Tryd.prog (o_law6i) (QR.noLoops) (Tryd.f11.body.getD .skip) Tryd.f11.results.toList Tryd.f11.ntmps [.x (.c (.v (.int .i64 mode))), .x (.agg [.v (.int .i64 n0), .v (.int .i64 n1), .v (.int .i64 n2), .v (.int .i64 n3)]), .x (.c (.v (.int .i64 m)))] V = (True ∧ ∀ (i : Int), i = gxMax m → ∀ (i_1 : Int), i_1 = gmod mode 12 → (modOk 12 = true ∧ True) ∧ ∀ (i_2 : Int), i_2 = gsV n2 (gsV n3 i) → ∀ (i_3 : Int), i_3 = gsV n3 i → (in16 i = true ∧ true = true ∧ true = true ∧ true = true ∧ true = true ∧ True) ∧ ∀ (i : Int), i = 0 → ∀ (i_4 : Int), i_4 = blP (iadd IntKind.i64 1 i_1) 0 0 i_2 i_3 → ∀ (i_5 : Int), i_5 = blQ (iadd IntKind.i64 1 i_1) 0 0 i_2 i_3 → ∀ (i_6 : Int), i_6 = blR (iadd IntKind.i64 1 i_1) 0 0 i_2 i_3 → ∀ (i_7 : Int), i_7 = blD (iadd IntKind.i64 1 i_1) 0 0 i_2 i_3 → (in16 0 = true ∧ in16 0 = true ∧ in16 i_2 = true ∧ in16 i_3 = true ∧ True) ∧ ∀ (i_8 : Int), i_8 = 0 → ∀ (i_9 : Int), i_9 = blP (iadd IntKind.i64 1 i_1) i_2 i_3 0 0 → ∀ (i_10 : Int), i_10 = blQ (iadd IntKind.i64 1 i_1) i_2 i_3 0 0 → ∀ (i_11 : Int), i_11 = blR (iadd IntKind.i64 1 i_1) i_2 i_3 0 0 → ∀ (i_12 : Int), i_12 = blD (iadd IntKind.i64 1 i_1) i_2 i_3 0 0 → (in16 i_2 = true ∧ in16 i_3 = true ∧ in16 0 = true ∧ in16 0 = true ∧ True) ∧ bcond (blOk (iadd IntKind.i64 1 i_1) 0 0 i_2 i_3) (bcond (blOk (iadd IntKind.i64 1 i_1) i_2 i_3 0 0) (∀ (i_13 : Int), i_13 = rdV i_4 i_5 i_6 i_7 → bcond (ieq i_13 0) (∀ (i_14 : Int), i_14 = rdV i_9 i_10 i_11 i_12 → (i_8 = 0 ∧ inU i_9 = true ∧ inU i_10 = true ∧ inU i_11 = true ∧ inU i_12 = true ∧ i = 0 ∧ inU i_4 = true ∧ inU i_5 = true ∧ inU i_6 = true ∧ inU i_7 = true ∧ True) ∧ True ∧ V [XV.c (CV.v (Value.bool (ieq i_14 0)))] []) ((i = 0 ∧ inU i_4 = true ∧ inU i_5 = true ∧ inU i_6 = true ∧ inU i_7 = true ∧ True) ∧ True ∧ V [XV.c (CV.v (Value.bool false))] [])) (True ∧ True ∧ V [XV.c (CV.v (Value.bool false))] [])) (True ∧ True ∧ V [XV.c (CV.v (Value.bool false))] [])) := by
  try delta o_law6i
  try delta s_gmax
  try delta s_mod
  try delta s_galpha
  try delta s_bl
  try delta s_rounded6
  try delta s_yes6
  generalize @blD = blD
  generalize @blOk = blOk
  generalize @blP = blP
  generalize @blQ = blQ
  generalize @blR = blR
  generalize @gmod = gmod
  generalize @gsV = gsV
  generalize @gxMax = gxMax
  generalize @in16 = in16
  generalize @inU = inU
  generalize @modOk = modOk
  generalize @rdV = rdV
  kernel_rfl
end Go.Proofs.YtafaadnjkkkafaaDoor
namespace Go.Proofs.YtafaadnjkkkafaaDoor
open Go.RowKit PR QR
set_option linter.unusedVariables false
set_option linter.unusedSimpArgs false

theorem seqB_rfl (s : ByteArray) : seqB s s = true := by simp [seqB]
theorem hvV_eq {p q r d : Int} (ok : hvOk 0 p q r d = true) : hvV 0 p q r d = hvZ p q r d := by
  unfold hvV; rw [ok, show w2 0 p = p by unfold w2; omega]; rfl
theorem hvOk_of {p q r d : Int} (h0 : 0 ≤ p) (hq : q < 70368744177664) (hr : r < 8589934592) (hd : 1 ≤ d) (h1 : flZ p q r d < 9223372036854775807) : hvOk 0 p q r d = true := by
  have e : w2 0 p = p := by unfold w2; omega
  unfold hvOk flOk flI vldB
  rw [e]
  have h2 : hvZ p q r d < 9223372036854775808 := by unfold hvZ; split <;> omega
  simp only [Bool.and_eq_true, decide_eq_true_eq]
  exact ⟨⟨⟨⟨⟨by decide, hq⟩, hr⟩, hd⟩, by omega⟩, h2⟩

theorem isq0 {x : Int} (h : x = 0) : isq x = 0 := by subst h; rfl
/-- Straight in a mode without a root -/
theorem st_flat {k s d m : Int} (hk : 1 ≤ k ∧ k ≤ 12) (hr : k ≠ 10) (h0 : 0 ≤ s) (h1 : s ≤ m) (h2 : 0 ≤ d) (h3 : d ≤ m) (hm : 0 < m) (hM : m ≤ 65535) :
    stOk6 k s d m = true ∧ blP k s m d m = blT k s m d m ∧ 0 < blD k s m d m * m ∧ stV6 k s d m = (2 * blT k s m d m + blD k s m d m * m) / (2 * (blD k s m d m * m)) ∧ 0 ≤ stV6 k s d m ∧ stV6 k s d m ≤ m := by
  have ok : blOk k s m d m = true := decide_eq_true ⟨hk.1, hk.2, h1, h3⟩
  have f := bl_facts (k := k) hk h0 h1 hM h2 h3 hM
  obtain ⟨l0, l1⟩ := bl_lt (k := k) hk h0 h1 hM h2 h3 hM
  obtain ⟨b1, b2, b3, b4⟩ := bl_at ok
  rw [if_neg hr] at b2 b3
  have so : stOk6 k s d m = true := (stOk_iff h0 hM).2 ⟨ok, by omega⟩
  rw [b1, b2, b3] at f
  obtain ⟨f1, f2, f3, f4, f5, f6, f7, f8, f9⟩ := f
  have hn := Int.mul_pos f7 hm
  have hn2 := Int.mul_le_mul f8 hM (by omega) (by decide)
  have le : blT k s m d m ≤ m * m * blD k s m d m := by
    by_cases c : blT k s m d m ≤ m * m * blD k s m d m
    · exact c
    · unfold ordZ at f9; rw [if_pos (by omega)] at f9; omega
  have em : imul .u64 (blD k s m d m) (iconv .u64 m) = blD k s m d m * m := by
    rw [u64_id (by omega) (by omega), imulU]; exact modM (by omega) (by omega)
  have le2 : blT k s m d m ≤ blD k s m d m * m * m := by have : m * m * blD k s m d m = blD k s m d m * m * m := by grind
                                                         omega
  generalize hT : blT k s m d m = P at *
  generalize hD : blD k s m d m * m = n at *
  have q1 : 0 ≤ (2 * P + n) / (2 * n) := Int.ediv_nonneg (by omega) (by omega)
  have q2 : (2 * P + n) / (2 * n) ≤ m := by
    have : (2 * P + n) / (2 * n) < m + 1 := Int.ediv_lt_of_lt_mul (by omega) (by
      have e : (m + 1) * (2 * n) = 2 * (n * m) + 2 * n := by grind
      omega)
    omega
  have fl : flZ P 0 0 n < 9223372036854775807 := by
    unfold flZ
    rw [isq0 (by decide), Int.add_zero]
    have : P / n < m + 1 := Int.ediv_lt_of_lt_mul hn (by
      have e : (m + 1) * n = n * m + n := by grind
      omega)
    omega
  have v : stV6 k s d m = (2 * P + n) / (2 * n) := by
    unfold stV6 rdV
    rw [so, b1, b2, b3, em, hvV_eq (hvOk_of l0 (by decide) (by decide) (by omega) fl), hv_flat hn]
    exact u16_id q1 (by omega)
  exact ⟨so, b1, hn, v, by omega, by omega⟩

theorem a_awake6 : Answers2 16 s_yes6 := by
  intro al ans h hq
  unfold s_yes6 at h
  split at h <;> try (simp at h; done)
  skip
  simp only [Option.some.injEq] at h
  subst h
  have hq := asked hq
  refine QR.does_of_eval (O := o_aw6) (QR.orc_cons a_str6 (QR.orc_cons a_exact6 (QR.orc_cons a_mname QR.orc_nil))) mixed (QR.noLoops) Tryd.func16 (by kernel_rfl) (by kernel_rfl) (by simp) ?_
  rw [awake6_vc]
  have s1 := st_flat (k := 2) (s := 128) (d := 128) (m := 255) (by decide) (by decide) (by decide) (by decide) (by decide) (by decide) (by decide) (by decide)
  have v1 : stV6 2 128 128 255 = 64 := by rw [s1.2.2.2.1]; decide
  have z1 : blP 10 255 255 64 255 = 0 := by decide
  have z2 : blQ 10 255 255 64 255 = 255 := by decide
  have z3 : blR 10 255 255 64 255 = 16320 := by decide
  have z4 : blD 10 255 255 64 255 = 1 := by decide
  have so : stOk6 10 255 64 255 = true := by decide
  have sq : isq 1061208000 = 32576 := by
    obtain ⟨i1, i2, i3⟩ := isq_spec (x := 1061208000) (by decide)
    have a1 := (le_isq (x := 1061208000) (k := 32576) (by decide) (by decide)).2 (by decide)
    by_cases c : 32577 ≤ isq 1061208000
    · have := (le_isq (x := 1061208000) (k := 32577) (by decide) (by decide)).1 c
      omega
    · omega
  have fl : flZ 0 255 16320 255 = 127 := by
    unfold flZ
    rw [show (255 : Int) * 255 * 16320 = 1061208000 by decide, sq]; decide
  have v2 : stV6 10 255 64 255 = 128 := by
    unfold stV6 rdV
    rw [so, z1, z2, z3, z4, show imul .u64 1 (iconv .u64 255) = 255 by decide, hvV_eq (hvOk_of (by decide) (by decide) (by decide) (by decide) (by rw [fl]; decide))]
    unfold hvZ
    rw [fl]
    decide
  have c1 : blP 7 1 2 1 4 = 4 := by decide
  have c2 : blQ 7 1 2 1 4 = 0 := by decide
  have c3 : blR 7 1 2 1 4 = 0 := by decide
  have c4 : blD 7 1 2 1 4 = 1 := by decide
  have c5 : blOk 7 1 2 1 4 = true := by decide
  have n9 : seqB (mname 9) (bs [104, 97, 114, 100, 45, 108, 105, 103, 104, 116]) = true := by rfl
  have i : ∀ x : Int, 0 ≤ x → x < 65536 → in16 x = true := fun x h k => in16_iff.2 ⟨h, k⟩
  simp [okAns, eqXs, eqX, eqc, veq, eqUs, bcond_iff, s1.1, so, v1, v2, c1, c2, c3, c4, c5, n9, i, ieq, band]

set_option linter.unusedVariables false in
theorem BlendNames_core (mode : Int) (s : ByteArray) (w0 : (Lit.int .i64 mode).wf = true) (w1 : s.size ≤ maxLen) (w : World) {F : Nat → Prop} (hG : QR.Laid F w) (hF : ∀ k, F k → k < w.heap.size) :
    Calls Tryd.prog 3 #[.int .i64 mode, .string s] w fun e w' => e = .returned (.bool true) ∧ Below w.heap.size w w' := by
  refine law_of_eval (O := o_law6a) (QR.orc_cons (up a_mod) (QR.orc_cons a_mparse (QR.orc_cons a_rmparse (QR.orc_cons a_rmname (QR.orc_cons a_mname (QR.orc_cons a_awake6 QR.orc_nil)))))) mixed (QR.noLoops) Tryd.func3 (by kernel_rfl) (vs := [.int .i64 mode, .string s]) (xs := [.c (.v (.int .i64 mode)), .c (.v (.string s))]) (args := [.x (.c (.v (.int .i64 mode))), .x (.c (.v (.string s)))]) rfl rfl (by simp) ?_ w hG hF
  rw [BlendNames_vc]
  have k : modOk 15 = true := rfl
  simp [okAns, eqXs, eqX, eqc, veq, eqUs, bcond_iff, k, ieq_rfl', beq_rfl', seqB_rfl]

theorem gx16 (n : Int) : in16 (gxMax n) = true := by rcases gxMax_cases n with h | h <;> rw [h] <;> rfl
theorem gs16 (a n : Int) : in16 (gsV a (gxMax n)) = true := gsV_in16 a (gx16 n)
theorem gss16 (a b n : Int) : in16 (gsV a (gsV b (gxMax n))) = true := gsV_in16 a (gs16 b n)
theorem iimin16 {a b : Int} (h : in16 a = true) (k : in16 b = true) : in16 (iimin a b) = true := by unfold iimin; split <;> assumption
theorem mx16_in {a b : Int} (h : in16 a = true) (k : in16 b = true) : in16 (mx16 a b) = true := by unfold mx16; split <;> assumption
set_option linter.unusedVariables false in
theorem BlendExactAgrees_core (mode s a d b n0 n1 n2 n3 m : Int) (w0 : (Lit.int .i64 mode).wf = true) (w1 : (Lit.int .u16 s).wf = true) (w2 : (Lit.int .u16 a).wf = true) (w3 : (Lit.int .u16 d).wf = true) (w4 : (Lit.int .u16 b).wf = true) (w5 : (Lit.int .i64 n0).wf = true) (w6 : (Lit.int .i64 n1).wf = true) (w7 : (Lit.int .i64 n2).wf = true) (w8 : (Lit.int .i64 n3).wf = true) (w9 : (Lit.int .i64 m).wf = true) (w : World) {F : Nat → Prop} (hG : QR.Laid F w) (hF : ∀ k, F k → k < w.heap.size) :
    Calls Tryd.prog 4 #[.int .i64 mode, .int .u16 s, .int .u16 a, .int .u16 d, .int .u16 b, .agg #[.int .i64 n0, .int .i64 n1, .int .i64 n2, .int .i64 n3], .int .i64 m] w fun e w' => e = .returned (.bool true) ∧ Below w.heap.size w w' := by
  refine law_of_eval (O := o_law6b) (QR.orc_cons (up a_gmax) (QR.orc_cons (up a_mod) (QR.orc_cons (up a_galpha) (QR.orc_cons a_exact6 (QR.orc_cons a_rbl (QR.orc_cons a_max16 (QR.orc_cons a_awake6 QR.orc_nil))))))) mixed (QR.noLoops) Tryd.func4 (by kernel_rfl) (vs := [.int .i64 mode, .int .u16 s, .int .u16 a, .int .u16 d, .int .u16 b, .agg #[.int .i64 n0, .int .i64 n1, .int .i64 n2, .int .i64 n3], .int .i64 m]) (xs := [.c (.v (.int .i64 mode)), .c (.v (.int .u16 s)), .c (.v (.int .u16 a)), .c (.v (.int .u16 d)), .c (.v (.int .u16 b)), .agg [.v (.int .i64 n0), .v (.int .i64 n1), .v (.int .i64 n2), .v (.int .i64 n3)], .c (.v (.int .i64 m))]) (args := [.x (.c (.v (.int .i64 mode))), .x (.c (.v (.int .u16 s))), .x (.c (.v (.int .u16 a))), .x (.c (.v (.int .u16 d))), .x (.c (.v (.int .u16 b))), .x (.agg [.v (.int .i64 n0), .v (.int .i64 n1), .v (.int .i64 n2), .v (.int .i64 n3)]), .x (.c (.v (.int .i64 m)))]) rfl rfl (by simp) ?_ w hG hF
  rw [BlendExactAgrees_vc]
  have k : modOk 15 = true := rfl
  have g1 := wf16 w1
  have g2 := wf16 w2
  have g3 := wf16 w3
  have g4 := wf16 w4
  simp [okAns, eqXs, eqX, eqc, veq, eqUs, bcond_iff, k, ieq_rfl', beq_rfl', gx16, gs16, gss16, g1, g2, g3, g4, iimin16, mx16_in, band]

set_option linter.unusedVariables false in
theorem BlendStraightAgrees_core (mode cs cb most m : Int) (w0 : (Lit.int .i64 mode).wf = true) (w1 : (Lit.int .u16 cs).wf = true) (w2 : (Lit.int .u16 cb).wf = true) (w3 : (Lit.int .u16 most).wf = true) (w4 : (Lit.int .i64 m).wf = true) (w : World) {F : Nat → Prop} (hG : QR.Laid F w) (hF : ∀ k, F k → k < w.heap.size) :
    Calls Tryd.prog 10 #[.int .i64 mode, .int .u16 cs, .int .u16 cb, .int .u16 most, .int .i64 m] w fun e w' => e = .returned (.bool true) ∧ Below w.heap.size w w' := by
  refine law_of_eval (O := o_law6h) (QR.orc_cons (up a_gmax) (QR.orc_cons (up a_mod) (QR.orc_cons a_str6 (QR.orc_cons a_rstr6 (QR.orc_cons a_awake6 QR.orc_nil))))) mixed (QR.noLoops) Tryd.func10 (by kernel_rfl) (vs := [.int .i64 mode, .int .u16 cs, .int .u16 cb, .int .u16 most, .int .i64 m]) (xs := [.c (.v (.int .i64 mode)), .c (.v (.int .u16 cs)), .c (.v (.int .u16 cb)), .c (.v (.int .u16 most)), .c (.v (.int .i64 m))]) (args := [.x (.c (.v (.int .i64 mode))), .x (.c (.v (.int .u16 cs))), .x (.c (.v (.int .u16 cb))), .x (.c (.v (.int .u16 most))), .x (.c (.v (.int .i64 m)))]) rfl rfl (by simp) ?_ w hG hF
  rw [BlendStraightAgrees_vc]
  have k : modOk 14 = true := rfl
  have g1 := wf16 w1
  have g2 := wf16 w2
  have g3 := wf16 w3
  have km : modOk (iadd .i64 (iconv .i64 (gxMax m)) 1) = true := by rcases gxMax_cases m with h | h <;> rw [h] <;> decide
  simp [okAns, eqXs, eqX, eqc, veq, eqUs, bcond_iff, k, km, ieq_rfl', beq_rfl', gx16, in16_conv, g1, g2, g3, band]
end Go.Proofs.YtafaadnjkkkafaaDoor
namespace Go.Proofs.YtafaadnjkkkafaaDoor
open Go.RowKit PR QR
set_option linter.unusedVariables false
set_option linter.unusedSimpArgs false

theorem gs_range2 (a b n : Int) : 0 ≤ gsV a (gsV b (gxMax n)) ∧ gsV a (gsV b (gxMax n)) ≤ gsV b (gxMax n) ∧ gsV b (gxMax n) ≤ 65535 := by
  have r1 := gsV_range b (gx16 n)
  have r2 := gsV_range a (gs16 b n)
  rcases gxMax_cases n with h | h <;> omega
theorem w2_zero (x : Int) : w2 0 x = x := by unfold w2; omega
theorem i64add1 {x : Int} (h : 0 ≤ x) (k : x < 1000000) : iadd .i64 1 x = 1 + x := by unfold iadd; exact IntWalk.i64_in _ (by omega)

set_option linter.unusedVariables false in
theorem BlendStaysInRange_core (mode n0 n1 n2 n3 m : Int) (w0 : (Lit.int .i64 mode).wf = true) (w1 : (Lit.int .i64 n0).wf = true) (w2 : (Lit.int .i64 n1).wf = true) (w3 : (Lit.int .i64 n2).wf = true) (w4 : (Lit.int .i64 n3).wf = true) (w5 : (Lit.int .i64 m).wf = true) (w : World) {F : Nat → Prop} (hG : QR.Laid F w) (hF : ∀ k, F k → k < w.heap.size) :
    Calls Tryd.prog 6 #[.int .i64 mode, .agg #[.int .i64 n0, .int .i64 n1, .int .i64 n2, .int .i64 n3], .int .i64 m] w fun e w' => e = .returned (.bool true) ∧ Below w.heap.size w w' := by
  refine law_of_eval (O := o_law6d) (QR.orc_cons (up a_gmax) (QR.orc_cons (up a_mod) (QR.orc_cons (up a_galpha) (QR.orc_cons a_exact6 (QR.orc_cons a_awake6 (QR.orc_cons (up a_rvalid) (QR.orc_cons (up a_rcompare) QR.orc_nil))))))) mixed (QR.noLoops) Tryd.func6 (by kernel_rfl) (vs := [.int .i64 mode, .agg #[.int .i64 n0, .int .i64 n1, .int .i64 n2, .int .i64 n3], .int .i64 m]) (xs := [.c (.v (.int .i64 mode)), .agg [.v (.int .i64 n0), .v (.int .i64 n1), .v (.int .i64 n2), .v (.int .i64 n3)], .c (.v (.int .i64 m))]) (args := [.x (.c (.v (.int .i64 mode))), .x (.agg [.v (.int .i64 n0), .v (.int .i64 n1), .v (.int .i64 n2), .v (.int .i64 n3)]), .x (.c (.v (.int .i64 m)))]) rfl rfl (by simp) ?_ w hG hF
  rw [BlendStaysInRange_vc]
  have k12 : modOk 12 = true := rfl
  have r := gmod_range mode (k := 12) (by decide)
  obtain ⟨c1, c2, c3⟩ := gs_range2 n0 n1 m
  obtain ⟨d1, d2, d3⟩ := gs_range2 n2 n3 m
  simp only [bcond_iff, okAns, eqXs, eqX, eqc, veq, eqUs, forall_eq, true_and, and_true]
  rw [i64add1 r.1 (by omega)]
  have hk : 1 ≤ 1 + gmod mode 12 ∧ 1 + gmod mode 12 ≤ 12 := by omega
  have g1 := gss16 n0 n1 m
  have g2 := gs16 n1 m
  have g3 := gss16 n2 n3 m
  have g4 := gs16 n3 m
  have gm := gx16 m
  generalize 1 + gmod mode 12 = k at *
  generalize gsV n0 (gsV n1 (gxMax m)) = s at *
  generalize gsV n1 (gxMax m) = a at *
  generalize gsV n2 (gsV n3 (gxMax m)) = d at *
  generalize gsV n3 (gxMax m) = b at *
  have ok : blOk k s a d b = true := decide_eq_true ⟨hk.1, hk.2, c2, d2⟩
  obtain ⟨f1, f2, f3, f4, f5, f6, f7, f8, f9⟩ := bl_facts hk c1 c2 c3 d1 d2 d3
  obtain ⟨z1, z2, z3, z4⟩ := bl_in (k := k) (s := s) (a := a) (d := d) (b := b) c1 c3 d1 d3
  have v : vldB 0 (blQ k s a d b) (blR k s a d b) (blD k s a d b) = true := by
    unfold vldB; simp only [Bool.and_eq_true, decide_eq_true_eq]; exact ⟨⟨⟨by decide, by omega⟩, by omega⟩, by omega⟩
  have e : imul .u64 (iconv .u64 a) (iconv .u64 b) = a * b := imul16 (by omega) (by omega) (by omega) (by omega)
  have c : ile (cmpX 0 (blP k s a d b) (blQ k s a d b) (blR k s a d b) (blD k s a d b) (a * b)) 0 = true := by
    unfold cmpX ordI
    rw [v, w2_zero]
    exact decide_eq_true f9
  have ia : inU (a * b) = true := by rw [← e]; exact inU_mul _ _
  simp [okAns, eqXs, eqX, eqc, veq, eqUs, bcond_iff, k12, gm, g1, g2, g3, g4, ok, v, e, c, ia, z1, z2, z3, z4, inU_zero, bnot]

theorem bl_swap4 {s a d b : Int} (h1 : s ≤ a) (h3 : d ≤ b) : blOk 4 s a d b = true ∧ blOk 9 d b s a = true ∧ blP 4 s a d b = blP 9 d b s a ∧ blQ 4 s a d b = blQ 9 d b s a ∧ blR 4 s a d b = blR 9 d b s a ∧ blD 4 s a d b = blD 9 d b s a := by
  have o1 : blOk 4 s a d b = true := decide_eq_true ⟨by decide, by decide, h1, h3⟩
  have o2 : blOk 9 d b s a = true := decide_eq_true ⟨by decide, by decide, h3, h1⟩
  obtain ⟨x1, x2, x3, x4⟩ := bl_at o1
  obtain ⟨y1, y2, y3, y4⟩ := bl_at o2
  rw [x1, x2, x3, x4, y1, y2, y3, y4]
  exact ⟨o1, o2, rfl, rfl, rfl, rfl⟩
theorem minI_comm (x y : Int) : minI x y = minI y x := by unfold minI; split <;> split <;> omega
theorem maxI_comm (x y : Int) : maxI x y = maxI y x := by unfold maxI; split <;> split <;> omega
theorem bl_sym {k s a d b : Int} (hk : k = 2 ∨ k = 3 ∨ k = 5 ∨ k = 6 ∨ k = 11 ∨ k = 12) (h1 : s ≤ a) (h3 : d ≤ b) : blOk k s a d b = true ∧ blOk k d b s a = true ∧ blP k s a d b = blP k d b s a ∧ blQ k s a d b = blQ k d b s a ∧ blR k s a d b = blR k d b s a ∧ blD k s a d b = blD k d b s a := by
  have o1 : blOk k s a d b = true := decide_eq_true (by omega)
  have o2 : blOk k d b s a = true := decide_eq_true (by omega)
  obtain ⟨x1, x2, x3, x4⟩ := bl_at o1
  obtain ⟨y1, y2, y3, y4⟩ := bl_at o2
  rw [x1, x2, x3, x4, y1, y2, y3, y4]
  refine ⟨o1, o2, ?_⟩
  have e1 : s * d = d * s := Int.mul_comm s d
  have e2 : 2 * s * d = 2 * d * s := by grind
  have e3 : s * b + d * a = d * a + s * b := Int.add_comm _ _
  unfold blT
  rcases hk with rfl | rfl | rfl | rfl | rfl | rfl <;> simp only [Int.reduceEq, if_true, if_false, and_true, true_and, and_self]
  · exact e1
  · rw [e1, e3]
  · exact minI_comm _ _
  · exact maxI_comm _ _
  · rw [minI_comm, maxI_comm]
  · rw [e2, e3]
set_option linter.unusedVariables false in
theorem BlendSwaps_core (mode n0 n1 n2 n3 m : Int) (w0 : (Lit.int .i64 mode).wf = true) (w1 : (Lit.int .i64 n0).wf = true) (w2 : (Lit.int .i64 n1).wf = true) (w3 : (Lit.int .i64 n2).wf = true) (w4 : (Lit.int .i64 n3).wf = true) (w5 : (Lit.int .i64 m).wf = true) (w : World) {F : Nat → Prop} (hG : QR.Laid F w) (hF : ∀ k, F k → k < w.heap.size) :
    Calls Tryd.prog 7 #[.int .i64 mode, .agg #[.int .i64 n0, .int .i64 n1, .int .i64 n2, .int .i64 n3], .int .i64 m] w fun e w' => e = .returned (.bool true) ∧ Below w.heap.size w w' := by
  refine law_of_eval (O := o_law6e) (QR.orc_cons (up a_gmax) (QR.orc_cons (up a_mod) (QR.orc_cons (up a_galpha) (QR.orc_cons a_exact6 (QR.orc_cons a_awake6 QR.orc_nil))))) mixed (QR.noLoops) Tryd.func7 (by kernel_rfl) (vs := [.int .i64 mode, .agg #[.int .i64 n0, .int .i64 n1, .int .i64 n2, .int .i64 n3], .int .i64 m]) (xs := [.c (.v (.int .i64 mode)), .agg [.v (.int .i64 n0), .v (.int .i64 n1), .v (.int .i64 n2), .v (.int .i64 n3)], .c (.v (.int .i64 m))]) (args := [.x (.c (.v (.int .i64 mode))), .x (.agg [.v (.int .i64 n0), .v (.int .i64 n1), .v (.int .i64 n2), .v (.int .i64 n3)]), .x (.c (.v (.int .i64 m)))]) rfl rfl (by simp) ?_ w hG hF
  rw [BlendSwaps_vc]
  have k6 : modOk 6 = true := rfl
  have r := gmod_range mode (k := 6) (by decide)
  obtain ⟨c1, c2, c3⟩ := gs_range2 n0 n1 m
  obtain ⟨d1, d2, d3⟩ := gs_range2 n2 n3 m
  have g1 := gss16 n0 n1 m
  have g2 := gs16 n1 m
  have g3 := gss16 n2 n3 m
  have g4 := gs16 n3 m
  have gm := gx16 m
  obtain ⟨p1, p2, p3, p4, p5, p6⟩ := bl_swap4 (s := gsV n0 (gsV n1 (gxMax m))) (a := gsV n1 (gxMax m)) (d := gsV n2 (gsV n3 (gxMax m))) (b := gsV n3 (gxMax m)) c2 d2
  have hk : ∀ x : Int, x = gmod mode 6 → isel (ieq x 5) 12 (isel (ieq x 4) 11 (isel (ieq x 3) 6 (isel (ieq x 2) 5 (isel (ieq x 1) 3 (isel (ieq x 0) 2 0))))) = 2 ∨ isel (ieq x 5) 12 (isel (ieq x 4) 11 (isel (ieq x 3) 6 (isel (ieq x 2) 5 (isel (ieq x 1) 3 (isel (ieq x 0) 2 0))))) = 3 ∨ isel (ieq x 5) 12 (isel (ieq x 4) 11 (isel (ieq x 3) 6 (isel (ieq x 2) 5 (isel (ieq x 1) 3 (isel (ieq x 0) 2 0))))) = 5 ∨ isel (ieq x 5) 12 (isel (ieq x 4) 11 (isel (ieq x 3) 6 (isel (ieq x 2) 5 (isel (ieq x 1) 3 (isel (ieq x 0) 2 0))))) = 6 ∨ isel (ieq x 5) 12 (isel (ieq x 4) 11 (isel (ieq x 3) 6 (isel (ieq x 2) 5 (isel (ieq x 1) 3 (isel (ieq x 0) 2 0))))) = 11 ∨ isel (ieq x 5) 12 (isel (ieq x 4) 11 (isel (ieq x 3) 6 (isel (ieq x 2) 5 (isel (ieq x 1) 3 (isel (ieq x 0) 2 0))))) = 12 := by
    intro x hx
    have : x = 0 ∨ x = 1 ∨ x = 2 ∨ x = 3 ∨ x = 4 ∨ x = 5 := by omega
    rcases this with rfl | rfl | rfl | rfl | rfl | rfl <;> decide
  have hk := hk _ rfl
  simp only [bcond_iff, okAns, eqXs, eqX, eqc, veq, eqUs, forall_eq, true_and, and_true]
  generalize isel (ieq (gmod mode 6) 5) 12 (isel (ieq (gmod mode 6) 4) 11 (isel (ieq (gmod mode 6) 3) 6 (isel (ieq (gmod mode 6) 2) 5 (isel (ieq (gmod mode 6) 1) 3 (isel (ieq (gmod mode 6) 0) 2 0))))) = K at *
  obtain ⟨t1, t2, t3, t4, t5, t6⟩ := bl_sym (s := gsV n0 (gsV n1 (gxMax m))) (a := gsV n1 (gxMax m)) (d := gsV n2 (gsV n3 (gxMax m))) (b := gsV n3 (gxMax m)) hk c2 d2
  have r1 : ile 0 (gmod mode 6) = true := decide_eq_true r.1
  have r2 : ilt (gmod mode 6) 6 = true := decide_eq_true r.2
  simp [okAns, eqXs, eqX, eqc, veq, eqUs, bcond_iff, k6, r1, r2, gm, g1, g2, g3, g4, p1, p2, p3, p4, p5, p6, t1, t2, t3, t4, t5, t6, ieq_rfl', band]

/-- the term of a transparent source or backdrop rounds to 0 -/
theorem rd_zero {p q r d : Int} (hp : 0 ≤ p) (hq : 0 ≤ q) (hr : 0 ≤ r) (hd : 0 < d) (h : ordZ p q r 0 ≤ 0) : rdV p q r d = 0 := by
  have hS : 0 ≤ q * q * r := Int.mul_nonneg (Int.mul_nonneg hq hq) hr
  have hp0 : p = 0 := by
    by_cases c : 0 < p
    · unfold ordZ at h; rw [if_pos c] at h; omega
    · omega
  subst hp0
  have hS0 : q * q * r = 0 := by
    unfold ordZ cmpZ at h
    rw [if_neg (by omega)] at h
    simp only [Int.sub_self, Int.mul_zero] at h
    split at h
    · omega
    · split at h <;> omega
  have e : hvZ 0 q r d = 0 := by
    rw [hv_whole (s := 0) (by decide) (by rw [hS0]; rfl) hd]
    simp only [Int.add_zero, Int.zero_ediv, Int.mul_zero, Int.zero_add, Int.one_mul]
    rw [if_neg (by omega)]
  unfold rdV hvV
  rw [w2_zero, e]
  cases hvOk 0 0 q r d <;> rfl
set_option linter.unusedVariables false in
theorem BlendOfTheTransparent_core (mode n0 n1 n2 n3 m : Int) (w0 : (Lit.int .i64 mode).wf = true) (w1 : (Lit.int .i64 n0).wf = true) (w2 : (Lit.int .i64 n1).wf = true) (w3 : (Lit.int .i64 n2).wf = true) (w4 : (Lit.int .i64 n3).wf = true) (w5 : (Lit.int .i64 m).wf = true) (w : World) {F : Nat → Prop} (hG : QR.Laid F w) (hF : ∀ k, F k → k < w.heap.size) :
    Calls Tryd.prog 11 #[.int .i64 mode, .agg #[.int .i64 n0, .int .i64 n1, .int .i64 n2, .int .i64 n3], .int .i64 m] w fun e w' => e = .returned (.bool true) ∧ Below w.heap.size w w' := by
  refine law_of_eval (O := o_law6i) (QR.orc_cons (up a_gmax) (QR.orc_cons (up a_mod) (QR.orc_cons (up a_galpha) (QR.orc_cons a_exact6 (QR.orc_cons a_rounded6 (QR.orc_cons a_awake6 QR.orc_nil)))))) mixed (QR.noLoops) Tryd.func11 (by kernel_rfl) (vs := [.int .i64 mode, .agg #[.int .i64 n0, .int .i64 n1, .int .i64 n2, .int .i64 n3], .int .i64 m]) (xs := [.c (.v (.int .i64 mode)), .agg [.v (.int .i64 n0), .v (.int .i64 n1), .v (.int .i64 n2), .v (.int .i64 n3)], .c (.v (.int .i64 m))]) (args := [.x (.c (.v (.int .i64 mode))), .x (.agg [.v (.int .i64 n0), .v (.int .i64 n1), .v (.int .i64 n2), .v (.int .i64 n3)]), .x (.c (.v (.int .i64 m)))]) rfl rfl (by simp) ?_ w hG hF
  rw [BlendOfTheTransparent_vc]
  have k12 : modOk 12 = true := rfl
  have r := gmod_range mode (k := 12) (by decide)
  obtain ⟨d1, d2, d3⟩ := gs_range2 n2 n3 m
  simp only [bcond_iff, okAns, eqXs, eqX, eqc, veq, eqUs, forall_eq, true_and, and_true]
  rw [i64add1 r.1 (by omega)]
  have hk : 1 ≤ 1 + gmod mode 12 ∧ 1 + gmod mode 12 ≤ 12 := by omega
  have g3 := gss16 n2 n3 m
  have g4 := gs16 n3 m
  have gm := gx16 m
  have g0 : in16 0 = true := rfl
  generalize 1 + gmod mode 12 = k at *
  generalize gsV n2 (gsV n3 (gxMax m)) = d at *
  generalize gsV n3 (gxMax m) = b at *
  have o1 : blOk k 0 0 d b = true := decide_eq_true ⟨hk.1, hk.2, by omega, d2⟩
  have o2 : blOk k d b 0 0 = true := decide_eq_true ⟨hk.1, hk.2, d2, by omega⟩
  have f := bl_facts (s := 0) (a := 0) (d := d) (b := b) hk (by omega) (by omega) (by omega) d1 d2 d3
  have f' := bl_facts (s := d) (a := b) (d := 0) (b := 0) hk d1 d2 d3 (by omega) (by omega) (by omega)
  rw [Int.zero_mul, Int.zero_mul] at f
  rw [Int.mul_zero, Int.zero_mul] at f'
  obtain ⟨z1, z2, z3, z4⟩ := bl_in (k := k) (s := 0) (a := 0) (d := d) (b := b) (by omega) (by omega) d1 d3
  obtain ⟨y1, y2, y3, y4⟩ := bl_in (k := k) (s := d) (a := b) (d := 0) (b := 0) d1 d3 (by omega) (by omega)
  have v1 := rd_zero f.1 f.2.2.1 f.2.2.2.2.1 f.2.2.2.2.2.2.1 f.2.2.2.2.2.2.2.2
  have v2 := rd_zero f'.1 f'.2.2.1 f'.2.2.2.2.1 f'.2.2.2.2.2.2.1 f'.2.2.2.2.2.2.2.2
  simp [k12, gm, g0, g3, g4, o1, o2, v1, v2, z1, z2, z3, z4, y1, y2, y3, y4, ieq]

theorem mx16_facts {s : Int} (h : in16 s = true) : in16 (mx16 s 1) = true ∧ in16 (isub .u16 (mx16 s 1) 1) = true ∧ isub .u16 (mx16 s 1) 1 < mx16 s 1 := by
  rw [in16_iff] at *
  have e : 1 ≤ mx16 s 1 ∧ mx16 s 1 < 65536 := by unfold mx16; split <;> omega
  have e2 : isub .u16 (mx16 s 1) 1 = mx16 s 1 - 1 := by unfold isub; rw [IntKind.wrap_u16]; omega
  rw [in16_iff, e2]
  omega
theorem st_no {k s d m : Int} (h : stOk6 k s d m = false) : stV6 k s d m = 0 := by unfold stV6; rw [h]; rfl
set_option linter.unusedVariables false in
theorem BlendRejects_core (mode y s a d b : Int) (w0 : (Lit.int .i64 mode).wf = true) (w1 : (Lit.int .i64 y).wf = true) (w2 : (Lit.int .u16 s).wf = true) (w3 : (Lit.int .u16 a).wf = true) (w4 : (Lit.int .u16 d).wf = true) (w5 : (Lit.int .u16 b).wf = true) (w : World) {F : Nat → Prop} (hG : QR.Laid F w) (hF : ∀ k, F k → k < w.heap.size) :
    Calls Tryd.prog 5 #[.int .i64 mode, .int .i64 y, .int .u16 s, .int .u16 a, .int .u16 d, .int .u16 b] w fun e w' => e = .returned (.bool true) ∧ Below w.heap.size w w' := by
  refine law_of_eval (O := o_law6c) (QR.orc_cons (up a_mod) (QR.orc_cons a_exact6 (QR.orc_cons a_max16 (QR.orc_cons a_str6 (QR.orc_cons a_awake6 QR.orc_nil))))) mixed (QR.noLoops) Tryd.func5 (by kernel_rfl) (vs := [.int .i64 mode, .int .i64 y, .int .u16 s, .int .u16 a, .int .u16 d, .int .u16 b]) (xs := [.c (.v (.int .i64 mode)), .c (.v (.int .i64 y)), .c (.v (.int .u16 s)), .c (.v (.int .u16 a)), .c (.v (.int .u16 d)), .c (.v (.int .u16 b))]) (args := [.x (.c (.v (.int .i64 mode))), .x (.c (.v (.int .i64 y))), .x (.c (.v (.int .u16 s))), .x (.c (.v (.int .u16 a))), .x (.c (.v (.int .u16 d))), .x (.c (.v (.int .u16 b)))]) rfl rfl (by simp) ?_ w hG hF
  rw [BlendRejects_vc]
  have k12 : modOk 12 = true := rfl
  have k4 : modOk 4 = true := rfl
  have k1000 : modOk 1000 = true := rfl
  have r := gmod_range mode (k := 12) (by decide)
  have r4 := gmod_range y (k := 4) (by decide)
  have r1000 := gmod_range y (k := 1000) (by decide)
  have g1 := wf16 w2
  have g2 := wf16 w3
  have g3 := wf16 w4
  have g4 := wf16 w5
  have g0 : in16 0 = true := rfl
  have g5 : in16 1 = true := rfl
  have g6 : in16 255 = true := rfl
  simp only [bcond_iff, okAns, eqXs, eqX, eqc, veq, eqUs, forall_eq, true_and, and_true]
  have bad : ∀ x, x = gmod y 4 → ¬ (1 ≤ isel (ieq x 3) (iadd .i64 13 (gmod y 1000)) (isel (ieq x 2) (isub .i64 (-1) (gmod y 1000)) (isel (ieq x 1) 13 (isel (ieq x 0) 0 0))) ∧ isel (ieq x 3) (iadd .i64 13 (gmod y 1000)) (isel (ieq x 2) (isub .i64 (-1) (gmod y 1000)) (isel (ieq x 1) 13 (isel (ieq x 0) 0 0))) ≤ 12) := by
    intro x hx
    have a1 : iadd .i64 13 (gmod y 1000) = 13 + gmod y 1000 := by unfold iadd; exact IntWalk.i64_in _ (by omega)
    have a2 : isub .i64 (-1) (gmod y 1000) = -1 - gmod y 1000 := by unfold isub; exact IntWalk.i64_in _ (by omega)
    rw [a1, a2]
    have : x = 0 ∨ x = 1 ∨ x = 2 ∨ x = 3 := by omega
    rcases this with rfl | rfl | rfl | rfl <;> simp [isel, ieq] <;> omega
  have bad := bad _ rfl
  have e1 : ile 0 (gmod y 4) = true := decide_eq_true r4.1
  have e2 : ilt (gmod y 4) 4 = true := decide_eq_true r4.2
  generalize isel (ieq (gmod y 4) 3) (iadd .i64 13 (gmod y 1000)) (isel (ieq (gmod y 4) 2) (isub .i64 (-1) (gmod y 1000)) (isel (ieq (gmod y 4) 1) 13 (isel (ieq (gmod y 4) 0) 0 0))) = K at *
  generalize iadd .i64 1 (gmod mode 12) = k at *
  obtain ⟨m1, m2, m3⟩ := mx16_facts g1
  obtain ⟨n1, n2, n3⟩ := mx16_facts g3
  have o1 : blOk K s s d d = false := decide_eq_false (by omega)
  have o2 : blOk k (mx16 s 1) (isub .u16 (mx16 s 1) 1) d d = false := decide_eq_false (by omega)
  have o3 : blOk k s s (mx16 d 1) (isub .u16 (mx16 d 1) 1) = false := decide_eq_false (by omega)
  have o4 : stOk6 k a b 0 = false := by unfold stOk6; simp
  have o5 : stOk6 K 1 1 255 = false := by unfold stOk6; rw [show blOk K 1 255 1 255 = false from decide_eq_false (by omega)]; rfl
  obtain ⟨p1, p2, p3, p4⟩ := bl_no o1
  obtain ⟨q1, q2, q3, q4⟩ := bl_no o2
  obtain ⟨t1, t2, t3, t4⟩ := bl_no o3
  simp [k12, k4, k1000, g0, g1, g2, g3, g4, g5, g6, e1, e2, m1, m2, n1, n2, o1, o2, o3, o4, o5, st_no o4, st_no o5, p1, p2, p3, p4, q1, q2, q3, q4, t1, t2, t3, t4, ieq, band, bnot]
end Go.Proofs.YtafaadnjkkkafaaDoor
namespace Go.Proofs.YtafaadnjkkkafaaDoor
open Go.RowKit PR QR
set_option linter.unusedVariables false
set_option linter.unusedSimpArgs false

/-- the generator's colours of a maximum -/
theorem gc_facts {c m : Int} (h : in16 c = true) (hm : m = 255 ∨ m = 65535) : modOk (iadd .i64 (iconv .i64 m) 1) = true ∧ iconv .i64 m = m ∧ iadd .i64 m 1 = m + 1 ∧
    0 ≤ iconv .u16 (gmod (iconv .i64 c) (iadd .i64 (iconv .i64 m) 1)) ∧ iconv .u16 (gmod (iconv .i64 c) (iadd .i64 (iconv .i64 m) 1)) ≤ m := by
  rw [in16_iff] at h
  have e1 : iconv .i64 m = m := i64_id (by omega) (by omega)
  have e2 : iadd .i64 m 1 = m + 1 := by unfold iadd; exact IntWalk.i64_in _ (by omega)
  have e3 : iconv .i64 c = c := i64_id (by omega) (by omega)
  rw [e1, e2, e3]
  have r := gmod_range c (k := m + 1) (by omega)
  have e4 : iconv .u16 (gmod c (m + 1)) = gmod c (m + 1) := u16_id r.1 (by omega)
  rw [e4]
  exact ⟨decide_eq_true (by omega), rfl, rfl, r.1, by omega⟩
theorem u16_sub {m d : Int} (h0 : 0 ≤ d) (h : d ≤ m) (k : m ≤ 65535) : isub .u16 m d = m - d := by unfold isub; rw [IntKind.wrap_u16]; omega
theorem dual_pair {k k' s d m : Int} (hp : (k = 3 ∧ k' = 2) ∨ (k = 6 ∧ k' = 5) ∨ (k = 8 ∧ k' = 7) ∨ (k = 9 ∧ k' = 9)) (h0 : 0 ≤ s) (h1 : s ≤ m) (h2 : 0 ≤ d) (h3 : d ≤ m) :
    blD k s m d m = blD k' (m - s) m (m - d) m ∧ blT k s m d m + blT k' (m - s) m (m - d) m = blD k s m d m * m * m := by
  have o1 : blOk k s m d m = true := decide_eq_true (by omega)
  have o2 : blOk k' (m - s) m (m - d) m = true := decide_eq_true (by omega)
  rw [(bl_at o1).2.2.2, (bl_at o2).2.2.2]
  rcases hp with ⟨rfl, rfl⟩ | ⟨rfl, rfl⟩ | ⟨rfl, rfl⟩ | ⟨rfl, rfl⟩
  · exact ⟨rfl, dual_screen⟩
  · exact ⟨rfl, dual_max (by omega)⟩
  · exact dual_burn h0 h1 h2 h3
  · exact ⟨rfl, dual_hard h0 h1⟩
set_option linter.unusedVariables false in
theorem BlendDuals_core (mode cs cb m : Int) (w0 : (Lit.int .i64 mode).wf = true) (w1 : (Lit.int .u16 cs).wf = true) (w2 : (Lit.int .u16 cb).wf = true) (w3 : (Lit.int .i64 m).wf = true) (w : World) {F : Nat → Prop} (hG : QR.Laid F w) (hF : ∀ k, F k → k < w.heap.size) :
    Calls Tryd.prog 8 #[.int .i64 mode, .int .u16 cs, .int .u16 cb, .int .i64 m] w fun e w' => e = .returned (.bool true) ∧ Below w.heap.size w w' := by
  refine law_of_eval (O := o_law6f) (QR.orc_cons (up a_gmax) (QR.orc_cons (up a_mod) (QR.orc_cons a_str6 (QR.orc_cons a_awake6 QR.orc_nil)))) mixed (QR.noLoops) Tryd.func8 (by kernel_rfl) (vs := [.int .i64 mode, .int .u16 cs, .int .u16 cb, .int .i64 m]) (xs := [.c (.v (.int .i64 mode)), .c (.v (.int .u16 cs)), .c (.v (.int .u16 cb)), .c (.v (.int .i64 m))]) (args := [.x (.c (.v (.int .i64 mode))), .x (.c (.v (.int .u16 cs))), .x (.c (.v (.int .u16 cb))), .x (.c (.v (.int .i64 m)))]) rfl rfl (by simp) ?_ w hG hF
  rw [BlendDuals_vc]
  have k4 : modOk 4 = true := rfl
  have r4 := gmod_range mode (k := 4) (by decide)
  have g1 := wf16 w1
  have g2 := wf16 w2
  have gm := gx16 m
  simp only [bcond_iff, okAns, eqXs, eqX, eqc, veq, eqUs, forall_eq, true_and, and_true]
  have hM := gxMax_cases m
  obtain ⟨a1, a2, a3, a4, a5⟩ := gc_facts g1 hM
  obtain ⟨b1, b2, b3, b4, b5⟩ := gc_facts g2 hM
  have pr : ∀ x, x = gmod mode 4 → (isel (ieq x 3) 9 (isel (ieq x 2) 8 (isel (ieq x 1) 6 (isel (ieq x 0) 3 0))) = 3 ∧ isel (ieq x 3) 9 (isel (ieq x 2) 7 (isel (ieq x 1) 5 (isel (ieq x 0) 2 0))) = 2) ∨ (isel (ieq x 3) 9 (isel (ieq x 2) 8 (isel (ieq x 1) 6 (isel (ieq x 0) 3 0))) = 6 ∧ isel (ieq x 3) 9 (isel (ieq x 2) 7 (isel (ieq x 1) 5 (isel (ieq x 0) 2 0))) = 5) ∨ (isel (ieq x 3) 9 (isel (ieq x 2) 8 (isel (ieq x 1) 6 (isel (ieq x 0) 3 0))) = 8 ∧ isel (ieq x 3) 9 (isel (ieq x 2) 7 (isel (ieq x 1) 5 (isel (ieq x 0) 2 0))) = 7) ∨ (isel (ieq x 3) 9 (isel (ieq x 2) 8 (isel (ieq x 1) 6 (isel (ieq x 0) 3 0))) = 9 ∧ isel (ieq x 3) 9 (isel (ieq x 2) 7 (isel (ieq x 1) 5 (isel (ieq x 0) 2 0))) = 9) := by
    intro x hx
    have : x = 0 ∨ x = 1 ∨ x = 2 ∨ x = 3 := by omega
    rcases this with rfl | rfl | rfl | rfl <;> decide
  have pr := pr _ rfl
  have e1 : ile 0 (gmod mode 4) = true := decide_eq_true r4.1
  have e2 : ilt (gmod mode 4) 4 = true := decide_eq_true r4.2
  generalize isel (ieq (gmod mode 4) 3) 9 (isel (ieq (gmod mode 4) 2) 8 (isel (ieq (gmod mode 4) 1) 6 (isel (ieq (gmod mode 4) 0) 3 0))) = k at *
  generalize isel (ieq (gmod mode 4) 3) 9 (isel (ieq (gmod mode 4) 2) 7 (isel (ieq (gmod mode 4) 1) 5 (isel (ieq (gmod mode 4) 0) 2 0))) = k' at *
  have i1 : in16 (iconv .u16 (gmod (iconv .i64 cs) (iadd .i64 (iconv .i64 (gxMax m)) 1))) = true := in16_conv _
  have i2 : in16 (iconv .u16 (gmod (iconv .i64 cb) (iadd .i64 (iconv .i64 (gxMax m)) 1))) = true := in16_conv _
  generalize iconv .u16 (gmod (iconv .i64 cs) (iadd .i64 (iconv .i64 (gxMax m)) 1)) = s at *
  generalize iconv .u16 (gmod (iconv .i64 cb) (iadd .i64 (iconv .i64 (gxMax m)) 1)) = d at *
  generalize gxMax m = M at *
  have us : isub .u16 M s = M - s := u16_sub a4 a5 (by omega)
  have ud : isub .u16 M d = M - d := u16_sub b4 b5 (by omega)
  simp only [us, ud]
  have i3 : in16 (M - s) = true := in16_iff.2 (by omega)
  have i4 : in16 (M - d) = true := in16_iff.2 (by omega)
  obtain ⟨x1, x2, x3, x4, x5, x6⟩ := st_flat (k := k) (s := s) (d := d) (m := M) (by omega) (by omega) a4 a5 b4 b5 (by omega) (by omega)
  obtain ⟨y1, y2, y3, y4, y5, y6⟩ := st_flat (k := k') (s := M - s) (d := M - d) (m := M) (by omega) (by omega) (by omega) (by omega) (by omega) (by omega) (by omega) (by omega)
  obtain ⟨d1, d2⟩ := dual_pair pr a4 a5 b4 b5
  rw [← d1] at y4
  have sum := dual_sum x3 d2
  rw [← x4, ← y4] at sum
  generalize stV6 k s d M = X at *
  generalize stV6 k' (M - s) (M - d) M = Y at *
  have c1 : iconv .i64 X = X := i64_id x5 (by omega)
  have c2 : iconv .i64 Y = Y := i64_id y5 (by omega)
  have c3 : iadd .i64 X Y = X + Y := by unfold iadd; exact IntWalk.i64_in _ (by omega)
  rw [a2, a3] at a1
  simp only [a1, a2, a3, i1, i2, i3, i4, gm, k4, e1, e2, x1, y1, c1, c2, c3, ieq, beq_iff_eq, beq_eq_false_iff_ne, ne_eq, and_self, true_and, true_implies, false_implies, reduceCtorEq]
  exact ⟨⟨⟨fun _ => trivial, fun h => by omega⟩, trivial⟩, trivial⟩

theorem round_exact {n v P : Int} (hn : 0 < n) (h : P = n * v) : (2 * P + n) / (2 * n) = v := by
  subst h
  rw [Int.ediv_eq_iff_of_pos (by omega)]
  have e1 : v * (2 * n) = 2 * (n * v) := by grind
  constructor
  · omega
  · have e2 : (v + 1) * (2 * n) = 2 * (n * v) + 2 * n := by grind
    omega
theorem white {k d m : Int} (hk : k = 2 ∨ k = 8 ∨ k = 5) (h2 : 0 ≤ d) (h3 : d ≤ m) (hm : 0 < m) : blT k m m d m = blD k m m d m * m * d := by
  have o1 : blOk k m m d m = true := decide_eq_true (by omega)
  rw [(bl_at o1).2.2.2]
  have p := Int.mul_le_mul_of_nonneg_right h3 (show 0 ≤ m by omega)
  rcases hk with rfl | rfl | rfl
  · show m * d = 1 * m * d
    rw [Int.one_mul]
  · show burnP m m d m = burnD m m d m * m * d
    unfold burnP burnD
    by_cases c : d = m
    · rw [if_pos c, if_pos c]; subst c; grind
    · rw [if_neg c, if_neg c]
      by_cases l : m * m ≤ (m - d) * m
      · rw [if_pos l, if_pos l]
        have : d * m ≤ 0 := by have e : (m - d) * m = m * m - d * m := by grind
                               omega
        have d0 : d = 0 := by
          by_cases c : 0 < d
          · have := Int.mul_pos c hm; omega
          · omega
        subst d0; simp
      · rw [if_neg l, if_neg l]; grind
  · show minI (m * m) (d * m) = 1 * m * d
    have := min_max (m * m) (d * m)
    have e : 1 * m * d = d * m := by grind
    omega
theorem black {k d m : Int} (hk : k = 3 ∨ k = 7 ∨ k = 6 ∨ k = 11 ∨ k = 12) (h2 : 0 ≤ d) (h3 : d ≤ m) (hm : 0 < m) : blT k 0 m d m = blD k 0 m d m * m * d := by
  have o1 : blOk k 0 m d m = true := decide_eq_true (by omega)
  rw [(bl_at o1).2.2.2]
  have p := Int.mul_nonneg h2 (show 0 ≤ m by omega)
  have mm := min_max (0 * m) (d * m)
  have e : 1 * m * d = d * m := by grind
  have z : 0 * m = 0 := Int.zero_mul m
  rcases hk with rfl | rfl | rfl | rfl | rfl
  · show 0 * m + d * m - 0 * d = 1 * m * d
    rw [Int.zero_mul d]; omega
  · show dodgeP 0 m d m = dodgeD 0 m d m * m * d
    unfold dodgeP dodgeD
    by_cases c : d = 0
    · rw [if_pos c, if_pos c]; subst c; simp
    · rw [if_neg c, if_neg c, Int.sub_zero]
      by_cases l : m * m ≤ d * m
      · rw [if_pos l, if_pos l]
        have : d = m := by
          by_cases c : d < m
          · have := Int.mul_lt_mul_of_pos_right c hm; omega
          · omega
        subst this; grind
      · rw [if_neg l, if_neg l]
  · show maxI (0 * m) (d * m) = 1 * m * d
    omega
  · show maxI (0 * m) (d * m) - minI (0 * m) (d * m) = 1 * m * d
    omega
  · show 0 * m + d * m - 2 * 0 * d = 1 * m * d
    rw [Int.mul_zero 2, Int.zero_mul d]; omega
set_option linter.unusedVariables false in
theorem BlendNeutralColours_core (cb which m : Int) (w0 : (Lit.int .u16 cb).wf = true) (w1 : (Lit.int .i64 which).wf = true) (w2 : (Lit.int .i64 m).wf = true) (w : World) {F : Nat → Prop} (hG : QR.Laid F w) (hF : ∀ k, F k → k < w.heap.size) :
    Calls Tryd.prog 9 #[.int .u16 cb, .int .i64 which, .int .i64 m] w fun e w' => e = .returned (.bool true) ∧ Below w.heap.size w w' := by
  refine law_of_eval (O := o_law6f) (QR.orc_cons (up a_gmax) (QR.orc_cons (up a_mod) (QR.orc_cons a_str6 (QR.orc_cons a_awake6 QR.orc_nil)))) mixed (QR.noLoops) Tryd.func9 (by kernel_rfl) (vs := [.int .u16 cb, .int .i64 which, .int .i64 m]) (xs := [.c (.v (.int .u16 cb)), .c (.v (.int .i64 which)), .c (.v (.int .i64 m))]) (args := [.x (.c (.v (.int .u16 cb))), .x (.c (.v (.int .i64 which))), .x (.c (.v (.int .i64 m)))]) rfl rfl (by simp) ?_ w hG hF
  rw [BlendNeutralColours_vc]
  have k3 : modOk 3 = true := rfl
  have k5 : modOk 5 = true := rfl
  have r3 := gmod_range which (k := 3) (by decide)
  have r5 := gmod_range which (k := 5) (by decide)
  have g1 := wf16 w0
  have gm := gx16 m
  have g0 : in16 0 = true := rfl
  simp only [bcond_iff, okAns, eqXs, eqX, eqc, veq, eqUs, forall_eq, true_and, and_true]
  have hM := gxMax_cases m
  obtain ⟨b1, b2, b3, b4, b5⟩ := gc_facts g1 hM
  have pw : ∀ x, x = gmod which 3 → isel (ieq x 2) 5 (isel (ieq x 1) 8 (isel (ieq x 0) 2 0)) = 2 ∨ isel (ieq x 2) 5 (isel (ieq x 1) 8 (isel (ieq x 0) 2 0)) = 8 ∨ isel (ieq x 2) 5 (isel (ieq x 1) 8 (isel (ieq x 0) 2 0)) = 5 := by
    intro x hx
    have : x = 0 ∨ x = 1 ∨ x = 2 := by omega
    rcases this with rfl | rfl | rfl <;> decide
  have pb : ∀ x, x = gmod which 5 → isel (ieq x 4) 12 (isel (ieq x 3) 11 (isel (ieq x 2) 6 (isel (ieq x 1) 7 (isel (ieq x 0) 3 0)))) = 3 ∨ isel (ieq x 4) 12 (isel (ieq x 3) 11 (isel (ieq x 2) 6 (isel (ieq x 1) 7 (isel (ieq x 0) 3 0)))) = 7 ∨ isel (ieq x 4) 12 (isel (ieq x 3) 11 (isel (ieq x 2) 6 (isel (ieq x 1) 7 (isel (ieq x 0) 3 0)))) = 6 ∨ isel (ieq x 4) 12 (isel (ieq x 3) 11 (isel (ieq x 2) 6 (isel (ieq x 1) 7 (isel (ieq x 0) 3 0)))) = 11 ∨ isel (ieq x 4) 12 (isel (ieq x 3) 11 (isel (ieq x 2) 6 (isel (ieq x 1) 7 (isel (ieq x 0) 3 0)))) = 12 := by
    intro x hx
    have : x = 0 ∨ x = 1 ∨ x = 2 ∨ x = 3 ∨ x = 4 := by omega
    rcases this with rfl | rfl | rfl | rfl | rfl <;> decide
  have pw := pw _ rfl
  have pb := pb _ rfl
  have e1 : ile 0 (gmod which 3) = true := decide_eq_true r3.1
  have e2 : ilt (gmod which 3) 3 = true := decide_eq_true r3.2
  have e3 : ile 0 (gmod which 5) = true := decide_eq_true r5.1
  have e4 : ilt (gmod which 5) 5 = true := decide_eq_true r5.2
  generalize isel (ieq (gmod which 3) 2) 5 (isel (ieq (gmod which 3) 1) 8 (isel (ieq (gmod which 3) 0) 2 0)) = k at *
  generalize isel (ieq (gmod which 5) 4) 12 (isel (ieq (gmod which 5) 3) 11 (isel (ieq (gmod which 5) 2) 6 (isel (ieq (gmod which 5) 1) 7 (isel (ieq (gmod which 5) 0) 3 0)))) = k' at *
  have i2 : in16 (iconv .u16 (gmod (iconv .i64 cb) (iadd .i64 (iconv .i64 (gxMax m)) 1))) = true := in16_conv _
  generalize iconv .u16 (gmod (iconv .i64 cb) (iadd .i64 (iconv .i64 (gxMax m)) 1)) = d at *
  generalize gxMax m = M at *
  have ud : isub .u16 M d = M - d := u16_sub b4 b5 (by omega)
  have i4 : in16 (M - d) = true := in16_iff.2 (by omega)
  have hM0 : 0 < M := by omega
  obtain ⟨x1, x2, x3, x4, x5, x6⟩ := st_flat (k := k) (s := M) (d := d) (m := M) (by omega) (by omega) (by omega) (by omega) b4 b5 hM0 (by omega)
  obtain ⟨y1, y2, y3, y4, y5, y6⟩ := st_flat (k := k') (s := 0) (d := d) (m := M) (by omega) (by omega) (by omega) (by omega) b4 b5 hM0 (by omega)
  obtain ⟨z1, z2, z3, z4, z5, z6⟩ := st_flat (k := 1) (s := d) (d := M - d) (m := M) (by omega) (by omega) b4 b5 (by omega) (by omega) hM0 (by omega)
  have z7 : blT 1 d M (M - d) M = blD 1 d M (M - d) M * M * d := by
    rw [(bl_at (k := 1) (s := d) (a := M) (d := M - d) (b := M) (decide_eq_true (by omega))).2.2.2]
    show d * M = 1 * M * d
    grind
  rw [round_exact x3 (white pw b4 b5 hM0)] at x4
  rw [round_exact y3 (black pb b4 b5 hM0)] at y4
  rw [round_exact z3 z7] at z4
  simp [b1, ud, i2, i4, gm, g0, k3, k5, e1, e2, e3, e4, x1, y1, z1, x4, y4, z4, ieq]
end Go.Proofs.YtafaadnjkkkafaaDoor
