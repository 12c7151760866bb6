import Derived.Test.YtpjhdjakpbabhaaGreatDoorBd
import Derived.Test.YtpjhdjakpbabhaaGreatDoorBf
namespace Go.Proofs.YtpjhdjakpbabhaaGreatDoor
open Go.RowKit PR
set_option linter.unusedVariables false
def hardI (s a d b : Int) : Int := if 2 * s ≤ a then 2 * s * d else a * b - 2 * (b - d) * (a - s)
def dodgeP (s a d b : Int) : Int := if d = 0 then 0 else if b * (a - s) ≤ d * a then a * b else a * a * d
def dodgeD (s a d b : Int) : Int := if d = 0 then 1 else if b * (a - s) ≤ d * a then 1 else a - s
def burnP (s a d b : Int) : Int := if d = b then a * b else if s * b ≤ (b - d) * a then 0 else a * b * s - (b - d) * a * a
def burnD (s a d b : Int) : Int := if d = b then 1 else if s * b ≤ (b - d) * a then 1 else s
def softP (s a d b : Int) : Int := if b = 0 then 0 else if 2 * s ≤ a then d * a * b - (a - 2 * s) * d * (b - d) else if 4 * d ≤ b then d * a * (b * b) + (2 * s - a) * d * (16 * d * d + 3 * b * b - 12 * d * b) else 2 * d * (a - s)
def softQ (s a d b : Int) : Int := if b = 0 then 0 else if 2 * s ≤ a then 0 else if 4 * d ≤ b then 0 else 2 * s - a
def softR (s a d b : Int) : Int := if b = 0 then 0 else if 2 * s ≤ a then 0 else if 4 * d ≤ b then 0 else d * b
def softD (s a d b : Int) : Int := if b = 0 then 1 else if 2 * s ≤ a then b else if 4 * d ≤ b then b * b else 1
def minI (x y : Int) : Int := if x ≤ y then x else y
def maxI (x y : Int) : Int := if x ≤ y then y else x
def blT (k s a d b : Int) : Int :=
  if k = 1 then s * b else if k = 2 then s * d else if k = 3 then s * b + d * a - s * d else if k = 4 then hardI d b s a
  else if k = 5 then minI (s * b) (d * a) else if k = 6 then maxI (s * b) (d * a) else if k = 7 then dodgeP s a d b else if k = 8 then burnP s a d b
  else if k = 9 then hardI s a d b else if k = 10 then softP s a d b else if k = 11 then maxI (s * b) (d * a) - minI (s * b) (d * a) else s * b + d * a - 2 * s * d
def blOk (k s a d b : Int) : Bool := decide (1 ≤ k ∧ k ≤ 12 ∧ s ≤ a ∧ d ≤ b)
def blP (k s a d b : Int) : Int := bif blOk k s a d b then blT k s a d b else 0
def blQ (k s a d b : Int) : Int := bif blOk k s a d b then (if k = 10 then softQ s a d b else 0) else 0
def blR (k s a d b : Int) : Int := bif blOk k s a d b then (if k = 10 then softR s a d b else 0) else 0
def blD (k s a d b : Int) : Int := bif blOk k s a d b then (if k = 7 then dodgeD s a d b else if k = 8 then burnD s a d b else if k = 10 then softD s a d b else 1) else 0
section
variable {s a d b : Int}
theorem hard_range (h0 : 0 ≤ s) (h1 : s ≤ a) (h2 : 0 ≤ d) (h3 : d ≤ b) : 0 ≤ hardI s a d b ∧ hardI s a d b ≤ a * b := by
  have p1 := Int.mul_nonneg h0 h2
  have p2 := Int.mul_nonneg (show 0 ≤ a - s by omega) (show 0 ≤ b - d by omega)
  have p3 := Int.mul_nonneg (show 0 ≤ a by omega) (show 0 ≤ b - d by omega)
  unfold hardI
  split
  · have p4 := Int.mul_nonneg (show 0 ≤ a - 2 * s by omega) h2
    exact ⟨by grind, by grind⟩
  · have p4 := Int.mul_nonneg (show 0 ≤ 2 * s - a by omega) (show 0 ≤ b - d by omega)
    have p5 := Int.mul_nonneg (show 0 ≤ a by omega) h2
    exact ⟨by grind, by grind⟩
theorem dodge_range (h0 : 0 ≤ s) (h1 : s ≤ a) (h2 : 0 ≤ d) (h3 : d ≤ b) : 0 < dodgeD s a d b ∧ 0 ≤ dodgeP s a d b ∧ dodgeP s a d b ≤ dodgeD s a d b * (a * b) := by
  have p1 := Int.mul_nonneg (show 0 ≤ a by omega) (show 0 ≤ b by omega)
  have p2 := Int.mul_nonneg h2 (show 0 ≤ a by omega)
  unfold dodgeD dodgeP
  split
  · exact ⟨by decide, by decide, by omega⟩
  · split
    · exact ⟨by decide, p1, by omega⟩
    · rename_i h5
      have q : 0 < a - s := by
        rcases Int.lt_or_eq_of_le (show 0 ≤ a - s by omega) with h | h
        · exact h
        · rw [← h] at h5; simp at h5; omega
      have p3 := Int.mul_nonneg (show 0 ≤ a by omega) (show 0 ≤ b * (a - s) - d * a by omega)
      have p4 := Int.mul_nonneg p2 (show 0 ≤ a by omega)
      exact ⟨q, by grind, by grind⟩
theorem burn_range (h0 : 0 ≤ s) (h1 : s ≤ a) (h2 : 0 ≤ d) (h3 : d ≤ b) : 0 < burnD s a d b ∧ 0 ≤ burnP s a d b ∧ burnP s a d b ≤ burnD s a d b * (a * b) := by
  have p1 := Int.mul_nonneg (show 0 ≤ a by omega) (show 0 ≤ b by omega)
  have p2 := Int.mul_nonneg (show 0 ≤ b - d by omega) (show 0 ≤ a by omega)
  unfold burnD burnP
  split
  · exact ⟨by decide, p1, by omega⟩
  · split
    · exact ⟨by decide, by decide, by omega⟩
    · rename_i h5
      have q : 0 < s := by
        rcases Int.lt_or_eq_of_le h0 with h | h
        · exact h
        · rw [← h] at h5; simp at h5; omega
      have p3 := Int.mul_nonneg (show 0 ≤ a by omega) (show 0 ≤ s * b - (b - d) * a by omega)
      have p4 := Int.mul_nonneg p2 (show 0 ≤ a by omega)
      exact ⟨q, by grind, by grind⟩
theorem soft_range (h0 : 0 ≤ s) (h1 : s ≤ a) (h2 : 0 ≤ d) (h3 : d ≤ b) : 0 < softD s a d b ∧ 0 ≤ softP s a d b ∧ 0 ≤ softQ s a d b ∧ 0 ≤ softR s a d b ∧ (softQ s a d b = 0 → softR s a d b = 0 → softP s a d b ≤ softD s a d b * (a * b)) := by
  unfold softD softP softQ softR
  split
  · rename_i hb; subst hb; exact ⟨by decide, by decide, by decide, by decide, fun _ _ => by simp⟩
  · have hb : 0 < b := by omega
    have ha : 0 ≤ a := by omega
    split
    · have p1 := Int.mul_nonneg h2 (show 0 ≤ b - d by omega)
      have p2 := Int.mul_nonneg (show 0 ≤ a - 2 * s by omega) p1
      have p3 := Int.mul_nonneg ha (show 0 ≤ b - d by omega)
      have p4 := Int.mul_nonneg p3 (show 0 ≤ b by omega)
      have p5 := Int.mul_nonneg (Int.mul_nonneg ha h2) h2
      have p6 := Int.mul_nonneg h0 p1
      exact ⟨hb, by grind, by decide, by decide, fun _ _ => by grind⟩
    · split
      · have p0 : 0 ≤ 16 * d * d + 3 * b * b - 12 * d * b := by
          obtain ⟨e, he⟩ : ∃ e, b = 4 * d + e := ⟨b - 4 * d, by omega⟩
          have := Int.mul_nonneg h2 (show 0 ≤ e by omega)
          have := Int.mul_nonneg h2 h2
          have := Int.mul_nonneg (show 0 ≤ e by omega) (show 0 ≤ e by omega)
          subst he; grind
        have p1 := Int.mul_nonneg (show 0 ≤ 2 * s - a by omega) (Int.mul_nonneg h2 p0)
        have p2 := Int.mul_nonneg (Int.mul_nonneg h2 ha) (Int.mul_nonneg (show 0 ≤ b by omega) (show 0 ≤ b by omega))
        have p3 := Int.mul_nonneg (show 0 ≤ 2 * (a - s) by omega) (Int.mul_nonneg h2 p0)
        have p4 : 0 ≤ b * b * b - d * (b * b) - d * (16 * d * d + 3 * b * b - 12 * d * b) := by
          obtain ⟨e, he⟩ : ∃ e, b = 4 * d + e := ⟨b - 4 * d, by omega⟩
          have he0 : 0 ≤ e := by omega
          have := Int.mul_nonneg h2 he0
          have := Int.mul_nonneg h2 h2
          have := Int.mul_nonneg he0 he0
          have := Int.mul_nonneg (Int.mul_nonneg h2 h2) h2
          have := Int.mul_nonneg (Int.mul_nonneg h2 h2) he0
          have := Int.mul_nonneg (Int.mul_nonneg h2 he0) he0
          have := Int.mul_nonneg (Int.mul_nonneg he0 he0) he0
          subst he; grind
        have p5 := Int.mul_nonneg ha p4
        have hbb := Int.mul_pos hb hb
        exact ⟨hbb, by grind, by decide, by decide, fun _ _ => by grind⟩
      · have p1 := Int.mul_nonneg h2 (show 0 ≤ a - s by omega)
        have p2 := Int.mul_nonneg h2 (show 0 ≤ b by omega)
        refine ⟨by decide, by grind, by omega, p2, fun h _ => ?_⟩
        omega
theorem min_max (x y : Int) : (minI x y = x ∧ maxI x y = y ∧ x ≤ y) ∨ (minI x y = y ∧ maxI x y = x ∧ y ≤ x) := by
  unfold minI maxI
  by_cases h : x ≤ y
  · rw [if_pos h, if_pos h]; exact Or.inl ⟨rfl, rfl, h⟩
  · rw [if_neg h, if_neg h]; exact Or.inr ⟨rfl, rfl, by omega⟩
end
end Go.Proofs.YtpjhdjakpbabhaaGreatDoor
namespace Go.Proofs.YtpjhdjakpbabhaaGreatDoor
open Go.RowKit PR
set_option linter.unusedVariables false
theorem ordZ_flat_le {p r m : Int} (h : p ≤ m) : ordZ p 0 r m ≤ 0 := by
  unfold ordZ cmpZ
  rw [if_neg (by omega)]
  have := Int.mul_nonneg (show 0 ≤ m - p by omega) (show 0 ≤ m - p by omega)
  have e : (0 : Int) * 0 * r = 0 := by simp
  rw [e]
  split
  · omega
  · split <;> omega
theorem ordZ_root_le {p q r m : Int} (h : p ≤ m) (k : q * q * r ≤ (m - p) * (m - p)) : ordZ p q r m ≤ 0 := by
  unfold ordZ cmpZ
  rw [if_neg (by omega)]
  split
  · omega
  · split <;> omega
theorem soft_root {s a d b : Int} (h0 : 0 ≤ s) (h1 : s ≤ a) (h2 : 0 ≤ d) (h3 : d ≤ b) (h4 : a ≤ 2 * s) : 2 * d * (a - s) ≤ a * b ∧ (2 * s - a) * (2 * s - a) * (d * b) ≤ (a * b - 2 * d * (a - s)) * (a * b - 2 * d * (a - s)) := by
  obtain ⟨u, hu⟩ : ∃ u, a = s + u := ⟨a - s, by omega⟩
  obtain ⟨v, hv⟩ : ∃ v, b = d + v := ⟨b - d, by omega⟩
  obtain ⟨t, ht⟩ : ∃ t, s = u + t := ⟨s - u, by omega⟩
  have hu0 : 0 ≤ u := by omega
  have hv0 : 0 ≤ v := by omega
  have ht0 : 0 ≤ t := by omega
  have hb0 : 0 ≤ b := by omega
  have p1 := Int.mul_nonneg ht0 h2
  have p2 := Int.mul_nonneg hu0 hv0
  have p3 := Int.mul_nonneg ht0 hv0
  have key : t * b ≤ a * b - 2 * d * (a - s) := by subst hu hv ht; grind
  have tb := Int.mul_nonneg ht0 hb0
  have e : 2 * s - a = t := by omega
  refine ⟨by omega, ?_⟩
  rw [e]
  have sq := Int.mul_le_mul key key tb (Int.le_trans tb key)
  have tt := Int.mul_nonneg ht0 ht0
  have q := Int.mul_nonneg tt (Int.mul_nonneg hv0 hb0)
  have : t * t * (d * b) ≤ t * b * (t * b) := by subst hv; grind
  omega
theorem bl_small {s a d b : Int} (h0 : 0 ≤ s) (h1 : s ≤ a) (ha : a ≤ 65535) (h2 : 0 ≤ d) (h3 : d ≤ b) (hb : b ≤ 65535) : 0 ≤ s * b ∧ s * b ≤ a * b ∧ 0 ≤ d * a ∧ d * a ≤ a * b ∧ 0 ≤ s * d ∧ s * d ≤ s * b ∧ s * d ≤ d * a ∧ s * b + d * a - s * d ≤ a * b ∧ 0 ≤ a * b ∧ a * b ≤ 4294836225 ∧ s * b + d * a - 2 * s * d ≤ a * b := by
  have p1 := Int.mul_nonneg h0 (show 0 ≤ b by omega)
  have p2 := Int.mul_nonneg (show 0 ≤ a - s by omega) (show 0 ≤ b by omega)
  have p3 := Int.mul_nonneg h2 (show 0 ≤ a by omega)
  have p4 := Int.mul_nonneg (show 0 ≤ b - d by omega) (show 0 ≤ a by omega)
  have p5 := Int.mul_nonneg h0 h2
  have p6 := Int.mul_nonneg h0 (show 0 ≤ b - d by omega)
  have p7 := Int.mul_nonneg (show 0 ≤ a - s by omega) h2
  have p8 := Int.mul_nonneg (show 0 ≤ a - s by omega) (show 0 ≤ b - d by omega)
  have p9 := Int.mul_nonneg (show 0 ≤ 65535 - a by omega) (show 0 ≤ b by omega)
  refine ⟨p1, by grind, p3, by grind, p5, by grind, by grind, by grind, by grind, by grind, by grind⟩
theorem bl_facts {k s a d b : Int} (hk : 1 ≤ k ∧ k ≤ 12) (h0 : 0 ≤ s) (h1 : s ≤ a) (ha : a ≤ 65535) (h2 : 0 ≤ d) (h3 : d ≤ b) (hb : b ≤ 65535) :
    0 ≤ blP k s a d b ∧ blP k s a d b < 36893488147419103232 ∧ 0 ≤ blQ k s a d b ∧ blQ k s a d b ≤ 65535 ∧ 0 ≤ blR k s a d b ∧ blR k s a d b ≤ 4294836225 ∧ 0 < blD k s a d b ∧ blD k s a d b ≤ 4294836225 ∧
    ordZ (blP k s a d b) (blQ k s a d b) (blR k s a d b) (a * b * blD k s a d b) ≤ 0 := by
  have ok : blOk k s a d b = true := decide_eq_true ⟨hk.1, hk.2, h1, h3⟩
  obtain ⟨q1, q2, q3, q4, q5, q6, q7, q8, q9, q10, q11⟩ := bl_small h0 h1 ha h2 h3 hb
  have hb0 : 0 ≤ b := by omega
  have hbb : b * b ≤ 4294836225 := by
    have := Int.mul_le_mul hb hb hb0 (by decide); omega
  have big : ∀ D P : Int, 0 < D → D ≤ 4294836225 → P ≤ D * (a * b) → P < 36893488147419103232 := by
    intro D P hD hD2 hP
    have := Int.mul_le_mul hD2 q10 q9 (by decide)
    omega
  unfold blP blQ blR blD
  rw [ok]
  simp only [cond_true]
  have flat : ∀ D P : Int, 0 < D → D ≤ 4294836225 → 0 ≤ P → P ≤ D * (a * b) → 0 ≤ P ∧ P < 36893488147419103232 ∧ (0 : Int) ≤ 0 ∧ (0 : Int) ≤ 65535 ∧ (0 : Int) ≤ 0 ∧ (0 : Int) ≤ 4294836225 ∧ 0 < D ∧ D ≤ 4294836225 ∧ ordZ P 0 0 (a * b * D) ≤ 0 :=
    fun D P hD hD2 h0 hP => ⟨h0, big D P hD hD2 hP, by decide, by decide, by decide, by decide, hD, hD2, ordZ_flat_le (by rw [Int.mul_comm]; exact hP)⟩
  by_cases k7 : k = 7
  · subst k7
    obtain ⟨r1, r2, r3⟩ := dodge_range h0 h1 h2 h3
    have : dodgeD s a d b ≤ 4294836225 := by unfold dodgeD; split; omega; split <;> omega
    exact flat _ _ r1 this r2 r3
  by_cases k8 : k = 8
  · subst k8
    obtain ⟨r1, r2, r3⟩ := burn_range h0 h1 h2 h3
    have : burnD s a d b ≤ 4294836225 := by unfold burnD; split; omega; split <;> omega
    exact flat _ _ r1 this r2 r3
  by_cases k10 : k = 10
  · subst k10
    obtain ⟨r1, r2, r3, r4, r5⟩ := soft_range h0 h1 h2 h3
    have e : blT 10 s a d b = softP s a d b := rfl
    simp only [e]
    by_cases hroot : b = 0 ∨ 2 * s ≤ a ∨ 4 * d ≤ b
    · have eq : softQ s a d b = 0 ∧ softR s a d b = 0 := by
        unfold softQ softR
        by_cases c1 : b = 0
        · simp [c1]
        · by_cases c2 : 2 * s ≤ a
          · simp [c1, c2]
          · simp [c1, c2, show 4 * d ≤ b by omega]
      have eD : softD s a d b ≤ 4294836225 := by unfold softD; split; omega; split; omega; split <;> omega
      rw [eq.1, eq.2]
      exact flat _ _ r1 eD r2 (r5 eq.1 eq.2)
    · have c1 : ¬ b = 0 := by omega
      have c2 : ¬ 2 * s ≤ a := by omega
      have c3 : ¬ 4 * d ≤ b := by omega
      have x1 : softP s a d b = 2 * d * (a - s) := by unfold softP; rw [if_neg c1, if_neg c2, if_neg c3]
      have x2 : softQ s a d b = 2 * s - a := by unfold softQ; rw [if_neg c1, if_neg c2, if_neg c3]
      have x3 : softR s a d b = d * b := by unfold softR; rw [if_neg c1, if_neg c2, if_neg c3]
      have x4 : softD s a d b = 1 := by unfold softD; rw [if_neg c1, if_neg c2, if_neg c3]
      obtain ⟨y1, y2⟩ := soft_root h0 h1 h2 h3 (by omega)
      have db : d * b ≤ 4294836225 := by
        have := Int.mul_le_mul (show d ≤ 65535 by omega) hb hb0 (by decide); omega
      have db0 := Int.mul_nonneg h2 hb0
      rw [x1] at r2
      simp only [show ((10 : Int) = 7) = False from by simp, show ((10 : Int) = 8) = False from by simp, if_false, if_true, x1, x2, x3, x4, Int.mul_one]
      exact ⟨r2, by omega, by omega, by omega, db0, db, by decide, by decide, ordZ_root_le y1 y2⟩
  · simp only [k7, k8, k10, if_false]
    have t : 0 ≤ blT k s a d b ∧ blT k s a d b ≤ a * b := by
      unfold blT
      obtain ⟨z1, z2⟩ := hard_range h0 h1 h2 h3
      obtain ⟨z3, z4⟩ := hard_range h2 h3 h0 h1
      rw [Int.mul_comm b a] at z4
      have mm := min_max (s * b) (d * a)
      simp only [k7, k8, k10, if_false]
      split
      · omega
      split
      · omega
      split
      · omega
      split
      · exact ⟨z3, z4⟩
      split
      · omega
      split
      · omega
      split
      · exact ⟨z1, z2⟩
      split
      · omega
      · have e : 2 * s * d = 2 * (s * d) := Int.mul_assoc 2 s d
        omega
    exact flat 1 _ (by decide) (by decide) t.1 (by omega)
theorem hv_flat {p r d : Int} (hd : 0 < d) : hvZ p 0 r d = (2 * p + d) / (2 * d) := by
  rw [hv_whole (s := 0) (by decide) (by simp) hd, Int.add_zero]
  have e := Int.mul_ediv_add_emod p d
  have m0 := Int.emod_nonneg p (by omega : d ≠ 0)
  have m1 := Int.emod_lt_of_pos p hd
  generalize p / d = q at *
  generalize p % d = t at *
  have hq : (2 * q + 1) * d = 2 * (d * q) + d := by grind
  symm
  split
  · rename_i h
    rw [Int.ediv_eq_iff_of_pos (by omega)]
    have : (q + 1) * (2 * d) = 2 * (d * q) + 2 * d := by grind
    constructor <;> grind
  · rename_i h
    rw [Int.ediv_eq_iff_of_pos (by omega)]
    constructor <;> grind
end Go.Proofs.YtpjhdjakpbabhaaGreatDoor
namespace Go.Proofs.YtpjhdjakpbabhaaGreatDoor
open Go.RowKit PR QR
set_option linter.unusedVariables false
def blA (s a d b : Int) : Bool := decide (0 ≤ s ∧ s ≤ a ∧ a ≤ 65535 ∧ 0 ≤ d ∧ d ≤ b ∧ b ≤ 65535)
def modeB (k : Int) : Bool := decide (1 ≤ k ∧ k ≤ 12)
def s_known6 : List AV → Option QR.Ans
  | [.x (.c (.v (.int .i64 m)))] => some ⟨[.c (.v (.bool (band (ige m 1) (ile m 12))))], [], []⟩
  | _ => none
def s_whole6 : List AV → Option QR.Ans
  | [.x (.c (.v (.int .u64 n)))] => some ⟨[.agg [.v (.int .u64 0), .v (.int .u64 n), .v (.int .u64 0), .v (.int .u64 0), .v (.int .u64 1)]], [], []⟩
  | _ => none
def s_quot6 : List AV → Option QR.Ans
  | [.x (.c (.v (.int .u64 n))), .x (.c (.v (.int .u64 d)))] => some ⟨[.agg [.v (.int .u64 0), .v (.int .u64 n), .v (.int .u64 0), .v (.int .u64 0), .v (.int .u64 d)]], [], []⟩
  | _ => none
def s_hard6 : List AV → Option QR.Ans
  | [.x (.c (.v (.int .u64 s))), .x (.c (.v (.int .u64 a))), .x (.c (.v (.int .u64 d))), .x (.c (.v (.int .u64 b)))] => some ⟨[.c (.v (.int .u64 (hardI s a d b)))], [], [blA s a d b = true]⟩
  | _ => none
def s_dodge6 : List AV → Option QR.Ans
  | [.x (.c (.v (.int .u64 s))), .x (.c (.v (.int .u64 a))), .x (.c (.v (.int .u64 d))), .x (.c (.v (.int .u64 b)))] => some ⟨[.agg [.v (.int .u64 0), .v (.int .u64 (dodgeP s a d b)), .v (.int .u64 0), .v (.int .u64 0), .v (.int .u64 (dodgeD s a d b))]], [], [blA s a d b = true]⟩
  | _ => none
def s_burn6 : List AV → Option QR.Ans
  | [.x (.c (.v (.int .u64 s))), .x (.c (.v (.int .u64 a))), .x (.c (.v (.int .u64 d))), .x (.c (.v (.int .u64 b)))] => some ⟨[.agg [.v (.int .u64 0), .v (.int .u64 (burnP s a d b)), .v (.int .u64 0), .v (.int .u64 0), .v (.int .u64 (burnD s a d b))]], [], [blA s a d b = true]⟩
  | _ => none
def s_soft6 : List AV → Option QR.Ans
  | [.x (.c (.v (.int .u64 s))), .x (.c (.v (.int .u64 a))), .x (.c (.v (.int .u64 d))), .x (.c (.v (.int .u64 b)))] => some ⟨[.agg [.v (.int .u64 0), .v (.int .u64 (softP s a d b)), .v (.int .u64 (softQ s a d b)), .v (.int .u64 (softR s a d b)), .v (.int .u64 (softD s a d b))]], [], [blA s a d b = true]⟩
  | _ => none
def s_term6 : List AV → Option QR.Ans
  | [.x (.c (.v (.int .i64 k))), .x (.c (.v (.int .u64 s))), .x (.c (.v (.int .u64 a))), .x (.c (.v (.int .u64 d))), .x (.c (.v (.int .u64 b)))] => some ⟨[.agg [.v (.int .u64 0), .v (.int .u64 (blP k s a d b)), .v (.int .u64 (blQ k s a d b)), .v (.int .u64 (blR k s a d b)), .v (.int .u64 (blD k s a d b))]], [], [modeB k = true, blA s a d b = true]⟩
  | _ => none
def s_bl : List AV → Option QR.Ans
  | [.x (.c (.v (.int .i64 k))), .x (.c (.v (.int .u16 s))), .x (.c (.v (.int .u16 a))), .x (.c (.v (.int .u16 d))), .x (.c (.v (.int .u16 b)))] => some ⟨[.agg [.v (.int .u64 0), .v (.int .u64 (blP k s a d b)), .v (.int .u64 (blQ k s a d b)), .v (.int .u64 (blR k s a d b)), .v (.int .u64 (blD k s a d b))], .c (.v (.bool (blOk k s a d b)))], [], [in16 s = true, in16 a = true, in16 d = true, in16 b = true]⟩
  | _ => none
set_option maxRecDepth 100000 in
theorem known6_vc (m : Int) (V : List QR.XV → List (List QR.CV) → Prop) : QR.evalBody Tryz.prog (QR.orc []) (QR.noLoops) (Tryz.f114.body.getD .skip) Tryz.f114.results.toList Tryz.f114.ntmps [.x (.c (.v (.int .i64 m)))] V = (True ∧ bcond (ige m 1) (True ∧ True ∧ V [XV.c (CV.v (Value.bool (ile m 12)))] []) (True ∧ True ∧ V [XV.c (CV.v (Value.bool false))] [])) := by
  kernel_rfl
def o_q6 : QR.Oracle := QR.orc [(144, s_quot6)]
def o_w6 : QR.Oracle := QR.orc [(144, s_quot6), (134, s_whole6)]
def o_t6 : QR.Oracle := QR.orc [(134, s_whole6), (135, s_hard6), (136, s_dodge6), (137, s_burn6), (138, s_soft6)]
def o_x6 : QR.Oracle := QR.orc [(114, s_known6), (115, s_term6)]
set_option maxRecDepth 100000 in
theorem quot6_vc (n d : Int) (V : List QR.XV → List (List QR.CV) → Prop) : QR.evalBody Tryz.prog (QR.orc []) (QR.noLoops) (Tryz.f144.body.getD .skip) Tryz.f144.results.toList Tryz.f144.ntmps [.x (.c (.v (.int .u64 n))), .x (.c (.v (.int .u64 d)))] V = (True ∧ True ∧ True ∧ V [XV.agg [CV.v (Value.int .u64 0), CV.v (Value.int .u64 n), CV.v (Value.int .u64 0), CV.v (Value.int .u64 0), CV.v (Value.int .u64 d)]] []) := by
  kernel_rfl
set_option maxRecDepth 100000 in
theorem whole6_vc (n : Int) (V : List QR.XV → List (List QR.CV) → Prop) : QR.evalBody Tryz.prog (o_q6) (QR.noLoops) (Tryz.f134.body.getD .skip) Tryz.f134.results.toList Tryz.f134.ntmps [.x (.c (.v (.int .u64 n)))] V = (True ∧ ∀ (i : Int), i = 0 → ∀ (i_1 : Int), i_1 = n → ∀ (i_2 : Int), i_2 = 0 → ∀ (i_3 : Int), i_3 = 0 → ∀ (i_4 : Int), i_4 = 1 → True ∧ True ∧ V [XV.agg [CV.v (Value.int .u64 i), CV.v (Value.int .u64 i_1), CV.v (Value.int .u64 i_2), CV.v (Value.int .u64 i_3), CV.v (Value.int .u64 i_4)]] []) := by
  try delta o_q6
  try delta s_quot6
  kernel_rfl
set_option maxRecDepth 100000 in
theorem hard6_vc (s a d b : Int) (V : List QR.XV → List (List QR.CV) → Prop) : QR.evalBody Tryz.prog (QR.orc []) (QR.noLoops) (Tryz.f135.body.getD .skip) Tryz.f135.results.toList Tryz.f135.ntmps [.x (.c (.v (.int .u64 s))), .x (.c (.v (.int .u64 a))), .x (.c (.v (.int .u64 d))), .x (.c (.v (.int .u64 b)))] V = (True ∧ True ∧ bcond (ile (imul IntKind.u64 2 s) a) (True ∧ True ∧ V [XV.c (CV.v (Value.int .u64 (imul IntKind.u64 (imul IntKind.u64 2 s) d)))] []) (True ∧ True ∧ V [XV.c (CV.v (Value.int .u64 (isub IntKind.u64 (imul IntKind.u64 a b) (imul IntKind.u64 (imul IntKind.u64 2 (isub IntKind.u64 b d)) (isub IntKind.u64 a s)))))] [])) := by
  kernel_rfl
set_option maxRecDepth 100000 in
theorem dodge6_vc (s a d b : Int) (V : List QR.XV → List (List QR.CV) → Prop) : QR.evalBody Tryz.prog (o_w6) (QR.noLoops) (Tryz.f136.body.getD .skip) Tryz.f136.results.toList Tryz.f136.ntmps [.x (.c (.v (.int .u64 s))), .x (.c (.v (.int .u64 a))), .x (.c (.v (.int .u64 d))), .x (.c (.v (.int .u64 b)))] V = (True ∧ True ∧ bcond (ieq d 0) (∀ (i : Int), i = 0 → ∀ (i_1 : Int), i_1 = 0 → ∀ (i_2 : Int), i_2 = 0 → ∀ (i_3 : Int), i_3 = 0 → ∀ (i_4 : Int), i_4 = 1 → True ∧ True ∧ V [XV.agg [CV.v (Value.int .u64 i), CV.v (Value.int .u64 i_1), CV.v (Value.int .u64 i_2), CV.v (Value.int .u64 i_3), CV.v (Value.int .u64 i_4)]] []) (True ∧ bcond (ige (imul IntKind.u64 d a) (imul IntKind.u64 b (isub IntKind.u64 a s))) (∀ (i : Int), i = 0 → ∀ (i_1 : Int), i_1 = imul IntKind.u64 a b → ∀ (i_2 : Int), i_2 = 0 → ∀ (i_3 : Int), i_3 = 0 → ∀ (i_4 : Int), i_4 = 1 → True ∧ True ∧ V [XV.agg [CV.v (Value.int .u64 i), CV.v (Value.int .u64 i_1), CV.v (Value.int .u64 i_2), CV.v (Value.int .u64 i_3), CV.v (Value.int .u64 i_4)]] []) (∀ (i : Int), i = 0 → ∀ (i_1 : Int), i_1 = imul IntKind.u64 (imul IntKind.u64 a a) d → ∀ (i_2 : Int), i_2 = 0 → ∀ (i_3 : Int), i_3 = 0 → ∀ (i_4 : Int), i_4 = isub IntKind.u64 a s → True ∧ True ∧ V [XV.agg [CV.v (Value.int .u64 i), CV.v (Value.int .u64 i_1), CV.v (Value.int .u64 i_2), CV.v (Value.int .u64 i_3), CV.v (Value.int .u64 i_4)]] []))) := by
  try delta o_w6
  try delta s_quot6
  try delta s_whole6
  kernel_rfl
set_option maxRecDepth 100000 in
theorem burn6_vc (s a d b : Int) (V : List QR.XV → List (List QR.CV) → Prop) : QR.evalBody Tryz.prog (o_w6) (QR.noLoops) (Tryz.f137.body.getD .skip) Tryz.f137.results.toList Tryz.f137.ntmps [.x (.c (.v (.int .u64 s))), .x (.c (.v (.int .u64 a))), .x (.c (.v (.int .u64 d))), .x (.c (.v (.int .u64 b)))] V = (True ∧ True ∧ bcond (ieq d b) (∀ (i : Int), i = 0 → ∀ (i_1 : Int), i_1 = imul IntKind.u64 a b → ∀ (i_2 : Int), i_2 = 0 → ∀ (i_3 : Int), i_3 = 0 → ∀ (i_4 : Int), i_4 = 1 → True ∧ True ∧ V [XV.agg [CV.v (Value.int .u64 i), CV.v (Value.int .u64 i_1), CV.v (Value.int .u64 i_2), CV.v (Value.int .u64 i_3), CV.v (Value.int .u64 i_4)]] []) (True ∧ bcond (ige (imul IntKind.u64 (isub IntKind.u64 b d) a) (imul IntKind.u64 s b)) (∀ (i : Int), i = 0 → ∀ (i_1 : Int), i_1 = 0 → ∀ (i_2 : Int), i_2 = 0 → ∀ (i_3 : Int), i_3 = 0 → ∀ (i_4 : Int), i_4 = 1 → True ∧ True ∧ V [XV.agg [CV.v (Value.int .u64 i), CV.v (Value.int .u64 i_1), CV.v (Value.int .u64 i_2), CV.v (Value.int .u64 i_3), CV.v (Value.int .u64 i_4)]] []) (∀ (i : Int), i = 0 → ∀ (i_1 : Int), i_1 = isub IntKind.u64 (imul IntKind.u64 (imul IntKind.u64 a b) s) (imul IntKind.u64 (imul IntKind.u64 (isub IntKind.u64 b d) a) a) → ∀ (i_2 : Int), i_2 = 0 → ∀ (i_3 : Int), i_3 = 0 → ∀ (i_4 : Int), i_4 = s → True ∧ True ∧ V [XV.agg [CV.v (Value.int .u64 i), CV.v (Value.int .u64 i_1), CV.v (Value.int .u64 i_2), CV.v (Value.int .u64 i_3), CV.v (Value.int .u64 i_4)]] []))) := by
  try delta o_w6
  try delta s_quot6
  try delta s_whole6
  kernel_rfl
set_option maxRecDepth 100000 in
theorem soft6_vc (s a d b : Int) (V : List QR.XV → List (List QR.CV) → Prop) : QR.evalBody Tryz.prog (o_w6) (QR.noLoops) (Tryz.f138.body.getD .skip) Tryz.f138.results.toList Tryz.f138.ntmps [.x (.c (.v (.int .u64 s))), .x (.c (.v (.int .u64 a))), .x (.c (.v (.int .u64 d))), .x (.c (.v (.int .u64 b)))] V = (True ∧ True ∧ bcond (ieq b 0) (∀ (i : Int), i = 0 → ∀ (i_1 : Int), i_1 = 0 → ∀ (i_2 : Int), i_2 = 0 → ∀ (i_3 : Int), i_3 = 0 → ∀ (i_4 : Int), i_4 = 1 → True ∧ True ∧ V [XV.agg [CV.v (Value.int .u64 i), CV.v (Value.int .u64 i_1), CV.v (Value.int .u64 i_2), CV.v (Value.int .u64 i_3), CV.v (Value.int .u64 i_4)]] []) (True ∧ bcond (ile (imul IntKind.u64 2 s) a) (∀ (i : Int), i = 0 → ∀ (i_1 : Int), i_1 = isub IntKind.u64 (imul IntKind.u64 (imul IntKind.u64 d a) b) (imul IntKind.u64 (imul IntKind.u64 (isub IntKind.u64 a (imul IntKind.u64 2 s)) d) (isub IntKind.u64 b d)) → ∀ (i_2 : Int), i_2 = 0 → ∀ (i_3 : Int), i_3 = 0 → ∀ (i_4 : Int), i_4 = b → True ∧ True ∧ V [XV.agg [CV.v (Value.int .u64 i), CV.v (Value.int .u64 i_1), CV.v (Value.int .u64 i_2), CV.v (Value.int .u64 i_3), CV.v (Value.int .u64 i_4)]] []) (True ∧ bcond (ile (imul IntKind.u64 4 d) b) (∀ (i : Int), i = 0 → ∀ (i_1 : Int), i_1 = iadd IntKind.u64 (imul IntKind.u64 (imul IntKind.u64 (imul IntKind.u64 d a) b) b) (imul IntKind.u64 (imul IntKind.u64 (isub IntKind.u64 (imul IntKind.u64 2 s) a) d) (isub IntKind.u64 (iadd IntKind.u64 (imul IntKind.u64 (imul IntKind.u64 16 d) d) (imul IntKind.u64 (imul IntKind.u64 3 b) b)) (imul IntKind.u64 (imul IntKind.u64 12 d) b))) → ∀ (i_2 : Int), i_2 = 0 → ∀ (i_3 : Int), i_3 = 0 → ∀ (i_4 : Int), i_4 = imul IntKind.u64 b b → True ∧ True ∧ V [XV.agg [CV.v (Value.int .u64 i), CV.v (Value.int .u64 i_1), CV.v (Value.int .u64 i_2), CV.v (Value.int .u64 i_3), CV.v (Value.int .u64 i_4)]] []) (True ∧ True ∧ V [XV.agg [CV.v (Value.int .u64 0), CV.v (Value.int .u64 (imul IntKind.u64 (imul IntKind.u64 2 d) (isub IntKind.u64 a s))), CV.v (Value.int .u64 (isub IntKind.u64 (imul IntKind.u64 2 s) a)), CV.v (Value.int .u64 (imul IntKind.u64 d b)), CV.v (Value.int .u64 1)]] [])))) := by
  try delta o_w6
  try delta s_quot6
  try delta s_whole6
  kernel_rfl
set_option maxRecDepth 100000 in
theorem term6_vc (k s a d b : Int) (V : List QR.XV → List (List QR.CV) → Prop) : QR.evalBody Tryz.prog (o_t6) (QR.noLoops) (Tryz.f115.body.getD .skip) Tryz.f115.results.toList Tryz.f115.ntmps [.x (.c (.v (.int .i64 k))), .x (.c (.v (.int .u64 s))), .x (.c (.v (.int .u64 a))), .x (.c (.v (.int .u64 d))), .x (.c (.v (.int .u64 b)))] V = (True ∧ True ∧ True ∧ bcond (ieq k 2) (∀ (i : Int), i = 0 → ∀ (i_1 : Int), i_1 = imul IntKind.u64 s d → ∀ (i_2 : Int), i_2 = 0 → ∀ (i_3 : Int), i_3 = 0 → ∀ (i_4 : Int), i_4 = 1 → True ∧ True ∧ V [XV.agg [CV.v (Value.int .u64 i), CV.v (Value.int .u64 i_1), CV.v (Value.int .u64 i_2), CV.v (Value.int .u64 i_3), CV.v (Value.int .u64 i_4)]] []) (True ∧ bcond (ieq k 3) (∀ (i : Int), i = 0 → ∀ (i_1 : Int), i_1 = iadd IntKind.u64 (imul IntKind.u64 s b) (imul IntKind.u64 d (isub IntKind.u64 a s)) → ∀ (i_2 : Int), i_2 = 0 → ∀ (i_3 : Int), i_3 = 0 → ∀ (i_4 : Int), i_4 = 1 → True ∧ True ∧ V [XV.agg [CV.v (Value.int .u64 i), CV.v (Value.int .u64 i_1), CV.v (Value.int .u64 i_2), CV.v (Value.int .u64 i_3), CV.v (Value.int .u64 i_4)]] []) (True ∧ bcond (ieq k 4) (∀ (i : Int), i = hardI d b s a → ∀ (i_1 : Int), i_1 = 0 → ∀ (i_2 : Int), i_2 = i → ∀ (i : Int), i = 0 → ∀ (i_3 : Int), i_3 = 0 → ∀ (i_4 : Int), i_4 = 1 → (blA d b s a = true ∧ True) ∧ True ∧ V [XV.agg [CV.v (Value.int .u64 i_1), CV.v (Value.int .u64 i_2), CV.v (Value.int .u64 i), CV.v (Value.int .u64 i_3), CV.v (Value.int .u64 i_4)]] []) (True ∧ bcond (ieq k 5) (∀ (i : Int), i = iimin (imul IntKind.u64 s b) (imul IntKind.u64 d a) → ∀ (i_1 : Int), i_1 = 0 → ∀ (i_2 : Int), i_2 = i → ∀ (i : Int), i = 0 → ∀ (i_3 : Int), i_3 = 0 → ∀ (i_4 : Int), i_4 = 1 → True ∧ True ∧ V [XV.agg [CV.v (Value.int .u64 i_1), CV.v (Value.int .u64 i_2), CV.v (Value.int .u64 i), CV.v (Value.int .u64 i_3), CV.v (Value.int .u64 i_4)]] []) (True ∧ bcond (ieq k 6) (∀ (i : Int), i = iimax (imul IntKind.u64 s b) (imul IntKind.u64 d a) → ∀ (i_1 : Int), i_1 = 0 → ∀ (i_2 : Int), i_2 = i → ∀ (i : Int), i = 0 → ∀ (i_3 : Int), i_3 = 0 → ∀ (i_4 : Int), i_4 = 1 → True ∧ True ∧ V [XV.agg [CV.v (Value.int .u64 i_1), CV.v (Value.int .u64 i_2), CV.v (Value.int .u64 i), CV.v (Value.int .u64 i_3), CV.v (Value.int .u64 i_4)]] []) (True ∧ bcond (ieq k 7) (∀ (i : Int), i = 0 → ∀ (i_1 : Int), i_1 = dodgeP s a d b → ∀ (i_2 : Int), i_2 = 0 → ∀ (i_3 : Int), i_3 = 0 → ∀ (i_4 : Int), i_4 = dodgeD s a d b → (blA s a d b = true ∧ True) ∧ True ∧ V [XV.agg [CV.v (Value.int .u64 i), CV.v (Value.int .u64 i_1), CV.v (Value.int .u64 i_2), CV.v (Value.int .u64 i_3), CV.v (Value.int .u64 i_4)]] []) (True ∧ bcond (ieq k 8) (∀ (i : Int), i = 0 → ∀ (i_1 : Int), i_1 = burnP s a d b → ∀ (i_2 : Int), i_2 = 0 → ∀ (i_3 : Int), i_3 = 0 → ∀ (i_4 : Int), i_4 = burnD s a d b → (blA s a d b = true ∧ True) ∧ True ∧ V [XV.agg [CV.v (Value.int .u64 i), CV.v (Value.int .u64 i_1), CV.v (Value.int .u64 i_2), CV.v (Value.int .u64 i_3), CV.v (Value.int .u64 i_4)]] []) (True ∧ bcond (ieq k 9) (∀ (i : Int), i = hardI s a d b → ∀ (i_1 : Int), i_1 = 0 → ∀ (i_2 : Int), i_2 = i → ∀ (i : Int), i = 0 → ∀ (i_3 : Int), i_3 = 0 → ∀ (i_4 : Int), i_4 = 1 → (blA s a d b = true ∧ True) ∧ True ∧ V [XV.agg [CV.v (Value.int .u64 i_1), CV.v (Value.int .u64 i_2), CV.v (Value.int .u64 i), CV.v (Value.int .u64 i_3), CV.v (Value.int .u64 i_4)]] []) (True ∧ bcond (ieq k 10) (∀ (i : Int), i = 0 → ∀ (i_1 : Int), i_1 = softP s a d b → ∀ (i_2 : Int), i_2 = softQ s a d b → ∀ (i_3 : Int), i_3 = softR s a d b → ∀ (i_4 : Int), i_4 = softD s a d b → (blA s a d b = true ∧ True) ∧ True ∧ V [XV.agg [CV.v (Value.int .u64 i), CV.v (Value.int .u64 i_1), CV.v (Value.int .u64 i_2), CV.v (Value.int .u64 i_3), CV.v (Value.int .u64 i_4)]] []) (True ∧ bcond (ieq k 11) (∀ (i : Int), i = iimax (imul IntKind.u64 s b) (imul IntKind.u64 d a) → ∀ (i_1 : Int), i_1 = iimin (imul IntKind.u64 s b) (imul IntKind.u64 d a) → ∀ (i_2 : Int), i_2 = 0 → ∀ (i_3 : Int), i_3 = isub IntKind.u64 i i_1 → ∀ (i : Int), i = 0 → ∀ (i_4 : Int), i_4 = 0 → ∀ (i_5 : Int), i_5 = 1 → True ∧ True ∧ V [XV.agg [CV.v (Value.int .u64 i_2), CV.v (Value.int .u64 i_3), CV.v (Value.int .u64 i), CV.v (Value.int .u64 i_4), CV.v (Value.int .u64 i_5)]] []) (True ∧ bcond (ieq k 12) (∀ (i : Int), i = 0 → ∀ (i_1 : Int), i_1 = iadd IntKind.u64 (imul IntKind.u64 s (isub IntKind.u64 b d)) (imul IntKind.u64 d (isub IntKind.u64 a s)) → ∀ (i_2 : Int), i_2 = 0 → ∀ (i_3 : Int), i_3 = 0 → ∀ (i_4 : Int), i_4 = 1 → True ∧ True ∧ V [XV.agg [CV.v (Value.int .u64 i), CV.v (Value.int .u64 i_1), CV.v (Value.int .u64 i_2), CV.v (Value.int .u64 i_3), CV.v (Value.int .u64 i_4)]] []) (∀ (i : Int), i = 0 → ∀ (i_1 : Int), i_1 = imul IntKind.u64 s b → ∀ (i_2 : Int), i_2 = 0 → ∀ (i_3 : Int), i_3 = 0 → ∀ (i_4 : Int), i_4 = 1 → True ∧ True ∧ V [XV.agg [CV.v (Value.int .u64 i), CV.v (Value.int .u64 i_1), CV.v (Value.int .u64 i_2), CV.v (Value.int .u64 i_3), CV.v (Value.int .u64 i_4)]] [])))))))))))) := by
  try delta o_t6
  try delta s_whole6
  try delta s_hard6
  try delta s_dodge6
  try delta s_burn6
  try delta s_soft6
  generalize @blA = blA
  generalize @burnD = burnD
  generalize @burnP = burnP
  generalize @dodgeD = dodgeD
  generalize @dodgeP = dodgeP
  generalize @hardI = hardI
  generalize @softD = softD
  generalize @softP = softP
  generalize @softQ = softQ
  generalize @softR = softR
  kernel_rfl
set_option maxRecDepth 100000 in
theorem exact6_vc (k s a d b : Int) (V : List QR.XV → List (List QR.CV) → Prop) : QR.evalBody Tryz.prog (o_x6) (QR.noLoops) (Tryz.f96.body.getD .skip) Tryz.f96.results.toList Tryz.f96.ntmps [.x (.c (.v (.int .i64 k))), .x (.c (.v (.int .u16 s))), .x (.c (.v (.int .u16 a))), .x (.c (.v (.int .u16 d))), .x (.c (.v (.int .u16 b)))] V = (True ∧ bcond (bnot (band (ige k 1) (ile k 12))) (True ∧ True ∧ True ∧ V [XV.agg [CV.v (Value.int .u64 0), CV.v (Value.int .u64 0), CV.v (Value.int .u64 0), CV.v (Value.int .u64 0), CV.v (Value.int .u64 0)], XV.c (CV.v (Value.bool false))] []) (bcond (igt s a) (True ∧ True ∧ True ∧ V [XV.agg [CV.v (Value.int .u64 0), CV.v (Value.int .u64 0), CV.v (Value.int .u64 0), CV.v (Value.int .u64 0), CV.v (Value.int .u64 0)], XV.c (CV.v (Value.bool false))] []) (True ∧ bcond (igt d b) (True ∧ True ∧ V [XV.agg [CV.v (Value.int .u64 0), CV.v (Value.int .u64 0), CV.v (Value.int .u64 0), CV.v (Value.int .u64 0), CV.v (Value.int .u64 0)], XV.c (CV.v (Value.bool false))] []) (∀ (i : Int), i = 0 → ∀ (i_1 : Int), i_1 = blP k (iconv IntKind.u64 s) (iconv IntKind.u64 a) (iconv IntKind.u64 d) (iconv IntKind.u64 b) → ∀ (i_2 : Int), i_2 = blQ k (iconv IntKind.u64 s) (iconv IntKind.u64 a) (iconv IntKind.u64 d) (iconv IntKind.u64 b) → ∀ (i_3 : Int), i_3 = blR k (iconv IntKind.u64 s) (iconv IntKind.u64 a) (iconv IntKind.u64 d) (iconv IntKind.u64 b) → ∀ (i_4 : Int), i_4 = blD k (iconv IntKind.u64 s) (iconv IntKind.u64 a) (iconv IntKind.u64 d) (iconv IntKind.u64 b) → (modeB k = true ∧ blA (iconv IntKind.u64 s) (iconv IntKind.u64 a) (iconv IntKind.u64 d) (iconv IntKind.u64 b) = true ∧ True) ∧ True ∧ V [XV.agg [CV.v (Value.int .u64 i), CV.v (Value.int .u64 i_1), CV.v (Value.int .u64 i_2), CV.v (Value.int .u64 i_3), CV.v (Value.int .u64 i_4)], XV.c (CV.v (Value.bool true))] [])))) := by
  try delta o_x6
  try delta s_known6
  try delta s_term6
  generalize @blA = blA
  generalize @blD = blD
  generalize @blP = blP
  generalize @blQ = blQ
  generalize @blR = blR
  generalize @modeB = modeB
  kernel_rfl
end Go.Proofs.YtpjhdjakpbabhaaGreatDoor
namespace Go.Proofs.YtpjhdjakpbabhaaGreatDoor
open Go.RowKit PR QR
set_option linter.unusedVariables false
set_option linter.unusedSimpArgs false
theorem iaddU (a b : Int) : iadd .u64 a b = (a + b) % 18446744073709551616 := by unfold iadd; rw [IntKind.wrap_u64]
theorem isubU (a b : Int) : isub .u64 a b = (a - b) % 18446744073709551616 := by unfold isub; rw [IntKind.wrap_u64]
theorem imulU (a b : Int) : imul .u64 a b = (a * b) % 18446744073709551616 := by unfold imul; rw [IntKind.wrap_u64]
theorem eMl (a b m : Int) : (a % m * b) % m = (a * b) % m := by rw [Int.mul_emod, Int.emod_emod, ← Int.mul_emod]
theorem eMr (a b m : Int) : (a * (b % m)) % m = (a * b) % m := by rw [Int.mul_emod, Int.emod_emod, ← Int.mul_emod]
theorem eAl (a b m : Int) : (a % m + b) % m = (a + b) % m := by rw [Int.add_emod, Int.emod_emod, ← Int.add_emod]
theorem eAr (a b m : Int) : (a + b % m) % m = (a + b) % m := by rw [Int.add_emod, Int.emod_emod, ← Int.add_emod]
theorem eSl (a b m : Int) : (a % m - b) % m = (a - b) % m := by rw [Int.sub_emod, Int.emod_emod, ← Int.sub_emod]
theorem eSr (a b m : Int) : (a - b % m) % m = (a - b) % m := by rw [Int.sub_emod, Int.emod_emod, ← Int.sub_emod]
theorem blA_iff {s a d b : Int} : blA s a d b = true ↔ 0 ≤ s ∧ s ≤ a ∧ a ≤ 65535 ∧ 0 ≤ d ∧ d ≤ b ∧ b ≤ 65535 := by simp [blA]
theorem modM {x : Int} (h : 0 ≤ x) (k : x < 18446744073709551616) : x % 18446744073709551616 = x := Int.emod_eq_of_lt h k
theorem big48 {D P a b : Int} (hD : D ≤ 65535) (hP : P ≤ D * (a * b)) (h0 : 0 ≤ a * b) (h1 : a * b ≤ 4294836225) : P < 18446744073709551616 := by
  have := Int.mul_le_mul hD h1 h0 (by decide)
  omega
theorem soft3_lt {s a d b : Int} (h0 : 0 ≤ s) (h1 : s ≤ a) (ha : a ≤ 65535) (h2 : 0 ≤ d) (h4 : 4 * d ≤ b) (hb : b ≤ 65535) :
    0 ≤ 16 * d * d + 3 * b * b - 12 * d * b ∧ 16 * d * d + 3 * b * b - 12 * d * b ≤ 12884508675 ∧ d * a * (b * b) + (2 * s - a) * d * (16 * d * d + 3 * b * b - 12 * d * b) < 18446744073709551616 := by
  obtain ⟨e, he⟩ : ∃ e, b = 4 * d + e := ⟨b - 4 * d, by omega⟩
  have he0 : 0 ≤ e := by omega
  have ha0 : 0 ≤ a := by omega
  have hb0 : 0 ≤ b := by omega
  have t1 := Int.mul_nonneg h2 he0
  have t2 := Int.mul_nonneg h2 h2
  have t3 := Int.mul_nonneg he0 he0
  have bb := Int.mul_le_mul hb hb hb0 (by decide)
  have bb0 := Int.mul_nonneg hb0 hb0
  have p0 : 0 ≤ 16 * d * d + 3 * b * b - 12 * d * b := by subst he; grind
  have p1 : 16 * d * d + 3 * b * b - 12 * d * b ≤ 3 * (b * b) := by subst he; grind
  refine ⟨p0, by omega, ?_⟩
  have q : 0 ≤ d * (16 * d * d + 3 * b * b - 12 * d * b) := Int.mul_nonneg h2 p0
  have q1 : (2 * s - a) * (d * (16 * d * d + 3 * b * b - 12 * d * b)) ≤ a * (d * (16 * d * d + 3 * b * b - 12 * d * b)) := Int.mul_le_mul_of_nonneg_right (by omega) q
  have q2 : 2 * (d * (b * b) + d * (16 * d * d + 3 * b * b - 12 * d * b)) ≤ b * (b * b) := by
    have := Int.mul_nonneg (Int.mul_nonneg h2 h2) h2
    have := Int.mul_nonneg (Int.mul_nonneg h2 h2) he0
    have := Int.mul_nonneg (Int.mul_nonneg h2 he0) he0
    have := Int.mul_nonneg (Int.mul_nonneg he0 he0) he0
    subst he; grind
  have q3 := Int.mul_le_mul_of_nonneg_left q2 ha0
  have q4 : a * (b * (b * b)) ≤ 65535 * (65535 * (65535 * 65535)) := Int.mul_le_mul ha (Int.mul_le_mul hb bb bb0 (by decide)) (Int.mul_nonneg hb0 bb0) (by decide)
  have e1 : d * a * (b * b) + (2 * s - a) * d * (16 * d * d + 3 * b * b - 12 * d * b) = a * (d * (b * b)) + (2 * s - a) * (d * (16 * d * d + 3 * b * b - 12 * d * b)) := by grind
  have e2 : a * (2 * (d * (b * b) + d * (16 * d * d + 3 * b * b - 12 * d * b))) = 2 * (a * (d * (b * b)) + a * (d * (16 * d * d + 3 * b * b - 12 * d * b))) := by grind
  rw [e1]
  omega
theorem a_hard6 : Answers2 135 s_hard6 := by
  intro al ans h hq
  unfold s_hard6 at h
  split at h <;> try (simp at h; done)
  rename_i s a d b
  simp only [Option.some.injEq] at h
  subst h
  have hq := asked hq
  refine QR.does_of_eval (O := (QR.orc [])) QR.orc_nil mixed (QR.noLoops) Tryz.func135 (by kernel_rfl) (by kernel_rfl) (by simp) ?_
  rw [hard6_vc]
  obtain ⟨h, _⟩ := hq
  obtain ⟨h0, h1, ha, h2, h3, hb⟩ := blA_iff.1 h
  obtain ⟨q1, q2, q3, q4, q5, q6, q7, q8, q9, q10, q11⟩ := bl_small h0 h1 ha h2 h3 hb
  have r := hard_range h0 h1 h2 h3
  have e1 : 2 * s % 18446744073709551616 = 2 * s := by omega
  simp only [bcond_iff, okAns, eqXs, eqX, eqo, eqLo, eqL, eqc, veq, eqUs, forall_eq, true_and, and_true, iaddU, isubU, imulU, eMl, eMr, eAl, eAr, eSl, eSr, ile, ige, igt, ilt, ieq, ge_iff_le, gt_iff_lt, decide_eq_true_eq, decide_eq_false_iff_not, beq_iff_eq, beq_eq_false_iff_ne, ne_eq, Int.mul_one, e1]
  unfold hardI at *
  refine ⟨fun c => ?_, fun c => ?_⟩
  · rw [if_pos c] at *; exact modM r.1 (by omega)
  · rw [if_neg c] at *; exact modM r.1 (by omega)
theorem a_quot6 : Answers2 144 s_quot6 := by
  intro al ans h hq
  unfold s_quot6 at h
  split at h <;> try (simp at h; done)
  rename_i n d
  simp only [Option.some.injEq] at h
  subst h
  have hq := asked hq
  refine QR.does_of_eval (O := (QR.orc [])) QR.orc_nil mixed (QR.noLoops) Tryz.func144 (by kernel_rfl) (by kernel_rfl) (by simp) ?_
  rw [quot6_vc]
  simp only [bcond_iff, okAns, eqXs, eqX, eqo, eqLo, eqL, eqc, veq, eqUs, forall_eq, true_and, and_true, iaddU, isubU, imulU, eMl, eMr, eAl, eAr, eSl, eSr, ile, ige, igt, ilt, ieq, ge_iff_le, gt_iff_lt, decide_eq_true_eq, decide_eq_false_iff_not, beq_iff_eq, beq_eq_false_iff_ne, ne_eq, Int.mul_one, and_self]
theorem a_whole6 : Answers2 134 s_whole6 := by
  intro al ans h hq
  unfold s_whole6 at h
  split at h <;> try (simp at h; done)
  rename_i n
  simp only [Option.some.injEq] at h
  subst h
  have hq := asked hq
  refine QR.does_of_eval (O := o_q6) (QR.orc_cons a_quot6 QR.orc_nil) mixed (QR.noLoops) Tryz.func134 (by kernel_rfl) (by kernel_rfl) (by simp) ?_
  rw [whole6_vc]
  simp only [bcond_iff, okAns, eqXs, eqX, eqo, eqLo, eqL, eqc, veq, eqUs, forall_eq, true_and, and_true, iaddU, isubU, imulU, eMl, eMr, eAl, eAr, eSl, eSr, ile, ige, igt, ilt, ieq, ge_iff_le, gt_iff_lt, decide_eq_true_eq, decide_eq_false_iff_not, beq_iff_eq, beq_eq_false_iff_ne, ne_eq, Int.mul_one, and_self]
theorem a_dodge6 : Answers2 136 s_dodge6 := by
  intro al ans h hq
  unfold s_dodge6 at h
  split at h <;> try (simp at h; done)
  rename_i s a d b
  simp only [Option.some.injEq] at h
  subst h
  have hq := asked hq
  refine QR.does_of_eval (O := o_w6) (QR.orc_cons a_quot6 (QR.orc_cons a_whole6 QR.orc_nil)) mixed (QR.noLoops) Tryz.func136 (by kernel_rfl) (by kernel_rfl) (by simp) ?_
  rw [dodge6_vc]
  obtain ⟨h, _⟩ := hq
  obtain ⟨h0, h1, ha, h2, h3, hb⟩ := blA_iff.1 h
  obtain ⟨q1, q2, q3, q4, q5, q6, q7, q8, q9, q10, q11⟩ := bl_small h0 h1 ha h2 h3 hb
  have r := dodge_range h0 h1 h2 h3
  have eb : b * (a - s) = a * b - s * b := by grind
  have e1 : b * (a - s) % 18446744073709551616 = b * (a - s) := modM (by omega) (by omega)
  have e2 : d * a % 18446744073709551616 = d * a := modM (by omega) (by omega)
  have e3 : a * b % 18446744073709551616 = a * b := modM (by omega) (by omega)
  have e4 : (a - s) % 18446744073709551616 = a - s := modM (by omega) (by omega)
  simp only [bcond_iff, okAns, eqXs, eqX, eqo, eqLo, eqL, eqc, veq, eqUs, forall_eq, true_and, and_true, iaddU, isubU, imulU, eMl, eMr, eAl, eAr, eSl, eSr, ile, ige, igt, ilt, ieq, ge_iff_le, gt_iff_lt, decide_eq_true_eq, decide_eq_false_iff_not, beq_iff_eq, beq_eq_false_iff_ne, ne_eq, Int.mul_one, e1, e2, e3, e4]
  unfold dodgeP dodgeD at *
  refine ⟨fun c => ?_, fun c => ⟨fun k => ?_, fun k => ?_⟩⟩
  · simp [c]
  · simp [c, k]
  · simp only [c, k, if_false] at r ⊢
    exact ⟨modM r.2.1 (big48 (show a - s ≤ 65535 by omega) r.2.2 q9 q10), trivial⟩
theorem a_burn6 : Answers2 137 s_burn6 := by
  intro al ans h hq
  unfold s_burn6 at h
  split at h <;> try (simp at h; done)
  rename_i s a d b
  simp only [Option.some.injEq] at h
  subst h
  have hq := asked hq
  refine QR.does_of_eval (O := o_w6) (QR.orc_cons a_quot6 (QR.orc_cons a_whole6 QR.orc_nil)) mixed (QR.noLoops) Tryz.func137 (by kernel_rfl) (by kernel_rfl) (by simp) ?_
  rw [burn6_vc]
  obtain ⟨h, _⟩ := hq
  obtain ⟨h0, h1, ha, h2, h3, hb⟩ := blA_iff.1 h
  obtain ⟨q1, q2, q3, q4, q5, q6, q7, q8, q9, q10, q11⟩ := bl_small h0 h1 ha h2 h3 hb
  have r := burn_range h0 h1 h2 h3
  have eb : (b - d) * a = a * b - d * a := by grind
  have e1 : (b - d) * a % 18446744073709551616 = (b - d) * a := modM (by omega) (by omega)
  have e2 : s * b % 18446744073709551616 = s * b := modM (by omega) (by omega)
  have e3 : a * b % 18446744073709551616 = a * b := modM (by omega) (by omega)
  simp only [bcond_iff, okAns, eqXs, eqX, eqo, eqLo, eqL, eqc, veq, eqUs, forall_eq, true_and, and_true, iaddU, isubU, imulU, eMl, eMr, eAl, eAr, eSl, eSr, ile, ige, igt, ilt, ieq, ge_iff_le, gt_iff_lt, decide_eq_true_eq, decide_eq_false_iff_not, beq_iff_eq, beq_eq_false_iff_ne, ne_eq, Int.mul_one, e1, e2, e3]
  unfold burnP burnD at *
  refine ⟨fun c => ?_, fun c => ⟨fun k => ?_, fun k => ?_⟩⟩
  · simp [c]
  · simp [c, k]
  · simp only [c, k, if_false] at r ⊢
    exact ⟨modM r.2.1 (big48 (show s ≤ 65535 by omega) r.2.2 q9 q10), trivial⟩
theorem a_soft6 : Answers2 138 s_soft6 := by
  intro al ans h hq
  unfold s_soft6 at h
  split at h <;> try (simp at h; done)
  rename_i s a d b
  simp only [Option.some.injEq] at h
  subst h
  have hq := asked hq
  refine QR.does_of_eval (O := o_w6) (QR.orc_cons a_quot6 (QR.orc_cons a_whole6 QR.orc_nil)) mixed (QR.noLoops) Tryz.func138 (by kernel_rfl) (by kernel_rfl) (by simp) ?_
  rw [soft6_vc]
  obtain ⟨h, _⟩ := hq
  obtain ⟨h0, h1, ha, h2, h3, hb⟩ := blA_iff.1 h
  obtain ⟨q1, q2, q3, q4, q5, q6, q7, q8, q9, q10, q11⟩ := bl_small h0 h1 ha h2 h3 hb
  have r := soft_range h0 h1 h2 h3
  have e1 : 2 * s % 18446744073709551616 = 2 * s := by omega
  have e2 : 4 * d % 18446744073709551616 = 4 * d := by omega
  simp only [bcond_iff, okAns, eqXs, eqX, eqo, eqLo, eqL, eqc, veq, eqUs, forall_eq, true_and, and_true, iaddU, isubU, imulU, eMl, eMr, eAl, eAr, eSl, eSr, ile, ige, igt, ilt, ieq, ge_iff_le, gt_iff_lt, decide_eq_true_eq, decide_eq_false_iff_not, beq_iff_eq, beq_eq_false_iff_ne, ne_eq, Int.mul_one, e1, e2]
  unfold softP softQ softR softD at *
  refine ⟨fun c => ?_, fun c => ⟨fun k => ?_, fun k => ⟨fun l => ?_, fun l => ?_⟩⟩⟩
  · simp [c]
  · simp only [c, k, if_false, if_true] at r ⊢
    exact ⟨modM r.2.1 (big48 (show b ≤ 65535 by omega) (r.2.2.2.2 trivial trivial) q9 q10), trivial, trivial, trivial⟩
  · simp only [c, k, l, if_false, if_true] at r ⊢
    have r3 := soft3_lt h0 h1 ha h2 l hb
    have bb := Int.mul_le_mul hb hb (by omega) (by decide)
    have bb0 := Int.mul_nonneg (show 0 ≤ b by omega) (show 0 ≤ b by omega)
    have ee : d * a * b * b = d * a * (b * b) := Int.mul_assoc _ _ _
    rw [ee]
    exact ⟨modM r.2.1 r3.2.2, trivial, trivial, modM bb0 (by omega)⟩
  · simp only [c, k, l, if_false] at r ⊢
    have db := Int.mul_le_mul (show d ≤ 65535 by omega) hb (by omega) (by decide)
    have db0 := Int.mul_nonneg h2 (show 0 ≤ b by omega)
    have y := soft_root h0 h1 h2 h3 (by omega)
    exact ⟨modM r.2.1 (by omega), modM (by omega) (by omega), modM db0 (by omega), trivial⟩
end Go.Proofs.YtpjhdjakpbabhaaGreatDoor
namespace Go.Proofs.YtpjhdjakpbabhaaGreatDoor
open Go.RowKit PR QR
set_option linter.unusedVariables false
set_option linter.unusedSimpArgs false
theorem bl_at {k s a d b : Int} (ok : blOk k s a d b = true) : blP k s a d b = blT k s a d b ∧ blQ k s a d b = (if k = 10 then softQ s a d b else 0) ∧ blR k s a d b = (if k = 10 then softR s a d b else 0) ∧
    blD k s a d b = (if k = 7 then dodgeD s a d b else if k = 8 then burnD s a d b else if k = 10 then softD s a d b else 1) := by
  unfold blP blQ blR blD; rw [ok]; exact ⟨rfl, rfl, rfl, rfl⟩
theorem bl_no {k s a d b : Int} (ok : blOk k s a d b = false) : blP k s a d b = 0 ∧ blQ k s a d b = 0 ∧ blR k s a d b = 0 ∧ blD k s a d b = 0 := by
  unfold blP blQ blR blD; rw [ok]; exact ⟨rfl, rfl, rfl, rfl⟩
theorem modes {k : Int} (h : 1 ≤ k ∧ k ≤ 12) : k = 1 ∨ k = 2 ∨ k = 3 ∨ k = 4 ∨ k = 5 ∨ k = 6 ∨ k = 7 ∨ k = 8 ∨ k = 9 ∨ k = 10 ∨ k = 11 ∨ k = 12 := by omega
theorem iimin_eq (a b : Int) : iimin a b = minI a b := by unfold iimin minI; split <;> split <;> omega
theorem iimax_eq (a b : Int) : iimax a b = maxI a b := by unfold iimax maxI; split <;> split <;> omega
theorem bl_lt {k s a d b : Int} (hk : 1 ≤ k ∧ k ≤ 12) (h0 : 0 ≤ s) (h1 : s ≤ a) (ha : a ≤ 65535) (h2 : 0 ≤ d) (h3 : d ≤ b) (hb : b ≤ 65535) : 0 ≤ blT k s a d b ∧ blT k s a d b < 18446744073709551616 := by
  obtain ⟨q1, q2, q3, q4, q5, q6, q7, q8, q9, q10, q11⟩ := bl_small h0 h1 ha h2 h3 hb
  by_cases k7 : k = 7
  · subst k7
    have r := dodge_range h0 h1 h2 h3
    have : dodgeD s a d b ≤ 65535 := by unfold dodgeD; split; omega; split <;> omega
    exact ⟨r.2.1, big48 this r.2.2 q9 q10⟩
  by_cases k8 : k = 8
  · subst k8
    have r := burn_range h0 h1 h2 h3
    have : burnD s a d b ≤ 65535 := by unfold burnD; split; omega; split <;> omega
    exact ⟨r.2.1, big48 this r.2.2 q9 q10⟩
  by_cases k10 : k = 10
  · subst k10
    have r := soft_range h0 h1 h2 h3
    show 0 ≤ softP s a d b ∧ softP s a d b < _
    refine ⟨r.2.1, ?_⟩
    unfold softP softQ softR softD at *
    by_cases c1 : b = 0
    · simp [c1]
    · by_cases c2 : 2 * s ≤ a
      · simp only [c1, c2, if_false, if_true] at r ⊢
        exact big48 hb (r.2.2.2.2 trivial trivial) q9 q10
      · by_cases c3 : 4 * d ≤ b
        · simp only [c1, c2, c3, if_false, if_true] at r ⊢
          exact (soft3_lt h0 h1 ha h2 c3 hb).2.2
        · simp only [c1, c2, c3, if_false] at r ⊢
          have y := soft_root h0 h1 h2 h3 (by omega)
          omega
  · unfold blT
    obtain ⟨z1, z2⟩ := hard_range h0 h1 h2 h3
    obtain ⟨z3, z4⟩ := hard_range h2 h3 h0 h1
    rw [Int.mul_comm b a] at z4
    have mm := min_max (s * b) (d * a)
    simp only [k7, k8, k10, if_false]
    split
    · omega
    split
    · omega
    split
    · omega
    split
    · omega
    split
    · omega
    split
    · omega
    split
    · omega
    split
    · omega
    · have e : 2 * s * d = 2 * (s * d) := Int.mul_assoc 2 s d
      omega
theorem a_term6 : Answers2 115 s_term6 := by
  intro al ans h hq
  unfold s_term6 at h
  split at h <;> try (simp at h; done)
  rename_i k s a d b
  simp only [Option.some.injEq] at h
  subst h
  have hq := asked hq
  refine QR.does_of_eval (O := o_t6) (QR.orc_cons a_whole6 (QR.orc_cons a_hard6 (QR.orc_cons a_dodge6 (QR.orc_cons a_burn6 (QR.orc_cons a_soft6 QR.orc_nil))))) mixed (QR.noLoops) Tryz.func115 (by kernel_rfl) (by kernel_rfl) (by simp) ?_
  rw [term6_vc]
  obtain ⟨hk, h, _⟩ := hq
  obtain ⟨h0, h1, ha, h2, h3, hb⟩ := blA_iff.1 h
  have h' : blA d b s a = true := blA_iff.2 ⟨h2, h3, hb, h0, h1, ha⟩
  have hk := of_decide_eq_true hk
  obtain ⟨q1, q2, q3, q4, q5, q6, q7, q8, q9, q10, q11⟩ := bl_small h0 h1 ha h2 h3 hb
  obtain ⟨b1, b2, b3, b4⟩ := bl_at (decide_eq_true ⟨hk.1, hk.2, h1, h3⟩ : blOk k s a d b = true)
  have x1 : s * b + d * (a - s) = s * b + d * a - s * d := by grind
  have x2 : s * (b - d) + d * (a - s) = s * b + d * a - 2 * s * d := by grind
  have x3 : 2 * s * d = 2 * (s * d) := Int.mul_assoc 2 s d
  have mm := min_max (s * b) (d * a)
  have e1 : s * d % 18446744073709551616 = s * d := modM (by omega) (by omega)
  have e2 : s * b % 18446744073709551616 = s * b := modM (by omega) (by omega)
  have e3 : d * a % 18446744073709551616 = d * a := modM (by omega) (by omega)
  have e4 : (s * b + d * a - s * d) % 18446744073709551616 = s * b + d * a - s * d := modM (by omega) (by omega)
  have e5 : (s * b + d * a - 2 * s * d) % 18446744073709551616 = s * b + d * a - 2 * s * d := modM (by omega) (by omega)
  have e6 : (maxI (s * b) (d * a) - minI (s * b) (d * a)) % 18446744073709551616 = maxI (s * b) (d * a) - minI (s * b) (d * a) := modM (by omega) (by omega)
  rw [b1, b2, b3, b4]
  unfold blT
  rcases modes hk with rfl | rfl | rfl | rfl | rfl | rfl | rfl | rfl | rfl | rfl | rfl | rfl <;> simp only [bcond_iff, okAns, eqXs, eqX, eqo, eqLo, eqL, eqc, veq, eqUs, forall_eq, true_and, and_true, iaddU, isubU, imulU, eMl, eMr, eAl, eAr, eSl, eSr, ile, ige, igt, ilt, ieq, ge_iff_le, gt_iff_lt, decide_eq_true_eq, decide_eq_false_iff_not, beq_iff_eq, beq_eq_false_iff_ne, ne_eq, Int.mul_one, false_implies, true_implies, implies_true, not_false_eq_true, not_true_eq_false, if_true, if_false, reduceIte, Int.reduceEq, Int.reduceLE, Int.reduceMul, and_self, iimin_eq, iimax_eq, x1, x2, e1, e2, e3, e4, e5, e6, h, h']
theorem knownB {m : Int} : band (ige m 1) (ile m 12) = decide (1 ≤ m ∧ m ≤ 12) := by
  unfold band ige ile; simp
theorem a_known6 : Answers2 114 s_known6 := by
  intro al ans h hq
  unfold s_known6 at h
  split at h <;> try (simp at h; done)
  rename_i m
  simp only [Option.some.injEq] at h
  subst h
  have hq := asked hq
  refine QR.does_of_eval (O := (QR.orc [])) QR.orc_nil mixed (QR.noLoops) Tryz.func114 (by kernel_rfl) (by kernel_rfl) (by simp) ?_
  rw [known6_vc]
  simp only [bcond_iff, okAns, eqXs, eqX, eqo, eqLo, eqL, eqc, veq, eqUs, forall_eq, true_and, and_true, iaddU, isubU, imulU, eMl, eMr, eAl, eAr, eSl, eSr, ile, ige, igt, ilt, ieq, ge_iff_le, gt_iff_lt, decide_eq_true_eq, decide_eq_false_iff_not, beq_iff_eq, beq_eq_false_iff_ne, ne_eq, Int.mul_one]
  refine ⟨fun c => ?_, fun c => ?_⟩
  · simp [band, c]
  · simp [band, c]
theorem a_exact6 : Answers2 96 s_bl := by
  intro al ans h hq
  unfold s_bl at h
  split at h <;> try (simp at h; done)
  rename_i k s a d b
  simp only [Option.some.injEq] at h
  subst h
  have hq := asked hq
  refine QR.does_of_eval (O := o_x6) (QR.orc_cons a_known6 (QR.orc_cons a_term6 QR.orc_nil)) mixed (QR.noLoops) Tryz.func96 (by kernel_rfl) (by kernel_rfl) (by simp) ?_
  rw [exact6_vc]
  obtain ⟨g1, g2, g3, g4, _⟩ := hq
  rw [in16_iff] at g1 g2 g3 g4
  rw [u64_id g1.1 (by omega), u64_id g2.1 (by omega), u64_id g3.1 (by omega), u64_id g4.1 (by omega), knownB]
  simp only [bcond_iff, okAns, eqXs, eqX, eqo, eqLo, eqL, eqc, veq, eqUs, forall_eq, true_and, and_true, bnot, igt, gt_iff_lt, Bool.not_eq_true', Bool.not_eq_false', decide_eq_true_eq, decide_eq_false_iff_not]
  refine ⟨fun c => ?_, fun c => ⟨fun e => ?_, fun e => ⟨fun f => ?_, fun f => ?_⟩⟩⟩
  · have no : blOk k s a d b = false := decide_eq_false (by omega)
    obtain ⟨z1, z2, z3, z4⟩ := bl_no no
    simp [z1, z2, z3, z4, no]
  · have no : blOk k s a d b = false := decide_eq_false (by omega)
    obtain ⟨z1, z2, z3, z4⟩ := bl_no no
    simp [z1, z2, z3, z4, no]
  · have no : blOk k s a d b = false := decide_eq_false (by omega)
    obtain ⟨z1, z2, z3, z4⟩ := bl_no no
    simp [z1, z2, z3, z4, no]
  · have ok : blOk k s a d b = true := decide_eq_true (by omega)
    have c1 : modeB k = true := decide_eq_true c
    have c2 : blA s a d b = true := blA_iff.2 (by omega)
    simp [ok, c1, c2]
theorem inU_zero : inU 0 = true := rfl
end Go.Proofs.YtpjhdjakpbabhaaGreatDoor
