/-
  Layer 12 (group): steps and results of groups on integers, and what the laws ask of them.
-/
import Derived.Test.YtfjpilehoeendaaDoorKa
import Derived.Test.YtfjpilehoeendaaDoorJa
namespace Go.Proofs.YtfjpilehoeendaaDoor
open Go.RowKit PR QR
set_option linter.unusedVariables false
set_option linter.unusedSimpArgs false

-- SPEC vaB gsOk gsC gsA gsO gsF grC grV
/-- an accumulation (c0 c1 c2 a own f) and a backdrop (k0 k1 k2 ka kf) are valid -/
def vaB (c0 c1 c2 a own f k0 k1 k2 ka kf m : Int) : Bool := decide (c0 ≤ a ∧ c1 ≤ a ∧ c2 ≤ a ∧ own ≤ a ∧ own ≤ f ∧ a ≤ m ∧ f ≤ m ∧ k0 ≤ ka ∧ k1 ≤ ka ∧ k2 ≤ ka ∧ ka = kf ∧ ka ≤ m) && fullB m
/-- the operator, the mode, the source and the kind of the group -/
def gsOk (kn : Bool) (o k m s0 s1 s2 sa sf c0 c1 c2 a own f k0 k1 k2 ka kf : Int) : Bool := decide ((1 ≤ o ∧ o ≤ 12) ∧ (1 ≤ k ∧ k ≤ 12) ∧ (kn = true → o = 4)) && (pvB s0 s1 s2 sa sf m && vaB c0 c1 c2 a own f k0 k1 k2 ka kf m)
def gsC (kn : Bool) (o k m s sa sf c a d b : Int) : Int := bif kn then kcV k m s sa sf c d b else mcV o k m s sa c a
def gsA (kn : Bool) (o m sa sf a b : Int) : Int := bif kn then kaV m sa sf a b else alV o sa a m
def gsO (kn : Bool) (o m sa sf own : Int) : Int := bif kn then kaV m sa sf own 0 else alV o sa own m
def gsF (o m sf f : Int) : Int := shV o sf f m
/-- a colour with the backdrop removed -/
def grC (c d own m : Int) : Int := if m * c ≤ (m - own) * d then 0 else iimin (hlf (m * c - (m - own) * d) m) own
def grV (ok : Bool) (c d own m : Int) : Int := bif ok then iconv .u16 (grC c d own m) else 0

section
variable {c0 c1 c2 a own f k0 k1 k2 ka kf m o k s0 s1 s2 sa sf s c d b : Int}
theorem va_iff : vaB c0 c1 c2 a own f k0 k1 k2 ka kf m = true ↔ (c0 ≤ a ∧ c1 ≤ a ∧ c2 ≤ a ∧ own ≤ a ∧ own ≤ f ∧ a ≤ m ∧ f ≤ m) ∧ (k0 ≤ ka ∧ k1 ≤ ka ∧ k2 ≤ ka ∧ ka = kf ∧ ka ≤ m) ∧ (m = 255 ∨ m = 65535) := by
  unfold vaB fullB
  rw [Bool.and_eq_true, decide_eq_true_eq, decide_eq_true_eq]
  simp only [and_assoc]
theorem gs_iff {kn : Bool} : gsOk kn o k m s0 s1 s2 sa sf c0 c1 c2 a own f k0 k1 k2 ka kf = true ↔ ((1 ≤ o ∧ o ≤ 12) ∧ (1 ≤ k ∧ k ≤ 12) ∧ (kn = true → o = 4)) ∧ (s0 ≤ sa ∧ s1 ≤ sa ∧ s2 ≤ sa ∧ sa ≤ sf ∧ sf ≤ m) ∧ vaB c0 c1 c2 a own f k0 k1 k2 ka kf m = true := by
  unfold gsOk
  rw [Bool.and_eq_true, Bool.and_eq_true, pv_iff, decide_eq_true_eq]
theorem gr_range (c0 : 0 ≤ c) (o0 : 0 ≤ own) : 0 ≤ grC c d own m ∧ grC c d own m ≤ own := by
  unfold grC
  split
  · omega
  · have := hlf_nonneg (m * c - (m - own) * d) m
    unfold iimin; split <;> omega
theorem gr_at (c0 : 0 ≤ c) (o0 : 0 ≤ own) (o1 : own ≤ 65535) : grV true c d own m = grC c d own m := u16_id (gr_range c0 o0).1 (by have := (gr_range (c := c) (d := d) (m := m) c0 o0).2; omega)
/-- on a zero backdrop, with the own alpha equal to the alpha, the result is what was accumulated -/
theorem gr_plain (h0 : 0 ≤ c) (h1 : c ≤ a) (hm : 0 < m) : grC c 0 a m = c := by
  unfold grC
  rw [Int.mul_zero, Int.sub_zero]
  split
  · rename_i h
    have : c ≤ 0 := by
      by_cases q : c ≤ 0
      · exact q
      · have := Int.mul_pos hm (show 0 < c by omega); omega
    omega
  · rw [hlf_exact h0 hm]; unfold iimin; split <;> omega
/-- nothing was painted -/
theorem gr_empty (c m : Int) : grC c c 0 m = 0 := by unfold grC; rw [Int.sub_zero, if_pos (Int.le_refl _)]
/-- one element in normal mode -/
theorem gr_one (hm : m = 255 ∨ m = 65535) (s0 : 0 ≤ s) (s1 : s ≤ a) (a1 : a ≤ m) (d0 : 0 ≤ d) : grC (s + hlf ((m - a) * d) m) d a m = s := by
  have n0 := Int.mul_nonneg (show 0 ≤ m - a by omega) d0
  obtain ⟨r, r0, r1, e⟩ := hlf_rest ((m - a) * d) m n0 (by omega)
  unfold grC
  generalize hlf ((m - a) * d) m = h at *
  generalize (m - a) * d = n at *
  have ex : m * (s + h) = m * s + m * h := Int.mul_add _ _ _
  have e2 : 2 * (m * h) = 2 * n + m - r := by have : 2 * m * h = 2 * (m * h) := Int.mul_assoc _ _ _
                                              omega
  have ms := Int.mul_nonneg (show 0 ≤ m by omega) s0
  split
  · rename_i q
    -- m is odd: no tie
    by_cases z : s = 0
    · omega
    · have : m * 1 ≤ m * s := Int.mul_le_mul_of_nonneg_left (by omega) (by omega)
      omega
  · rename_i q
    have p0 : 0 ≤ m * (s + h) - n := by omega
    have v : hlf (m * (s + h) - n) m = s := by
      rw [hlf_div p0 (by omega), Int.ediv_eq_iff_of_pos (by omega)]
      have g1 : s * (2 * m) = 2 * (m * s) := by grind
      have g2 : (s + 1) * (2 * m) = 2 * (m * s) + 2 * m := by grind
      rw [g1, ex]
      omega
    rw [v]; unfold iimin; split <;> omega
theorem sa_ok (hm : m = 255 ∨ m = 65535) : 0 < m ∧ m ≤ 65535 := by omega
/-- a src-over step keeps the accumulation valid, in a plain and in a knockout group -/
theorem gs_over {kn : Bool} (h : gsOk kn 4 k m s0 s1 s2 sa sf c0 c1 c2 a own f k0 k1 k2 ka kf = true) (z : 0 ≤ s0 ∧ 0 ≤ s1 ∧ 0 ≤ s2) (y : 0 ≤ c0 ∧ 0 ≤ c1 ∧ 0 ≤ c2 ∧ 0 ≤ own) (x : 0 ≤ k0 ∧ 0 ≤ k1 ∧ 0 ≤ k2) :
    (0 ≤ gsC kn 4 k m s0 sa sf c0 a k0 ka ∧ 0 ≤ gsC kn 4 k m s1 sa sf c1 a k1 ka ∧ 0 ≤ gsC kn 4 k m s2 sa sf c2 a k2 ka ∧ 0 ≤ gsO kn 4 m sa sf own) ∧
    vaB (gsC kn 4 k m s0 sa sf c0 a k0 ka) (gsC kn 4 k m s1 sa sf c1 a k1 ka) (gsC kn 4 k m s2 sa sf c2 a k2 ka) (gsA kn 4 m sa sf a ka) (gsO kn 4 m sa sf own) (gsF 4 m sf f) k0 k1 k2 ka kf m = true := by
  obtain ⟨⟨_, hk, _⟩, ⟨p1, p2, p3, p4, p5⟩, hv⟩ := gs_iff.1 h
  obtain ⟨⟨q1, q2, q3, q4, q5, q6, q7⟩, ⟨r1, r2, r3, r4, r5⟩, hm⟩ := va_iff.1 hv
  have sh := sh_range (k := 4) (a := sf) (b := f) (m := m) (by omega) (by omega) p5 (by omega) q7 (by omega)
  cases kn
  · have mk : ∀ s c : Int, 0 ≤ s → s ≤ sa → 0 ≤ c → c ≤ a → 0 ≤ mcV 4 k m s sa c a ∧ mcV 4 k m s sa c a ≤ alV 4 sa a m := by
      intro s c g1 g2 g3 g4
      have ok : mxOk 4 k m s sa c a = true := mx_iff.2 ⟨⟨hk.1, hk.2, g2, g4⟩, ⟨by omega, by omega, by omega, q6⟩, hm⟩
      exact ⟨(mc_eq ok g1 g3).2.2.1, (mc_eq ok g1 g3).2.2.2.1⟩
    have u0 := mk s0 c0 z.1 p1 y.1 q1
    have u1 := mk s1 c1 z.2.1 p2 y.2.1 q2
    have u2 := mk s2 c2 z.2.2 p3 y.2.2.1 q3
    have al := al_range (k := 4) (a := sa) (b := a) (m := m) (by omega) (by omega) (by omega) (by omega) q6 (by omega)
    have ao := al_range (k := 4) (a := sa) (b := own) (m := m) (by omega) (by omega) (by omega) y.2.2.2 (by omega) (by omega)
    have le := al_le_sh (k := 4) (a := sa) (b := own) (f := sf) (g := f) (m := m) (by omega) (by omega) p4 p5 y.2.2.2 q5 q7 (by omega)
    have mo : alV 4 sa own m ≤ alV 4 sa a m := by
      obtain ⟨_, e1, e2, _⟩ := op_at (k := 4) (a := sa) (b := own) (m := m) (by omega) (by omega) (by omega)
      obtain ⟨_, e3, e4, _⟩ := op_at (k := 4) (a := sa) (b := a) (m := m) (by omega) (by omega) (by omega)
      unfold alV
      rw [e1, e2, e3, e4, al_num, al_num]
      have n1 := Int.mul_nonneg (show 0 ≤ m by omega) (show 0 ≤ sa by omega)
      have n2 := Int.mul_nonneg (show 0 ≤ m - sa by omega) y.2.2.2
      have n3 := Int.mul_le_mul_of_nonneg_left q4 (show 0 ≤ m - sa by omega)
      exact hlf_mono (show 0 ≤ m * sa + (m - sa) * own by omega) (show m * sa + (m - sa) * own ≤ m * sa + (m - sa) * a by omega) (by omega)
    refine ⟨⟨u0.1, u1.1, u2.1, ao.1⟩, va_iff.2 ⟨⟨u0.2, u1.2, u2.2, mo, le, al.2, sh.2⟩, ⟨r1, r2, r3, r4, r5⟩, hm⟩⟩
  · have mk : ∀ s c d : Int, 0 ≤ s → s ≤ sa → 0 ≤ c → c ≤ a → 0 ≤ d → d ≤ ka → 0 ≤ kcV k m s sa sf c d ka ∧ kcV k m s sa sf c d ka ≤ kaV m sa sf a ka := by
      intro s c d g1 g2 g3 g4 g5 g6
      have ok : knOk k m s sa sf c d ka = true := kn_iff.2 ⟨⟨hk, g2, p4, p5, g6, r5, by omega⟩, hm⟩
      obtain ⟨_, _, _, _, _, v0, _, v1⟩ := kc_eq ok g1 g3 g5
      exact ⟨v0, v1 a g4 q6⟩
    have u0 := mk s0 c0 k0 z.1 p1 y.1 q1 x.1 r1
    have u1 := mk s1 c1 k1 z.2.1 p2 y.2.1 q2 x.2.1 r2
    have u2 := mk s2 c2 k2 z.2.2 p3 y.2.2.1 q3 x.2.2 r3
    obtain ⟨o1, o2, l1, l2, l3⟩ := ka_order (acc := a) (b := ka) (g := f) (own := own) hm (show 0 ≤ sa by omega) p4 p5 y.2.2.2 q4 q5 q6 q7 (by omega) r5
    have ao := ka_at o1 (show 0 ≤ sa by omega) y.2.2.2 (by omega)
    refine ⟨⟨u0.1, u1.1, u2.1, ao.2.1⟩, va_iff.2 ⟨⟨u0.2, u1.2, u2.2, l1, l2, l3, sh.2⟩, ⟨r1, r2, r3, r4, r5⟩, hm⟩⟩
/-- any operator on a zero backdrop keeps the accumulation valid, and the own alpha equal to the alpha -/
theorem gs_plain (ho : 1 ≤ o ∧ o ≤ 12) (h : gsOk false o k m s0 s1 s2 sa sf c0 c1 c2 a a f 0 0 0 0 0 = true) (z : 0 ≤ s0 ∧ 0 ≤ s1 ∧ 0 ≤ s2) (y : 0 ≤ c0 ∧ 0 ≤ c1 ∧ 0 ≤ c2) :
    (0 ≤ mcV o k m s0 sa c0 a ∧ 0 ≤ mcV o k m s1 sa c1 a ∧ 0 ≤ mcV o k m s2 sa c2 a) ∧
    vaB (mcV o k m s0 sa c0 a) (mcV o k m s1 sa c1 a) (mcV o k m s2 sa c2 a) (alV o sa a m) (alV o sa a m) (shV o sf f m) 0 0 0 0 0 m = true := by
  obtain ⟨⟨_, hk, _⟩, ⟨p1, p2, p3, p4, p5⟩, hv⟩ := gs_iff.1 h
  obtain ⟨⟨q1, q2, q3, q4, q5, q6, q7⟩, ⟨r1, r2, r3, r4, r5⟩, hm⟩ := va_iff.1 hv
  have sh := sh_range (k := o) (a := sf) (b := f) (m := m) ho (by omega) p5 (by omega) q7 (by omega)
  have mk : ∀ s c : Int, 0 ≤ s → s ≤ sa → 0 ≤ c → c ≤ a → 0 ≤ mcV o k m s sa c a ∧ mcV o k m s sa c a ≤ alV o sa a m := by
    intro s c g1 g2 g3 g4
    have ok : mxOk o k m s sa c a = true := mx_iff.2 ⟨⟨hk.1, hk.2, g2, g4⟩, ⟨ho.1, ho.2, by omega, q6⟩, hm⟩
    exact ⟨(mc_eq ok g1 g3).2.2.1, (mc_eq ok g1 g3).2.2.2.1⟩
  have u0 := mk s0 c0 z.1 p1 y.1 q1
  have u1 := mk s1 c1 z.2.1 p2 y.2.1 q2
  have u2 := mk s2 c2 z.2.2 p3 y.2.2 q3
  have al := al_range (k := o) (a := sa) (b := a) (m := m) ho (by omega) (by omega) (by omega) q6 (by omega)
  have le := al_le_sh (k := o) (a := sa) (b := a) (f := sf) (g := f) (m := m) ho (by omega) p4 p5 (by omega) q5 q7 (by omega)
  exact ⟨⟨u0.1, u1.1, u2.1⟩, va_iff.2 ⟨⟨u0.2, u1.2, u2.2, Int.le_refl _, le, al.2, sh.2⟩, ⟨r1, r2, r3, r4, r5⟩, hm⟩⟩
/-- the first element of a group, in normal mode -/
theorem gs_first {kn : Bool} (hm : m = 255 ∨ m = 65535) (s0 : 0 ≤ s) (s1 : s ≤ sa) (s2 : sa ≤ sf) (s3 : sf ≤ m) (d0 : 0 ≤ d) (d1 : d ≤ b) (b1 : b ≤ m) :
    gsC kn 4 1 m s sa sf d b d b = s + hlf ((m - sa) * d) m ∧ gsO kn 4 m sa sf 0 = sa ∧ gsF 4 m sf 0 = sf ∧ grC (gsC kn 4 1 m s sa sf d b d b) d (gsO kn 4 m sa sf 0) m = s := by
  have c := mc_classic hm s0 s1 (show sa ≤ m by omega) d0 d1 b1
  have k1 := kc_first (k := 1) (by omega) hm s0 s1 s2 s3 d0 d1 b1
  have k2 := ka_first hm (show 0 ≤ sa by omega) s2 s3 (show 0 ≤ b by omega) b1
  have fr := op_fresh (k := 4) (a := sa) (m := m) (by decide) (by omega) (by omega) (by omega)
  have fr2 := op_fresh (k := 4) (a := sf) (m := m) (by decide) (by omega) (by omega) (by omega)
  have e1 : gsC kn 4 1 m s sa sf d b d b = s + hlf ((m - sa) * d) m := by
    cases kn
    · exact c.2
    · exact k1.2.2.trans c.2
  have e2 : gsO kn 4 m sa sf 0 = sa := by
    cases kn
    · exact fr.1
    · exact k2.2.2.2
  refine ⟨e1, e2, fr2.2, ?_⟩
  rw [e1, e2]
  exact gr_one hm s0 s1 (by omega) d0
end
end Go.Proofs.YtfjpilehoeendaaDoor
