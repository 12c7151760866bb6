/-
  Layer 10 (knockout): what each call answers.
-/
import Derived.Test.YtdcjengjiiiccaaJb
namespace Go.Proofs.Ytdcjengjiiiccaa
open Go.RowKit PR QR
set_option linter.unusedVariables false
set_option linter.unusedSimpArgs false

theorem sum3U {x y z : Int} (hx : 0 ≤ x) (hy : 0 ≤ y) (hz : 0 ≤ z) (h : x + y + z < 18446744073709551616) : iadd .u64 (iadd .u64 x y) z = x + y + z := by
  have e : iadd .u64 x y = x + y := by rw [iaddU]; exact modM (by omega) (by omega)
  rw [e, iaddU]; exact modM (by omega) h
theorem mulI16 {x y : Int} (hx : in16 x = true) (hy : in16 y = true) : 0 ≤ x * y ∧ x * y ≤ 4294836225 ∧ imul .u64 x y = x * y := by
  rw [in16_iff] at hx hy
  have a := Int.mul_nonneg hx.1 hy.1
  have b := Int.mul_le_mul (show x ≤ 65535 by omega) (show y ≤ 65535 by omega) hy.1 (by decide)
  exact ⟨a, by omega, mulIn a (by omega)⟩
theorem igt_f {a b : Int} (h : a ≤ b) : igt a b = false := decide_eq_false (by omega)
theorem igt_ff {a b : Int} (h : igt a b = false) : a ≤ b := by have := of_decide_eq_false h; omega
theorem kn_no {k m s a f c d b : Int} (h : knOk k m s a f c d b = false) : kcV k m s a f c d b = 0 := by unfold kcV; rw [h]; rfl
theorem ka_no {m a f acc b : Int} (h : kaOk m a f acc b = false) : kaV m a f acc b = 0 := by unfold kaV; rw [h]; rfl
/-- both ways of computing a colour -/
theorem kn_ways {k m s a f c d b : Int} (ok : knOk k m s a f c d b = true) (hm : in16 m = true) (hs : in16 s = true) (ha : in16 a = true) (hf : in16 f = true) (hc : in16 c = true) (hd : in16 d = true) (hb : in16 b = true) :
    (isub .u16 m f = m - f ∧ iconv .u64 (m - f) = m - f ∧ isub .u64 m f = m - f) ∧ (isub .u16 f a = f - a ∧ iconv .u64 (f - a) = f - a ∧ isub .u64 f a = f - a) ∧ (isub .u16 m b = m - b ∧ iconv .u64 (m - b) = m - b ∧ isub .u64 m b = m - b) ∧
    iadd .u64 (iadd .u64 (imul .u64 (m - f) c) (imul .u64 (f - a) d)) (imul .u64 (m - b) s) = knX m s a f c d b ∧ inU (knX m s a f c d b) = true ∧ imul .u64 m (blD k s a d b) = knD k m s a d b ∧ 0 ≤ blP k s a d b ∧
    inU (blP k s a d b) = true ∧ inU (blQ k s a d b) = true ∧ inU (blR k s a d b) = true ∧ inU (blD k s a d b) = true ∧ inU (knD k m s a d b) = true ∧
    blP k s a d b + knX m s a f c d b * blD k s a d b = knP k m s a f c d b ∧ 0 ≤ knP k m s a f c d b ∧ knP k m s a f c d b < 340282366920938463463374607431768211456 ∧ blOk k s a d b = true := by
  obtain ⟨⟨hk, h1, h2, h3, h4, h5, h6⟩, hmm⟩ := kn_iff.1 ok
  obtain ⟨x1, x2, x3⟩ := sub16 hm hf h3
  obtain ⟨y1, y2, y3⟩ := sub16 hf ha h2
  obtain ⟨z1, z2, z3⟩ := sub16 hm hb h5
  have c1 := (conv64 x2).1
  have c2 := (conv64 y2).1
  have c3 := (conv64 z2).1
  obtain ⟨p0, p1, p2⟩ := mulI16 x2 hc
  obtain ⟨q0, q1, q2⟩ := mulI16 y2 hd
  obtain ⟨r0, r1, r2⟩ := mulI16 z2 hs
  have e : iadd .u64 (iadd .u64 (imul .u64 (m - f) c) (imul .u64 (f - a) d)) (imul .u64 (m - b) s) = knX m s a f c d b := by rw [p2, q2, r2]; exact sum3U p0 q0 r0 (by omega)
  have ix : inU (knX m s a f c d b) = true := inU_iff.2 (by unfold knX; omega)
  have hsI := in16_iff.1 hs
  have hcI := in16_iff.1 hc
  have hdI := in16_iff.1 hd
  obtain ⟨⟨u1, u2, u3, u4, u5⟩, D0, S0, okv, v, _⟩ := kc_eq ok hsI.1 hcI.1 hdI.1
  obtain ⟨l0, l1⟩ := bl_lt (k := k) hk hsI.1 h1 (show a ≤ 65535 by omega) hdI.1 h4 (show b ≤ 65535 by omega)
  have okb : blOk k s a d b = true := decide_eq_true ⟨hk.1, hk.2, h1, h4⟩
  rw [← (bl_at okb).1] at l0 l1
  obtain ⟨g1, g2, g3, g4, g5, g6, g7, g8, g9⟩ := bl_facts (k := k) hk hsI.1 h1 (show a ≤ 65535 by omega) hdI.1 h4 (show b ≤ 65535 by omega)
  have P0 : 0 ≤ knP k m s a f c d b := by
    have := Int.mul_nonneg (inU_iff.1 ix).1 (show 0 ≤ blD k s a d b by omega)
    unfold knP; omega
  have P1 : knP k m s a f c d b < 340282366920938463463374607431768211456 := by
    have := Int.mul_le_mul (show knX m s a f c d b ≤ 18446744073709551615 by have := inU_iff.1 ix; omega) g8 (by omega) (by decide)
    unfold knP; omega
  have u5' := inU_iff.1 u5
  exact ⟨⟨x1, c1, x3⟩, ⟨y1, c2, y3⟩, ⟨z1, c3, z3⟩, e, ix, mulIn u5'.1 u5'.2, l0, inU_iff.2 ⟨l0, l1⟩, u3, u4, inU_iff.2 (by omega), u5, rfl, P0, P1, okb⟩
theorem ka_ways {m a f acc b : Int} (ok : kaOk m a f acc b = true) (hm : in16 m = true) (ha : in16 a = true) (hf : in16 f = true) (hc : in16 acc = true) (hb : in16 b = true) :
    (isub .u16 m f = m - f ∧ iconv .u64 (m - f) = m - f ∧ isub .u64 m f = m - f) ∧ (isub .u16 f a = f - a ∧ iconv .u64 (f - a) = f - a ∧ isub .u64 f a = f - a) ∧
    iadd .u64 (iadd .u64 (imul .u64 (m - f) acc) (imul .u64 (f - a) b)) (imul .u64 m a) = knN m a f acc b ∧ inU (knN m a f acc b) = true ∧ kaV m a f acc b = iconv .u16 (hlf (knN m a f acc b) m) := by
  obtain ⟨⟨h1, h2, h3, h4⟩, hmm⟩ := ka_iff.1 ok
  obtain ⟨x1, x2, x3⟩ := sub16 hm hf h2
  obtain ⟨y1, y2, y3⟩ := sub16 hf ha h1
  obtain ⟨p0, p1, p2⟩ := mulI16 x2 hc
  obtain ⟨q0, q1, q2⟩ := mulI16 y2 hb
  obtain ⟨r0, r1, r2⟩ := mulI16 hm ha
  refine ⟨⟨x1, (conv64 x2).1, x3⟩, ⟨y1, (conv64 y2).1, y3⟩, by rw [p2, q2, r2]; exact sum3U p0 q0 r0 (by omega), inU_iff.2 (by unfold knN; omega), by unfold kaV; rw [ok]; rfl⟩

theorem kp_lt (h l n : Int) : 0 ≤ kpZ h l n ∧ kpZ h l n < 340282366920938463463374607431768211456 := by unfold kpZ; omega
theorem kp_in (h l n k : Int) : inU (kpH h l n k) = true ∧ inU (kpL h l n k) = true ∧ w2 (kpH h l n k) (kpL h l n k) = kpZ h l (n * k) := hilo_range _ (kp_lt _ _ _).1 (kp_lt _ _ _).2
theorem kp_step (h l n k A : Int) : kpZ (kpH h l n k) (kpL h l n k) A = kpZ h l (n * k + A) := by
  have e := (kp_in h l n k).2.2
  show (w2 (kpH h l n k) (kpL h l n k) + A) % _ = _
  rw [e]
  unfold kpZ
  rw [Int.emod_add_emod, Int.add_assoc]
theorem kp_small {h l n : Int} (h0 : 0 ≤ w2 h l + n) (h1 : w2 h l + n < 340282366920938463463374607431768211456) : kpZ h l n = w2 h l + n := Int.emod_eq_of_lt h0 h1
theorem plus_at {a b p q : Int} (ha : inU a = true) (hb : inU b = true) (hp : inU p = true) (hq : inU q = true) : bitB (adC b q 0) = true ∧ adS a p (adC b q 0) = hi64 (kpZ a b (w2 p q)) ∧ adS b q 0 = lo64 (kpZ a b (w2 p q)) := by
  rw [inU_iff] at *
  unfold bitB adC adS hi64 lo64 kpZ w2
  refine ⟨decide_eq_true ?_, ?_, ?_⟩ <;> omega
theorem row2 (a b : Int) : intRow .u16 1 2 (.upd (.upd (.zer [.int .u16 0]) 0 0 (.v (.int .u16 a))) 1 0 (.v (.int .u16 b))) := by
  intro i j hi hj
  obtain rfl : j = 0 := by omega
  have h : i = 0 ∨ i = 1 := by omega
  rcases h with rfl | rfl <;> rfl
theorem row3 (a b c d e f : Int) : intRow .u16 2 3 (.upd (.upd (.upd (.upd (.upd (.upd (.zer [.int .u16 0, .int .u16 0]) 0 0 (.v (.int .u16 a))) 0 1 (.v (.int .u16 b))) 1 0 (.v (.int .u16 c))) 1 1 (.v (.int .u16 d))) 2 0 (.v (.int .u16 e))) 2 1 (.v (.int .u16 f))) := by
  intro i j hi hj
  have h : i = 0 ∨ i = 1 ∨ i = 2 := by omega
  have k : j = 0 ∨ j = 1 := by omega
  rcases h with rfl | rfl | rfl <;> rcases k with rfl | rfl <;> rfl
theorem kn_split (k m s a f c d b : Int) : knOk k m s a f c d b = (blOk k s a d b && kaOk m a f c b) := by
  rw [Bool.eq_iff_iff, Bool.and_eq_true, kn_iff, ka_iff]
  unfold blOk
  rw [decide_eq_true_eq]
  omega
end Go.Proofs.Ytdcjengjiiiccaa
