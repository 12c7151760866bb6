import Derived.Test.YtpjhdjakpbabhaaGreatDoorZaa
import Derived.Test.YtpjhdjakpbabhaaGreatDoorJb
namespace Go.Proofs.YtpjhdjakpbabhaaGreatDoor
open Go.RowKit PR QR
set_option linter.unusedVariables false
set_option linter.unusedSimpArgs false
theorem sum3U {x y z : Int} (hx : 0 ≤ x) (hy : 0 ≤ y) (hz : 0 ≤ z) (h : x + y + z < 18446744073709551616) : iadd .u64 (iadd .u64 x y) z = x + y + z := by
  have e : iadd .u64 x y = x + y := by rw [iaddU]; exact modM (by omega) (by omega)
  rw [e, iaddU]; exact modM (by omega) h
theorem mulI16 {x y : Int} (hx : in16 x = true) (hy : in16 y = true) : 0 ≤ x * y ∧ x * y ≤ 4294836225 ∧ imul .u64 x y = x * y := by
  rw [in16_iff] at hx hy
  have a := Int.mul_nonneg hx.1 hy.1
  have b := Int.mul_le_mul (show x ≤ 65535 by omega) (show y ≤ 65535 by omega) hy.1 (by decide)
  exact ⟨a, by omega, mulIn a (by omega)⟩
theorem kn_no {k m s a f c d b : Int} (h : knOk k m s a f c d b = false) : kcV k m s a f c d b = 0 := by unfold kcV; rw [h]; rfl
theorem ka_no {m a f acc b : Int} (h : kaOk m a f acc b = false) : kaV m a f acc b = 0 := by unfold kaV; rw [h]; rfl
theorem kn_ways {k m s a f c d b : Int} (ok : knOk k m s a f c d b = true) (hm : in16 m = true) (hs : in16 s = true) (ha : in16 a = true) (hf : in16 f = true) (hc : in16 c = true) (hd : in16 d = true) (hb : in16 b = true) :
    (isub .u16 m f = m - f ∧ iconv .u64 (m - f) = m - f ∧ isub .u64 m f = m - f) ∧ (isub .u16 f a = f - a ∧ iconv .u64 (f - a) = f - a ∧ isub .u64 f a = f - a) ∧ (isub .u16 m b = m - b ∧ iconv .u64 (m - b) = m - b ∧ isub .u64 m b = m - b) ∧
    iadd .u64 (iadd .u64 (imul .u64 (m - f) c) (imul .u64 (f - a) d)) (imul .u64 (m - b) s) = knX m s a f c d b ∧ inU (knX m s a f c d b) = true ∧ imul .u64 m (blD k s a d b) = knD k m s a d b ∧ 0 ≤ blP k s a d b ∧
    inU (blP k s a d b) = true ∧ inU (blQ k s a d b) = true ∧ inU (blR k s a d b) = true ∧ inU (blD k s a d b) = true ∧ inU (knD k m s a d b) = true ∧
    blP k s a d b + knX m s a f c d b * blD k s a d b = knP k m s a f c d b ∧ 0 ≤ knP k m s a f c d b ∧ knP k m s a f c d b < 340282366920938463463374607431768211456 ∧ blOk k s a d b = true := by
  obtain ⟨⟨hk, h1, h2, h3, h4, h5, h6⟩, hmm⟩ := kn_iff.1 ok
  obtain ⟨x1, x2, x3⟩ := sub16 hm hf h3
  obtain ⟨y1, y2, y3⟩ := sub16 hf ha h2
  obtain ⟨z1, z2, z3⟩ := sub16 hm hb h5
  have c1 := (conv64 x2).1
  have c2 := (conv64 y2).1
  have c3 := (conv64 z2).1
  obtain ⟨p0, p1, p2⟩ := mulI16 x2 hc
  obtain ⟨q0, q1, q2⟩ := mulI16 y2 hd
  obtain ⟨r0, r1, r2⟩ := mulI16 z2 hs
  have e : iadd .u64 (iadd .u64 (imul .u64 (m - f) c) (imul .u64 (f - a) d)) (imul .u64 (m - b) s) = knX m s a f c d b := by rw [p2, q2, r2]; exact sum3U p0 q0 r0 (by omega)
  have ix : inU (knX m s a f c d b) = true := inU_iff.2 (by unfold knX; omega)
  have hsI := in16_iff.1 hs
  have hcI := in16_iff.1 hc
  have hdI := in16_iff.1 hd
  obtain ⟨⟨u1, u2, u3, u4, u5⟩, D0, S0, okv, v, _⟩ := kc_eq ok hsI.1 hcI.1 hdI.1
  obtain ⟨l0, l1⟩ := bl_lt (k := k) hk hsI.1 h1 (show a ≤ 65535 by omega) hdI.1 h4 (show b ≤ 65535 by omega)
  have okb : blOk k s a d b = true := decide_eq_true ⟨hk.1, hk.2, h1, h4⟩
  rw [← (bl_at okb).1] at l0 l1
  obtain ⟨g1, g2, g3, g4, g5, g6, g7, g8, g9⟩ := bl_facts (k := k) hk hsI.1 h1 (show a ≤ 65535 by omega) hdI.1 h4 (show b ≤ 65535 by omega)
  have P0 : 0 ≤ knP k m s a f c d b := by
    have := Int.mul_nonneg (inU_iff.1 ix).1 (show 0 ≤ blD k s a d b by omega)
    unfold knP; omega
  have P1 : knP k m s a f c d b < 340282366920938463463374607431768211456 := by
    have := Int.mul_le_mul (show knX m s a f c d b ≤ 18446744073709551615 by have := inU_iff.1 ix; omega) g8 (by omega) (by decide)
    unfold knP; omega
  have u5' := inU_iff.1 u5
  exact ⟨⟨x1, c1, x3⟩, ⟨y1, c2, y3⟩, ⟨z1, c3, z3⟩, e, ix, mulIn u5'.1 u5'.2, l0, inU_iff.2 ⟨l0, l1⟩, u3, u4, inU_iff.2 (by omega), u5, rfl, P0, P1, okb⟩
theorem ka_ways {m a f acc b : Int} (ok : kaOk m a f acc b = true) (hm : in16 m = true) (ha : in16 a = true) (hf : in16 f = true) (hc : in16 acc = true) (hb : in16 b = true) :
    (isub .u16 m f = m - f ∧ iconv .u64 (m - f) = m - f ∧ isub .u64 m f = m - f) ∧ (isub .u16 f a = f - a ∧ iconv .u64 (f - a) = f - a ∧ isub .u64 f a = f - a) ∧
    iadd .u64 (iadd .u64 (imul .u64 (m - f) acc) (imul .u64 (f - a) b)) (imul .u64 m a) = knN m a f acc b ∧ inU (knN m a f acc b) = true ∧ kaV m a f acc b = iconv .u16 (hlf (knN m a f acc b) m) := by
  obtain ⟨⟨h1, h2, h3, h4⟩, hmm⟩ := ka_iff.1 ok
  obtain ⟨x1, x2, x3⟩ := sub16 hm hf h2
  obtain ⟨y1, y2, y3⟩ := sub16 hf ha h1
  obtain ⟨p0, p1, p2⟩ := mulI16 x2 hc
  obtain ⟨q0, q1, q2⟩ := mulI16 y2 hb
  obtain ⟨r0, r1, r2⟩ := mulI16 hm ha
  refine ⟨⟨x1, (conv64 x2).1, x3⟩, ⟨y1, (conv64 y2).1, y3⟩, by rw [p2, q2, r2]; exact sum3U p0 q0 r0 (by omega), inU_iff.2 (by unfold knN; omega), by unfold kaV; rw [ok]; rfl⟩
theorem a_mul64 : Answers 120 s_mul64 := by
  intro args v bs h hok
  unfold s_mul64 at h
  split at h <;> try (simp at h; done)
  simp only [Option.some.injEq, Prod.mk.injEq] at h
  obtain ⟨rfl, rfl⟩ := h
  obtain ⟨h1, h2, _⟩ := hok
  obtain ⟨a, rfl, ha⟩ := inU_nat h1
  obtain ⟨b, rfl, hb'⟩ := inU_nat h2
  refine does_of_calls Tryz.func120 (by kernel_rfl) (by kernel_rfl) fun w => (mul64 a b ha hb' w).mono ?_
  rintro e w' ⟨p, q, rfl, k, rfl⟩
  obtain ⟨e1, e2⟩ := hilo_nat k
  refine ⟨?_, Below.refl _ _⟩
  unfold wmH wmL
  rw [← Int.natCast_mul, e1, e2]
theorem a_add64 : Answers 121 s_add64 := by
  intro args v bs h hok
  unfold s_add64 at h
  split at h <;> try (simp at h; done)
  rename_i x y c
  simp only [Option.some.injEq, Prod.mk.injEq] at h
  obtain ⟨rfl, rfl⟩ := h
  obtain ⟨h1, h2, h3, _⟩ := hok
  obtain ⟨x, rfl, hx⟩ := inU_nat h1
  obtain ⟨y, rfl, hy⟩ := inU_nat h2
  have hc := of_decide_eq_true h3
  obtain ⟨c, rfl⟩ : ∃ n : Nat, c = n := ⟨c.toNat, by omega⟩
  intro w
  refine Or.inl ⟨w, ?_, Below.refl _ _⟩
  unfold adS adC
  rw [show ((x : Int) + y + c) % 18446744073709551616 = (((x + y + c) % 18446744073709551616 : Nat) : Int) by omega, show ((x : Int) + y + c) / 18446744073709551616 = (((x + y + c) / 18446744073709551616 : Nat) : Int) by omega]
  exact add64_run x y c ((x + y + c) % 18446744073709551616) ((x + y + c) / 18446744073709551616) hx hy (by omega) (by omega) (by omega) w
theorem kp_lt (h l n : Int) : 0 ≤ kpZ h l n ∧ kpZ h l n < 340282366920938463463374607431768211456 := by unfold kpZ; omega
theorem kp_in (h l n k : Int) : inU (kpH h l n k) = true ∧ inU (kpL h l n k) = true ∧ w2 (kpH h l n k) (kpL h l n k) = kpZ h l (n * k) := hilo_range _ (kp_lt _ _ _).1 (kp_lt _ _ _).2
theorem kp_step (h l n k A : Int) : kpZ (kpH h l n k) (kpL h l n k) A = kpZ h l (n * k + A) := by
  have e := (kp_in h l n k).2.2
  show (w2 (kpH h l n k) (kpL h l n k) + A) % _ = _
  rw [e]
  unfold kpZ
  rw [Int.emod_add_emod, Int.add_assoc]
theorem kp_small {h l n : Int} (h0 : 0 ≤ w2 h l + n) (h1 : w2 h l + n < 340282366920938463463374607431768211456) : kpZ h l n = w2 h l + n := Int.emod_eq_of_lt h0 h1
theorem plus_at {a b p q : Int} (ha : inU a = true) (hb : inU b = true) (hp : inU p = true) (hq : inU q = true) : bitB (adC b q 0) = true ∧ adS a p (adC b q 0) = hi64 (kpZ a b (w2 p q)) ∧ adS b q 0 = lo64 (kpZ a b (w2 p q)) := by
  rw [inU_iff] at *
  unfold bitB adC adS hi64 lo64 kpZ w2
  refine ⟨decide_eq_true ?_, ?_, ?_⟩ <;> omega
theorem a_kplus : Answers2 133 s_kplus := by
  intro al ans h hq
  unfold s_kplus at h
  split at h <;> try (simp at h; done)
  rename_i xh xl n k
  simp only [Option.some.injEq] at h
  subst h
  have hq := asked hq
  refine QR.does_of_eval (O := o_kplus) (QR.orc_cons (up a_mul64) (QR.orc_cons (up a_add64) QR.orc_nil)) mixed (QR.noLoops) Tryz.func133 (by kernel_rfl) (by kernel_rfl) (by simp) ?_
  rw [kplus_vc]
  obtain ⟨h1, h2, h3, h4, _⟩ := hq
  obtain ⟨m1, m2, m3⟩ := wm_spec h3 h4
  obtain ⟨p1, p2, p3⟩ := plus_at h1 h2 m1 m2
  rw [m3] at p2 p3
  have b0 : bitB 0 = true := rfl
  simp [okAns, eqXs, eqX, eqo, eqLo, eqL, eqc, veq, eqUs, h1, h2, h3, h4, m1, m2, p1, p2, p3, b0, kpH, kpL]
theorem a_kperm : Answers2 111 s_kperm := by
  intro al ans h hq
  unfold s_kperm at h
  split at h <;> try (simp at h; done)
  rename_i m a f z n r
  cases hz : Nat.beq z 1
  · rw [hz] at h; simp at h
  rw [hz, cond_true] at h
  obtain rfl := Nat.eq_of_beq_eq_true hz
  simp only [Option.some.injEq] at h
  subst h
  obtain ⟨hn, hr, _⟩ := asked hq
  obtain rfl : n = 2 := of_decide_eq_true hn
  refine does_args (al' := [.x (.c (.v (.int .u16 m))), .x (.c (.v (.int .u16 a))), .x (.c (.v (.int .u16 f))), .x (.c (.slc 1 2 (ints .u16 r)))]) ⟨.v _, .v _, .v _, intRow_eq hr, trivial⟩ ?_
  refine QR.does_of_eval (O := QR.orc []) QR.orc_nil mixed (fun n => bif Nat.beq n 4 then some (.rounds 3) else none) Tryz.func111 (by kernel_rfl) (by kernel_rfl) (by simp) ?_
  unfold ints
  rw [kperm_vc]
  try dsimp only
  generalize intC (den r 0 0) = x
  generalize intC (den r 1 0) = y
  have t0 : ilt 0 2 = true := rfl
  have t1 : ilt 1 2 = true := rfl
  have t2 : ilt 2 2 = false := rfl
  unfold kaOk fullB
  by_cases m1 : m = 255
  · subst m1
    by_cases c1 : a ≤ f <;> by_cases c2 : f ≤ 255 <;> by_cases c3 : x ≤ 255 <;> by_cases c4 : y ≤ 255 <;> simp [bcond_iff, okAns, eqXs, eqX, eqo, eqLo, eqL, eqc, veq, eqUs, ine_f, igt_le', c1, c2, c3, c4, t0, t1, t2]
  by_cases m2 : m = 65535
  · subst m2
    by_cases c1 : a ≤ f <;> by_cases c2 : f ≤ 65535 <;> by_cases c3 : x ≤ 65535 <;> by_cases c4 : y ≤ 65535 <;> simp [bcond_iff, okAns, eqXs, eqX, eqo, eqLo, eqL, eqc, veq, eqUs, ine_f, ine_t, igt_le', c1, c2, c3, c4, t0, t1, t2]
  · simp [bcond_iff, okAns, eqXs, eqX, eqo, eqLo, eqL, eqc, veq, eqUs, ine_t m1, ine_t m2, m1, m2]
theorem a_near : Answers2 112 s_near := by
  intro al ans h hq
  unfold s_near at h
  split at h <;> try (simp at h; done)
  rename_i m xh xl q r d z n w
  cases hz : Nat.beq z 2
  · rw [hz] at h; simp at h
  rw [hz, cond_true] at h
  obtain rfl := Nat.eq_of_beq_eq_true hz
  simp only [Option.some.injEq] at h
  subst h
  obtain ⟨hn, hw, hm, hh, hl, hqq, hr, hd, g0, g1, g2, g3, g4, g5, _⟩ := asked hq
  obtain rfl : n = 3 := of_decide_eq_true hn
  refine does_args (al' := [.x (.c (.v (.int .u16 m))), .x (.agg [.v (.int .u64 xh), .v (.int .u64 xl), .v (.int .u64 q), .v (.int .u64 r), .v (.int .u64 d)]), .x (.c (.slc 2 3 (ints .u16 w)))]) ⟨.v _, rfl, intRow_eq hw, trivial⟩ ?_
  refine QR.does_of_eval (O := o_near) (QR.orc_cons a_kplus (QR.orc_cons (up a_rndhalf) (QR.orc_cons (up a_half3) QR.orc_nil))) mixed (fun n => bif Nat.beq n 3 then some (.rounds 4) else none) Tryz.func112 (by kernel_rfl) (by kernel_rfl) (by simp) ?_
  unfold ints
  rw [near_vc]
  delta zz272
  try dsimp only
  obtain ⟨p0, q0, e0⟩ := mulI16 g0 g1
  obtain ⟨p1, q1, e1⟩ := mulI16 g2 g3
  obtain ⟨p2, q2, e2⟩ := mulI16 g4 g5
  rw [(conv64 g0).1, (conv64 g1).1, (conv64 g2).1, (conv64 g3).1, (conv64 g4).1, (conv64 g5).1, (conv64 hm).1, e0, e1, e2]
  generalize intC (den w 0 0) = x0 at *
  generalize intC (den w 0 1) = y0 at *
  generalize intC (den w 1 0) = x1 at *
  generalize intC (den w 1 1) = y1 at *
  generalize intC (den w 2 0) = x2 at *
  generalize intC (den w 2 1) = y2 at *
  have u0 : inU (x0 * y0) = true := inU_iff.2 (by omega)
  have u1 : inU (x1 * y1) = true := inU_iff.2 (by omega)
  have u2 : inU (x2 * y2) = true := inU_iff.2 (by omega)
  have t0 : ilt 0 3 = true := rfl
  have t1 : ilt 1 3 = true := rfl
  have t2 : ilt 2 3 = true := rfl
  have t3 : ilt 3 3 = false := rfl
  obtain ⟨a1, a2, _⟩ := kp_in xh xl (x0 * y0) d
  obtain ⟨b1, b2, _⟩ := kp_in (kpH xh xl (x0 * y0) d) (kpL xh xl (x0 * y0) d) (x1 * y1) d
  obtain ⟨c1, c2, _⟩ := kp_in (kpH (kpH xh xl (x0 * y0) d) (kpL xh xl (x0 * y0) d) (x1 * y1) d) (kpL (kpH xh xl (x0 * y0) d) (kpL xh xl (x0 * y0) d) (x1 * y1) d) (x2 * y2) d
  have eq : x0 * y0 * d + (x1 * y1 * d + x2 * y2 * d) = sp3 x0 y0 x1 y1 x2 y2 * d := by unfold sp3; rw [Int.add_mul, Int.add_mul, Int.add_assoc]
  have z : kpZ (kpH (kpH xh xl (x0 * y0) d) (kpL xh xl (x0 * y0) d) (x1 * y1) d) (kpL (kpH xh xl (x0 * y0) d) (kpL xh xl (x0 * y0) d) (x1 * y1) d) (x2 * y2 * d) = kpZ xh xl (sp3 x0 y0 x1 y1 x2 y2 * d) := by
    rw [kp_step, kp_step, eq]
  have zh : kpH (kpH (kpH xh xl (x0 * y0) d) (kpL xh xl (x0 * y0) d) (x1 * y1) d) (kpL (kpH xh xl (x0 * y0) d) (kpL xh xl (x0 * y0) d) (x1 * y1) d) (x2 * y2) d = nrH xh xl d (sp3 x0 y0 x1 y1 x2 y2) := congrArg hi64 z
  have zl : kpL (kpH (kpH xh xl (x0 * y0) d) (kpL xh xl (x0 * y0) d) (x1 * y1) d) (kpL (kpH xh xl (x0 * y0) d) (kpL xh xl (x0 * y0) d) (x1 * y1) d) (x2 * y2) d = nrL xh xl d (sp3 x0 y0 x1 y1 x2 y2) := congrArg lo64 z
  rw [zh] at c1
  rw [zl] at c2
  have id : inU (imul .u64 m d) = true := by rw [imulU, inU_iff]; omega
  simp only [forall_eq, bcond_iff, t0, t1, t2, t3, u0, u1, u2, a1, a2, b1, b2, c1, c2, zh, zl, hh, hl, hqq, hr, hd, id, true_and, and_true, true_implies, reduceCtorEq, Bool.false_eq_true, false_implies, Bool.true_eq_false]
  generalize nrH xh xl d (sp3 x0 y0 x1 y1 x2 y2) = vh at *
  generalize nrL xh xl d (sp3 x0 y0 x1 y1 x2 y2) = vl at *
  rw [show nearV m q r d vh vl = bif band (ieq q 0) (ieq vh 0) then iconv .u16 (hlf vl (imul .u64 m d)) else iconv .u16 (hvV vh vl q r (imul .u64 m d)) from rfl]
  generalize ieq q 0 = bq
  generalize ieq vh 0 = bh
  cases bq <;> cases bh <;> simp [okAns, eqXs, eqX, eqo, eqLo, eqL, eqc, veq, eqUs, band]
theorem row2 (a b : Int) : intRow .u16 1 2 (.upd (.upd (.zer [.int .u16 0]) 0 0 (.v (.int .u16 a))) 1 0 (.v (.int .u16 b))) := by
  intro i j hi hj
  obtain rfl : j = 0 := by omega
  have h : i = 0 ∨ i = 1 := by omega
  rcases h with rfl | rfl <;> rfl
theorem row3 (a b c d e f : Int) : intRow .u16 2 3 (.upd (.upd (.upd (.upd (.upd (.upd (.zer [.int .u16 0, .int .u16 0]) 0 0 (.v (.int .u16 a))) 0 1 (.v (.int .u16 b))) 1 0 (.v (.int .u16 c))) 1 1 (.v (.int .u16 d))) 2 0 (.v (.int .u16 e))) 2 1 (.v (.int .u16 f))) := by
  intro i j hi hj
  have h : i = 0 ∨ i = 1 ∨ i = 2 := by omega
  have k : j = 0 ∨ j = 1 := by omega
  rcases h with rfl | rfl | rfl <;> rcases k with rfl | rfl <;> rfl
theorem kn_split (k m s a f c d b : Int) : knOk k m s a f c d b = (blOk k s a d b && kaOk m a f c b) := by
  rw [Bool.eq_iff_iff, Bool.and_eq_true, kn_iff, ka_iff]
  unfold blOk
  rw [decide_eq_true_eq]
  omega
theorem a_kcol : Answers2 92 s_kcol := by
  intro al ans h hq
  unfold s_kcol at h
  split at h <;> try (simp at h; done)
  rename_i k m s a f c d b
  simp only [Option.some.injEq] at h
  subst h
  have hq := asked hq
  refine QR.does_of_eval (O := o_kcol) (QR.orc_cons a_exact6 (QR.orc_cons a_kperm (QR.orc_cons a_near QR.orc_nil))) mixed (QR.noLoops) Tryz.func92 (by kernel_rfl) (by kernel_rfl) (by simp) ?_
  rw [kcol_vc]
  obtain ⟨hm, hs, ha, hf, hc, hd, hb, _⟩ := hq
  cases okb : blOk k s a d b
  · have ok : knOk k m s a f c d b = false := by rw [kn_split, okb]; rfl
    have z := kn_no ok
    simp [bcond_iff, bnot, okAns, eqXs, eqX, eqo, eqLo, eqL, eqc, veq, eqUs, okb, ok, z, hs, ha, hd, hb]
  cases oka : kaOk m a f c b
  · have ok : knOk k m s a f c d b = false := by rw [kn_split, okb, oka]; rfl
    have z := kn_no ok
    simp [bcond_iff, bnot, okAns, eqXs, eqX, eqo, eqLo, eqL, eqc, veq, eqUs, okb, oka, ok, z, hs, ha, hd, hb, isel_t, isel_f, row2]
  have ok : knOk k m s a f c d b = true := by rw [kn_split, okb, oka]; rfl
  obtain ⟨⟨hk, h1, h2, h3, h4, h5, h6⟩, hmm⟩ := kn_iff.1 ok
  obtain ⟨⟨x1, x2, x3⟩, ⟨y1, y2, y3⟩, ⟨z1, z2, z3⟩, e, ix, ed, l0, i1, i2, i3, i4, i5, eP, P0, P1, _⟩ := kn_ways ok hm hs ha hf hc hd hb
  have j1 := (sub16 hm hf h3).2.1
  have j2 := (sub16 hf ha h2).2.1
  have j3 := (sub16 hm hb h5).2.1
  have X : sp3 (m - f) c (f - a) d (m - b) s = knX m s a f c d b := rfl
  have Z : kpZ 0 (blP k s a d b) (knX m s a f c d b * blD k s a d b) = knP k m s a f c d b := by
    rw [kp_small (by rw [w2_zero, eP]; exact P0) (by rw [w2_zero, eP]; exact P1), w2_zero, eP]
  have H : nrH 0 (blP k s a d b) (blD k s a d b) (knX m s a f c d b) = knH k m s a f c d b := congrArg hi64 Z
  have L : nrL 0 (blP k s a d b) (blD k s a d b) (knX m s a f c d b) = knL k m s a f c d b := congrArg lo64 Z
  have v : nearV m (blQ k s a d b) (blR k s a d b) (blD k s a d b) (knH k m s a f c d b) (knL k m s a f c d b) = kcV k m s a f c d b := by
    have hs0 := in16_iff.1 hs
    have hc0 := in16_iff.1 hc
    have hd0 := in16_iff.1 hd
    obtain ⟨_, D0, _, _, v, v0, v1, _⟩ := kc_eq ok hs0.1 hc0.1 hd0.1
    unfold nearV
    rw [ed]
    cases c1 : (blQ k s a d b == 0 && knH k m s a f c d b == 0)
    · unfold kcV; rw [ok]; rfl
    · rw [Bool.and_eq_true, beq_iff_eq, beq_iff_eq] at c1
      have w := (hilo_range (knP k m s a f c d b) P0 P1).2.2
      have w' : w2 (knH k m s a f c d b) (knL k m s a f c d b) = knP k m s a f c d b := w
      rw [c1.2, w2_zero] at w'
      have q0 : blQ k s a d b * blQ k s a d b * blR k s a d b = 0 := by rw [c1.1]; simp
      rw [cond_true, w', v, hv_flat' q0 D0, hlf_div P0 D0]
      rw [v, hv_flat' q0 D0] at v0 v1
      exact u16_id v0 (by omega)
  simp [bcond_iff, bnot, okAns, eqXs, eqX, eqo, eqLo, eqL, eqc, veq, eqUs, okb, oka, ok, hm, hs, ha, hd, hb, hc, hf, isel_t, isel_f, row2, row3, x1, y1, z1, j1, j2, j3, X, H, L, v, i1, i2, i3, i4, i5, inU_zero]
theorem a_kal : Answers2 90 s_kalpha := by
  intro al ans h hq
  unfold s_kalpha at h
  split at h <;> try (simp at h; done)
  rename_i m a f acc b
  simp only [Option.some.injEq] at h
  subst h
  have hq := asked hq
  refine QR.does_of_eval (O := o_kal) (QR.orc_cons a_kperm (QR.orc_cons a_near QR.orc_nil)) mixed (QR.noLoops) Tryz.func90 (by kernel_rfl) (by kernel_rfl) (by simp) ?_
  rw [kal_vc]
  obtain ⟨hm, ha, hf, hc, hb, _⟩ := hq
  cases ok : kaOk m a f acc b
  · have z := ka_no ok
    simp [bcond_iff, bnot, okAns, eqXs, eqX, eqo, eqLo, eqL, eqc, veq, eqUs, ok, z, isel_t, isel_f, row2]
  obtain ⟨⟨h1, h2, h3, h4⟩, hmm⟩ := ka_iff.1 ok
  obtain ⟨⟨x1, x2, x3⟩, ⟨y1, y2, y3⟩, e, ix, v⟩ := ka_ways ok hm ha hf hc hb
  have X : sp3 (m - f) acc (f - a) b m a = knN m a f acc b := rfl
  have ix' := inU_iff.1 ix
  have Z : kpZ 0 0 (knN m a f acc b * 1) = knN m a f acc b := by
    rw [Int.mul_one, kp_small (by rw [w2_zero]; omega) (by rw [w2_zero]; omega), w2_zero]; omega
  have H : nrH 0 0 1 (knN m a f acc b) = 0 := by
    have : nrH 0 0 1 (knN m a f acc b) = hi64 (knN m a f acc b) := congrArg hi64 Z
    rw [this]; unfold hi64; omega
  have L : nrL 0 0 1 (knN m a f acc b) = knN m a f acc b := by
    have : nrL 0 0 1 (knN m a f acc b) = lo64 (knN m a f acc b) := congrArg lo64 Z
    rw [this]; unfold lo64; omega
  have hm' := in16_iff.1 hm
  have v' : nearV m 0 0 1 0 (knN m a f acc b) = kaV m a f acc b := by
    unfold nearV
    rw [mulIn (x := m) (y := 1) (by omega) (by omega), Int.mul_one, v]
    rfl
  have i1 : inU 1 = true := rfl
  have j1 := (sub16 hm hf h2).2.1
  have j2 := (sub16 hf ha h1).2.1
  simp [j1, j2, bcond_iff, bnot, okAns, eqXs, eqX, eqo, eqLo, eqL, eqc, veq, eqUs, ok, hm, ha, hb, hc, hf, isel_t, isel_f, row2, row3, x1, y1, x2, y2, X, H, L, v', inU_zero, i1]
theorem a_kown : Answers2 91 s_kown := by
  intro al ans h hq
  unfold s_kown at h
  split at h <;> try (simp at h; done)
  rename_i m a f own
  simp only [Option.some.injEq] at h
  subst h
  have hq := asked hq
  refine QR.does_of_eval (O := o_kown) (QR.orc_cons a_kal QR.orc_nil) mixed (QR.noLoops) Tryz.func91 (by kernel_rfl) (by kernel_rfl) (by simp) ?_
  rw [kown_vc]
  obtain ⟨hm, ha, hf, hc, _⟩ := hq
  have i0 : in16 0 = true := rfl
  simp [okAns, eqXs, eqX, eqo, eqLo, eqL, eqc, veq, eqUs, hm, ha, hf, hc, i0]
end Go.Proofs.YtpjhdjakpbabhaaGreatDoor
