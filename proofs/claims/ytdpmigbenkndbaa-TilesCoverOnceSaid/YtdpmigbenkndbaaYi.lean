import Derived.Test.YtdpmigbenkndbaaYe
import Derived.Test.YtdpmigbenkndbaaYh
namespace Go.Proofs.Ytdpmigbenkndbaa
open Go.RowKit PR QR
set_option linter.unusedVariables false
set_option linter.unusedSimpArgs false
set_option maxRecDepth 20000
theorem ar_in {a b c d w h i : Int} (kb : tiB a b c d w h = true) (i0 : 0 ≤ i) (hu : c - a ≤ 12) (hv : d - b ≤ 12) : 0 ≤ arV a b c d w h i ∧ arV a b c d w h i ≤ 288 := by
  obtain ⟨⟨_, g0, g1⟩, ⟨hw, hw'⟩, hh, hh'⟩ := tib_f kb
  obtain ⟨⟨x0, x1⟩, _⟩ := ti_facts kb
  unfold arV
  generalize tiX a b c d w h = X at *
  have q0 := Int.ediv_nonneg i0 (show (0 : Int) ≤ X by omega)
  have r0 := Int.emod_nonneg i (show X ≠ 0 by omega)
  generalize i / X = Q at *
  generalize i % X = R at *
  have n0 := Int.mul_nonneg q0 (show (0 : Int) ≤ h by omega)
  have n1 := Int.mul_nonneg r0 (show (0 : Int) ≤ w by omega)
  have n2 : (Q + 1) * h = Q * h + h := by rw [Int.add_mul, Int.one_mul]
  rw [n2]
  have b0 : 0 ≤ miI (Q * h) (d - b) ∧ miI (Q * h) (d - b) ≤ 12 := by unfold miI; split <;> omega
  have b1 : 0 ≤ miI (Q * h + h) (d - b) - miI (Q * h) (d - b) ∧ miI (Q * h + h) (d - b) - miI (Q * h) (d - b) ≤ 12 := by unfold miI; split <;> split <;> omega
  have b2 : 0 ≤ miI (R * w) (c - a) ∧ miI (R * w) (c - a) ≤ 12 := by unfold miI; split <;> omega
  have p0 := prod_le (m := 12) b0.1 b0.2 (show 0 ≤ c - a by omega) hu
  have p1 := prod_le (m := 12) b1.1 b1.2 b2.1 b2.2
  omega
set_option linter.unusedVariables false in
theorem TilesCoverOnce_core (n0 n1 n2 n3 tw th px py : Int) (w0 : (Lit.int .i64 n0).wf = true) (w1 : (Lit.int .i64 n1).wf = true) (w2 : (Lit.int .i64 n2).wf = true) (w3 : (Lit.int .i64 n3).wf = true) (w4 : (Lit.int .i64 tw).wf = true) (w5 : (Lit.int .i64 th).wf = true) (w6 : (Lit.int .i64 px).wf = true) (w7 : (Lit.int .i64 py).wf = true) (w : World) {F : Nat → Prop} (hG : QR.Laid F w) (hF : ∀ k, F k → k < w.heap.size) :
    Calls Try.prog 5 #[.agg #[.int .i64 n0, .int .i64 n1, .int .i64 n2, .int .i64 n3], .int .i64 tw, .int .i64 th, .int .i64 px, .int .i64 py] w fun e w' => e = .returned (.bool true) ∧ Below w.heap.size w w' := by
  refine law_of_eval (O := o_law17c) (QR.orc_cons a_gpart (QR.orc_cons (up a_mod) (QR.orc_cons a_gpoint (QR.orc_cons a_awake17 (QR.orc_cons a_tcount (QR.orc_cons a_tindex (QR.orc_cons a_ttile (QR.orc_cons a_fcov (QR.orc_cons a_fcont (QR.orc_cons a_farea QR.orc_nil)))))))))) mixed ((fun k => bif Nat.beq k 10 then some (.inv (o_inv_tc n0 n1 n2 n3 tw th px py)) else none)) Try.func5 (by kernel_rfl) (vs := [.agg #[.int .i64 n0, .int .i64 n1, .int .i64 n2, .int .i64 n3], .int .i64 tw, .int .i64 th, .int .i64 px, .int .i64 py]) (xs := [.agg [.v (.int .i64 n0), .v (.int .i64 n1), .v (.int .i64 n2), .v (.int .i64 n3)], .c (.v (.int .i64 tw)), .c (.v (.int .i64 th)), .c (.v (.int .i64 px)), .c (.v (.int .i64 py))]) (args := [.x (.agg [.v (.int .i64 n0), .v (.int .i64 n1), .v (.int .i64 n2), .v (.int .i64 n3)]), .x (.c (.v (.int .i64 tw))), .x (.c (.v (.int .i64 th))), .x (.c (.v (.int .i64 px))), .x (.c (.v (.int .i64 py)))]) rfl rfl (by simp) ?_ w hG hF
  rw [TilesCoverOnce_vc]
  have e0 : reB (-6) (-6) 6 6 = false := by decide
  obtain ⟨e1, ⟨ga, gc⟩, gb, gd⟩ := gp_f e0 n0 n1 n2 n3
  simp only [forall_eq]
  generalize gpV 0 (-6) (-6) 6 6 n0 n1 n2 n3 = A at *
  generalize gpV 1 (-6) (-6) 6 6 n0 n1 n2 n3 = B at *
  generalize gpV 2 (-6) (-6) 6 6 n0 n1 n2 n3 = C at *
  generalize gpV 3 (-6) (-6) 6 6 n0 n1 n2 n3 = D at *
  obtain ⟨⟨f0, f1, f2, f3⟩, g0, g1⟩ := re_f.1 e1
  have s0 : isub .i64 C A = C - A := sub_in (by omega)
  have s1 : isub .i64 D B = D - B := sub_in (by omega)
  have k0 := mod_ok (show 1 ≤ C - A by omega) (by omega)
  have k1 := mod_ok (show 1 ≤ D - B by omega) (by omega)
  have m0 := gm_in (x := tw) (show 1 ≤ C - A by omega)
  have m1 := gm_in (x := th) (show 1 ≤ D - B by omega)
  rw [s0, s1]
  have u0 : iadd .i64 1 (gmod tw (C - A)) = 1 + gmod tw (C - A) := add_in (by omega)
  have u1 : iadd .i64 1 (gmod th (D - B)) = 1 + gmod th (D - B) := add_in (by omega)
  rw [u0, u1]
  have p0 := gm_in (x := px) (show 1 ≤ C - A by omega)
  have p1 := gm_in (x := py) (show 1 ≤ D - B by omega)
  obtain ⟨P, hP, P0, P1⟩ : ∃ P, ptV A C px = P ∧ A ≤ P ∧ P < C := ⟨_, rfl, by unfold ptV; omega, by unfold ptV; omega⟩
  obtain ⟨Q, hQ, Q0, Q1⟩ : ∃ Q, ptV B D py = Q ∧ B ≤ Q ∧ Q < D := ⟨_, rfl, by unfold ptV; omega, by unfold ptV; omega⟩
  rw [hP, hQ]
  obtain ⟨U, hU, U0, U1⟩ : ∃ U, 1 + gmod tw (C - A) = U ∧ 1 ≤ U ∧ U ≤ C - A := ⟨_, rfl, by omega, by omega⟩
  obtain ⟨W, hW, W0, W1⟩ : ∃ W, 1 + gmod th (D - B) = W ∧ 1 ≤ W ∧ W ≤ D - B := ⟨_, rfl, by omega, by omega⟩
  rw [hU, hW]
  have kb : tiB A B C D U W = true := by unfold tiB; rw [decide_eq_true_eq]; exact ⟨e1, ⟨U0, U1⟩, W0, W1⟩
  have kr : rcB A B C D P Q = true := by unfold rcB; rw [decide_eq_true_eq]; exact ⟨e1, P0, P1, Q0, Q1⟩
  have kx : txB A B C D U W P Q = true := by unfold txB; rw [decide_eq_true_eq]; exact ⟨kb, kr⟩
  have x1 : 1 ≤ tiX A B C D U W ∧ tiX A B C D U W ≤ 12 := by rw [tiX_t kb]; have := (div_steps U0 U1).1; omega
  have y1 : 1 ≤ tiY A B C D U W ∧ tiY A B C D U W ≤ 12 := by rw [tiY_t kb]; have := (div_steps W0 W1).1; omega
  have pr := prod_le (x := tiX A B C D U W) (y := tiY A B C D U W) (m := 12) (by omega) x1.2 (by omega) y1.2
  have w0 : imul .i64 (tiX A B C D U W) (tiY A B C D U W) = tiX A B C D U W * tiY A B C D U W := mul_in (by omega)
  have l0 := ilt_f x1.1
  have l1 := ilt_f y1.1
  have l2 : igt (tiX A B C D U W * tiY A B C D U W) 144 = false := igt_fF (by omega)
  rw [w0]
  simp only [bcond_iff, bnot, kb, kx, k0, k1, l0, l1, l2, e0, e1, Bool.not_true, Bool.false_eq_true, false_implies, true_implies, true_and, and_true, reduceCtorEq, forall_eq, okAns, eqXs, eqX, eqo, eqc, veq, eqUs]
  refine ⟨⟨(0, 0), ⟨⟨by omega, by omega⟩, (ar_zero kb).symm⟩, ?_⟩, ?_⟩
  · simp
  · rintro ⟨i, ar⟩ ⟨⟨i0, i1⟩, i2⟩
    simp only at i0 i1 i2
    refine ⟨fun lt => ?_, fun ge => ?_⟩
    · have lt := of_decide_eq_true lt
      simp only at lt
      have kt : tlB A B C D U W i = true := by unfold tlB; rw [decide_eq_true_eq]; exact ⟨kb, i0, lt⟩
      obtain ⟨c0, c1⟩ := cov_tile kt
      have c2 := cont_tile kt kx
      have st := ar_step kt
      have a0 := ar_in (i := i) kb i0 (by omega) (by omega)
      have a1 := ar_in (i := i + 1) kb (by omega) (by omega) (by omega)
      have s2 : iadd .i64 ar (raV (tlV 0 A B C D U W i) (tlV 1 A B C D U W i) (tlV 2 A B C D U W i) (tlV 3 A B C D U W i)) = arV A B C D U W (i + 1) := by
        rw [st, i2]; exact add_in (by omega)
      have s3 : iadd .i64 i 1 = i + 1 := add_in (by omega)
      have be : beq' (ieq i (txV A B C D U W P Q)) (ieq i (txV A B C D U W P Q)) = true := by simp [beq']
      simp only [kt, c1, c2, be, s2, s3, Bool.not_true, Bool.false_eq_true, false_implies, true_implies, true_and, and_true, reduceCtorEq]
      exact ⟨(i + 1, arV A B C D U W (i + 1)), ⟨⟨by omega, by omega⟩, rfl⟩, by simp, by show (tiX A B C D U W * tiY A B C D U W - (i + 1)).toNat + 1 ≤ (tiX A B C D U W * tiY A B C D U W - i).toNat; omega⟩
    · have ge := of_decide_eq_false ge
      simp only at ge
      obtain rfl : i = tiX A B C D U W * tiY A B C D U W := by omega
      rw [i2, ar_all kb]
      simp [ieq]
end Go.Proofs.Ytdpmigbenkndbaa
