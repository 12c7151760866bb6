import Derived.Test.YtcckcifmhhaepaaMb
namespace Go.Proofs.Ytcckcifmhhaepaa
open Go.RowKit PR QR
set_option linter.unusedVariables false
set_option linter.unusedSimpArgs false
set_option maxRecDepth 20000
theorem re_split (a b c d : Int) : reB a b c d = (bnot (rvB a b c d) || ige a c || ige b d) := by
  rw [Bool.eq_iff_iff]
  unfold reB rvB bnot ige
  simp only [Bool.or_eq_true, Bool.not_eq_true', decide_eq_true_eq, decide_eq_false_iff_not]
  omega
theorem a_rnear : Answers2 93 s_rnear := by
  intro al ans h hq
  unfold s_rnear at h
  split at h <;> try (simp at h; done)
  rename_i a
  simp only [Option.some.injEq] at h
  subst h
  have hq := asked hq
  refine QR.does_of_eval (O := (QR.orc [])) QR.orc_nil mixed (QR.noLoops) Try.func93 (by kernel_rfl) (by kernel_rfl) (by simp) ?_
  rw [rnear_vc]
  unfold nearB
  simp only [bcond_iff, okAns, eqXs, eqX, eqo, eqLo, eqc, veq, eqUs, ile, decide_eq_true_eq, decide_eq_false_iff_not, true_and, and_true, forall_eq]
  repeat' (first | intro _ | constructor)
  all_goals first | (exact (decide_eq_false (by omega)).symm) | (exact (decide_eq_true (by omega)).symm) | (rw [eq_comm, Bool.eq_iff_iff, decide_eq_true_eq, decide_eq_true_eq]; omega)
theorem rv_near (a b c d : Int) : rvB a b c d = (nearB a && (nearB b && (nearB c && nearB d))) := by
  rw [Bool.eq_iff_iff]
  unfold rvB nearB
  simp only [Bool.and_eq_true, decide_eq_true_eq]
theorem a_rrvalid : Answers2 82 s_rvalid := by
  intro al ans h hq
  unfold s_rvalid at h
  split at h <;> try (simp at h; done)
  rename_i a b c d
  simp only [Option.some.injEq] at h
  subst h
  have hq := asked hq
  refine QR.does_of_eval (O := o_rvld) (QR.orc_cons a_rnear QR.orc_nil) mixed (QR.noLoops) Try.func82 (by kernel_rfl) (by kernel_rfl) (by simp) ?_
  rw [rectval_vc]
  have e := rv_near a b c d
  cases h1 : nearB a <;> cases h2 : nearB b <;> cases h3 : nearB c <;> simp [bcond_iff, okAns, eqXs, eqX, eqo, eqLo, eqc, veq, eqUs, h1, h2, h3, e]
theorem a_rempty : Answers2 65 s_rempty := by
  intro al ans h hq
  unfold s_rempty at h
  split at h <;> try (simp at h; done)
  rename_i a b c d
  simp only [Option.some.injEq] at h
  subst h
  have hq := asked hq
  refine QR.does_of_eval (O := o_remp) (QR.orc_cons a_rrvalid QR.orc_nil) mixed (QR.noLoops) Try.func65 (by kernel_rfl) (by kernel_rfl) (by simp) ?_
  rw [rempty_vc]
  have e := re_split a b c d
  cases h1 : bnot (rvB a b c d) <;> cases h2 : ige a c <;> simp [bcond_iff, okAns, eqXs, eqX, eqo, eqLo, eqc, veq, eqUs, h1, h2, e]
theorem area_in {a b c d : Int} (h : reB a b c d = false) : imul .i64 (isub .i64 c a) (isub .i64 d b) = (c - a) * (d - b) := by
  have h := re_f.1 h
  unfold F30 at h
  have e1 : isub .i64 c a = c - a := by unfold isub; exact IntWalk.i64_in _ (by omega)
  have e2 : isub .i64 d b = d - b := by unfold isub; exact IntWalk.i64_in _ (by omega)
  rw [e1, e2]
  have p1 := Int.mul_nonneg (show 0 ≤ c - a by omega) (show 0 ≤ d - b by omega)
  have p2 := Int.mul_le_mul (show c - a ≤ 2147483648 by omega) (show d - b ≤ 2147483648 by omega) (by omega) (by decide)
  unfold imul
  exact IntWalk.i64_in _ (by omega)
theorem a_rarea : Answers2 67 s_rarea := by
  intro al ans h hq
  unfold s_rarea at h
  split at h <;> try (simp at h; done)
  rename_i a b c d
  simp only [Option.some.injEq] at h
  subst h
  have hq := asked hq
  refine QR.does_of_eval (O := o_re) (QR.orc_cons a_rempty QR.orc_nil) mixed (QR.noLoops) Try.func67 (by kernel_rfl) (by kernel_rfl) (by simp) ?_
  rw [rarea_vc]
  have e : raV a b c d = if reB a b c d = true then 0 else (c - a) * (d - b) := rfl
  cases h : reB a b c d
  · simp [bcond_iff, okAns, eqXs, eqX, eqo, eqLo, eqc, veq, eqUs, e, h, area_in h]
  · simp [bcond_iff, okAns, eqXs, eqX, eqo, eqLo, eqc, veq, eqUs, e, h]
theorem a_rcont : Answers2 55 s_rcont := by
  intro al ans h hq
  unfold s_rcont at h
  split at h <;> try (simp at h; done)
  rename_i a b c d x y
  simp only [Option.some.injEq] at h
  subst h
  have hq := asked hq
  refine QR.does_of_eval (O := o_re) (QR.orc_cons a_rempty QR.orc_nil) mixed (QR.noLoops) Try.func55 (by kernel_rfl) (by kernel_rfl) (by simp) ?_
  rw [rcont_vc]
  unfold rcB
  simp only [bcond_iff, bnot, okAns, eqXs, eqX, eqo, eqLo, eqc, veq, eqUs, ilt, igt, ile, ige, decide_eq_true_eq, decide_eq_false_iff_not, true_and, and_true, forall_eq, Bool.not_eq_true', Bool.not_eq_false']
  cases h : reB a b c d
  all_goals repeat' (first | intro _ | constructor)
  all_goals first | (exact (decide_eq_false (fun h => by omega)).symm) | (exact (decide_eq_true (by omega)).symm) | (rw [eq_comm, Bool.eq_iff_iff, decide_eq_true_eq, decide_eq_true_eq]; omega) | (simp_all; done)
theorem imx (a b : Int) : iimax a b = if a ≤ b then b else a := by unfold iimax; split <;> split <;> omega
theorem imn (a b : Int) : iimin a b = if a ≤ b then a else b := by unfold iimin; split <;> split <;> omega
theorem imn_comm (a b : Int) : iimin a b = iimin b a := by unfold iimin; split <;> split <;> omega
theorem imx_comm (a b : Int) : iimax a b = iimax b a := by unfold iimax; split <;> split <;> omega
theorem cov_t {a b c d e f g h : Int} (k : reB e f g h = true) : rcovB a b c d e f g h = true := decide_eq_true (Or.inl k)
theorem cov_iff {a b c d e f g h : Int} (k : reB e f g h = false) : rcovB a b c d e f g h = (bnot (reB a b c d) && (ile a e && (ile g c && (ile b f && ile h d)))) := by
  have q := re_f.1 k
  rw [Bool.eq_iff_iff]
  unfold rcovB bnot ile
  simp only [Bool.and_eq_true, decide_eq_true_eq, Bool.not_eq_true', k]
  constructor
  · intro w
    have w : r4I ⟨a, b, c, d⟩ ⟨e, f, g, h⟩ = ⟨e, f, g, h⟩ := by simpa using w
    have ne : r4E (r4I ⟨a, b, c, d⟩ ⟨e, f, g, h⟩) = false := by rw [w]; exact k
    obtain ⟨q1, q2, q3, q4⟩ := r4I_sub ne
    rw [w] at q3 q4
    simp only at q1 q3 q4
    exact ⟨re_f.2 ⟨q1, by omega, by omega⟩, by omega, by omega, by omega, by omega⟩
  · rintro ⟨w1, w2, w3, w4, w5⟩
    have := r4V_in (h := ⟨a, b, c, d⟩) (x := ⟨e, f, g, h⟩) w1 k w2 w4 w3 w5
    unfold r4V at this
    rw [decide_eq_true_eq] at this
    rcases this with this | this
    · (simp [r4E, k] at this)
    · exact Or.inr this
theorem a_rcov : Answers2 66 s_rcov := by
  intro al ans h hq
  unfold s_rcov at h
  split at h <;> try (simp at h; done)
  rename_i a b c d e f g h
  simp only [Option.some.injEq] at h
  subst h
  have hq := asked hq
  refine QR.does_of_eval (O := o_re) (QR.orc_cons a_rempty QR.orc_nil) mixed (QR.noLoops) Try.func66 (by kernel_rfl) (by kernel_rfl) (by simp) ?_
  rw [rcov_vc]
  cases k : reB e f g h
  · rw [cov_iff k]
    cases h1 : bnot (reB a b c d) <;> cases h2 : ile a e <;> cases h3 : ile g c <;> cases h4 : ile b f <;> simp [bcond_iff, okAns, eqXs, eqX, eqo, eqLo, eqc, veq, eqUs, h1, h2, h3, h4]
  · simp [bcond_iff, okAns, eqXs, eqX, eqo, eqLo, eqc, veq, eqUs, k, cov_t k]
theorem hu_ints (k : IntKind) (r : QR.Row) : ∀ i, huN (ints k r) i = huN r i
  | 0 => rfl
  | i + 1 => by unfold huN; rw [hu_ints k r i]; rfl
theorem huR_ints (j : Nat) (n : Int) (k : IntKind) (r : QR.Row) : huR j n (ints k r) = huR j n r := by unfold huR; rw [hu_ints]
theorem huR_zero (j : Nat) (r : QR.Row) : huR j 0 r = 0 := by unfold huR huN r4z r4G; simp only [Int.toNat_zero]; split <;> rfl
theorem run_rhull {n : Int} (hn : ile 0 n = true) (hB : ile n 1099511627776 = true) (l : Int → Nat → Int) (A : List Prop) : DoesX Try.prog 58 [.x (.c (.slc 4 n (.fn fun i j => .v (.int .i64 (l i j)))))] ⟨[.agg [.v (.int .i64 (huR 0 n (.fn fun i j => .v (.int .i64 (l i j))))), .v (.int .i64 (huR 1 n (.fn fun i j => .v (.int .i64 (l i j))))), .v (.int .i64 (huR 2 n (.fn fun i j => .v (.int .i64 (l i j))))), .v (.int .i64 (huR 3 n (.fn fun i j => .v (.int .i64 (l i j)))))]], [], A⟩ := by
  have hn := ile_tt hn
  have hB := ile_tt hB
  refine QR.does_of_eval (O := o_re) (QR.orc_cons a_rempty QR.orc_nil) mixed (fun k => bif Nat.beq k 3 then some (.inv (o_inv_hull n l)) else none) Try.func58 (by kernel_rfl) (by kernel_rfl) (by simp) ?_
  rw [rhull_vc]
  simp only [forall_eq, true_and]
  refine ⟨⟨(0, 0, 0, 0, 0), ⟨⟨Int.le_refl 0, hn⟩, rfl⟩, by simp⟩, fun i hi => ?_⟩
  obtain ⟨i, a, b, c, d⟩ := i
  obtain ⟨⟨i0, i1⟩, e⟩ := hi
  simp only at i0 i1 e
  have le : ile 0 i = true := ile_t i0
  have ti : ((i.toNat : Nat) : Int) = i := Int.toNat_of_nonneg i0
  simp only [forall_eq]
  rw [bcond_iff]
  refine ⟨fun c1 => ?_, fun c1 => ?_⟩
  · have lt := of_decide_eq_true c1
    have ia : iadd .i64 i 1 = i + 1 := by unfold iadd; exact IntWalk.i64_in _ (by omega)
    have mu : Nat.le (Nat.succ (huMu n (i + 1))) (huMu n i) := by show huMu n (i + 1) < huMu n i; unfold huMu; omega
    have nx : huN (.fn fun i j => .v (.int .i64 (l i j))) (i + 1).toNat = r4H ⟨a, b, c, d⟩ ⟨l i 0, l i 1, l i 2, l i 3⟩ := by
      rw [show (i + 1).toNat = i.toNat + 1 by omega]
      show r4H (huN _ i.toNat) _ = _
      rw [← e]
      show r4H _ ⟨l i.toNat 0, l i.toNat 1, l i.toNat 2, l i.toNat 3⟩ = _
      rw [ti]
    simp only [bcond_iff, le, c1, ia, true_and, and_true, implies_true]
    cases h1 : reB (l i 0) (l i 1) (l i 2) (l i 3)
    · cases h2 : reB a b c d
      · have hs : r4H ⟨a, b, c, d⟩ ⟨l i 0, l i 1, l i 2, l i 3⟩ = ⟨iimin (l i 0) a, iimin (l i 1) b, iimax (l i 2) c, iimax (l i 3) d⟩ := by
          unfold r4H
          rw [show r4E ⟨l i 0, l i 1, l i 2, l i 3⟩ = false from h1, show r4E ⟨a, b, c, d⟩ = false from h2]
          simp only [Bool.false_eq_true, if_false, imn, imx]
        simp only [Bool.false_eq_true, false_implies, true_implies, true_and, and_true, forall_eq, reduceCtorEq]
        exact ⟨(i + 1, _, _, _, _), ⟨⟨by simp only; omega, by simp only; omega⟩, by rw [nx, hs]⟩, by simp <;> exact ⟨imn_comm _ _, imn_comm _ _, imx_comm _ _, imx_comm _ _⟩, mu⟩
      · have hs : r4H ⟨a, b, c, d⟩ ⟨l i 0, l i 1, l i 2, l i 3⟩ = ⟨l i 0, l i 1, l i 2, l i 3⟩ := by
          unfold r4H
          rw [show r4E ⟨l i 0, l i 1, l i 2, l i 3⟩ = false from h1, show r4E ⟨a, b, c, d⟩ = true from h2]
          simp
        simp only [Bool.false_eq_true, false_implies, true_implies, true_and, and_true, forall_eq, reduceCtorEq]
        exact ⟨(i + 1, _, _, _, _), ⟨⟨by simp only; omega, by simp only; omega⟩, by rw [nx, hs]⟩, by simp, mu⟩
    · have hs : r4H ⟨a, b, c, d⟩ ⟨l i 0, l i 1, l i 2, l i 3⟩ = ⟨a, b, c, d⟩ := by
        unfold r4H
        rw [show r4E ⟨l i 0, l i 1, l i 2, l i 3⟩ = true from h1]
        simp
      simp only [Bool.true_eq_false, false_implies, true_implies, true_and, and_true, forall_eq, reduceCtorEq]
      exact ⟨(i + 1, _, _, _, _), ⟨⟨by simp only; omega, by simp only; omega⟩, by rw [nx, hs]⟩, by simp, mu⟩
  · have := of_decide_eq_false c1
    obtain rfl : i = n := by omega
    have f : ∀ j, huR j i (.fn fun i j => .v (.int .i64 (l i j))) = r4G j ⟨a, b, c, d⟩ := fun j => by unfold huR; rw [← e]
    simp [okAns, eqXs, eqX, eqo, eqLo, eqL, eqc, veq, eqUs, f, r4G]
theorem a_rhull : Answers2 58 s_rhull := by
  intro al ans h hq
  unfold s_rhull at h
  split at h <;> try (simp at h; done)
  · rename_i z n r
    cases hz : Nat.beq z 4
    · rw [hz] at h; simp at h
    rw [hz, cond_true] at h
    obtain rfl := Nat.eq_of_beq_eq_true hz
    simp only [Option.some.injEq] at h
    subst h
    obtain ⟨hr, hn, hB, _⟩ := asked hq
    have := run_rhull hn hB (fun i j => intC (den r i j)) [intRow .i64 4 n r, ile 0 n = true, ile n 1099511627776 = true]
    refine does_args (al' := [.x (.c (.slc 4 n (ints .i64 r)))]) ⟨intRow_eq hr, trivial⟩ ?_
    have e := fun j => huR_ints j n .i64 r
    unfold ints at e ⊢
    rw [e, e, e, e] at this
    exact this
  · rename_i x y z
    simp only [Option.some.injEq] at h
    subst h
    refine does_args (al' := [.x (.c (.slc 4 0 (.fn fun i j => .v (.int .i64 0))))]) ⟨.nil (by decide) rfl, trivial⟩ ?_
    have := run_rhull (n := 0) rfl rfl (fun i j => 0) []
    rw [huR_zero, huR_zero, huR_zero, huR_zero] at this
    exact this
end Go.Proofs.Ytcckcifmhhaepaa
