import Derived.Test.YtpjhdjakpbabhaaDoorZaa
import Derived.Test.YtpjhdjakpbabhaaDoorZ0
import Derived.Test.YtpjhdjakpbabhaaDoorXb
import Derived.Test.YtpjhdjakpbabhaaDoorLc
namespace Go.Proofs.YtpjhdjakpbabhaaDoor
open Go.RowKit PR QR
set_option linter.unusedVariables false
set_option linter.unusedSimpArgs false
set_option maxRecDepth 20000
theorem sc_go' {n i : Int} (hb : n ≤ 9223372036854775807) (h : scGood n i) (lt : i < n) : iadd .i64 i 1 = i + 1 ∧ scGood n (i + 1) ∧ (scMu n (i + 1)).succ.le (scMu n i) := by
  have h0 := h.1
  refine ⟨IntWalk.i64_in _ (by omega), ⟨by omega, by omega⟩, ?_⟩
  show (n - (i + 1)).toNat + 1 ≤ (n - i).toNat
  omega
theorem pxT_b (q : Int → Nat → Int) (i : Int) : pxT q i = band (band (ieq (q i 0) 0) (band (ieq (q i 1) 0) (band (ieq (q i 2) 0) true))) (band (ieq (q i 3) 0) (band (ieq (q i 4) 0) true)) := by
  rw [Bool.eq_iff_iff]; unfold pxT tpB band ieq; simp only [Bool.and_eq_true, decide_eq_true_eq, beq_iff_eq, and_true]; exact ⟨fun ⟨a, b, c, d, e⟩ => ⟨⟨a, b, c⟩, d, e⟩, fun ⟨⟨a, b, c⟩, d, e⟩ => ⟨a, b, c, d, e⟩⟩
theorem pxE_b (q : Int → Nat → Int) (i : Int) : pxE q i = band (band (ieq (q i 0) (q 0 0)) (band (ieq (q i 1) (q 0 1)) (band (ieq (q i 2) (q 0 2)) true))) (band (ieq (q i 3) (q 0 3)) (band (ieq (q i 4) (q 0 4)) true)) := by
  rw [Bool.eq_iff_iff]; unfold pxE band ieq; simp only [Bool.and_eq_true, decide_eq_true_eq, beq_iff_eq, and_true]; exact ⟨fun ⟨a, b, c, d, e⟩ => ⟨⟨a, b, c⟩, d, e⟩, fun ⟨⟨a, b, c⟩, d, e⟩ => ⟨a, b, c, d, e⟩⟩
theorem pxO_b (t : Int) (q : Int → Nat → Int) (i : Int) : pxO t q i = ((fullB t && pvB (q i 0) (q i 1) (q i 2) (q i 3) (q i 4) t) && ieq (q i 3) t) := rfl
theorem a_rcls : Answers2 10 s_scls := by
  intro al ans hh hq
  unfold s_scls at hh
  split at hh <;> try (simp at hh; done)
  rename_i c t
  cases en : slcOf 5 c with
  | none => simp [en] at hh
  | some pn =>
  obtain ⟨n, rn⟩ := pn
  simp only [en] at hh
  simp only [Option.some.injEq] at hh
  subst hh
  simp only [qOf_eq, qO1_eq] at hq ⊢
  obtain ⟨q, hdn⟩ : ∃ q : Int → Nat → Int, q = fun i j => intC (den rn i j) := ⟨_, rfl⟩
  try rw [← hdn]
  refine does_args2 (al' := [.x (.c (.slc 5 n (.fn fun i j => .v (.int .u16 (q i j))))), .x (.c (.v (.int .u16 t)))]) ⟨(hdn ▸ slcOf_ints en (by decide) (hq _ (by simp))), .v _, trivial⟩ ?_
  have hq := asked hq
  refine QR.does_of_eval (O := o_rcls) (QR.orc_cons a_full8 (QR.orc_cons a_rpvalid2 QR.orc_nil)) mixed ((fun n_ => bif Nat.beq n_ 3 then some (.inv (o_inv_rcls n t q)) else none)) Tryd.func10 (by kernel_rfl) (by kernel_rfl) (by simp) ?_
  rw [rcls_vc]
  delta zz16 zz80 zz265 zz269 zz280 zz283 zz284 zz285
  obtain ⟨_, hn, hb, _⟩ := hq
  have hn := ile_tt hn
  have hb := ile_tt hb
  simp only [okAns, eqXs, eqX, eqo, eqLo, eqL, eqc, veq, eqUs, bcond_iff, bnot, nilC, true_and, and_true, and_self, implies_true, true_implies, reduceCtorEq, false_implies, Bool.not_true, Bool.not_false, forall_eq, or_false, false_or, and_false, false_and, exists_false, exists_eq_right, exists_eq_right']
  refine ⟨⟨0, ⟨Int.le_refl 0, hn⟩, (allR_zero _).symm, (allR_zero _).symm, (allR_zero _).symm, rfl⟩, fun i hi => ⟨fun c => ?_, fun c => ?_⟩⟩
  · have lt := ilt_tt c
    obtain ⟨ia, g, mu⟩ := sc_go' hb hi lt
    have l0 : ile 0 i = true := ile_t hi.1
    have n0 : ilt 0 n = true := ilt_t (by have := hi.1; omega)
    have eT := allR_succ hi.1 (pxT q)
    have eE := allR_succ hi.1 (pxE q)
    have eO := allR_succ hi.1 (pxO t q)
    rw [pxT_b] at eT
    rw [pxE_b] at eE
    rw [pxO_b] at eO
    have key : ∀ x y z : Bool, x = allR (i + 1) (pxT q) → y = allR (i + 1) (pxE q) → z = allR (i + 1) (pxO t q) → ∃ j, scGood n j ∧ (x = allR j (pxT q) ∧ y = allR j (pxE q) ∧ z = allR j (pxO t q) ∧ iadd .i64 i 1 = j) ∧ (scMu n j).succ.le (scMu n i) := fun x y z h1 h2 h3 => ⟨i + 1, g, ⟨h1, h2, h3, ia⟩, mu⟩
    clear hn hb hi lt g mu ia hdn en
    repeat' first | apply And.intro | intro _
    all_goals first
      | exact l0
      | exact c
      | exact n0
      | (apply key <;> simp [eT, eE, eO, *])
  · have := ilt_ff c
    obtain rfl : i = n := by have := hi.1; have := hi.2; omega
    unfold clsV
    cases h1 : allR i (pxT q) <;> cases h2 : allR i (pxE q) <;> cases h3 : allR i (pxO t q) <;> simp
end Go.Proofs.YtpjhdjakpbabhaaDoor
