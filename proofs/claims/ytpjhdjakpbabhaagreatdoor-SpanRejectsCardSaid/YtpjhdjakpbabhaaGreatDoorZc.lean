import Derived.Test.YtpjhdjakpbabhaaGreatDoorZaa
import Derived.Test.YtpjhdjakpbabhaaGreatDoorZb
import Derived.Test.YtpjhdjakpbabhaaGreatDoorRs
import Derived.Test.YtpjhdjakpbabhaaGreatDoorMa
namespace Go.Proofs.YtpjhdjakpbabhaaGreatDoor
open Go.RowKit PR QR
set_option linter.unusedVariables false
set_option linter.unusedSimpArgs false
set_option maxRecDepth 20000
theorem ieq_t2 {a b : Int} (h : ieq a b = true) : a = b := of_decide_eq_true h
theorem ieq_ff {a b : Int} (h : ieq a b = false) : a ≠ b := of_decide_eq_false h
theorem ine_tt {a b : Int} (h : ine a b = true) : a ≠ b := by simpa [ine] using h
theorem ine_ff {a b : Int} (h : ine a b = false) : a = b := by simpa [ine] using h
theorem pxSame_iff {n n' : Int} {q q' : Int → Nat → Int} : pxSame n n' q q' = true ↔ n = n' ∧ ∀ i k : Nat, (i : Int) < n → k < 5 → q i k = q' i k := by
  unfold pxSame
  rw [Bool.and_eq_true, decide_eq_true_eq, List.all_eq_true]
  refine and_congr_right fun _ => ⟨fun h i k hi hk => ?_, fun h i hi => List.all_eq_true.2 fun k hk => ?_⟩
  · exact beq_iff_eq.1 (List.all_eq_true.1 (h i (List.mem_range.2 (by omega))) k (List.mem_range.2 hk))
  · exact beq_iff_eq.2 (h i k (by have := List.mem_range.1 hi; omega) (List.mem_range.1 hk))
theorem px5 {f g : Nat → Int} : band (band (ieq (f 0) (g 0)) (band (ieq (f 1) (g 1)) (band (ieq (f 2) (g 2)) true))) (band (ieq (f 3) (g 3)) (band (ieq (f 4) (g 4)) true)) = true ↔ ∀ k : Nat, k < 5 → f k = g k := by
  have e : band (band (ieq (f 0) (g 0)) (band (ieq (f 1) (g 1)) (band (ieq (f 2) (g 2)) true))) (band (ieq (f 3) (g 3)) (band (ieq (f 4) (g 4)) true)) = true ↔ (f 0 = g 0 ∧ f 1 = g 1 ∧ f 2 = g 2) ∧ f 3 = g 3 ∧ f 4 = g 4 := by simp [band, ieq]
  rw [e]
  refine ⟨fun ⟨⟨a, b, c⟩, d, h⟩ k hk => ?_, fun h => ⟨⟨h 0 (by decide), h 1 (by decide), h 2 (by decide)⟩, h 3 (by decide), h 4 (by decide)⟩⟩
  match k, hk with
  | 0, _ => exact a
  | 1, _ => exact b
  | 2, _ => exact c
  | 3, _ => exact d
  | 4, _ => exact h
theorem a_rsp : Answers2 24 s_pxsame := by
  intro al ans hh hq
  unfold s_pxsame at hh
  split at hh <;> try (simp at hh; done)
  rename_i c d
  cases en : slcOf 5 c with
  | none => simp [en] at hh
  | some pn =>
  obtain ⟨n, rn⟩ := pn
  cases en2 : slcOf 5 d with
  | none => simp [en2] at hh
  | some pn2 =>
  obtain ⟨n2, rn2⟩ := pn2
  simp only [en, en2] at hh
  simp only [Option.some.injEq] at hh
  subst hh
  obtain ⟨q, hdn⟩ : ∃ q : Int → Nat → Int, q = fun i j => intC (den rn i j) := ⟨_, rfl⟩
  try rw [← hdn]
  obtain ⟨r, hdn2⟩ : ∃ r : Int → Nat → Int, r = fun i j => intC (den rn2 i j) := ⟨_, rfl⟩
  try rw [← hdn2]
  refine does_args2 (al' := [.x (.c (.slc 5 n (.fn fun i j => .v (.int .u16 (q i j))))), .x (.c (.slc 5 n2 (.fn fun i j => .v (.int .u16 (r i j)))))]) ⟨(hdn ▸ slcOf_ints en (by decide) (hq _ (by simp))), (hdn2 ▸ slcOf_ints en2 (by decide) (hq _ (by simp))), trivial⟩ ?_
  have hq := asked hq
  refine QR.does_of_eval (O := (QR.orc [])) QR.orc_nil mixed ((fun n_ => bif Nat.beq n_ 4 then some (.inv (o_inv_rsp n n2 q r)) else none)) Tryz.func24 (by kernel_rfl) (by kernel_rfl) (by simp) ?_
  rw [rsp_vc]
  delta zz16 zz80
  obtain ⟨_, _, hn, hn2, hb, _⟩ := hq
  simp only [okAns, eqXs, eqX, eqo, eqLo, eqL, eqc, veq, eqUs, bcond_iff, bnot, nilC, intRow_one, true_and, and_true, and_self, implies_true, true_implies, reduceCtorEq, false_implies, Bool.not_true, Bool.not_false, forall_eq, or_false, false_or, and_false, false_and, exists_false, exists_eq_right, exists_eq_right']
  have hn := ile_tt hn
  have hb := ile_tt hb
  have no : pxSame n n2 q r ≠ true → false = pxSame n n2 q r := fun h => (Bool.eq_false_iff.2 h).symm
  refine ⟨fun c => no fun k => ine_tt c (pxSame_iff.1 k).1, fun c => ?_⟩
  obtain rfl := ine_ff c
  refine ⟨⟨⟨Int.le_refl 0, hn⟩, fun p k hp _ => by omega⟩, fun i hi => ⟨fun c => ?_, fun c => ?_⟩⟩
  · have c' := of_decide_eq_true c
    have hi1 := hi.1
    have ei : ((i.toNat : Nat) : Int) = i := by omega
    refine ⟨⟨ile_t hi1.1, c, ile_t hi1.1, c⟩, fun d => no fun k => ?_, fun d => ?_⟩
    · have := px5.2 (fun k' hk' => (pxSame_iff.1 k).2 i.toNat k' (by omega) hk')
      rw [ei] at this
      rw [this] at d; simp at d
    · have d : band (band (ieq (q i 0) (r i 0)) (band (ieq (q i 1) (r i 1)) (band (ieq (q i 2) (r i 2)) true))) (band (ieq (q i 3) (r i 3)) (band (ieq (q i 4) (r i 4)) true)) = true := by simpa using d
      have d := px5.1 d
      have ia : iadd .i64 i 1 = i + 1 := IntWalk.i64_in _ (by omega)
      refine ⟨i + 1, ⟨by omega, fun p k hp hk => ?_⟩, ia, ?_⟩
      · by_cases e : (p : Int) = i
        · rw [e]; exact d k hk
        · exact hi.2 p k (by omega) hk
      · show rspMu n _ < rspMu n _
        unfold rspMu; omega
  · have c := of_decide_eq_false c
    exact (pxSame_iff.2 ⟨rfl, fun p k hp hk => hi.2 p k (by have := hi.1; omega) hk⟩).symm
end Go.Proofs.YtpjhdjakpbabhaaGreatDoor
