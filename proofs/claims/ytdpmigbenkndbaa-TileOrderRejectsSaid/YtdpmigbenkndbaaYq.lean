import Derived.Test.YtdpmigbenkndbaaYp
namespace Go.Proofs.Ytdpmigbenkndbaa
open Go.RowKit PR QR
set_option linter.unusedVariables false
set_option linter.unusedSimpArgs false
set_option maxRecDepth 20000
theorem at_pm {m i : Int} (l : Int → Nat → Int) (h0 : 0 ≤ i) : atV m (l i 0) i = pmA m l i.toNat := by
  unfold atV pmA
  rw [Int.toNat_of_nonneg h0]
  by_cases c : i < m
  · rw [if_pos ⟨h0, c⟩, if_pos c]
  · rw [if_neg (fun k => c k.2), if_neg c]
theorem pm_rest {m n i : Int} {l : Int → Nat → Int} (h0 : 0 ≤ i) (h1 : i < n) (hn : n ≤ 64) (q : Nat) (hq : ilt (Int.ofNat q) (addZ (subZ (pmKI m l n i) 0) (subZ (subZ n i) (iadd .i64 (pmKI m l n i) 1))) = true) :
    isel (ilt (Int.ofNat q) (subZ (pmKI m l n i) 0)) (pmR m l n i (addZ (Int.ofNat q) 0)) (pmR m l n i (addZ (subZ (Int.ofNat q) (subZ (pmKI m l n i) 0)) (iadd .i64 (pmKI m l n i) 1))) = pmR m l n (i + 1) (Int.ofNat q) := by
  obtain ⟨_, k2, k3⟩ := pmK_eq m l h0 h1
  have e1 : iadd .i64 (pmKI m l n i) 1 = pmKI m l n i + 1 := IntWalk.i64_in _ (by omega)
  have q0 : (0 : Int) ≤ Int.ofNat q := Int.natCast_nonneg q
  rw [e1]
  unfold addZ subZ
  rw [Int.sub_zero, Int.add_zero, show Int.ofNat q - pmKI m l n i + (pmKI m l n i + 1) = Int.ofNat q + 1 by omega, ← pmR_next (a := Int.ofNat q) m l h0 h1 q0]
  by_cases c : Int.ofNat q < pmKI m l n i
  · rw [ilt_t c, isel_t, if_pos c]
  · rw [ilt_f (by omega), isel_f, if_neg c]
theorem pm_came {m n i : Int} {l : Int → Nat → Int} (h0 : 0 ≤ i) (h1 : i < n) (q : Nat) (hq : ilt (Int.ofNat q) (addZ i 1) = true) :
    isel (ilt (Int.ofNat q) i) (pmO m l n i (Int.ofNat q)) (isel (ieq (subZ (Int.ofNat q) i) 0) (pmR m l n i (pmKI m l n i)) 0) = pmO m l n (i + 1) (Int.ofNat q) := by
  have hq : Int.ofNat q < i + 1 := ilt_tt hq
  rw [← pmO_next (a := Int.ofNat q) m l h0 h1 (Int.natCast_nonneg q) hq]
  by_cases c : Int.ofNat q < i
  · rw [ilt_t c, isel_t, if_pos c]
  · have e : Int.ofNat q = i := by omega
    rw [ilt_f (by omega), isel_f, if_neg c, e]
    unfold subZ
    rw [Int.sub_self, show ieq 0 0 = true from rfl, isel_t]
theorem a_tperm : Answers2 22 s_tperm := by
  intro al ans hh hq
  unfold s_tperm at hh
  split at hh <;> try (simp at hh; done)
  rename_i c n
  cases em : slcOf 1 c with
  | none => simp [em] at hh
  | some pm =>
  obtain ⟨m, rm⟩ := pm
  simp only [em] at hh
  simp only [Option.some.injEq] at hh
  subst hh
  obtain ⟨l, hdm⟩ : ∃ l : Int → Nat → Int, l = fun i j => intC (den rm i j) := ⟨_, rfl⟩
  try rw [← hdm]
  refine does_args2 (al' := [.x (.c (.slc 1 m (.fn fun i j => .v (.int .i64 (l i j))))), .x (.c (.v (.int .i64 n)))]) ⟨(hdm ▸ slcOf_ints em (by decide) (hq _ (by simp))), .v _, trivial⟩ ?_
  have hq := asked hq
  refine QR.does_of_eval (O := o_tperm) (QR.orc_cons a_at (QR.orc_cons (up a_mod) QR.orc_nil)) mixed ((fun k => bif Nat.beq k 5 then some (.inv (o_inv_pf m l n)) else bif Nat.beq k 10 then some (.invs [o_inv_pm0 m l n, o_inv_pm1 m l n]) else none)) Try.func22 (by kernel_rfl) (by kernel_rfl) (by simp) ?_
  rw [tperm_vc]
  obtain ⟨hr, hm, hn, _⟩ := hq
  have hn' := ile_tt hn
  simp only [forall_eq]
  by_cases c1 : m = 0
  · have z : pmN m n = 0 := by unfold pmN pmB; simp [c1]
    subst c1
    simp [okAns, eqXs, eqX, eqo, eqLo, eqL, eqc, veq, eqUs, bcond_iff, nilC, z, ieq_rfl']
  have d1 : ieq m 0 = false := by unfold ieq; exact decide_eq_false c1
  by_cases c2 : n ≤ 64
  rotate_left
  · have z : pmN m n = 0 := by unfold pmN pmB; simp [c1, c2]
    have d2 : igt n 64 = true := by rw [igt_le']; simp [c2]
    simp [okAns, eqXs, eqX, eqo, eqLo, eqL, eqc, veq, eqUs, bcond_iff, nilC, z, d1, d2]
  have z : pmN m n = n := by unfold pmN pmB; simp [c1, c2]
  have d2 : igt n 64 = false := by rw [igt_le']; simp [c2]
  have f1 : ile n n = true := ile_t (Int.le_refl n)
  have f2 : ile (imulZ n 8) 140737488355328 = true := ile_t (by unfold imulZ; omega)
  have f3 : ile n 140737488355328 = true := ile_t (by omega)
  have mu : ∀ i : Int, i < n → Nat.le (Nat.succ (pfMu n (i + 1))) (pfMu n i) := fun i h => by show pfMu n (i + 1) < pfMu n i; unfold pfMu; omega
  have ia : ∀ i : Int, 0 ≤ i → i < n → iadd .i64 i 1 = i + 1 := fun i h0 h1 => IntWalk.i64_in _ (by omega)
  simp only [okAns, eqXs, eqX, eqo, eqLo, eqL, eqc, veq, eqUs, bcond_iff, d1, d2, hn, f1, f2, f3, z, nilC, intRow_fn, true_and, and_true, and_self, implies_true, reduceCtorEq, false_implies, true_implies, Bool.false_eq_true, or_false, false_or, false_and, and_false, exists_false]
  have eK : ∀ i, 0 ≤ i → gmod (atV m (l i 0) i) (subZ n i) = pmKI m l n i := fun i h => by rw [at_pm l h]; rfl
  have step : ∀ i, 0 ≤ i → i < n → (modOk (subZ n i) = true ∧ ile (imulZ (addZ i 1) 8) 140737488355328 = true ∧ ile 0 (pmKI m l n i) = true ∧ ilt (pmKI m l n i) (subZ n i) = true) ∧
      (ile (imulZ (addZ (subZ (pmKI m l n i) 0) (subZ (subZ n i) (iadd .i64 (pmKI m l n i) 1))) 8) 140737488355328 = true ∧ ile 0 (iadd .i64 (pmKI m l n i) 1) = true ∧ ile (iadd .i64 (pmKI m l n i) 1) (subZ n i) = true ∧ ile (subZ n i) (subZ n i) = true ∧ ile (imulZ (subZ (pmKI m l n i) 0) 8) 140737488355328 = true ∧ ile 0 (pmKI m l n i) = true ∧ ile (pmKI m l n i) (subZ n i) = true) ∧
      addZ (subZ (pmKI m l n i) 0) (subZ (subZ n i) (iadd .i64 (pmKI m l n i) 1)) = subZ n (i + 1) := by
    intro i i0 i1
    obtain ⟨_, k2, k3⟩ := pmK_eq m l i0 i1
    have e1 : iadd .i64 (pmKI m l n i) 1 = pmKI m l n i + 1 := IntWalk.i64_in _ (by omega)
    rw [e1]
    refine ⟨⟨decide_eq_true (by unfold subZ; omega), ile_t (by unfold imulZ addZ; omega), ile_t k2, ilt_t (by unfold subZ; omega)⟩, ⟨ile_t (by unfold imulZ addZ subZ; omega), ile_t (by omega), ile_t (by unfold subZ; omega), ile_t (Int.le_refl _), ile_t (by unfold imulZ subZ; omega), ile_t k2, ile_t (by unfold subZ; omega)⟩, by unfold addZ subZ; omega⟩
  have sub0 : n = subZ n 0 := by unfold subZ; omega
  refine ⟨⟨0, ⟨Int.le_refl 0, hn'⟩, rfl, fun q hq => ?_⟩, fun i hi => ⟨fun c => ?_, fun c => ?_⟩⟩
  · have : (0 : Int) ≤ Int.ofNat q := Int.natCast_nonneg q
    unfold pfV; rw [if_neg (by omega)]
  · have lt := ilt_tt c
    have i0 := hi.1
    refine ⟨⟨ile_t i0, c⟩, i + 1, ⟨by omega, by omega⟩, ⟨ia i i0 lt, fun q hq => ?_⟩, mu i lt⟩
    unfold pfV
    by_cases e : Int.ofNat q = i
    · rw [e, ieq_rfl', isel_t, if_pos (by omega)]
    · rw [show ieq (Int.ofNat q) i = false from decide_eq_false e, isel_f]
      by_cases c2 : Int.ofNat q < i
      · rw [if_pos c2, if_pos (by omega)]
      · rw [if_neg c2, if_neg (by omega)]
  · have e : n = i := by have := ilt_ff c; have := hi.2; omega
    subst e
    refine ⟨⟨0, ⟨⟨Int.le_refl 0, hn'⟩, rfl⟩, ⟨sub0, rfl⟩, sub0, fun q hq => ?_⟩, fun i hi => ?_, fun i hi => ?_⟩
    · have h0 : (0 : Int) ≤ Int.ofNat q := Int.natCast_nonneg q
      have h1 := ilt_tt hq
      rw [pmR_0 m l h0 h1]
      unfold pfV
      rw [if_pos h1]
    · obtain ⟨⟨i0, i1⟩, rfl⟩ := hi
      refine ⟨fun c => ?_, fun c => ?_⟩
      · have lt : 0 < n := by have := of_decide_eq_true c; unfold subZ at this; omega
        obtain ⟨⟨s1, _, s3, s4⟩, s5, s6⟩ := step 0 (Int.le_refl 0) lt
        rw [eK 0 (Int.le_refl 0)]
        refine ⟨s1, ⟨s3, s4⟩, s5, 1, ⟨⟨by omega, by omega⟩, Int.le_refl 1⟩, ⟨⟨s6, rfl, rfl⟩, ⟨s6, fun q hq => pm_rest (Int.le_refl 0) lt c2 q hq⟩, rfl, fun q hq => ?_⟩, mu 0 lt⟩
        have q1 : Int.ofNat q = 0 := by have h0 : (0 : Int) ≤ Int.ofNat q := Int.natCast_nonneg q; have := ilt_tt hq; omega
        rw [q1, ieq_rfl', isel_t]
        have := pmO_next (a := 0) m l (Int.le_refl 0) lt (Int.le_refl 0) (by decide)
        rw [if_neg (by decide)] at this
        exact this
      · have : ¬ subZ n 0 > 0 := of_decide_eq_false c
        exact ⟨rfl, by unfold subZ at this; omega⟩
    · obtain ⟨⟨i0, i1⟩, i2⟩ := hi
      refine ⟨fun c => ?_, fun c => ?_⟩
      · have lt : i < n := by have := of_decide_eq_true c; unfold subZ at this; omega
        obtain ⟨⟨s1, s2, s3, s4⟩, s5, s6⟩ := step i i0 lt
        rw [eK i i0]
        exact ⟨s1, ⟨s2, s3, s4⟩, s5, i + 1, ⟨⟨by omega, by omega⟩, by omega⟩, ⟨⟨s6, rfl, ia i i0 lt⟩, ⟨s6, fun q hq => pm_rest i0 lt c2 q hq⟩, rfl, fun q hq => pm_came i0 lt q hq⟩, mu i lt⟩
      · have : ¬ subZ n i > 0 := of_decide_eq_false c
        have e : n = i := by unfold subZ at this; omega
        subst e
        refine .slc fun q j hq hj => ?_
        have e2 : pmO m (fun i _ => intC (den rm i 0)) n n q = pmO m l n n q := by rw [hdm]; rfl
        show EqC (.v (.int .i64 (pmO m l n n q))) (.v (.int .i64 (pmO m (fun i _ => intC (den rm i 0)) n n q)))
        rw [e2]
        exact .v _
end Go.Proofs.Ytdpmigbenkndbaa
