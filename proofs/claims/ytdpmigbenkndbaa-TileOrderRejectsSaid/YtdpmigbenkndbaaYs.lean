import Derived.Test.YtdpmigbenkndbaaYr
import Derived.Test.YtdpmigbenkndbaaYu
namespace Go.Proofs.Ytdpmigbenkndbaa
open Go.RowKit PR QR
set_option linter.unusedVariables false
set_option linter.unusedSimpArgs false
set_option maxRecDepth 20000
theorem orP_iff {m : Int} {l : Int → Nat → Int} {n : Int} : orP m l n = true ↔ m = n ∧ orI m l n n := by unfold orP; rw [@decide_eq_true_eq _ (Classical.propDecidable _)]
theorem orP_f {m : Int} {l : Int → Nat → Int} {n : Int} (h : ¬ (m = n ∧ orI m l n n)) : orP m l n = false := by rw [← Bool.not_eq_true, orP_iff]; exact h
theorem run_tpmu {m n : Int} (hm : 0 < m) (hn : 0 ≤ n) (hn' : n ≤ 16777216) (l : Int → Nat → Int) (A : List Prop) : DoesX Try.prog 33 [.x (.c (.slc 1 m (.fn fun i j => .v (.int .i64 (l i j))))), .x (.c (.v (.int .i64 n)))] ⟨[.c (.v (.bool (orP m l n)))], [], A⟩ := by
  refine QR.does_of_eval (O := QR.orc []) QR.orc_nil mixed (fun k => bif Nat.beq k 5 then some (.invs [o_inv_tp m l n]) else none) Try.func33 (by kernel_rfl) (by kernel_rfl) (by simp) ?_
  rw [tpmu_vc]
  try dsimp only
  have VF : orP m l n = false → okAns ⟨[.c (.v (.bool (orP m l n)))], [], A⟩ [.c (.v (.bool false))] [] := fun hb => by
    simp [okAns, eqXs, eqX, eqo, eqLo, eqL, eqc, veq, eqUs, hb]
  have VT : orP m l n = true → okAns ⟨[.c (.v (.bool (orP m l n)))], [], A⟩ [.c (.v (.bool true))] [] := fun hb => by
    simp [okAns, eqXs, eqX, eqo, eqLo, eqL, eqc, veq, eqUs, hb]
  generalize okAns ⟨[.c (.v (.bool (orP m l n)))], [], A⟩ = V at *
  simp only [forall_eq, true_and, and_true, implies_true, reduceCtorEq, and_false, false_and, exists_false, or_false, false_or]
  rw [bcond_iff]
  refine ⟨fun c => VF (orP_f fun k => by rw [k.1, ine_f] at c; simp at c), fun c0 => ?_⟩
  obtain rfl : m = n := Classical.byContradiction fun q => by rw [ine_t q] at c0; simp at c0
  have w : ∀ i, l i 0 = orW m l i := fun i => (orW_p hm l i).symm
  simp only [w]
  have mk : ile 0 m = true ∧ ile m m = true ∧ ile (imulZ m 1) 140737488355328 = true ∧ ile m 140737488355328 = true := ⟨ile_t (by omega), ile_t (by omega), ile_t (by unfold imulZ; omega), ile_t (by omega)⟩
  have ia : ∀ i : Int, 0 ≤ i → i < m → iadd .i64 i 1 = i + 1 := fun i i0 i1 => IntWalk.i64_in _ (by omega)
  have mu : ∀ i : Int, i < m → Nat.le (Nat.succ (orMu m (i + 1))) (orMu m i) := fun i i1 => by show orMu m (i + 1) < orMu m i; unfold orMu; omega
  have bad : ∀ i, 0 ≤ i → i < m → ¬ ((0 ≤ orW m l i ∧ orW m l i < m) ∧ orS m l i (orW m l i) = false) → orP m l m = false := fun i i0 i1 h => orP_f fun k => h (or_good k.2 i0 i1)
  refine ⟨mk, ⟨0, ⟨⟨by omega, by omega⟩, fun j j0 j1 => by omega⟩, rfl, fun k _ => (orS_0 _ _ _).symm⟩, fun i hi => ?_⟩
  have i0 := hi.1.1
  have iN := hi.1.2
  rw [bcond_iff]
  refine ⟨fun c => ?_, fun c => ?_⟩
  · have lt := of_decide_eq_true c
    refine ⟨⟨ile_t i0, ilt_t (by omega)⟩, ?_⟩
    rw [bcond_iff]
    refine ⟨fun d => VF (bad i i0 lt fun h => by have := of_decide_eq_true d; have := h.1; omega), fun d0 => ?_⟩
    rw [bcond_iff]
    refine ⟨fun d => VF (bad i i0 lt fun h => by have := of_decide_eq_true d; have := h.1; omega), fun d1 => ?_⟩
    have k0 : 0 ≤ orW m l i := by have := of_decide_eq_false d0; omega
    have k1 : orW m l i < m := by have := of_decide_eq_false d1; omega
    have a0 : ile 0 (orW m l i) = true ∧ ilt (orW m l i) m = true := ⟨ile_t k0, ilt_t k1⟩
    refine ⟨a0, ?_⟩
    rw [bcond_iff]
    refine ⟨fun d => VF (bad i i0 lt fun h => by rw [d] at h; simp at h), fun k2 => ?_⟩
    exact ⟨a0, i + 1, or_step hi lt k0 k1 k2, ⟨ia i i0 lt, fun q _ => orS_next i0 q⟩, mu i lt⟩
  · have lt := of_decide_eq_false c
    obtain rfl : i = m := by omega
    exact VT (orP_iff.2 ⟨rfl, hi⟩)
theorem a_tpmu : Answers2 33 s_tpmu := by
  intro al ans hh hq
  unfold s_tpmu at hh
  split at hh <;> try (simp at hh; done)
  rename_i c n
  cases e : slcOf 1 c with
  | none => rw [e] at hh; simp at hh
  | some p =>
    obtain ⟨m, r⟩ := p
    rw [e] at hh
    simp only [Option.some.injEq] at hh
    subst hh
    obtain ⟨hr, hm, h0, h1, _⟩ := asked hq
    refine does_args2 (al' := [.x (.c (.slc 1 m (ints .i64 r))), .x (.c (.v (.int .i64 n)))]) ⟨slcOf_ints e (by decide) hr, .v _, trivial⟩ ?_
    unfold ints
    exact run_tpmu (n := n) (ilt_tt hm) (ile_tt h0) (ile_tt h1) (fun i j => intC (den r i j)) _
theorem orA_0 (a : Int) (h : 0 ≤ a) : (0 : Int) = orA 0 a := by unfold orA; rw [ilt_f h]; rfl
theorem orA_next {i : Int} (a : Int) : isel (ieq a i) i (orA i a) = orA (i + 1) a := by
  unfold orA
  rcases Int.lt_trichotomy a i with h | h | h
  · rw [ilt_t h, ilt_t (show a < i + 1 by omega), show ieq a i = false from decide_eq_false (by omega)]; rfl
  · subst h
    rw [ilt_t (show a < a + 1 by omega), show ieq a a = true from decide_eq_true rfl]; rfl
  · rw [ilt_f (show i ≤ a by omega), ilt_f (show i + 1 ≤ a by omega), show ieq a i = false from decide_eq_false (by omega)]; rfl
theorem run_torder {m n : Int} {l : Int → Nat → Int} (hr : intRow .i64 1 m (.fn fun i j => .v (.int .i64 (l i j)))) (h0 : ile 0 m = true) (A : List Prop) : DoesX Try.prog 23 [.x (.c (.slc 1 m (.fn fun i j => .v (.int .i64 (l i j))))), .x (.c (.v (.int .i64 n)))] ⟨[.c (.fresh 1 (orN m l n) (.fn fun i j => .v (.int .i64 (orW m l i)))), .c (.v (.bool (orB m l n)))], [], A⟩ := by
  have hm := ile_tt h0
  refine QR.does_of_eval (O := o_torder) (QR.orc_cons a_tpmu QR.orc_nil) mixed (fun k => bif Nat.beq k 10 then some (.invs [o_inv_to m l n]) else none) Try.func23 (by kernel_rfl) (by kernel_rfl) (by simp) ?_
  rw [torder_vc]
  try dsimp only
  have VF : orB m l n = false → okAns ⟨[.c (.fresh 1 (orN m l n) (.fn fun i j => .v (.int .i64 (orW m l i)))), .c (.v (.bool (orB m l n)))], [], A⟩ [.c (.v (.slice none 0 0)), .c (.v (.bool false))] [] := fun hb => by
    simp [okAns, eqXs, eqX, eqo, eqLo, eqL, eqc, veq, eqUs, nilC, hb, orN]
  have VT : ∀ r : QR.Row, orB m l n = true → (∀ (i : Int) (j : Nat), 0 ≤ i → i < n → j < 1 → den r i j = .v (.int .i64 (orW m l i))) → okAns ⟨[.c (.fresh 1 (orN m l n) (.fn fun i j => .v (.int .i64 (orW m l i)))), .c (.v (.bool (orB m l n)))], [], A⟩ [.c (.fresh 1 n r), .c (.v (.bool true))] [] := fun r hb e => by
    simp only [okAns, eqXs, eqX, eqo, eqLo, eqL, eqc, veq, eqUs, hb, orN, if_true, true_and, and_true]
    refine .slc fun i j hi hj => ?_
    rw [e i j (Int.natCast_nonneg i) hi hj]
    exact .v _
  generalize okAns ⟨[.c (.fresh 1 (orN m l n) (.fn fun i j => .v (.int .i64 (orW m l i)))), .c (.v (.bool (orB m l n)))], [], A⟩ = V at *
  simp only [forall_eq, true_and, and_true, implies_true, reduceCtorEq, and_false, false_and, exists_false, or_false, false_or]
  rw [bcond_iff]
  refine ⟨fun c => VF (orB_f fun k => by have := of_decide_eq_true c; omega), fun c0 => ?_⟩
  rw [bcond_iff]
  refine ⟨fun c => VF (orB_f fun k => by have := of_decide_eq_true c; omega), fun c1 => ?_⟩
  have n0 := of_decide_eq_false c0
  have n1 := of_decide_eq_false c1
  have mk : ile 0 n = true ∧ ile n n = true ∧ ile (imulZ n 8) 140737488355328 = true ∧ ile n 140737488355328 = true := ⟨ile_t (by omega), ile_t (by omega), ile_t (by unfold imulZ; omega), ile_t (by omega)⟩
  have ia : ∀ i : Int, 0 ≤ i → i < n → iadd .i64 i 1 = i + 1 := fun i i0 i1 => IntWalk.i64_in _ (by omega)
  have mu : ∀ i : Int, i < n → Nat.le (Nat.succ (orMu n (i + 1))) (orMu n i) := fun i i1 => by show orMu n (i + 1) < orMu n i; unfold orMu; omega
  rw [bcond_iff]
  refine ⟨fun c2 => ?_, fun c2 => ?_⟩
  · have m0 : m ≠ 0 := by unfold ine at c2; simpa using c2
    refine ⟨⟨hr, ilt_t (by omega), ile_t (by omega), ile_t (by omega)⟩, ?_⟩
    have pe : orP m (fun i x => l i 0) n = orB m l n := by
      rw [Bool.eq_iff_iff, orP_iff, orB_iff]
      have : orI m (fun i x => l i 0) n n ↔ orI m l n n := by unfold orI orW; simp [m0]
      rw [this]
      exact ⟨fun k => ⟨⟨by omega, by omega⟩, Or.inr k.1, k.2⟩, fun k => ⟨k.2.1.resolve_left m0, k.2.2⟩⟩
    rw [pe, bcond_iff]
    refine ⟨fun c3 => VF (by cases q : orB m l n <;> simp_all [bnot]), fun c3 => ⟨mk, ?_⟩⟩
    have hb : orB m l n = true := by cases q : orB m l n <;> simp_all [bnot]
    obtain rfl : m = n := (orB_iff.1 hb).2.1.resolve_left m0
    rw [bcond_iff]
    refine ⟨fun _ => VT _ hb ?_, fun q => by rw [c2] at q; simp at q⟩
    intro a b a0 a1 b0
    obtain rfl : b = 0 := by omega
    rw [orW_p (show 0 < m by omega)]
    have e1 : addZ 0 (iimin m m) = m := by rw [show iimin m m = m by unfold iimin; split <;> rfl]; show 0 + m = m; omega
    rw [e1]
    have c1 : ilt a m = true := ilt_t a1
    have c2 : ilt a 0 = false := ilt_f a0
    have c3 : subZ a 0 = a := by show a - 0 = a; omega
    rw [show den (.app (.app (.zer [Value.int .i64 0]) 0 (.fn fun i j => CV.v (.int .i64 (l i j)))) m (.sub (.zer [Value.int .i64 0]) m)) a 0 = csel (ilt a m) (csel (ilt a 0) (.v (.int .i64 0)) (.v (.int .i64 (l (subZ a 0) 0)))) (.v (.int .i64 0)) from rfl, c1, c2, c3]
    rfl
  · have m0 : m = 0 := by unfold ine at c2; simpa using c2
    refine ⟨mk, ?_⟩
    rw [bcond_iff]
    refine ⟨fun q => by rw [c2] at q; simp at q, fun _ => ?_⟩
    refine ⟨⟨0, ⟨by omega, by omega⟩, rfl, fun k _ => orA_0 _ (Int.natCast_nonneg k)⟩, fun i hi => ?_⟩
    rw [bcond_iff]
    refine ⟨fun c => ?_, fun c => ?_⟩
    · have lt := of_decide_eq_true c
      exact ⟨⟨ile_t hi.1, c⟩, i + 1, ⟨by have := hi.1; omega, by omega⟩, ⟨ia i hi.1 lt, fun q _ => orA_next _⟩, mu i lt⟩
    · have lt := of_decide_eq_false c
      have hi' := hi
      unfold orT at hi'
      obtain rfl : i = n := by omega
      subst m0
      refine VT _ (orB_iff.2 ⟨⟨by omega, by omega⟩, Or.inl rfl, ⟨by omega, by omega⟩, fun j j0 j1 => ?_⟩) ?_
      · simp only [orW_0]; exact ⟨⟨j0, j1⟩, fun k k0 k1 => by omega⟩
      · intro a b a0 a1 b0
        show CV.v (.int .i64 (orA i a)) = _
        rw [orW_0]
        unfold orA
        rw [ilt_t a1]; rfl
theorem a_torder : Answers2 23 s_torder := by
  intro al ans hh hq
  unfold s_torder at hh
  split at hh <;> try (simp at hh; done)
  rename_i c n
  cases e : slcOf 1 c with
  | none => rw [e] at hh; simp at hh
  | some p =>
    obtain ⟨m, r⟩ := p
    rw [e] at hh
    simp only [Option.some.injEq] at hh
    subst hh
    obtain ⟨hr, hm, _⟩ := asked hq
    refine does_args2 (al' := [.x (.c (.slc 1 m (ints .i64 r))), .x (.c (.v (.int .i64 n)))]) ⟨slcOf_ints e (by decide) hr, .v _, trivial⟩ ?_
    unfold ints
    exact run_torder (n := n) (intRow_fn _ _ _ _) hm _
end Go.Proofs.Ytdpmigbenkndbaa
