import Derived.Test.YtdpmigbenkndbaaYj
namespace Go.Proofs.Ytdpmigbenkndbaa
open Go.RowKit PR QR
set_option linter.unusedVariables false
set_option linter.unusedSimpArgs false
set_option maxRecDepth 20000
theorem orW_0 (l : Int → Nat → Int) (i : Int) : orW 0 l i = i := by unfold orW; rw [if_pos rfl]
theorem orW_p {m : Int} (h : 0 < m) (l : Int → Nat → Int) (i : Int) : orW m l i = l i 0 := by unfold orW; rw [if_neg (by omega)]
theorem orS_iff {m : Int} {l : Int → Nat → Int} {i k : Int} : orS m l i k = true ↔ ∃ j : Int, 0 ≤ j ∧ j < i ∧ orW m l j = k := by unfold orS; rw [@decide_eq_true_eq _ (Classical.propDecidable _)]
theorem orS_0 (m : Int) (l : Int → Nat → Int) (k : Int) : orS m l 0 k = false := by
  rw [← Bool.not_eq_true, orS_iff]
  rintro ⟨j, h0, h1, _⟩
  omega
theorem orS_next {m : Int} {l : Int → Nat → Int} {i : Int} (h : 0 ≤ i) (k : Int) : bsel (ieq k (orW m l i)) true (orS m l i k) = orS m l (i + 1) k := by
  rw [Bool.eq_iff_iff, orS_iff]
  cases e : ieq k (orW m l i)
  · rw [show bsel false true (orS m l i k) = orS m l i k from rfl, orS_iff]
    have ne : k ≠ orW m l i := by unfold ieq at e; exact of_decide_eq_false (by simpa using e)
    constructor
    · rintro ⟨j, h0, h1, h2⟩
      exact ⟨j, h0, by omega, h2⟩
    · rintro ⟨j, h0, h1, h2⟩
      refine ⟨j, h0, ?_, h2⟩
      have : j ≠ i := fun q => ne (by rw [← h2, q])
      omega
  · have eq : k = orW m l i := by unfold ieq at e; simpa using e
    rw [show bsel true true (orS m l i k) = true from rfl]
    exact ⟨fun _ => ⟨i, h, by omega, eq.symm⟩, fun _ => rfl⟩
theorem or_step {m : Int} {l : Int → Nat → Int} {n i : Int} (h : orI m l n i) (lt : i < n) (k0 : 0 ≤ orW m l i) (k1 : orW m l i < n) (k2 : orS m l i (orW m l i) = false) : orI m l n (i + 1) := by
  obtain ⟨⟨i0, i1⟩, hi⟩ := h
  refine ⟨⟨by omega, by omega⟩, fun j j0 j1 => ?_⟩
  by_cases e : j < i
  · exact hi j j0 e
  · obtain rfl : j = i := by omega
    refine ⟨⟨k0, k1⟩, fun k h0 h1 e => ?_⟩
    rw [← Bool.not_eq_true, orS_iff] at k2
    exact k2 ⟨k, h0, h1, e⟩
theorem or_good {m : Int} {l : Int → Nat → Int} {n i : Int} (h : orI m l n n) (i0 : 0 ≤ i) (lt : i < n) : (0 ≤ orW m l i ∧ orW m l i < n) ∧ orS m l i (orW m l i) = false := by
  obtain ⟨h0, h1⟩ := h.2 i i0 lt
  refine ⟨h0, ?_⟩
  rw [← Bool.not_eq_true, orS_iff]
  rintro ⟨j, j0, j1, e⟩
  exact h1 j j0 j1 e
theorem orB_iff {m : Int} {l : Int → Nat → Int} {n : Int} : orB m l n = true ↔ (0 ≤ n ∧ n ≤ 16777216) ∧ (m = 0 ∨ m = n) ∧ orI m l n n := by unfold orB; rw [@decide_eq_true_eq _ (Classical.propDecidable _)]
theorem orB_f {m : Int} {l : Int → Nat → Int} {n : Int} (h : ¬ ((0 ≤ n ∧ n ≤ 16777216) ∧ (m = 0 ∨ m = n) ∧ orI m l n n)) : orB m l n = false := by rw [← Bool.not_eq_true, orB_iff]; exact h
theorem run_forder {m n : Int} (h0 : ile 0 m = true) (l : Int → Nat → Int) (A : List Prop) : DoesX Try.prog 24 [.x (.c (.slc 1 m (.fn fun i j => .v (.int .i64 (l i j))))), .x (.c (.v (.int .i64 n)))] ⟨[.c (.fresh 1 (orN m l n) (.fn fun i j => .v (.int .i64 (orW m l i)))), .c (.v (.bool (orB m l n)))], [], A⟩ := by
  have hm := ile_tt h0
  refine QR.does_of_eval (O := QR.orc []) QR.orc_nil mixed (fun k => bif Nat.beq k 6 then some (.invs [o_inv_or0 m l n, o_inv_or1 m l n]) else none) Try.func24 (by kernel_rfl) (by kernel_rfl) (by simp) ?_
  rw [forder_vc]
  try dsimp only
  have VF : orB m l n = false → okAns ⟨[.c (.fresh 1 (orN m l n) (.fn fun i j => .v (.int .i64 (orW m l i)))), .c (.v (.bool (orB m l n)))], [], A⟩ [.c (.v (.slice none 0 0)), .c (.v (.bool false))] [] := fun hb => by
    simp [okAns, eqXs, eqX, eqo, eqLo, eqL, eqc, veq, eqUs, nilC, hb, orN]
  have VE : orB m l n = true → n = 0 → okAns ⟨[.c (.fresh 1 (orN m l n) (.fn fun i j => .v (.int .i64 (orW m l i)))), .c (.v (.bool (orB m l n)))], [], A⟩ [.c (.v (.slice none 0 0)), .c (.v (.bool true))] [] := fun hb e => by
    subst e
    simp [okAns, eqXs, eqX, eqo, eqLo, eqL, eqc, veq, eqUs, nilC, hb, orN]
  have VT : orB m l n = true → ∀ i, i = n → okAns ⟨[.c (.fresh 1 (orN m l n) (.fn fun i j => .v (.int .i64 (orW m l i)))), .c (.v (.bool (orB m l n)))], [], A⟩ [.c (.fresh 1 i (.fn fun a b => .v (.int .i64 (orW m l a)))), .c (.v (.bool true))] [] := fun hb i e => by
    subst e
    simp only [okAns, eqXs, eqX, eqo, eqLo, eqL, eqc, veq, eqUs, hb, orN, if_true, true_and, and_true]
    exact .slc fun i j hi hj => .v _
  generalize okAns ⟨[.c (.fresh 1 (orN m l n) (.fn fun i j => .v (.int .i64 (orW m l i)))), .c (.v (.bool (orB m l n)))], [], A⟩ = V at *
  simp only [forall_eq, true_and, and_true, implies_true, reduceCtorEq, and_false, false_and, exists_false, or_false, false_or]
  rw [bcond_iff]
  refine ⟨fun c => VF (orB_f fun k => by have := of_decide_eq_true c; omega), fun c0 => ?_⟩
  rw [bcond_iff]
  refine ⟨fun c => VF (orB_f fun k => by have := of_decide_eq_true c; omega), fun c1 => ?_⟩
  have n0 := of_decide_eq_false c0
  have n1 := of_decide_eq_false c1
  have mk : ile 0 n = true ∧ ile n n = true ∧ ile (imulZ n 1) 140737488355328 = true ∧ ile n 140737488355328 = true := ⟨ile_t (by omega), ile_t (by omega), ile_t (by unfold imulZ; omega), ile_t (by omega)⟩
  have ia : ∀ i : Int, 0 ≤ i → i < n → iadd .i64 i 1 = i + 1 := fun i i0 i1 => IntWalk.i64_in _ (by omega)
  have mu : ∀ i : Int, i < n → Nat.le (Nat.succ (orMu n (i + 1))) (orMu n i) := fun i i1 => by show orMu n (i + 1) < orMu n i; unfold orMu; omega
  have fin : (m = 0 ∨ m = n) → orI m l n n → orB m l n = true := fun h k => orB_iff.2 ⟨⟨by omega, by omega⟩, h, k⟩
  have bad : ∀ i, 0 ≤ i → i < n → ¬ ((0 ≤ orW m l i ∧ orW m l i < n) ∧ orS m l i (orW m l i) = false) → orB m l n = false := fun i i0 i1 h => orB_f fun k => h (or_good k.2.2 i0 i1)
  have ad : ∀ x y : Int, addZ x y = x + y := fun _ _ => rfl
  have sd : ∀ x y : Int, subZ x y = x - y := fun _ _ => rfl
  rw [bcond_iff]
  refine ⟨fun c2 => ?_, fun c2 => ?_⟩
  · have m0 := of_decide_eq_true c2
    rw [bcond_iff]
    refine ⟨fun c3 => VF (orB_f fun k => ?_), fun c3 => ?_⟩
    · rcases k.2.1 with e | e
      · omega
      · rw [e, ine_f] at c3; simp at c3
    have e : m = n := Classical.byContradiction fun q => by rw [ine_t q] at c3; simp at c3
    have w : ∀ i, l i 0 = orW m l i := fun i => (orW_p m0 l i).symm
    simp only [w, mk, true_and, and_true]
    refine ⟨⟨0, ⟨⟨⟨by omega, by omega⟩, fun j j0 j1 => by omega⟩, rfl⟩, rfl, fun k _ => (orS_0 _ _ _).symm⟩, fun i hi => ?_, fun i hi => ?_⟩
    · obtain ⟨hi, ii⟩ := hi
      have i0 := hi.1.1
      have iN := hi.1.2
      rw [bcond_iff]
      refine ⟨fun c => ?_, fun c => ?_⟩
      · have lt := of_decide_eq_true c
        rw [bcond_iff]
        refine ⟨fun _ => ?_, fun q => by rw [c2] at q; simp at q⟩
        refine ⟨⟨ile_t i0, ilt_t (by omega)⟩, ?_⟩
        rw [bcond_iff]
        refine ⟨fun d => VF (bad i i0 lt fun h => by have := of_decide_eq_true d; have := h.1; omega), fun d0 => ?_⟩
        rw [bcond_iff]
        refine ⟨fun d => VF (bad i i0 lt fun h => by have := of_decide_eq_true d; have := h.1; omega), fun d1 => ?_⟩
        have k0 : 0 ≤ orW m l i := by have := of_decide_eq_false d0; omega
        have k1 : orW m l i < n := by have := of_decide_eq_false d1; omega
        refine ⟨⟨ile_t k0, ilt_t k1⟩, ?_⟩
        rw [bcond_iff]
        refine ⟨fun d => VF (bad i i0 lt fun h => by rw [d] at h; simp at h), fun k2 => ?_⟩
        have nx : ∀ q : Int, bsel (ieq q (orW m l i)) true (orS m l i q) = orS m l (i + 1) q := fun q => orS_next i0 q
        have a0 : ile 0 (orW m l i) = true ∧ ilt (orW m l i) n = true := ⟨ile_t k0, ilt_t k1⟩
        subst ii
        refine ⟨a0, 0 + 1, ⟨or_step hi lt k0 k1 k2, by omega⟩, ⟨⟨by omega, ia 0 i0 lt⟩, fun q _ => nx _, by omega, fun q hq => ?_⟩, mu 0 lt⟩
        have hq := of_decide_eq_true hq
        have e : Int.ofNat q = 0 := by have := Int.natCast_nonneg q; simp only [Int.ofNat_eq_natCast] at *; omega
        rw [e]
        rw [show ieq 0 0 = true from rfl, isel_t]
      · have lt := of_decide_eq_false c
        have nn : n = 0 := by omega
        have hN : orI m l n n := by rw [nn]; rw [nn, ii] at hi; exact hi
        exact VE (fin (Or.inr e) hN) nn
    · obtain ⟨hi, ii⟩ := hi
      have i0 := hi.1.1
      have iN := hi.1.2
      rw [bcond_iff]
      refine ⟨fun c => ?_, fun c => ?_⟩
      · have lt := of_decide_eq_true c
        rw [bcond_iff]
        refine ⟨fun _ => ?_, fun q => by rw [c2] at q; simp at q⟩
        refine ⟨⟨ile_t i0, ilt_t (by omega)⟩, ?_⟩
        rw [bcond_iff]
        refine ⟨fun d => VF (bad i i0 lt fun h => by have := of_decide_eq_true d; have := h.1; omega), fun d0 => ?_⟩
        rw [bcond_iff]
        refine ⟨fun d => VF (bad i i0 lt fun h => by have := of_decide_eq_true d; have := h.1; omega), fun d1 => ?_⟩
        have k0 : 0 ≤ orW m l i := by have := of_decide_eq_false d0; omega
        have k1 : orW m l i < n := by have := of_decide_eq_false d1; omega
        refine ⟨⟨ile_t k0, ilt_t k1⟩, ?_⟩
        rw [bcond_iff]
        refine ⟨fun d => VF (bad i i0 lt fun h => by rw [d] at h; simp at h), fun k2 => ?_⟩
        have nx : ∀ q : Int, bsel (ieq q (orW m l i)) true (orS m l i q) = orS m l (i + 1) q := fun q => orS_next i0 q
        have a0 : ile 0 (orW m l i) = true ∧ ilt (orW m l i) n = true := ⟨ile_t k0, ilt_t k1⟩
        refine ⟨a0, ile_t (by rw [ad]; unfold imulZ; omega), i + 1, ⟨or_step hi lt k0 k1 k2, by omega⟩, ⟨⟨by rw [ad], ia i i0 lt⟩, fun q _ => nx _, by rw [ad], fun q hq => ?_⟩, mu i lt⟩
        have hq := of_decide_eq_true hq
        rw [ad] at hq
        cases k : ilt (Int.ofNat q) i
        · have k' := of_decide_eq_false k
          have e : Int.ofNat q = i := by omega
          rw [isel_f, e, sd, Int.sub_self, show ieq 0 0 = true from rfl, isel_t]
        · rw [isel_t]
      · have lt := of_decide_eq_false c
        obtain rfl : i = n := by omega
        exact VT (fin (Or.inr e) hi) _ rfl
  · have m0 : m = 0 := by have := of_decide_eq_false c2; omega
    simp only [mk, true_and, and_true]
    refine ⟨⟨0, ⟨⟨⟨by omega, by omega⟩, fun j j0 j1 => by omega⟩, rfl⟩, rfl, fun k _ => (orS_0 _ _ _).symm⟩, fun i hi => ?_, fun i hi => ?_⟩
    · obtain ⟨hi, ii⟩ := hi
      have i0 := hi.1.1
      have iN := hi.1.2
      rw [bcond_iff]
      refine ⟨fun c => ?_, fun c => ?_⟩
      · have lt := of_decide_eq_true c
        rw [bcond_iff]
        refine ⟨fun q => by rw [c2] at q; simp at q, fun _ => ?_⟩
        have wi : orW m l i = i := by rw [m0]; exact orW_0 l i
        rw [bcond_iff]
        refine ⟨fun d => by have := of_decide_eq_true d; omega, fun d0 => ?_⟩
        rw [bcond_iff]
        refine ⟨fun d => by have := of_decide_eq_true d; omega, fun d1 => ?_⟩
        have k0 : 0 ≤ orW m l i := by rw [wi]; exact i0
        have k1 : orW m l i < n := by rw [wi]; exact lt
        refine ⟨⟨ile_t i0, ilt_t lt⟩, ?_⟩
        rw [bcond_iff]
        refine ⟨fun d => VF (bad i i0 lt fun h => by rw [wi, d] at h; simp at h), fun d2 => ?_⟩
        have k2 : orS m l i (orW m l i) = false := by rw [wi]; exact d2
        have nx : ∀ q : Int, bsel (ieq q i) true (orS m l i q) = orS m l (i + 1) q := fun q => by have := orS_next (m := m) (l := l) i0 q; rw [wi] at this; exact this
        have a0 : ile 0 i = true ∧ ilt i n = true := ⟨ile_t i0, ilt_t lt⟩
        subst ii
        refine ⟨a0, 0 + 1, ⟨or_step hi lt k0 k1 k2, by omega⟩, ⟨⟨by omega, ia 0 i0 lt⟩, fun q _ => nx _, by omega, fun q hq => ?_⟩, mu 0 lt⟩
        have hq := of_decide_eq_true hq
        have e : Int.ofNat q = 0 := by have := Int.natCast_nonneg q; simp only [Int.ofNat_eq_natCast] at *; omega
        rw [e]
        rw [show ieq 0 0 = true from rfl, isel_t]; exact wi.symm
      · have lt := of_decide_eq_false c
        have nn : n = 0 := by omega
        have hN : orI m l n n := by rw [nn]; rw [nn, ii] at hi; exact hi
        exact VE (fin (Or.inl m0) hN) nn
    · obtain ⟨hi, ii⟩ := hi
      have i0 := hi.1.1
      have iN := hi.1.2
      rw [bcond_iff]
      refine ⟨fun c => ?_, fun c => ?_⟩
      · have lt := of_decide_eq_true c
        rw [bcond_iff]
        refine ⟨fun q => by rw [c2] at q; simp at q, fun _ => ?_⟩
        have wi : orW m l i = i := by rw [m0]; exact orW_0 l i
        rw [bcond_iff]
        refine ⟨fun d => by have := of_decide_eq_true d; omega, fun d0 => ?_⟩
        rw [bcond_iff]
        refine ⟨fun d => by have := of_decide_eq_true d; omega, fun d1 => ?_⟩
        have k0 : 0 ≤ orW m l i := by rw [wi]; exact i0
        have k1 : orW m l i < n := by rw [wi]; exact lt
        refine ⟨⟨ile_t i0, ilt_t lt⟩, ?_⟩
        rw [bcond_iff]
        refine ⟨fun d => VF (bad i i0 lt fun h => by rw [wi, d] at h; simp at h), fun d2 => ?_⟩
        have k2 : orS m l i (orW m l i) = false := by rw [wi]; exact d2
        have nx : ∀ q : Int, bsel (ieq q i) true (orS m l i q) = orS m l (i + 1) q := fun q => by have := orS_next (m := m) (l := l) i0 q; rw [wi] at this; exact this
        have a0 : ile 0 i = true ∧ ilt i n = true := ⟨ile_t i0, ilt_t lt⟩
        refine ⟨a0, ile_t (by rw [ad]; unfold imulZ; omega), i + 1, ⟨or_step hi lt k0 k1 k2, by omega⟩, ⟨⟨by rw [ad], ia i i0 lt⟩, fun q _ => nx _, by rw [ad], fun q hq => ?_⟩, mu i lt⟩
        have hq := of_decide_eq_true hq
        rw [ad] at hq
        cases k : ilt (Int.ofNat q) i
        · have k' := of_decide_eq_false k
          have e : Int.ofNat q = i := by omega
          rw [isel_f, e, sd, Int.sub_self, show ieq 0 0 = true from rfl, isel_t]; exact wi.symm
        · rw [isel_t]
      · have lt := of_decide_eq_false c
        obtain rfl : i = n := by omega
        exact VT (fin (Or.inl m0) hi) _ rfl
theorem a_forder : Answers2 24 s_torder := by
  intro al ans hh hq
  unfold s_torder at hh
  split at hh <;> try (simp at hh; done)
  rename_i c n
  cases e : slcOf 1 c with
  | none => rw [e] at hh; simp at hh
  | some p =>
    obtain ⟨m, r⟩ := p
    rw [e] at hh
    simp only [Option.some.injEq] at hh
    subst hh
    obtain ⟨hr, hm, _⟩ := asked hq
    refine does_args2 (al' := [.x (.c (.slc 1 m (ints .i64 r))), .x (.c (.v (.int .i64 n)))]) ⟨slcOf_ints e (by decide) hr, .v _, trivial⟩ ?_
    unfold ints
    exact run_forder (n := n) hm (fun i j => intC (den r i j)) _
end Go.Proofs.Ytdpmigbenkndbaa
