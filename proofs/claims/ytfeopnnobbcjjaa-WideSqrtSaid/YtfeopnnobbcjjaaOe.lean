/-
  The law WideSqrt of layer 2 (wide), walked: it returns true for all arguments in their ranges.
-/
import Derived.Test.YtfeopnnobbcjjaaO
import Derived.BigRegion
namespace Go.Proofs.Ytfeopnnobbcjjaa
open Go.RowKit
set_option linter.unusedVariables false

theorem root_square (n : Nat) : IsRoot (n * n) n := ⟨Nat.le_refl _, by
  have : (n + 1) * (n + 1) = n * n + (2 * n + 1) := by simp only [Nat.add_mul, Nat.mul_add, Nat.mul_one, Nat.one_mul]; omega
  omega⟩

set_option maxRecDepth 100000 in
set_option maxHeartbeats 4000000 in
theorem WideSqrt_core (a0 a1 n k : Int) (w0 : (Lit.int .u64 a0).wf = true) (w1 : (Lit.int .u64 a1).wf = true) (w2 : (Lit.int .u64 n).wf = true) (w3 : (Lit.int .i64 k).wf = true) (w : World) :
    Calls Try.prog 14 #[.agg #[.int .u64 a0, .int .u64 a1], .int .u64 n, .int .i64 k] w fun e w' => e = .returned (.bool true) ∧ Below w.heap.size w w' := by
  obtain ⟨a0, rfl, ha0⟩ := u64_nat w0
  obtain ⟨a1, rfl, ha1⟩ := u64_nat w1
  obtain ⟨n, rfl, hn⟩ := u64_nat w2
  clear w0 w1 w2 w3
  obtain ⟨nh, nl, N⟩ := word2_mul n n hn hn
  have cnn := ref_mul_at n n nh nl hn hn N
  have csn := wide_sqrt nh nl (n * n) n N (root_square n)
  go_enter Try.func14, Try.ntmps14
  go_wp2_with fail
  refine (near_any _ _ _ ha0 ha1 _).mono ?_
  rintro e w1 ⟨p, q, rfl, hp, hq, x1⟩
  have B0 : Box2 w1 (w.heap.size) (.int .u64 a0) (.int .u64 a1) := Box2.keep (by simp [Box2, go_sem]) x1 (by simp <;> omega)
  have ⟨B0a, B0b, B0c, B0d⟩ := B0
  have B0e := Box2.lt B0
  have hW : Below w.heap.size w w1 := below_then (by repeat (first | assumption | exact Below.refl _ _ | refine below_alloc ?_ _ | refine below_drew ?_ | refine below_drewn ?_ _ | refine below_set ?_ (by simp <;> omega) _)) x1
  have B0e := Box2.lt B0
  have S0 := B0.set (.int .u64 p) (.int .u64 q)
  obtain ⟨x, P⟩ : ∃ x, Word2 x p q := ⟨_, word2_mk p q hp hq⟩
  obtain ⟨s, R⟩ := root_ex x
  have hs := wroot_lt R P.lt
  obtain ⟨sh, sl, M⟩ := word2_mul s s hs hs
  have c1 := ref_mul_at s s sh sl hs hs M
  have c2 := ref_compare sh sl p q (s * s) x M P
  have hc : ¬ (0 < cmp3 (s * s) x) := by
    rcases Nat.lt_or_eq_of_le R.1 with h | h
    · rw [cmp3_lt h]; decide
    · rw [h, cmp3_eq]; decide
  have hcd : decide (0 < cmp3 (s * s) x) = false := by simpa using hc
  generalize cmp3 (s * s) x = cm at *
  clear hc
  go_wp2_with fail
  refine (wide_sqrt _ _ _ _ P R _).mono ?_
  rintro e w2 ⟨rfl, x2⟩
  have B0 := S0
  have hW : Below w.heap.size w w2 := below_then (by repeat (first | assumption | exact Below.refl _ _ | refine below_alloc ?_ _ | refine below_drew ?_ | refine below_drewn ?_ _ | refine below_set ?_ (by simp <;> omega) _)) x2
  have x2z := x2.size
  try simp at x2z
  clear B0a B0b B0c B0d B0e
  have B0 := Box2.thru B0 x2 (by repeat (first | assumption | exact Below.refl _ _ | refine below_alloc ?_ _ | refine below_drew ?_ | refine below_drewn ?_ _ | refine below_set ?_ (by simp <;> omega) _))
  have ⟨B0a, B0b, B0c, B0d⟩ := B0
  have B0e := Box2.lt B0
  by_cases h1 : s < 18446744073709551615
  · have h2 : (s : Int) < 18446744073709551615 := by omega
    obtain ⟨th, tl, T⟩ := word2_mul (s + 1) (s + 1) (by omega) (by omega)
    have c3 : ∀ w : World, Calls Try.prog 34 #[.int .u64 ((s : Int) + 1), .int .u64 ((s : Int) + 1)] w fun e w' => e = .returned (.agg #[.int .u64 th, .int .u64 tl]) ∧ Below w.heap.size w w' := ref_mul_at (s + 1) (s + 1) th tl (by omega) (by omega) T
    have e1 : IntKind.u64.wrap ((s : Int) + 1) = ((s + 1 : Nat) : Int) := by rw [IntKind.wrap_u64]; omega
    have c5 : ∀ w : World, Calls Try.prog 34 #[.int .u64 (IntKind.u64.wrap ((s : Int) + 1)), .int .u64 (IntKind.u64.wrap ((s : Int) + 1))] w fun e w' => e = .returned (.agg #[.int .u64 th, .int .u64 tl]) ∧ Below w.heap.size w w' := fun w => by rw [e1]; exact ref_mul_at (s + 1) (s + 1) th tl (by omega) (by omega) T w
    have c4 := ref_compare th tl p q _ x T P
    rw [cmp3_gt R.2] at c4
    clear e1
    have hV := hW
    clear h1 P R M T x1 x2
    go_upto_region 3 with fail
    go_region_held3 (fun w' => (∀ b o, b < w2.heap.size → w'.cell? ⟨b, o, none⟩ = w2.cell? ⟨b, o, none⟩) ∧ Below w2.heap.size w2 w') (first | ((apply held_then; rotate_left; assumption; assumption)) | ((refine held_of ?_; repeat (first | assumption | exact Below.refl _ _ | ((refine held_below ?_; assumption)) | ((apply held_un; assumption; omega)) | refine below_alloc ?_ _ | refine below_drew ?_ | refine below_drewn ?_ _ | ((refine below_set ?_ ?_ _; rotate_left; (simp <;> omega))))))) (first
      | (go_at_call 30; refine (awake2 _).mono ?_; rintro e w' ⟨rfl, hx⟩)
      | (go_at_call 34; (with_reducible refine (c1 _).mono ?_); rintro e w' ⟨rfl, hx⟩)
      | (go_at_call 34; (with_reducible refine (c3 _).mono ?_); rintro e w' ⟨rfl, hx⟩)
      | (go_at_call 34; (with_reducible refine (c5 _).mono ?_); rintro e w' ⟨rfl, hx⟩)
      | (go_at_call 32; (with_reducible refine (c2 _).mono ?_); rintro e w' ⟨rfl, hx⟩)
      | (go_at_call 32; (with_reducible refine (c4 _).mono ?_); rintro e w' ⟨rfl, hx⟩))
    all_goals
      go_wp2_with (first
        | (go_at_call 34; refine (cnn _).mono ?_; rintro e w7 ⟨rfl, h7⟩)
        | (go_at_call 42; refine (csn _).mono ?_; rintro e w8 ⟨rfl, h8⟩))
      go_ret
      exact ⟨rfl, below_then (below_then (below_then hV (held_below (by assumption))) h7) h8⟩
  · obtain rfl : s = 18446744073709551615 := by omega
    have hV := hW
    have d1 : ∀ w : World, Calls Try.prog 34 #[.int .u64 18446744073709551615, .int .u64 18446744073709551615] w fun e w' => e = .returned (.agg #[.int .u64 sh, .int .u64 sl]) ∧ Below w.heap.size w w' := c1
    clear h1 P R M x1 x2 c1
    simp only [Int.cast_ofNat_Int]
    go_upto_region 3 with fail
    go_cut [36] (fun t wx => t = .bool false ∧ Below w2.heap.size w2 wx)
    case first =>
      refine wp_region_held_drew (S := fun w' => (∀ b o, b < w2.heap.size → w'.cell? ⟨b, o, none⟩ = w2.cell? ⟨b, o, none⟩) ∧ Below w2.heap.size w2 w') (by kernel_rfl) (held_of (below_drew (Below.refl _ _))) (fun hHeld => ?_)
      refine wpAnyH_ready (rs := [0]) (by kernel_rfl) (by simp) ?_
      refine AllReadyH.cons rfl (fun K hK => ?_) AllReadyH.nil
      go_simp
      refine (awake2 _).mono ?_
      rintro e w3 ⟨rfl, hx3⟩
      have V3 := below_then (below_drew (Below.refl _ w2)) hx3
      refine hK.out _ _ ?_ (fun hHeld => ?_)
      · exact held_of V3
      clear hK K
      try simp only [Act.put, List.getElem_toArray, List.getElem_cons_zero, List.getElem_cons_succ, List.setIfInBounds_toArray, List.set_cons_zero, List.set_cons_succ]
      refine wpAnyH_take (i := 1) (v := ?_) rfl (by kernel_rfl) (by kernel_rfl) (by kernel_rfl) (fun _ _ _ h => h) (Or.inl ⟨by rfl, ?_⟩) (by assumption) ?_
      rotate_left
      · intro w hSw; (try dsimp only at hSw); go_simp; try (with_reducible rfl)
      try simp only [Act.put, List.getElem_toArray, List.getElem_cons_zero, List.getElem_cons_succ, List.setIfInBounds_toArray, List.set_cons_zero, List.set_cons_succ]
      refine wpAnyH_take (i := 2) (v := ?_) rfl (by kernel_rfl) (by kernel_rfl) (by kernel_rfl) (fun _ _ _ h => h) (Or.inl ⟨by rfl, ?_⟩) (by assumption) ?_
      rotate_left
      · intro w hSw; (try dsimp only at hSw); go_simp; try (with_reducible rfl)
      try simp only [Act.put, List.getElem_toArray, List.getElem_cons_zero, List.getElem_cons_succ, List.setIfInBounds_toArray, List.set_cons_zero, List.set_cons_succ]
      refine wpAnyH_take (i := 3) (v := ?_) rfl (by kernel_rfl) (by kernel_rfl) (by kernel_rfl) (fun _ _ _ h => h) (Or.inl ⟨by rfl, ?_⟩) (by assumption) ?_
      rotate_left
      · intro w hSw; (try dsimp only at hSw); go_simp; try (with_reducible rfl)
      try simp only [Act.put, List.getElem_toArray, List.getElem_cons_zero, List.getElem_cons_succ, List.setIfInBounds_toArray, List.set_cons_zero, List.set_cons_succ]
      refine wpAnyH_take (i := 4) (v := ?_) rfl (by kernel_rfl) (by kernel_rfl) (by kernel_rfl) (fun _ _ _ h => h) (Or.inl ⟨by rfl, ?_⟩) (by assumption) ?_
      rotate_left
      · intro w hSw; (try dsimp only at hSw); go_simp; try (with_reducible rfl)
      try simp only [Act.put, List.getElem_toArray, List.getElem_cons_zero, List.getElem_cons_succ, List.setIfInBounds_toArray, List.set_cons_zero, List.set_cons_succ]
      refine wpAnyH_take (i := 6) (v := ?_) rfl (by kernel_rfl) (by kernel_rfl) (by kernel_rfl) (fun _ _ _ h => h) (Or.inl ⟨by rfl, ?_⟩) (by assumption) ?_
      rotate_left
      · intro w hSw; (try dsimp only at hSw); go_simp; try (with_reducible rfl)
      try simp only [Act.put, List.getElem_toArray, List.getElem_cons_zero, List.getElem_cons_succ, List.setIfInBounds_toArray, List.set_cons_zero, List.set_cons_succ]
      refine wpAnyH_ready (rs := [5]) (by kernel_rfl) (by simp) ?_
      refine AllReadyH.cons rfl (fun K hK => ?_) AllReadyH.nil
      go_simp
      refine (d1 _).mono ?_
      rintro e w4 ⟨rfl, hx4⟩
      have V4 := below_then V3 hx4
      refine hK.out _ _ ?_ (fun hHeld => ?_)
      · exact held_of V4
      clear hK K
      try simp only [Act.put, List.getElem_toArray, List.getElem_cons_zero, List.getElem_cons_succ, List.setIfInBounds_toArray, List.set_cons_zero, List.set_cons_succ]
      refine wpAnyH_ready (rs := [7]) (by kernel_rfl) (by simp) ?_
      refine AllReadyH.cons rfl (fun K hK => ?_) AllReadyH.nil
      go_simp
      refine (c2 _).mono ?_
      rintro e w5 ⟨rfl, hx5⟩
      have V5 := below_then V4 hx5
      refine hK.out _ _ ?_ (fun hHeld => ?_)
      · exact held_of V5
      clear hK K
      try simp only [Act.put, List.getElem_toArray, List.getElem_cons_zero, List.getElem_cons_succ, List.setIfInBounds_toArray, List.set_cons_zero, List.set_cons_succ]
      refine wpAnyH_take (i := 8) (v := ?_) rfl (by kernel_rfl) (by kernel_rfl) (by kernel_rfl) (fun _ _ _ h => h) (Or.inl ⟨by rfl, ?_⟩) (by assumption) ?_
      rotate_left
      · intro w hSw; (try dsimp only at hSw); go_simp; try (with_reducible rfl)
      try simp only [Act.put, List.getElem_toArray, List.getElem_cons_zero, List.getElem_cons_succ, List.setIfInBounds_toArray, List.set_cons_zero, List.set_cons_succ]
      refine wpAnyH_take (i := 9) (v := ?_) rfl (by kernel_rfl) (by kernel_rfl) (by kernel_rfl) (fun _ _ _ h => h) (Or.inl ⟨by rfl, ?_⟩) (by assumption) ?_
      rotate_left
      · intro w hSw; (try dsimp only at hSw); go_simp; try (with_reducible rfl)
      try simp only [Act.put, List.getElem_toArray, List.getElem_cons_zero, List.getElem_cons_succ, List.setIfInBounds_toArray, List.set_cons_zero, List.set_cons_succ]
      refine wpAnyH_take (i := 10) (v := ?_) rfl (by kernel_rfl) (by kernel_rfl) (by kernel_rfl) (fun _ _ _ h => h) (Or.inl ⟨by rfl, ?_⟩) (by assumption) ?_
      rotate_left
      · intro w hSw; (try dsimp only at hSw); go_simp; try (with_reducible rfl)
      try simp only [Act.put, List.getElem_toArray, List.getElem_cons_zero, List.getElem_cons_succ, List.setIfInBounds_toArray, List.set_cons_zero, List.set_cons_succ]
      refine wpAnyH_take (i := 11) (v := ?_) rfl (by kernel_rfl) (by kernel_rfl) (by kernel_rfl) (fun _ _ _ h => h) (Or.inl ⟨by rfl, ?_⟩) (by assumption) ?_
      rotate_left
      · intro w hSw; (try dsimp only at hSw); go_simp; try (with_reducible rfl)
      try simp only [Act.put, List.getElem_toArray, List.getElem_cons_zero, List.getElem_cons_succ, List.setIfInBounds_toArray, List.set_cons_zero, List.set_cons_succ]
      refine wpAnyH_take (i := 12) (v := ?_) rfl (by kernel_rfl) (by kernel_rfl) (by kernel_rfl) (fun _ _ _ h => h) (Or.inl ⟨by rfl, ?_⟩) (by assumption) ?_
      rotate_left
      · intro w hSw; (try dsimp only at hSw); go_simp; try (with_reducible rfl)
      try simp only [Act.put, List.getElem_toArray, List.getElem_cons_zero, List.getElem_cons_succ, List.setIfInBounds_toArray, List.set_cons_zero, List.set_cons_succ]
      refine wpAnyH_take (i := 13) (v := ?_) rfl (by kernel_rfl) (by kernel_rfl) (by kernel_rfl) (fun _ _ _ h => h) (Or.inl ⟨by rfl, ?_⟩) (by assumption) ?_
      rotate_left
      · intro w hSw; (try dsimp only at hSw); go_simp; try (with_reducible rfl)
      try simp only [Act.put, List.getElem_toArray, List.getElem_cons_zero, List.getElem_cons_succ, List.setIfInBounds_toArray, List.set_cons_zero, List.set_cons_succ]
      refine wpAnyH_take (i := 14) (v := undef) rfl (by kernel_rfl) (by kernel_rfl) (by kernel_rfl) (fun _ _ _ h => h) (Or.inr ⟨by rfl, rfl⟩) (by assumption) ?_
      try simp only [Act.put, List.getElem_toArray, List.getElem_cons_zero, List.getElem_cons_succ, List.setIfInBounds_toArray, List.set_cons_zero, List.set_cons_succ]
      refine wpAnyH_take (i := 15) (v := undef) rfl (by kernel_rfl) (by kernel_rfl) (by kernel_rfl) (fun _ _ _ h => h) (Or.inr ⟨by rfl, rfl⟩) (by assumption) ?_
      try simp only [Act.put, List.getElem_toArray, List.getElem_cons_zero, List.getElem_cons_succ, List.setIfInBounds_toArray, List.set_cons_zero, List.set_cons_succ]
      refine wpAnyH_take (i := 16) (v := undef) rfl (by kernel_rfl) (by kernel_rfl) (by kernel_rfl) (fun _ _ _ h => h) (Or.inr ⟨by rfl, rfl⟩) (by assumption) ?_
      try simp only [Act.put, List.getElem_toArray, List.getElem_cons_zero, List.getElem_cons_succ, List.setIfInBounds_toArray, List.set_cons_zero, List.set_cons_succ]
      refine wpAnyH_take (i := 17) (v := undef) rfl (by kernel_rfl) (by kernel_rfl) (by kernel_rfl) (fun _ _ _ h => h) (Or.inr ⟨by rfl, rfl⟩) (by assumption) ?_
      try simp only [Act.put, List.getElem_toArray, List.getElem_cons_zero, List.getElem_cons_succ, List.setIfInBounds_toArray, List.set_cons_zero, List.set_cons_succ]
      refine wpAnyH_take (i := 18) (v := undef) rfl (by kernel_rfl) (by kernel_rfl) (by kernel_rfl) (fun _ _ _ h => h) (Or.inr ⟨by rfl, rfl⟩) (by assumption) ?_
      try simp only [Act.put, List.getElem_toArray, List.getElem_cons_zero, List.getElem_cons_succ, List.setIfInBounds_toArray, List.set_cons_zero, List.set_cons_succ]
      refine wpAnyH_take (i := 19) (v := undef) rfl (by kernel_rfl) (by kernel_rfl) (by kernel_rfl) (fun _ _ _ h => h) (Or.inr ⟨by rfl, rfl⟩) (by assumption) ?_
      try simp only [Act.put, List.getElem_toArray, List.getElem_cons_zero, List.getElem_cons_succ, List.setIfInBounds_toArray, List.set_cons_zero, List.set_cons_succ]
      refine wpAnyH_take (i := 20) (v := undef) rfl (by kernel_rfl) (by kernel_rfl) (by kernel_rfl) (fun _ _ _ h => h) (Or.inr ⟨by rfl, rfl⟩) (by assumption) ?_
      try simp only [Act.put, List.getElem_toArray, List.getElem_cons_zero, List.getElem_cons_succ, List.setIfInBounds_toArray, List.set_cons_zero, List.set_cons_succ]
      refine wpAnyH_take (i := 21) (v := undef) rfl (by kernel_rfl) (by kernel_rfl) (by kernel_rfl) (fun _ _ _ h => h) (Or.inr ⟨by rfl, rfl⟩) (by assumption) ?_
      try simp only [Act.put, List.getElem_toArray, List.getElem_cons_zero, List.getElem_cons_succ, List.setIfInBounds_toArray, List.set_cons_zero, List.set_cons_succ]
      refine wpAnyH_take (i := 22) (v := ?_) rfl (by kernel_rfl) (by kernel_rfl) (by kernel_rfl) (fun _ _ _ h => h) (Or.inl ⟨by rfl, ?_⟩) (by assumption) ?_
      rotate_left
      · intro w hSw; (try dsimp only at hSw); go_simp; try (with_reducible rfl)
      try simp only [Act.put, List.getElem_toArray, List.getElem_cons_zero, List.getElem_cons_succ, List.setIfInBounds_toArray, List.set_cons_zero, List.set_cons_succ]
      refine wpAnyH_take (i := 23) (v := ?_) rfl (by kernel_rfl) (by kernel_rfl) (by kernel_rfl) (fun _ _ _ h => h) (Or.inl ⟨by rfl, ?_⟩) (by assumption) ?_
      rotate_left
      · intro w hSw; (try dsimp only at hSw); go_simp; try (with_reducible rfl)
      try simp only [Act.put, List.getElem_toArray, List.getElem_cons_zero, List.getElem_cons_succ, List.setIfInBounds_toArray, List.set_cons_zero, List.set_cons_succ]
      refine wpAnyH_done (by kernel_rfl) ?_ _
      go_wp2_with fail
      go_meet
      exact ⟨rfl, V5⟩
    case rest =>
      obtain ⟨rfl, hcut⟩ := hcut
      go_wp2_with (first
        | (go_at_call 34; refine (cnn _).mono ?_; rintro e w7 ⟨rfl, h7⟩)
        | (go_at_call 42; refine (csn _).mono ?_; rintro e w8 ⟨rfl, h8⟩))
      go_ret
      exact ⟨rfl, below_then (below_then (below_then hV hcut) h7) h8⟩
end Go.Proofs.Ytfeopnnobbcjjaa
