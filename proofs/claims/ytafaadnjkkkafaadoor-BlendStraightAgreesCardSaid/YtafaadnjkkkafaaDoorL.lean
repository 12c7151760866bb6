/-
  Contracts of wide.MulSmall and the specification's Sub and MulSmall on two words.
-/
import Derived.Test.YtafaadnjkkkafaaDoorK
namespace Go.Proofs.YtafaadnjkkkafaaDoor
open Go.RowKit
set_option linter.unusedVariables false

set_option maxRecDepth 100000 in
theorem ref_sub_yes (xh xl yh yl x y : Nat) (hx : Word2 x xh xl) (hy : Word2 y yh yl) (h : y ≤ x) (w : World) :
    Calls Tryd.prog 35 #[.agg #[.int .u64 xh, .int .u64 xl], .agg #[.int .u64 yh, .int .u64 yl]] w fun e w' => ∃ hi lo : Nat, e = .returned (.tuple #[.agg #[.int .u64 hi, .int .u64 lo], .bool true]) ∧ Word2 (x - y) hi lo ∧ Below w.heap.size w w' := by
  have cc := ref_compare xh xl yh yl x y hx hy
  have hcm : ¬ (cmp3 x y < 0) := by
    rcases Nat.lt_or_eq_of_le h with k | k
    · rw [cmp3_gt k]; decide
    · subst k; rw [cmp3_eq]; decide
  generalize cmp3 x y = cm at *
  obtain ⟨ex, hxl, hxh⟩ := hx
  obtain ⟨ey, hyl, hyh⟩ := hy
  obtain ⟨t, ht⟩ : ∃ t : Nat, t = if xl < yl + 0 then 1 else 0 := ⟨if xl < yl + 0 then 1 else 0, rfl⟩
  obtain ⟨s, hs⟩ : ∃ s : Nat, s = (xl + 18446744073709551616 - yl - 0) % 18446744073709551616 := ⟨(xl + 18446744073709551616 - yl - 0) % 18446744073709551616, rfl⟩
  have ht1 : t ≤ 1 := by rw [ht]; split <;> omega
  obtain ⟨g, hg⟩ : ∃ g : Nat, g = xh - yh - t := ⟨_, rfl⟩
  have a1 : ∀ w, (callFunc 48 #[.int .u64 (xl : Int), .int .u64 (yl : Int), .int .u64 0]).run Tryd.prog w = .ok (.value (.tuple #[.int .u64 (s : Int), .int .u64 (t : Int)])) w := sub64_run xl yl 0 s t (by omega) hs ht
  have K : Word2 (x - y) g s ∧ yh + t ≤ xh ∧ g < 18446744073709551616 := by
    by_cases q : xl < yl + 0
    · rw [if_pos q] at ht; subst ht ex ey; clear a1; exact ⟨⟨by omega, by omega, by omega⟩, by omega, by omega⟩
    · rw [if_neg q] at ht; subst ht ex ey; clear a1; exact ⟨⟨by omega, by omega, by omega⟩, by omega, by omega⟩
  obtain ⟨K, hle, hgl⟩ := K
  have hw1 : IntKind.u64.wrap ((xh : Int) - yh) = ((xh - yh : Nat) : Int) := by rw [IntKind.wrap_u64]; omega
  have hw2 : IntKind.u64.wrap (((xh - yh : Nat) : Int) - t) = (g : Int) := by rw [IntKind.wrap_u64]; omega
  have hle1 : (yh : Int) + t ≤ xh := by omega
  clear h ex ey ht hg hs
  go_enter Tryd.func35, Tryd.ntmps35
  go_wp2_with (go_at_call 47; refine (cc _).mono ?_; rintro e w1 ⟨rfl, hb⟩; obtain ⟨hc, hf⟩ := bcell hb; have hz : w.heap.size + 2 < w1.heap.size := (by have := hb.size; simp at this; omega))
  refine bodyPost_ret (v := .tuple #[.agg #[.int .u64 g, .int .u64 s], .bool true]) (by simp [results, Tryd.results35, go_sem, hc]) rfl ⟨g, s, rfl, K, ?_⟩
  repeat (first | exact below_then (below_alloc (below_alloc (below_alloc (Below.refl _ _) _) _) _) hb | refine below_alloc ?_ _ | refine below_set ?_ (by simp; omega) _)

set_option maxRecDepth 100000 in
theorem ref_sub_no (xh xl yh yl x y : Nat) (hx : Word2 x xh xl) (hy : Word2 y yh yl) (h : ¬ y ≤ x) (w : World) :
    Calls Tryd.prog 35 #[.agg #[.int .u64 xh, .int .u64 xl], .agg #[.int .u64 yh, .int .u64 yl]] w fun e w' => e = .returned (.tuple #[.agg #[.int .u64 0, .int .u64 0], .bool false]) ∧ Below w.heap.size w w' := by
  have cc := ref_compare xh xl yh yl x y hx hy
  rw [cmp3_lt (by omega)] at cc
  go_enter Tryd.func35, Tryd.ntmps35
  go_wp2_with (go_at_call 47; refine (cc _).mono ?_; rintro e w1 ⟨rfl, hb⟩; obtain ⟨hc, hf⟩ := bcell hb; have hz : w.heap.size + 2 < w1.heap.size := (by have := hb.size; simp at this; omega))
  refine bodyPost_ret (v := .tuple #[.agg #[.int .u64 0, .int .u64 0], .bool false]) (by simp [results, Tryd.results35, go_sem, hc]) rfl ⟨rfl, ?_⟩
  repeat (first | exact below_then (below_alloc (below_alloc (below_alloc (Below.refl _ _) _) _) _) hb | refine below_alloc ?_ _ | refine below_set ?_ (by simp; omega) _)

theorem mul_split {n ah al k : Nat} (h : Word2 n ah al) (m l o p : Nat) (e1 : al * k = m * 18446744073709551616 + l) (e2 : ah * k = o * 18446744073709551616 + p) :
    n * k = (o * 18446744073709551616 + p + m) * 18446744073709551616 + l := by
  rw [← h.1, Nat.add_mul, Nat.mul_right_comm, e1, e2]; omega

set_option maxRecDepth 100000 in
theorem wide_mulsmall_yes (ah al n k : Nat) (hn : Word2 n ah al) (hk : k < 18446744073709551616) (h : n * k < 340282366920938463463374607431768211456) (w : World) :
    Calls Tryd.prog 51 #[.agg #[.int .u64 ah, .int .u64 al], .int .u64 k] w fun e w' => ∃ hi lo : Nat, e = .returned (.tuple #[.agg #[.int .u64 hi, .int .u64 lo], .bool true]) ∧ Word2 (n * k) hi lo ∧ Below w.heap.size w w' := by
  have M := mul_split hn (k := k)
  obtain ⟨en, hal, hah⟩ := hn
  clear en
  have c1 := mul64 ah k hah hk
  have c2 := mul64 al k hal hk
  go_enter Tryd.func51, Tryd.ntmps51
  go_wp2_with fail
  refine (c1 _).mono ?_
  rintro e w1 ⟨o, p, rfl, H1, rfl⟩
  go_wp2_with fail
  refine (c2 _).mono ?_
  rintro e w1 ⟨m, l, rfl, H2, rfl⟩
  have M' := M m l o p H2.1.symm H1.1.symm
  obtain rfl : o = 0 := by omega
  obtain ⟨g, hg⟩ : ∃ g, p + m + 0 = 0 * 18446744073709551616 + g := ⟨p + m, by omega⟩
  have hgl : g < 18446744073709551616 := by omega
  have a1 : ∀ w, (callFunc 58 #[.int .u64 (p : Int), .int .u64 (m : Int), .int .u64 0]).run Tryd.prog w = .ok (.value (.tuple #[.int .u64 (g : Int), .int .u64 0])) w := add64_run p m 0 g 0 H1.2.1 H2.2.2 (by omega) hg hgl
  have K : Word2 (n * k) g l := ⟨by rw [M']; omega, H2.2.1, hgl⟩
  clear M M' hg H1 H2 h c1 c2
  go_wp2
  refine bodyPost_ret (v := .tuple #[.agg #[.int .u64 g, .int .u64 l], .bool true]) (by simp [results, Tryd.results51, go_sem]) rfl ⟨g, l, rfl, K, ?_⟩
  repeat (first | exact Below.refl _ _ | refine below_alloc ?_ _ | refine below_set ?_ (by simp; omega) _)

set_option maxRecDepth 100000 in
theorem wide_mulsmall_no (ah al n k : Nat) (hn : Word2 n ah al) (hk : k < 18446744073709551616) (h : ¬ n * k < 340282366920938463463374607431768211456) (w : World) :
    Calls Tryd.prog 51 #[.agg #[.int .u64 ah, .int .u64 al], .int .u64 k] w fun e w' => e = .returned (.tuple #[.agg #[.int .u64 0, .int .u64 0], .bool false]) ∧ Below w.heap.size w w' := by
  have M := mul_split hn (k := k)
  obtain ⟨en, hal, hah⟩ := hn
  clear en
  have c1 := mul64 ah k hah hk
  have c2 := mul64 al k hal hk
  go_enter Tryd.func51, Tryd.ntmps51
  go_wp2_with fail
  refine (c1 _).mono ?_
  rintro e w1 ⟨o, p, rfl, H1, rfl⟩
  go_wp2_with fail
  refine (c2 _).mono ?_
  rintro e w1 ⟨m, l, rfl, H2, rfl⟩
  have M' := M m l o p H2.1.symm H1.1.symm
  obtain ⟨h1, h2, h3⟩ := H1
  obtain ⟨k1, k2, k3⟩ := H2
  clear c1 c2 h1 k1 M
  obtain ⟨c, g, hg, hgl⟩ : ∃ c g, p + m + 0 = c * 18446744073709551616 + g ∧ g < 18446744073709551616 := ⟨(p + m) / 18446744073709551616, (p + m) % 18446744073709551616, by omega, by omega⟩
  have a1 : ∀ w, (callFunc 58 #[.int .u64 (p : Int), .int .u64 (m : Int), .int .u64 0]).run Tryd.prog w = .ok (.value (.tuple #[.int .u64 (g : Int), .int .u64 (c : Int)])) w := add64_run p m 0 g c h2 k3 (by omega) hg hgl
  by_cases ho : o = 0
  · subst ho
    have hc1 : ((c : Int) == 0) = false := by rw [beq_eq_false_iff_ne]; intro hc; rw [M'] at h; omega
    clear M' hg h
    go_wp2
    refine bodyPost_ret (v := .tuple #[.agg #[.int .u64 0, .int .u64 0], .bool false]) (by simp [results, Tryd.results51, go_sem]) rfl ⟨rfl, ?_⟩
    repeat (first | exact Below.refl _ _ | refine below_alloc ?_ _ | refine below_set ?_ (by simp; omega) _)
  · have ho1 : ((o : Int) == 0) = false := by rw [beq_eq_false_iff_ne]; omega
    clear M' hg h
    go_wp2
    refine bodyPost_ret (v := .tuple #[.agg #[.int .u64 0, .int .u64 0], .bool false]) (by simp [results, Tryd.results51, go_sem]) rfl ⟨rfl, ?_⟩
    repeat (first | exact Below.refl _ _ | refine below_alloc ?_ _ | refine below_set ?_ (by simp; omega) _)
end Go.Proofs.YtafaadnjkkkafaaDoor
