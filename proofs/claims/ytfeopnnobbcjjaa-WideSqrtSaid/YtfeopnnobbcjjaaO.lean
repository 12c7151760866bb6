/-
  The laws of layer 2 (wide), walked: each returns true for all arguments in their ranges.
-/
import Derived.Test.YtfeopnnobbcjjaaN
import Derived.Deep.DeepMust
import Derived.Deep.RegionHeld3
namespace Go.Proofs.Ytfeopnnobbcjjaa
open Go.RowKit
set_option linter.unusedVariables false

theorem Box2.lt {w : World} {b : Nat} {x y : Value} (h : Box2 w b x y) : b < w.heap.size := World.block_lt_of_cell? w ⟨b, 0, none⟩ h.1
theorem Box2.thru {w v w' : World} {b : Nat} {x y : Value} (h : Box2 w b x y) (hx : Below v.heap.size v w') (hm : Below w.heap.size w v) : Box2 w' b x y :=
  (h.keep hm h.lt).keep hx (Nat.lt_of_lt_of_le h.lt hm.size)

theorem held_of {v w' : World} (h : Below v.heap.size v w') : (∀ b o, b < v.heap.size → w'.cell? ⟨b, o, none⟩ = v.cell? ⟨b, o, none⟩) ∧ Below v.heap.size v w' := ⟨fun b o hb => (bcell h).1 b o hb, h⟩
theorem held_then {v a b : World} (h : (∀ i o, i < v.heap.size → a.cell? ⟨i, o, none⟩ = v.cell? ⟨i, o, none⟩) ∧ Below v.heap.size v a) (k : Below a.heap.size a b) :
    (∀ i o, i < v.heap.size → b.cell? ⟨i, o, none⟩ = v.cell? ⟨i, o, none⟩) ∧ Below v.heap.size v b := held_of (below_then h.2 k)

theorem held_alloc {v a : World} (h : (∀ i o, i < v.heap.size → a.cell? ⟨i, o, none⟩ = v.cell? ⟨i, o, none⟩) ∧ Below v.heap.size v a) (o : Obj) :
    (∀ i p, i < v.heap.size → (a.alloc o).cell? ⟨i, p, none⟩ = v.cell? ⟨i, p, none⟩) ∧ Below v.heap.size v (a.alloc o) := held_of (below_alloc h.2 o)
theorem held_set {v a : World} (h : (∀ i o, i < v.heap.size → a.cell? ⟨i, o, none⟩ = v.cell? ⟨i, o, none⟩) ∧ Below v.heap.size v a) (p : Addr) (hp : v.heap.size ≤ p.block) (u : Value) :
    (∀ i q, i < v.heap.size → (a.setCell p u).cell? ⟨i, q, none⟩ = v.cell? ⟨i, q, none⟩) ∧ Below v.heap.size v (a.setCell p u) := held_of (below_set h.2 hp u)

theorem held_below {v a : World} (h : (∀ i o, i < v.heap.size → a.cell? ⟨i, o, none⟩ = v.cell? ⟨i, o, none⟩) ∧ Below v.heap.size v a) : Below v.heap.size v a := h.2

theorem held_un {v a : World} {o : Obj} (h : (∀ i p, i < v.heap.size → (a.alloc o).cell? ⟨i, p, none⟩ = v.cell? ⟨i, p, none⟩) ∧ Below v.heap.size v (a.alloc o)) (hz : v.heap.size ≤ a.heap.size) : Below v.heap.size v a :=
  ⟨h.2.os, h.2.tape, h.2.output, hz, fun k hk => by rw [← Below.heap_alloc a o k (Nat.lt_of_lt_of_le hk hz)]; exact h.2.block k hk⟩

theorem wide_mul_at (a b hi lo : Nat) (ha : a < 18446744073709551616) (hb : b < 18446744073709551616) (h : Word2 (a * b) hi lo) (w : World) :
    Calls Try.prog 33 #[.int .u64 a, .int .u64 b] w fun e w' => e = .returned (.agg #[.int .u64 hi, .int .u64 lo]) ∧ Below w.heap.size w w' :=
  (wide_mul a b ha hb w).mono fun e w' ⟨p, q, he, k, hx⟩ => ⟨by obtain ⟨h1, h2⟩ := h.unique k; rw [he, h1, h2], hx⟩
theorem ref_mul_at (a b hi lo : Nat) (ha : a < 18446744073709551616) (hb : b < 18446744073709551616) (h : Word2 (a * b) hi lo) (w : World) :
    Calls Try.prog 34 #[.int .u64 a, .int .u64 b] w fun e w' => e = .returned (.agg #[.int .u64 hi, .int .u64 lo]) ∧ Below w.heap.size w w' :=
  (ref_mul a b ha hb w).mono fun e w' ⟨p, q, he, k, hx⟩ => ⟨by obtain ⟨h1, h2⟩ := h.unique k; rw [he, h1, h2], hx⟩
theorem word2_mul (a b : Nat) (ha : a < 18446744073709551616) (hb : b < 18446744073709551616) : ∃ hi lo, Word2 (a * b) hi lo :=
  word2_of _ (Nat.lt_of_le_of_lt (Nat.mul_le_mul (by omega : a ≤ 18446744073709551615) (by omega : b ≤ 18446744073709551615)) (by decide))

theorem near_any (hi lo : Nat) (k : Int) (h1 : hi < 18446744073709551616) (h2 : lo < 18446744073709551616) (w : World) :
    Calls Try.prog 25 #[.agg #[.int .u64 hi, .int .u64 lo], .int .i64 k] w fun e w' => ∃ a b : Nat, e = .returned (.agg #[.int .u64 a, .int .u64 b]) ∧ a < 18446744073709551616 ∧ b < 18446744073709551616 ∧ Below w.heap.size w w' := by
  have c1 : ∀ (q : Int) (w : World), Calls Try.prog 16 #[.int .i64 q, .int .i64 3] w fun e w' => ∃ n : Nat, e = .returned (.int .i64 n) ∧ n < 3 ∧ w = w' := fun q w =>
    (mod_any q 3 (by omega) (by omega) w).mono fun e w' ⟨he, hw⟩ => ⟨(q % 3).toNat, by rw [he, Int.toNat_of_nonneg (by omega)], by omega, hw⟩
  have c2 := mod_any k 4 (by omega) (by omega)
  obtain ⟨m, hm, hm4⟩ : ∃ m : Nat, k % 4 = m ∧ m < 4 := ⟨(k % 4).toNat, by omega, by omega⟩
  rw [hm] at c2
  clear hm
  match m, hm4 with
  | 0, _ =>
    go_enter Try.func25, Try.ntmps25
    go_wp2_with fail
    refine (c1 _ _).mono ?_
    rintro e w1 ⟨n, rfl, hn, rfl⟩
    go_wp2_with fail
    refine (c2 _).mono ?_
    rintro e w1 ⟨rfl, rfl⟩
    go_wp2
    refine bodyPost_ret (v := .agg #[.int .u64 ((0 : Nat) : Int), .int .u64 lo]) (by simp [results, Try.results25, go_sem]) rfl ⟨0, lo, rfl, by omega, h2, ?_⟩
    repeat (first | exact Below.refl _ _ | refine below_alloc ?_ _ | refine below_set ?_ (by simp <;> omega) _)
  | 1, _ =>
    go_enter Try.func25, Try.ntmps25
    go_wp2_with fail
    refine (c1 _ _).mono ?_
    rintro e w1 ⟨n, rfl, hn, rfl⟩
    go_wp2_with fail
    refine (c2 _).mono ?_
    rintro e w1 ⟨rfl, rfl⟩
    go_wp2
    refine bodyPost_ret (v := .agg #[.int .u64 hi, .int .u64 n]) (by simp [results, Try.results25, go_sem]) rfl ⟨hi, n, rfl, h1, by omega, ?_⟩
    repeat (first | exact Below.refl _ _ | refine below_alloc ?_ _ | refine below_set ?_ (by simp <;> omega) _)
  | 2, _ =>
    go_enter Try.func25, Try.ntmps25
    go_wp2_with fail
    refine (c1 _ _).mono ?_
    rintro e w1 ⟨n, rfl, hn, rfl⟩
    go_wp2_with fail
    refine (c2 _).mono ?_
    rintro e w1 ⟨rfl, rfl⟩
    go_wp2
    refine bodyPost_ret (v := .agg #[.int .u64 hi, .int .u64 (18446744073709551615 - (n : Int))]) (by simp [results, Try.results25, go_sem]) rfl ⟨hi, 18446744073709551615 - n, ?_, h1, by omega, ?_⟩
    · rw [show (18446744073709551615 - (n : Int)) = ((18446744073709551615 - n : Nat) : Int) by omega]
    repeat (first | exact Below.refl _ _ | refine below_alloc ?_ _ | refine below_set ?_ (by simp <;> omega) _)
  | 3, _ =>
    go_enter Try.func25, Try.ntmps25
    go_wp2_with fail
    refine (c1 _ _).mono ?_
    rintro e w1 ⟨n, rfl, hn, rfl⟩
    go_wp2_with fail
    refine (c2 _).mono ?_
    rintro e w1 ⟨rfl, rfl⟩
    go_wp2
    refine bodyPost_ret (v := .agg #[.int .u64 hi, .int .u64 lo]) (by simp [results, Try.results25, go_sem]) rfl ⟨hi, lo, rfl, h1, h2, ?_⟩
    repeat (first | exact Below.refl _ _ | refine below_alloc ?_ _ | refine below_set ?_ (by simp <;> omega) _)

theorem awake2 (w : World) : Calls Try.prog 30 #[] w fun e w' => e = .returned (.bool true) ∧ Below w.heap.size w w' := by
  have eq := eql_u128
  have c1 : ∀ w : World, Calls Try.prog 38 #[.agg #[.int .u64 1, .int .u64 0], .int .u64 3] w fun e w' => e = .returned (.tuple #[.agg #[.int .u64 0, .int .u64 6148914691236517205], .int .u64 1, .bool true]) ∧ Below w.heap.size w w' := fun w => by
    refine (wide_divmod 1 0 3 18446744073709551616 ⟨by omega, by omega, by omega⟩ (by omega) (by omega) w).mono ?_
    rintro e w' ⟨a, b, rfl, ⟨h1, h2, h3⟩, hb⟩
    obtain rfl : a = 0 := by omega
    obtain rfl : b = 6148914691236517205 := by omega
    exact ⟨rfl, hb⟩
  have c2 : ∀ w : World, Calls Try.prog 33 #[.int .u64 1099511627776, .int .u64 1099511627776] w fun e w' => e = .returned (.agg #[.int .u64 65536, .int .u64 0]) ∧ Below w.heap.size w w' := fun w => by
    refine (wide_mul 1099511627776 1099511627776 (by omega) (by omega) w).mono ?_
    rintro e w' ⟨a, b, rfl, ⟨h1, h2, h3⟩, hb⟩
    obtain rfl : a = 65536 := by omega
    obtain rfl : b = 0 := by omega
    exact ⟨rfl, hb⟩
  have c3 : ∀ w : World, Calls Try.prog 42 #[.agg #[.int .u64 1, .int .u64 0]] w fun e w' => e = .returned (.int .u64 4294967296) ∧ Below w.heap.size w w' := fun w =>
    wide_sqrt 1 0 18446744073709551616 4294967296 ⟨by omega, by omega, by omega⟩ ⟨by omega, by omega⟩ w
  go_enter Try.func30, Try.ntmps30
  go_wp2_with fail
  refine (c1 _).mono ?_
  rintro e w1 ⟨rfl, hb1⟩
  go_wp2_with fail
  refine (c2 _).mono ?_
  rintro e w2 ⟨rfl, hb2⟩
  have hb3 : Below w.heap.size w w2 := below_then (by repeat (first | assumption | exact Below.refl _ _ | refine below_alloc ?_ _ | refine below_drew ?_ | refine below_drewn ?_ _ | refine below_set ?_ (by simp <;> omega) _)) hb2
  have ⟨hc2, hf2⟩ := bcell hb2
  have hz2 : w1.heap.size < w2.heap.size := by have := hb2.size; simp at this; omega
  clear hb2 hf2
  go_wp2_with fail
  refine (c3 _).mono ?_
  rintro e w3 ⟨rfl, hb4⟩
  have hb5 : Below w.heap.size w w3 := below_then hb3 hb4
  go_wp2
  go_ret
  exact ⟨rfl, (by repeat (first | assumption | exact Below.refl _ _ | refine below_alloc ?_ _ | refine below_drew ?_ | refine below_drewn ?_ _ | refine below_set ?_ (by simp <;> omega) _))⟩
end Go.Proofs.Ytfeopnnobbcjjaa
