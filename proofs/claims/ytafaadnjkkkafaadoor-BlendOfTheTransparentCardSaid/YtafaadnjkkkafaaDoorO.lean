/-
  The laws of layer 2 (wide), walked: each returns true for all arguments in their ranges.
-/
import Derived.Test.YtafaadnjkkkafaaDoorN
import Derived.Deep.DeepMust
import Derived.Deep.RegionHeld3
namespace Go.Proofs.YtafaadnjkkkafaaDoor
open Go.RowKit
set_option linter.unusedVariables false

theorem Box2.lt {w : World} {b : Nat} {x y : Value} (h : Box2 w b x y) : b < w.heap.size := World.block_lt_of_cell? w ⟨b, 0, none⟩ h.1
theorem Box2.thru {w v w' : World} {b : Nat} {x y : Value} (h : Box2 w b x y) (hx : Below v.heap.size v w') (hm : Below w.heap.size w v) : Box2 w' b x y :=
  (h.keep hm h.lt).keep hx (Nat.lt_of_lt_of_le h.lt hm.size)

theorem held_of {v w' : World} (h : Below v.heap.size v w') : (∀ b o, b < v.heap.size → w'.cell? ⟨b, o, none⟩ = v.cell? ⟨b, o, none⟩) ∧ Below v.heap.size v w' := ⟨fun b o hb => (bcell h).1 b o hb, h⟩
theorem held_then {v a b : World} (h : (∀ i o, i < v.heap.size → a.cell? ⟨i, o, none⟩ = v.cell? ⟨i, o, none⟩) ∧ Below v.heap.size v a) (k : Below a.heap.size a b) :
    (∀ i o, i < v.heap.size → b.cell? ⟨i, o, none⟩ = v.cell? ⟨i, o, none⟩) ∧ Below v.heap.size v b := held_of (below_then h.2 k)

theorem held_alloc {v a : World} (h : (∀ i o, i < v.heap.size → a.cell? ⟨i, o, none⟩ = v.cell? ⟨i, o, none⟩) ∧ Below v.heap.size v a) (o : Obj) :
    (∀ i p, i < v.heap.size → (a.alloc o).cell? ⟨i, p, none⟩ = v.cell? ⟨i, p, none⟩) ∧ Below v.heap.size v (a.alloc o) := held_of (below_alloc h.2 o)
theorem held_set {v a : World} (h : (∀ i o, i < v.heap.size → a.cell? ⟨i, o, none⟩ = v.cell? ⟨i, o, none⟩) ∧ Below v.heap.size v a) (p : Addr) (hp : v.heap.size ≤ p.block) (u : Value) :
    (∀ i q, i < v.heap.size → (a.setCell p u).cell? ⟨i, q, none⟩ = v.cell? ⟨i, q, none⟩) ∧ Below v.heap.size v (a.setCell p u) := held_of (below_set h.2 hp u)

theorem held_below {v a : World} (h : (∀ i o, i < v.heap.size → a.cell? ⟨i, o, none⟩ = v.cell? ⟨i, o, none⟩) ∧ Below v.heap.size v a) : Below v.heap.size v a := h.2

theorem held_un {v a : World} {o : Obj} (h : (∀ i p, i < v.heap.size → (a.alloc o).cell? ⟨i, p, none⟩ = v.cell? ⟨i, p, none⟩) ∧ Below v.heap.size v (a.alloc o)) (hz : v.heap.size ≤ a.heap.size) : Below v.heap.size v a :=
  ⟨h.2.os, h.2.tape, h.2.output, hz, fun k hk => by rw [← Below.heap_alloc a o k (Nat.lt_of_lt_of_le hk hz)]; exact h.2.block k hk⟩

theorem wide_mul_at (a b hi lo : Nat) (ha : a < 18446744073709551616) (hb : b < 18446744073709551616) (h : Word2 (a * b) hi lo) (w : World) :
    Calls Tryd.prog 61 #[.int .u64 a, .int .u64 b] w fun e w' => e = .returned (.agg #[.int .u64 hi, .int .u64 lo]) ∧ Below w.heap.size w w' :=
  (wide_mul a b ha hb w).mono fun e w' ⟨p, q, he, k, hx⟩ => ⟨by obtain ⟨h1, h2⟩ := h.unique k; rw [he, h1, h2], hx⟩
theorem ref_mul_at (a b hi lo : Nat) (ha : a < 18446744073709551616) (hb : b < 18446744073709551616) (h : Word2 (a * b) hi lo) (w : World) :
    Calls Tryd.prog 46 #[.int .u64 a, .int .u64 b] w fun e w' => e = .returned (.agg #[.int .u64 hi, .int .u64 lo]) ∧ Below w.heap.size w w' :=
  (ref_mul a b ha hb w).mono fun e w' ⟨p, q, he, k, hx⟩ => ⟨by obtain ⟨h1, h2⟩ := h.unique k; rw [he, h1, h2], hx⟩
theorem word2_mul (a b : Nat) (ha : a < 18446744073709551616) (hb : b < 18446744073709551616) : ∃ hi lo, Word2 (a * b) hi lo :=
  word2_of _ (Nat.lt_of_le_of_lt (Nat.mul_le_mul (by omega : a ≤ 18446744073709551615) (by omega : b ≤ 18446744073709551615)) (by decide))

end Go.Proofs.YtafaadnjkkkafaaDoor
