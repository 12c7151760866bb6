/-
  Contracts of the specification's Add, HalfWide and MulDiv: the sum below 2^128 or false, the nearest integer to n / d, the nearest integer to a b / d where it fits into a word.
-/
import Derived.Test.YtafaadnjkkkafaaDoorC
import Derived.Laws.Externs
import Derived.Deep.RegionWith
import Derived.Deep.DeepCutAuto
namespace Go.Proofs.YtafaadnjkkkafaaDoor
open Go.RowKit
set_option linter.unusedVariables false

theorem bcell {W w1 : World} (hb : Below W.heap.size W w1) : (∀ b o, b < W.heap.size → w1.cell? ⟨b, o, none⟩ = W.cell? ⟨b, o, none⟩) ∧ (∀ b o, b < W.heap.size → w1.frozen? ⟨b, o, none⟩ = W.frozen? ⟨b, o, none⟩) :=
  ⟨fun b o h => hb.cell (p := ⟨b, o, none⟩) h, fun b o h => hb.frozen (p := ⟨b, o, none⟩) h⟩

theorem add64_run (x y c s t : Nat) (hx : x < 18446744073709551616) (hy : y < 18446744073709551616) (hc : c ≤ 1) (h : x + y + c = t * 18446744073709551616 + s) (hs : s < 18446744073709551616) (w : World) :
    (callFunc 58 #[.int .u64 (x : Int), .int .u64 (y : Int), .int .u64 (c : Int)]).run Tryd.prog w = .ok (.value (.tuple #[.int .u64 (s : Int), .int .u64 (t : Int)])) w := by
  rw [run_callFunc_extern Tryd.func58 (by kernel_rfl) (by kernel_rfl) (by kernel_rfl) (e := add64Entry) (by kernel_rfl), run_add64 x y c (by omega) (by omega) (by omega) (by omega)]
  have e1 : ((x : Int) + y + c) % 18446744073709551616 = s := by omega
  have e2 : ((x : Int) + y + c) / 18446744073709551616 = t := by omega
  rw [e1, e2]
  simp only [Result.andThen]

set_option maxRecDepth 100000 in
theorem ref_add_yes (xh xl yh yl x y : Nat) (hx : Word2 x xh xl) (hy : Word2 y yh yl) (h : x + y < 340282366920938463463374607431768211456) (w : World) :
    Calls Tryd.prog 49 #[.agg #[.int .u64 xh, .int .u64 xl], .agg #[.int .u64 yh, .int .u64 yl]] w fun e w' => ∃ hi lo : Nat, e = .returned (.tuple #[.agg #[.int .u64 hi, .int .u64 lo], .bool true]) ∧ Word2 (x + y) hi lo ∧ Below w.heap.size w w' := by
  obtain ⟨ex, hxl, hxh⟩ := hx
  obtain ⟨ey, hyl, hyh⟩ := hy
  obtain ⟨t, s, ht, hs⟩ : ∃ t s, xl + yl + 0 = t * 18446744073709551616 + s ∧ s < 18446744073709551616 := ⟨(xl + yl) / 18446744073709551616, (xl + yl) % 18446744073709551616, by omega, by omega⟩
  have ht1 : t ≤ 1 := by omega
  obtain ⟨g, hg, hg1⟩ : ∃ g, xh + yh + t = 0 * 18446744073709551616 + g ∧ g < 18446744073709551616 := ⟨xh + yh + t, by omega, by omega⟩
  have a1 : ∀ w, (callFunc 58 #[.int .u64 (xl : Int), .int .u64 (yl : Int), .int .u64 0]).run Tryd.prog w = .ok (.value (.tuple #[.int .u64 (s : Int), .int .u64 (t : Int)])) w := add64_run xl yl 0 s t hxl hyl (by omega) ht hs
  have a2 : ∀ w, (callFunc 58 #[.int .u64 (xh : Int), .int .u64 (yh : Int), .int .u64 (t : Int)]).run Tryd.prog w = .ok (.value (.tuple #[.int .u64 (g : Int), .int .u64 0])) w := add64_run xh yh t g 0 hxh hyh ht1 hg hg1
  clear h
  have hg' : xh + yh + t = g := by omega
  have K : Word2 (x + y) g s := ⟨by subst ex ey hg'; omega, hs, hg1⟩
  clear hg'
  clear ex ey ht hg
  go_enter Tryd.func49, Tryd.ntmps49
  go_wp2
  refine bodyPost_ret (v := .tuple #[.agg #[.int .u64 g, .int .u64 s], .bool true]) (by simp [results, Tryd.results49, go_sem]) rfl ⟨g, s, rfl, K, ?_⟩
  · exact (((Below.refl _ _).alloc (Nat.le_refl _) _).alloc (by simp) _).alloc (by simp; omega) _

set_option maxRecDepth 100000 in
theorem ref_add_no (xh xl yh yl x y : Nat) (hx : Word2 x xh xl) (hy : Word2 y yh yl) (h : ¬ x + y < 340282366920938463463374607431768211456) (w : World) :
    Calls Tryd.prog 49 #[.agg #[.int .u64 xh, .int .u64 xl], .agg #[.int .u64 yh, .int .u64 yl]] w fun e w' => e = .returned (.tuple #[.agg #[.int .u64 0, .int .u64 0], .bool false]) ∧ Below w.heap.size w w' := by
  obtain ⟨ex, hxl, hxh⟩ := hx
  obtain ⟨ey, hyl, hyh⟩ := hy
  obtain ⟨t, s, ht, hs⟩ : ∃ t s, xl + yl + 0 = t * 18446744073709551616 + s ∧ s < 18446744073709551616 := ⟨(xl + yl) / 18446744073709551616, (xl + yl) % 18446744073709551616, by omega, by omega⟩
  have ht1 : t ≤ 1 := by omega
  obtain ⟨g, hg, hg1⟩ : ∃ g, xh + yh + t = 1 * 18446744073709551616 + g ∧ g < 18446744073709551616 := ⟨xh + yh + t - 18446744073709551616, by omega, by omega⟩
  have a1 : ∀ w, (callFunc 58 #[.int .u64 (xl : Int), .int .u64 (yl : Int), .int .u64 0]).run Tryd.prog w = .ok (.value (.tuple #[.int .u64 (s : Int), .int .u64 (t : Int)])) w := add64_run xl yl 0 s t hxl hyl (by omega) ht hs
  have a2 : ∀ w, (callFunc 58 #[.int .u64 (xh : Int), .int .u64 (yh : Int), .int .u64 (t : Int)]).run Tryd.prog w = .ok (.value (.tuple #[.int .u64 (g : Int), .int .u64 1])) w := add64_run xh yh t g 1 hxh hyh ht1 hg hg1
  clear ex ey h ht hg
  go_enter Tryd.func49, Tryd.ntmps49
  go_wp2
  refine bodyPost_ret (v := .tuple #[.agg #[.int .u64 0, .int .u64 0], .bool false]) (by simp [results, Tryd.results49, go_sem]) rfl ⟨rfl, ?_⟩
  exact (((Below.refl _ _).alloc (Nat.le_refl _) _).alloc (by simp) _).alloc (by simp; omega) _

theorem half_up {n d r : Nat} (h0 : 0 < d) (hr : r = n % d) (h : d - r ≤ r) : half n d = n / d + 1 := by
  unfold half
  rw [if_neg (by omega), if_pos (by rw [← hr]; exact h)]
theorem half_down {n d r : Nat} (h0 : 0 < d) (hr : r = n % d) (h : ¬ d - r ≤ r) : half n d = n / d := by
  unfold half
  rw [if_neg (by omega), if_neg (by rw [← hr]; exact h)]
theorem half_up_lt {n d r : Nat} (hlt : r < d) (h : d - r ≤ r) (hn : n < 340282366920938463463374607431768211456) : n / d + 1 < 340282366920938463463374607431768211456 := by
  have : n / d ≤ n / 2 := Nat.div_le_div_left (by omega) (by omega)
  generalize n / d = x at *
  omega

/-- the nearest integer of a product's quotient, where it fits into a word; else 0 -/
def mdv (a b d : Nat) : Nat := if d ≠ 0 ∧ half (a * b) d < 18446744073709551616 then half (a * b) d else 0
def mdo (a b d : Nat) : Bool := decide (d ≠ 0 ∧ half (a * b) d < 18446744073709551616)

theorem mdv_no {a b d : Nat} (h : ¬ (d ≠ 0 ∧ half (a * b) d < 18446744073709551616)) : mdv a b d = 0 ∧ mdo a b d = false := by
  unfold mdv mdo; rw [if_neg h]; simp only [h, decide_false, and_self]
theorem mdv_yes {a b d : Nat} (h : d ≠ 0 ∧ half (a * b) d < 18446744073709551616) : mdv a b d = half (a * b) d ∧ mdo a b d = true := by
  unfold mdv mdo; rw [if_pos h]; simp only [h, and_self, ne_eq, not_false_eq_true, decide_true]

end Go.Proofs.YtafaadnjkkkafaaDoor
