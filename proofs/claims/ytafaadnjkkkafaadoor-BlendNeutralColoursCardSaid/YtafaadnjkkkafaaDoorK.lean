/-
  Contracts of wide.Of, Mul, Add, Sub and Compare and of the specification's Compare and Sub on two words.
-/
import Derived.Test.YtafaadnjkkkafaaDoorE
import Derived.Test.YtafaadnjkkkafaaDoorI
import Derived.Shelf.Spec.BitsCarry
namespace Go.Proofs.YtafaadnjkkkafaaDoor
open Go.RowKit
set_option linter.unusedVariables false

theorem Word2.lt {n hi lo : Nat} (h : Word2 n hi lo) : n < 340282366920938463463374607431768211456 := by
  obtain ⟨a, b, c⟩ := h; omega
theorem Word2.unique {n a b c d : Nat} (h : Word2 n a b) (k : Word2 n c d) : a = c ∧ b = d := by
  obtain ⟨h1, h2, h3⟩ := h; obtain ⟨k1, k2, k3⟩ := k; omega
theorem Word2.inj {n m a b : Nat} (h : Word2 n a b) (k : Word2 m a b) : n = m := by
  obtain ⟨h1, h2, h3⟩ := h; obtain ⟨k1, k2, k3⟩ := k; omega
theorem word2_of (n : Nat) (h : n < 340282366920938463463374607431768211456) : ∃ hi lo, Word2 n hi lo := ⟨n / 18446744073709551616, n % 18446744073709551616, by omega, by omega, by omega⟩
theorem word2_mk (hi lo : Nat) (h : hi < 18446744073709551616) (k : lo < 18446744073709551616) : Word2 (hi * 18446744073709551616 + lo) hi lo := ⟨rfl, k, h⟩

/-- two structs of two words are equal where the words are -/
theorem eql_u128 (a b c d : Int) (w : World) : (binOp .eql 35 (.agg #[.int .u64 a, .int .u64 b]) (.agg #[.int .u64 c, .int .u64 d])).run Tryd.prog w = .ok (.bool (a == c && b == d)) w := by
  rw [run_eql_struct, run_equalIn_agg w 9999 _ _ _ (by kernel_rfl) (by kernel_rfl)]
  simp [go_sem, Tryd.underlying35, Tryd.underlying33]
  by_cases h : a = c <;> by_cases k : b = d <;> simp [h, k]

theorem sub64_run (x y b d o : Nat) (hb : b ≤ 1) (hd : d = (x + 18446744073709551616 - y - b) % 18446744073709551616) (ho : o = if x < y + b then 1 else 0) (w : World) :
    (callFunc 48 #[.int .u64 (x : Int), .int .u64 (y : Int), .int .u64 (b : Int)]).run Tryd.prog w = .ok (.value (.tuple #[.int .u64 (d : Int), .int .u64 (o : Int)])) w := by
  rw [run_callFunc_extern Tryd.func48 (by kernel_rfl) (by kernel_rfl) (by kernel_rfl) (e := sub64Entry) (by kernel_rfl), run_sub64 x y b hb, hd, ho]
  simp only [Result.andThen]

theorem wide_of (n : Nat) (w : World) :
    Calls Tryd.prog 64 #[.int .u64 n] w fun e w' => e = .returned (.agg #[.int .u64 0, .int .u64 n]) ∧ Below w.heap.size w w' := by
  go_enter Tryd.func64, Tryd.ntmps64
  go_wp2
  exact bodyPost_ret (v := .agg #[.int .u64 0, .int .u64 n]) (by simp [results, Tryd.results64, go_sem]) rfl ⟨rfl, (Below.refl _ _).alloc (Nat.le_refl _) _⟩

theorem wide_mul (a b : Nat) (ha : a < 18446744073709551616) (hb : b < 18446744073709551616) (w : World) :
    Calls Tryd.prog 61 #[.int .u64 a, .int .u64 b] w fun e w' => ∃ hi lo : Nat, e = .returned (.agg #[.int .u64 hi, .int .u64 lo]) ∧ Word2 (a * b) hi lo ∧ Below w.heap.size w w' := by
  go_enter Tryd.func61, Tryd.ntmps61
  go_wp2_with (go_at_call 57; refine (mul64 a b ha hb _).mono ?_; rintro e w' ⟨hi, lo, rfl, H, rfl⟩)
  exact bodyPost_ret (v := .agg #[.int .u64 hi, .int .u64 lo]) (by simp [results, Tryd.results61, go_sem]) rfl ⟨hi, lo, rfl, H, (Below.refl _ _).alloc (Nat.le_refl _) _⟩

set_option maxRecDepth 100000 in
theorem wide_add_yes (xh xl yh yl x y : Nat) (hx : Word2 x xh xl) (hy : Word2 y yh yl) (h : x + y < 340282366920938463463374607431768211456) (w : World) :
    Calls Tryd.prog 67 #[.agg #[.int .u64 xh, .int .u64 xl], .agg #[.int .u64 yh, .int .u64 yl]] w fun e w' => ∃ hi lo : Nat, e = .returned (.tuple #[.agg #[.int .u64 hi, .int .u64 lo], .bool true]) ∧ Word2 (x + y) hi lo ∧ Below w.heap.size w w' := by
  obtain ⟨ex, hxl, hxh⟩ := hx
  obtain ⟨ey, hyl, hyh⟩ := hy
  obtain ⟨t, s, ht, hs⟩ : ∃ t s, xl + yl + 0 = t * 18446744073709551616 + s ∧ s < 18446744073709551616 := ⟨(xl + yl) / 18446744073709551616, (xl + yl) % 18446744073709551616, by omega, by omega⟩
  have ht1 : t ≤ 1 := by omega
  obtain ⟨g, hg, hg1⟩ : ∃ g, xh + yh + t = 0 * 18446744073709551616 + g ∧ g < 18446744073709551616 := ⟨xh + yh + t, by omega, by omega⟩
  have a1 : ∀ w, (callFunc 58 #[.int .u64 (xl : Int), .int .u64 (yl : Int), .int .u64 0]).run Tryd.prog w = .ok (.value (.tuple #[.int .u64 (s : Int), .int .u64 (t : Int)])) w := add64_run xl yl 0 s t hxl hyl (by omega) ht hs
  have a2 : ∀ w, (callFunc 58 #[.int .u64 (xh : Int), .int .u64 (yh : Int), .int .u64 (t : Int)]).run Tryd.prog w = .ok (.value (.tuple #[.int .u64 (g : Int), .int .u64 0])) w := add64_run xh yh t g 0 hxh hyh ht1 hg hg1
  clear h
  have hg' : xh + yh + t = g := by omega
  have K : Word2 (x + y) g s := ⟨by subst ex ey hg'; omega, hs, hg1⟩
  clear hg'
  clear ex ey ht hg
  go_enter Tryd.func67, Tryd.ntmps67
  go_wp2
  refine bodyPost_ret (v := .tuple #[.agg #[.int .u64 g, .int .u64 s], .bool true]) (by simp [results, Tryd.results67, go_sem]) rfl ⟨g, s, rfl, K, ?_⟩
  · exact (((Below.refl _ _).alloc (Nat.le_refl _) _).alloc (by simp) _).alloc (by simp; omega) _

set_option maxRecDepth 100000 in
theorem wide_add_no (xh xl yh yl x y : Nat) (hx : Word2 x xh xl) (hy : Word2 y yh yl) (h : ¬ x + y < 340282366920938463463374607431768211456) (w : World) :
    Calls Tryd.prog 67 #[.agg #[.int .u64 xh, .int .u64 xl], .agg #[.int .u64 yh, .int .u64 yl]] w fun e w' => e = .returned (.tuple #[.agg #[.int .u64 0, .int .u64 0], .bool false]) ∧ Below w.heap.size w w' := by
  obtain ⟨ex, hxl, hxh⟩ := hx
  obtain ⟨ey, hyl, hyh⟩ := hy
  obtain ⟨t, s, ht, hs⟩ : ∃ t s, xl + yl + 0 = t * 18446744073709551616 + s ∧ s < 18446744073709551616 := ⟨(xl + yl) / 18446744073709551616, (xl + yl) % 18446744073709551616, by omega, by omega⟩
  have ht1 : t ≤ 1 := by omega
  obtain ⟨g, hg, hg1⟩ : ∃ g, xh + yh + t = 1 * 18446744073709551616 + g ∧ g < 18446744073709551616 := ⟨xh + yh + t - 18446744073709551616, by omega, by omega⟩
  have a1 : ∀ w, (callFunc 58 #[.int .u64 (xl : Int), .int .u64 (yl : Int), .int .u64 0]).run Tryd.prog w = .ok (.value (.tuple #[.int .u64 (s : Int), .int .u64 (t : Int)])) w := add64_run xl yl 0 s t hxl hyl (by omega) ht hs
  have a2 : ∀ w, (callFunc 58 #[.int .u64 (xh : Int), .int .u64 (yh : Int), .int .u64 (t : Int)]).run Tryd.prog w = .ok (.value (.tuple #[.int .u64 (g : Int), .int .u64 1])) w := add64_run xh yh t g 1 hxh hyh ht1 hg hg1
  clear ex ey h ht hg
  go_enter Tryd.func67, Tryd.ntmps67
  go_wp2
  refine bodyPost_ret (v := .tuple #[.agg #[.int .u64 0, .int .u64 0], .bool false]) (by simp [results, Tryd.results67, go_sem]) rfl ⟨rfl, ?_⟩
  exact (((Below.refl _ _).alloc (Nat.le_refl _) _).alloc (by simp) _).alloc (by simp; omega) _

set_option maxRecDepth 100000 in
theorem wide_sub_yes (xh xl yh yl x y : Nat) (hx : Word2 x xh xl) (hy : Word2 y yh yl) (h : y ≤ x) (w : World) :
    Calls Tryd.prog 65 #[.agg #[.int .u64 xh, .int .u64 xl], .agg #[.int .u64 yh, .int .u64 yl]] w fun e w' => ∃ hi lo : Nat, e = .returned (.tuple #[.agg #[.int .u64 hi, .int .u64 lo], .bool true]) ∧ Word2 (x - y) hi lo ∧ Below w.heap.size w w' := by
  obtain ⟨ex, hxl, hxh⟩ := hx
  obtain ⟨ey, hyl, hyh⟩ := hy
  obtain ⟨t, ht⟩ : ∃ t : Nat, t = if xl < yl + 0 then 1 else 0 := ⟨if xl < yl + 0 then 1 else 0, rfl⟩
  obtain ⟨s, hs⟩ : ∃ s : Nat, s = (xl + 18446744073709551616 - yl - 0) % 18446744073709551616 := ⟨(xl + 18446744073709551616 - yl - 0) % 18446744073709551616, rfl⟩
  have ht1 : t ≤ 1 := by rw [ht]; split <;> omega
  obtain ⟨g, hg⟩ : ∃ g : Nat, g = (xh + 18446744073709551616 - yh - t) % 18446744073709551616 := ⟨_, rfl⟩
  have hn : (0 : Nat) = if xh < yh + t then 1 else 0 := by
    by_cases q : xl < yl + 0
    · rw [if_pos q] at ht; rw [if_neg (by omega)]
    · rw [if_neg q] at ht; rw [if_neg (by omega)]
  have a1 : ∀ w, (callFunc 48 #[.int .u64 (xl : Int), .int .u64 (yl : Int), .int .u64 0]).run Tryd.prog w = .ok (.value (.tuple #[.int .u64 (s : Int), .int .u64 (t : Int)])) w := sub64_run xl yl 0 s t (by omega) hs ht
  have a2 : ∀ w, (callFunc 48 #[.int .u64 (xh : Int), .int .u64 (yh : Int), .int .u64 (t : Int)]).run Tryd.prog w = .ok (.value (.tuple #[.int .u64 (g : Int), .int .u64 0])) w := sub64_run xh yh t g 0 ht1 hg hn
  have K : Word2 (x - y) g s := by
    have hn' : ¬ xh < yh + t := by intro hc; rw [if_pos hc] at hn; omega
    by_cases q : xl < yl + 0
    · rw [if_pos q] at ht; subst ht ex ey; clear hn a1 a2; exact ⟨by omega, by omega, by omega⟩
    · rw [if_neg q] at ht; subst ht ex ey; clear hn a1 a2; exact ⟨by omega, by omega, by omega⟩
  clear h ex ey ht hg hn hs
  go_enter Tryd.func65, Tryd.ntmps65
  go_wp2
  refine bodyPost_ret (v := .tuple #[.agg #[.int .u64 g, .int .u64 s], .bool true]) (by simp [results, Tryd.results65, go_sem]) rfl ⟨g, s, rfl, K, ?_⟩
  · exact (((Below.refl _ _).alloc (Nat.le_refl _) _).alloc (by simp) _).alloc (by simp; omega) _

set_option maxRecDepth 100000 in
theorem wide_sub_no (xh xl yh yl x y : Nat) (hx : Word2 x xh xl) (hy : Word2 y yh yl) (h : ¬ y ≤ x) (w : World) :
    Calls Tryd.prog 65 #[.agg #[.int .u64 xh, .int .u64 xl], .agg #[.int .u64 yh, .int .u64 yl]] w fun e w' => e = .returned (.tuple #[.agg #[.int .u64 0, .int .u64 0], .bool false]) ∧ Below w.heap.size w w' := by
  obtain ⟨ex, hxl, hxh⟩ := hx
  obtain ⟨ey, hyl, hyh⟩ := hy
  obtain ⟨t, ht⟩ : ∃ t : Nat, t = if xl < yl + 0 then 1 else 0 := ⟨if xl < yl + 0 then 1 else 0, rfl⟩
  obtain ⟨s, hs⟩ : ∃ s : Nat, s = (xl + 18446744073709551616 - yl - 0) % 18446744073709551616 := ⟨(xl + 18446744073709551616 - yl - 0) % 18446744073709551616, rfl⟩
  have ht1 : t ≤ 1 := by rw [ht]; split <;> omega
  obtain ⟨g, hg⟩ : ∃ g : Nat, g = (xh + 18446744073709551616 - yh - t) % 18446744073709551616 := ⟨_, rfl⟩
  have hn : (1 : Nat) = if xh < yh + t then 1 else 0 := by
    by_cases q : xl < yl + 0
    · rw [if_pos q] at ht; rw [if_pos (by omega)]
    · rw [if_neg q] at ht; rw [if_pos (by omega)]
  have a1 : ∀ w, (callFunc 48 #[.int .u64 (xl : Int), .int .u64 (yl : Int), .int .u64 0]).run Tryd.prog w = .ok (.value (.tuple #[.int .u64 (s : Int), .int .u64 (t : Int)])) w := sub64_run xl yl 0 s t (by omega) hs ht
  have a2 : ∀ w, (callFunc 48 #[.int .u64 (xh : Int), .int .u64 (yh : Int), .int .u64 (t : Int)]).run Tryd.prog w = .ok (.value (.tuple #[.int .u64 (g : Int), .int .u64 1])) w := sub64_run xh yh t g 1 ht1 hg hn
  clear h ex ey ht hg hn hs
  go_enter Tryd.func65, Tryd.ntmps65
  go_wp2
  refine bodyPost_ret (v := .tuple #[.agg #[.int .u64 0, .int .u64 0], .bool false]) (by simp [results, Tryd.results65, go_sem]) rfl ⟨rfl, ?_⟩
  exact (((Below.refl _ _).alloc (Nat.le_refl _) _).alloc (by simp) _).alloc (by simp; omega) _

/-- what both comparisons answer -/
def cmp3 (x y : Nat) : Int := if x < y then -1 else if x = y then 0 else 1

theorem cmp3_lt {x y : Nat} (h : x < y) : cmp3 x y = -1 := by unfold cmp3; rw [if_pos h]
theorem cmp3_eq (x : Nat) : cmp3 x x = 0 := by unfold cmp3; rw [if_neg (by omega), if_pos rfl]
theorem cmp3_gt {x y : Nat} (h : y < x) : cmp3 x y = 1 := by unfold cmp3; rw [if_neg (by omega), if_neg (by omega)]

theorem below_alloc {w a : World} (h : Below w.heap.size w a) (o : Obj) : Below w.heap.size w (a.alloc o) := h.alloc h.size o
theorem below_drew {w a : World} (h : Below w.heap.size w a) : Below w.heap.size w a.drew := h.drew
theorem below_drewn {w a : World} (h : Below w.heap.size w a) (n : Nat) : Below w.heap.size w (a.drewN n) := h.trans ⟨rfl, rfl, rfl, Nat.le_refl _, fun _ _ => rfl⟩
theorem below_set {w a : World} (h : Below w.heap.size w a) {p : Addr} (hp : w.heap.size ≤ p.block) (u : Value) : Below w.heap.size w (a.setCell p u) := h.setCell hp u

theorem cmp_u64 (x y : Nat) (w : World) :
    Calls Tryd.prog 69 #[.int .u64 x, .int .u64 y] w fun e w' => e = .returned (.int .i64 (cmp3 x y)) ∧ w = w' := by
  have n0 : ∀ (n : Nat) (w : World), Calls Tryd.prog 71 #[.int .u64 n] w fun e w' => e = .returned (.bool false) ∧ w = w' := fun n w => by
    go_enter Tryd.func71, Tryd.ntmps71
    go_wp2
    go_ret
    exact ⟨by simp, rfl⟩
  rcases Nat.lt_trichotomy x y with h | h | h
  · have h1 : (x : Int) < y := by omega
    rw [cmp3_lt h]
    clear h
    go_enter Tryd.func69, Tryd.ntmps69
    go_wp2_with (go_at_call 71; refine (n0 _ _).mono ?_; rintro e w1 ⟨rfl, rfl⟩)
    go_ret
    exact ⟨rfl, rfl⟩
  · subst h
    rw [cmp3_eq]
    go_enter Tryd.func69, Tryd.ntmps69
    go_wp2_with (go_at_call 71; refine (n0 _ _).mono ?_; rintro e w1 ⟨rfl, rfl⟩)
    go_ret
    exact ⟨rfl, rfl⟩
  · have h1 : (y : Int) < x := by omega
    have h2 : ¬ (x : Int) < y := by omega
    rw [cmp3_gt h]
    clear h
    go_enter Tryd.func69, Tryd.ntmps69
    go_wp2_with (go_at_call 71; refine (n0 _ _).mono ?_; rintro e w1 ⟨rfl, rfl⟩)
    go_ret
    exact ⟨rfl, rfl⟩

theorem wide_compare (xh xl yh yl x y : Nat) (hx : Word2 x xh xl) (hy : Word2 y yh yl) (w : World) :
    Calls Tryd.prog 62 #[.agg #[.int .u64 xh, .int .u64 xl], .agg #[.int .u64 yh, .int .u64 yl]] w fun e w' => e = .returned (.int .i64 (cmp3 x y)) ∧ Below w.heap.size w w' := by
  obtain ⟨ex, hxl, hxh⟩ := hx
  obtain ⟨ey, hyl, hyh⟩ := hy
  by_cases h : xh = yh
  · have e : cmp3 x y = cmp3 xl yl := by
      rcases Nat.lt_trichotomy xl yl with k | k | k
      · rw [cmp3_lt k, cmp3_lt (by omega)]
      · obtain rfl : x = y := by omega
        subst k
        rw [cmp3_eq, cmp3_eq]
      · rw [cmp3_gt k, cmp3_gt (by omega)]
    have hd : ((xh : Int) == (yh : Int)) = true := by rw [beq_iff_eq]; omega
    rw [e]
    clear e ex ey h
    go_enter Tryd.func62, Tryd.ntmps62
    go_wp2_with (go_at_call 69; refine (cmp_u64 _ _ _).mono ?_; rintro e w1 ⟨rfl, rfl⟩)
    refine bodyPost_ret (v := .int .i64 (cmp3 xl yl)) (by simp [results, Tryd.results62, go_sem]) rfl ⟨rfl, ?_⟩
    exact below_alloc (below_alloc (Below.refl _ _) _) _
  · have e : cmp3 x y = cmp3 xh yh := by
      rcases Nat.lt_trichotomy xh yh with k | k | k
      · rw [cmp3_lt k, cmp3_lt (by omega)]
      · omega
      · rw [cmp3_gt k, cmp3_gt (by omega)]
    have hd : ((xh : Int) == (yh : Int)) = false := by rw [beq_eq_false_iff_ne]; omega
    rw [e]
    clear e ex ey h
    go_enter Tryd.func62, Tryd.ntmps62
    go_wp2_with (go_at_call 69; refine (cmp_u64 _ _ _).mono ?_; rintro e w1 ⟨rfl, rfl⟩)
    refine bodyPost_ret (v := .int .i64 (cmp3 xh yh)) (by simp [results, Tryd.results62, go_sem]) rfl ⟨rfl, ?_⟩
    exact below_alloc (below_alloc (Below.refl _ _) _) _

theorem ref_compare (xh xl yh yl x y : Nat) (hx : Word2 x xh xl) (hy : Word2 y yh yl) (w : World) :
    Calls Tryd.prog 47 #[.agg #[.int .u64 xh, .int .u64 xl], .agg #[.int .u64 yh, .int .u64 yl]] w fun e w' => e = .returned (.int .i64 (cmp3 x y)) ∧ Below w.heap.size w w' := by
  obtain ⟨ex, hxl, hxh⟩ := hx
  obtain ⟨ey, hyl, hyh⟩ := hy
  have eq := eql_u128
  by_cases h : xh = yh
  · subst h
    rcases Nat.lt_trichotomy xl yl with k | k | k
    · have hd : ((xl : Int) == (yl : Int)) = false := by rw [beq_eq_false_iff_ne]; omega
      have hl : (xl : Int) < yl := by omega
      rw [cmp3_lt (by omega)]
      clear ex ey k
      go_enter Tryd.func47, Tryd.ntmps47
      go_wp2
      refine bodyPost_ret (v := .int .i64 (-1)) (by simp [results, Tryd.results47, go_sem]) rfl ⟨rfl, ?_⟩
      exact below_alloc (below_alloc (Below.refl _ _) _) _
    · subst k
      obtain rfl : x = y := by omega
      rw [cmp3_eq]
      clear ex ey
      go_enter Tryd.func47, Tryd.ntmps47
      go_wp2
      refine bodyPost_ret (v := .int .i64 0) (by simp [results, Tryd.results47, go_sem]) rfl ⟨rfl, ?_⟩
      exact below_alloc (below_alloc (Below.refl _ _) _) _
    · have hd : ((xl : Int) == (yl : Int)) = false := by rw [beq_eq_false_iff_ne]; omega
      have hl : ¬ (xl : Int) < yl := by omega
      rw [cmp3_gt (by omega)]
      clear ex ey k
      go_enter Tryd.func47, Tryd.ntmps47
      go_wp2
      refine bodyPost_ret (v := .int .i64 1) (by simp [results, Tryd.results47, go_sem]) rfl ⟨rfl, ?_⟩
      exact below_alloc (below_alloc (Below.refl _ _) _) _
  · have hd : ((xh : Int) == (yh : Int)) = false := by rw [beq_eq_false_iff_ne]; omega
    by_cases k : xh < yh
    · have hl : (xh : Int) < yh := by omega
      rw [cmp3_lt (by omega)]
      clear ex ey k h
      go_enter Tryd.func47, Tryd.ntmps47
      go_wp2
      refine bodyPost_ret (v := .int .i64 (-1)) (by simp [results, Tryd.results47, go_sem]) rfl ⟨rfl, ?_⟩
      exact below_alloc (below_alloc (Below.refl _ _) _) _
    · have hl : ¬ (xh : Int) < yh := by omega
      rw [cmp3_gt (by omega)]
      clear ex ey k h
      go_enter Tryd.func47, Tryd.ntmps47
      go_wp2
      refine bodyPost_ret (v := .int .i64 1) (by simp [results, Tryd.results47, go_sem]) rfl ⟨rfl, ?_⟩
      exact below_alloc (below_alloc (Below.refl _ _) _) _
end Go.Proofs.YtafaadnjkkkafaaDoor
