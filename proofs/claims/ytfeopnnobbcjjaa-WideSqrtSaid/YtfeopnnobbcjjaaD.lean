/-
  Contracts of the specification's Add, HalfWide and MulDiv: the sum below 2^128 or false, the nearest integer to n / d, the nearest integer to a b / d where it fits into a word.
-/
import Derived.Test.YtfeopnnobbcjjaaC
import Derived.Laws.Externs
import Derived.Deep.RegionWith
import Derived.Deep.DeepCutAuto
namespace Go.Proofs.Ytfeopnnobbcjjaa
open Go.RowKit
set_option linter.unusedVariables false

theorem bcell {W w1 : World} (hb : Below W.heap.size W w1) : (∀ b o, b < W.heap.size → w1.cell? ⟨b, o, none⟩ = W.cell? ⟨b, o, none⟩) ∧ (∀ b o, b < W.heap.size → w1.frozen? ⟨b, o, none⟩ = W.frozen? ⟨b, o, none⟩) :=
  ⟨fun b o h => hb.cell (p := ⟨b, o, none⟩) h, fun b o h => hb.frozen (p := ⟨b, o, none⟩) h⟩

theorem add64_run (x y c s t : Nat) (hx : x < 18446744073709551616) (hy : y < 18446744073709551616) (hc : c ≤ 1) (h : x + y + c = t * 18446744073709551616 + s) (hs : s < 18446744073709551616) (w : World) :
    (callFunc 47 #[.int .u64 (x : Int), .int .u64 (y : Int), .int .u64 (c : Int)]).run Try.prog w = .ok (.value (.tuple #[.int .u64 (s : Int), .int .u64 (t : Int)])) w := by
  rw [run_callFunc_extern Try.func47 (by kernel_rfl) (by kernel_rfl) (by kernel_rfl) (e := add64Entry) (by kernel_rfl), run_add64 x y c (by omega) (by omega) (by omega) (by omega)]
  have e1 : ((x : Int) + y + c) % 18446744073709551616 = s := by omega
  have e2 : ((x : Int) + y + c) / 18446744073709551616 = t := by omega
  rw [e1, e2]
  simp only [Result.andThen]

set_option maxRecDepth 100000 in
theorem ref_add_yes (xh xl yh yl x y : Nat) (hx : Word2 x xh xl) (hy : Word2 y yh yl) (h : x + y < 340282366920938463463374607431768211456) (w : World) :
    Calls Try.prog 27 #[.agg #[.int .u64 xh, .int .u64 xl], .agg #[.int .u64 yh, .int .u64 yl]] w fun e w' => ∃ hi lo : Nat, e = .returned (.tuple #[.agg #[.int .u64 hi, .int .u64 lo], .bool true]) ∧ Word2 (x + y) hi lo ∧ Below w.heap.size w w' := by
  obtain ⟨ex, hxl, hxh⟩ := hx
  obtain ⟨ey, hyl, hyh⟩ := hy
  obtain ⟨t, s, ht, hs⟩ : ∃ t s, xl + yl + 0 = t * 18446744073709551616 + s ∧ s < 18446744073709551616 := ⟨(xl + yl) / 18446744073709551616, (xl + yl) % 18446744073709551616, by omega, by omega⟩
  have ht1 : t ≤ 1 := by omega
  obtain ⟨g, hg, hg1⟩ : ∃ g, xh + yh + t = 0 * 18446744073709551616 + g ∧ g < 18446744073709551616 := ⟨xh + yh + t, by omega, by omega⟩
  have a1 : ∀ w, (callFunc 47 #[.int .u64 (xl : Int), .int .u64 (yl : Int), .int .u64 0]).run Try.prog w = .ok (.value (.tuple #[.int .u64 (s : Int), .int .u64 (t : Int)])) w := add64_run xl yl 0 s t hxl hyl (by omega) ht hs
  have a2 : ∀ w, (callFunc 47 #[.int .u64 (xh : Int), .int .u64 (yh : Int), .int .u64 (t : Int)]).run Try.prog w = .ok (.value (.tuple #[.int .u64 (g : Int), .int .u64 0])) w := add64_run xh yh t g 0 hxh hyh ht1 hg hg1
  clear h
  have hg' : xh + yh + t = g := by omega
  have K : Word2 (x + y) g s := ⟨by subst ex ey hg'; omega, hs, hg1⟩
  clear hg'
  clear ex ey ht hg
  go_enter Try.func27, Try.ntmps27
  go_wp2
  refine bodyPost_ret (v := .tuple #[.agg #[.int .u64 g, .int .u64 s], .bool true]) (by simp [results, Try.results27, go_sem]) rfl ⟨g, s, rfl, K, ?_⟩
  · exact (((Below.refl _ _).alloc (Nat.le_refl _) _).alloc (by simp) _).alloc (by simp; omega) _

set_option maxRecDepth 100000 in
theorem ref_add_no (xh xl yh yl x y : Nat) (hx : Word2 x xh xl) (hy : Word2 y yh yl) (h : ¬ x + y < 340282366920938463463374607431768211456) (w : World) :
    Calls Try.prog 27 #[.agg #[.int .u64 xh, .int .u64 xl], .agg #[.int .u64 yh, .int .u64 yl]] w fun e w' => e = .returned (.tuple #[.agg #[.int .u64 0, .int .u64 0], .bool false]) ∧ Below w.heap.size w w' := by
  obtain ⟨ex, hxl, hxh⟩ := hx
  obtain ⟨ey, hyl, hyh⟩ := hy
  obtain ⟨t, s, ht, hs⟩ : ∃ t s, xl + yl + 0 = t * 18446744073709551616 + s ∧ s < 18446744073709551616 := ⟨(xl + yl) / 18446744073709551616, (xl + yl) % 18446744073709551616, by omega, by omega⟩
  have ht1 : t ≤ 1 := by omega
  obtain ⟨g, hg, hg1⟩ : ∃ g, xh + yh + t = 1 * 18446744073709551616 + g ∧ g < 18446744073709551616 := ⟨xh + yh + t - 18446744073709551616, by omega, by omega⟩
  have a1 : ∀ w, (callFunc 47 #[.int .u64 (xl : Int), .int .u64 (yl : Int), .int .u64 0]).run Try.prog w = .ok (.value (.tuple #[.int .u64 (s : Int), .int .u64 (t : Int)])) w := add64_run xl yl 0 s t hxl hyl (by omega) ht hs
  have a2 : ∀ w, (callFunc 47 #[.int .u64 (xh : Int), .int .u64 (yh : Int), .int .u64 (t : Int)]).run Try.prog w = .ok (.value (.tuple #[.int .u64 (g : Int), .int .u64 1])) w := add64_run xh yh t g 1 hxh hyh ht1 hg hg1
  clear ex ey h ht hg
  go_enter Try.func27, Try.ntmps27
  go_wp2
  refine bodyPost_ret (v := .tuple #[.agg #[.int .u64 0, .int .u64 0], .bool false]) (by simp [results, Try.results27, go_sem]) rfl ⟨rfl, ?_⟩
  exact (((Below.refl _ _).alloc (Nat.le_refl _) _).alloc (by simp) _).alloc (by simp; omega) _

theorem ref_halfwide_zero (hi lo : Nat) (w : World) :
    Calls Try.prog 41 #[.agg #[.int .u64 hi, .int .u64 lo], .int .u64 0] w fun e w' => e = .returned (.tuple #[.agg #[.int .u64 0, .int .u64 0], .bool false]) ∧ Below w.heap.size w w' := by
  go_enter Try.func41, Try.ntmps41
  go_wp2_with (go_at_call 50; refine (ref_divmod_zero _ _ _).mono ?_; rintro e w' ⟨rfl, hb⟩; obtain ⟨hc, hf⟩ := bcell hb; have hz : w.heap.size + 1 < w'.heap.size := (by have := hb.size; simp at this; omega))
  refine bodyPost_ret (v := .tuple #[.agg #[.int .u64 0, .int .u64 0], .bool false]) (by simp [results, Try.results41, go_sem, hc, hz]) rfl ⟨rfl, ?_⟩
  exact (((((Below.refl _ _).alloc (Nat.le_refl _) _).alloc (by simp) _).trans (hb.mono (by simp; omega))).setCell (by simp) _ |>.setCell (by simp) _).alloc (by simp; omega) _

theorem half_up {n d r : Nat} (h0 : 0 < d) (hr : r = n % d) (h : d - r ≤ r) : half n d = n / d + 1 := by
  unfold half
  rw [if_neg (by omega), if_pos (by rw [← hr]; exact h)]
theorem half_down {n d r : Nat} (h0 : 0 < d) (hr : r = n % d) (h : ¬ d - r ≤ r) : half n d = n / d := by
  unfold half
  rw [if_neg (by omega), if_neg (by rw [← hr]; exact h)]
theorem half_up_lt {n d r : Nat} (hlt : r < d) (h : d - r ≤ r) (hn : n < 340282366920938463463374607431768211456) : n / d + 1 < 340282366920938463463374607431768211456 := by
  have : n / d ≤ n / 2 := Nat.div_le_div_left (by omega) (by omega)
  generalize n / d = x at *
  omega

set_option maxRecDepth 100000 in
theorem ref_halfwide (hi lo d n : Nat) (hn : Word2 n hi lo) (hd : d < 18446744073709551616) (h0 : 0 < d) (w : World) :
    Calls Try.prog 41 #[.agg #[.int .u64 hi, .int .u64 lo], .int .u64 d] w fun e w' => ∃ qh ql : Nat, e = .returned (.tuple #[.agg #[.int .u64 qh, .int .u64 ql], .bool true]) ∧ Word2 (half n d) qh ql ∧ Below w.heap.size w w' := by
  obtain ⟨r, hr⟩ : ∃ r, r = n % d := ⟨_, rfl⟩
  have hlt : r < d := by rw [hr]; exact Nat.mod_lt _ h0
  have c := ref_divmod hi lo d n hn hd h0
  rw [← hr] at c
  have R := Lib.hid hr
  clear hr
  by_cases hh : d - r ≤ r
  · have h1 : (d : Int) - r ≤ r := by omega
    have e1 := Lib.hid (half_up h0 R.out hh)
    have e2 := Lib.hid (half_up_lt (n := n) hlt hh (by obtain ⟨a, b, c⟩ := hn; omega))
    go_enter Try.func41, Try.ntmps41
    go_upto_region 3 with (go_at_call 50; refine (c _).mono ?_; rintro e w' ⟨qh, ql, rfl, H, hb⟩; obtain ⟨hc, hf⟩ := bcell hb; have hz : w.heap.size + 1 < w'.heap.size := (by have := hb.size; simp at this; omega))
    clear hc hf
    go_cut [] (fun wx => ∃ gh gl : Nat, Word2 (n / d + 1) gh gl ∧ wx.cell? ⟨w'.heap.size, 0, none⟩ = some (.int .u64 gh) ∧ wx.cell? ⟨w'.heap.size, 1, none⟩ = some (.int .u64 gl) ∧ Below (w.heap.size + 2) ((w.alloc (.cells #[.int .u64 hi, .int .u64 lo] 41)).alloc (.cells #[.int .u64 0, .int .u64 0] 41)) wx)
    case first =>
      go_region_with (first
        | (go_at_call 39; refine (ref_of 1 _).mono ?_; rintro e w1 ⟨rfl, hb1⟩; obtain ⟨hc1, hf1⟩ := bcell hb1; have hz1 : w'.heap.size < w1.heap.size := (by have := hb1.size; simp at this; omega))
        | (go_at_call 27; refine (ref_add_yes qh ql 0 1 (n / d) 1 H ⟨rfl, by omega, by omega⟩ e2.out _).mono ?_; rintro e w2 ⟨gh, gl, rfl, K, hb2⟩; obtain ⟨hc2, hf2⟩ := bcell hb2; have hz2 : w1.heap.size ≤ w2.heap.size := hb2.size))
      all_goals
        have q0 : w2.cell? ⟨w'.heap.size, 0, none⟩ = some (.int .u64 qh) := by simp [go_sem, hc2, hc1, hz1]
        have q1 : w2.cell? ⟨w'.heap.size, 1, none⟩ = some (.int .u64 ql) := by simp [go_sem, hc2, hc1, hz1]
        go_wp2_with fail
        go_meet
        refine ⟨gh, gl, K, ?_, ?_, ?_⟩
        · simp [go_sem, q0]
        · simp [go_sem, q1]
        · have s0 : w.heap.size + 2 ≤ w'.heap.size := by have := hb.size; simp at this; omega
          have s1 : w.heap.size + 2 ≤ w1.heap.size := by have h1 := hb1.size; simp at h1; omega
          exact (((((hb.mono (B' := w.heap.size + 2) (by simp)).alloc s0 _).drew.trans (hb1.mono (B' := w.heap.size + 2) (by simp; omega))).trans (hb2.mono s1)).setCell s0 _).setCell s0 _
    case rest =>
      obtain ⟨gh, gl, K, k0, k1, hb3⟩ := hcut
      have hc : ∀ b o, b < w.heap.size + 2 → wc.cell? ⟨b, o, none⟩ = ((w.alloc (.cells #[.int .u64 hi, .int .u64 lo] 41)).alloc (.cells #[.int .u64 0, .int .u64 0] 41)).cell? ⟨b, o, none⟩ := fun b o h => hb3.cell (p := ⟨b, o, none⟩) h
      have hf : ∀ b o, b < w.heap.size + 2 → wc.frozen? ⟨b, o, none⟩ = ((w.alloc (.cells #[.int .u64 hi, .int .u64 lo] 41)).alloc (.cells #[.int .u64 0, .int .u64 0] 41)).frozen? ⟨b, o, none⟩ := fun b o h => hb3.frozen (p := ⟨b, o, none⟩) h
      go_wp2
      refine bodyPost_ret (v := .tuple #[.agg #[.int .u64 gh, .int .u64 gl], .bool true]) (by simp [results, Try.results41, go_sem, hc]) rfl ⟨gh, gl, rfl, by rw [e1.out]; exact K, ?_⟩
      exact ((((Below.refl _ _).alloc (Nat.le_refl _) _).alloc (by simp) _).trans (hb3.mono (by omega))).setCell (by simp) _ |>.setCell (by simp) _
  · have h1 : ¬ (d : Int) - r ≤ r := by omega
    have e1 := Lib.hid (half_down h0 R.out hh)
    go_enter Try.func41, Try.ntmps41
    go_wp2_with (go_at_call 50; refine (c _).mono ?_; rintro e w' ⟨qh, ql, rfl, H, hb⟩; obtain ⟨hc, hf⟩ := bcell hb; have hz : w.heap.size + 1 < w'.heap.size := (by have := hb.size; simp at this; omega))
    refine bodyPost_ret (v := .tuple #[.agg #[.int .u64 qh, .int .u64 ql], .bool true]) (by simp [results, Try.results41, go_sem, hc, hz]) rfl ⟨qh, ql, rfl, by rw [e1.out]; exact H, ?_⟩
    exact (((((Below.refl _ _).alloc (Nat.le_refl _) _).alloc (by simp) _).trans (hb.mono (by simp; omega))).setCell (by simp) _ |>.setCell (by simp) _).alloc (by simp; omega) _

/-- the nearest integer of a product's quotient, where it fits into a word; else 0 -/
def mdv (a b d : Nat) : Nat := if d ≠ 0 ∧ half (a * b) d < 18446744073709551616 then half (a * b) d else 0
def mdo (a b d : Nat) : Bool := decide (d ≠ 0 ∧ half (a * b) d < 18446744073709551616)

theorem ref_halfwide_small (hi lo d n : Nat) (hn : Word2 n hi lo) (hd : d < 18446744073709551616) (h0 : 0 < d) (h : half n d < 18446744073709551616) (w : World) :
    Calls Try.prog 41 #[.agg #[.int .u64 hi, .int .u64 lo], .int .u64 d] w fun e w' => e = .returned (.tuple #[.agg #[.int .u64 0, .int .u64 (half n d)], .bool true]) ∧ Below w.heap.size w w' :=
  (ref_halfwide hi lo d n hn hd h0 w).mono fun e w' ⟨qh, ql, he, ⟨k1, k2, k3⟩, hb⟩ => ⟨by
    have e1 : qh = 0 := by omega
    have e2 : ql = half n d := by omega
    rw [he, e1, e2]; rfl, hb⟩
theorem ref_halfwide_big (hi lo d n : Nat) (hn : Word2 n hi lo) (hd : d < 18446744073709551616) (h0 : 0 < d) (h : ¬ half n d < 18446744073709551616) (w : World) :
    Calls Try.prog 41 #[.agg #[.int .u64 hi, .int .u64 lo], .int .u64 d] w fun e w' => ∃ qh ql : Nat, e = .returned (.tuple #[.agg #[.int .u64 qh, .int .u64 ql], .bool true]) ∧ 1 ≤ (qh : Int) ∧ Below w.heap.size w w' :=
  (ref_halfwide hi lo d n hn hd h0 w).mono fun e w' ⟨qh, ql, he, ⟨k1, k2, k3⟩, hb⟩ => ⟨qh, ql, he, by omega, hb⟩

theorem mdv_no {a b d : Nat} (h : ¬ (d ≠ 0 ∧ half (a * b) d < 18446744073709551616)) : mdv a b d = 0 ∧ mdo a b d = false := by
  unfold mdv mdo; rw [if_neg h]; simp only [h, decide_false, and_self]
theorem mdv_yes {a b d : Nat} (h : d ≠ 0 ∧ half (a * b) d < 18446744073709551616) : mdv a b d = half (a * b) d ∧ mdo a b d = true := by
  unfold mdv mdo; rw [if_pos h]; simp only [h, and_self, ne_eq, not_false_eq_true, decide_true]

theorem ref_muldiv (a b d : Nat) (ha : a < 18446744073709551616) (hb : b < 18446744073709551616) (hd : d < 18446744073709551616) (w : World) :
    Calls Try.prog 23 #[.int .u64 a, .int .u64 b, .int .u64 d] w fun e w' => e = .returned (.tuple #[.int .u64 (mdv a b d), .bool (mdo a b d)]) ∧ Below w.heap.size w w' := by
  by_cases hh : d ≠ 0 ∧ half (a * b) d < 18446744073709551616
  · obtain ⟨m1, m2⟩ := mdv_yes hh
    rw [m1, m2]
    obtain ⟨h0, h1⟩ := hh
    clear m1 m2
    go_enter Try.func23, Try.ntmps23
    go_wp2_with (first
      | (go_at_call 34; refine (ref_mul a b ha hb _).mono ?_; rintro e w1 ⟨hi, lo, rfl, H, hb1⟩)
      | (go_at_call 41; refine (ref_halfwide_small _ _ d _ H hd (Nat.pos_of_ne_zero h0) h1 _).mono ?_; rintro e w2 ⟨rfl, hb2⟩))
    go_ret2
    exact ⟨rfl, ((hb1.trans (hb2.mono hb1.size))).alloc (Nat.le_trans hb1.size hb2.size) _⟩
  · obtain ⟨m1, m2⟩ := mdv_no hh
    rw [m1, m2]
    clear m1 m2
    by_cases h0 : d = 0
    · clear hh
      subst h0
      go_enter Try.func23, Try.ntmps23
      go_wp2_with (first
        | (go_at_call 34; refine (ref_mul a b ha hb _).mono ?_; rintro e w1 ⟨hi, lo, rfl, H, hb1⟩)
        | (go_at_call 41; refine (ref_halfwide_zero _ _ _).mono ?_; rintro e w2 ⟨rfl, hb2⟩))
      go_ret2
      exact ⟨rfl, ((hb1.trans (hb2.mono hb1.size))).alloc (Nat.le_trans hb1.size hb2.size) _⟩
    · have h1 : ¬ half (a * b) d < 18446744073709551616 := fun h => hh ⟨h0, h⟩
      clear hh
      go_enter Try.func23, Try.ntmps23
      go_wp2_with (first
        | (go_at_call 34; refine (ref_mul a b ha hb _).mono ?_; rintro e w1 ⟨hi, lo, rfl, H, hb1⟩)
        | (go_at_call 41; refine (ref_halfwide_big _ _ d _ H hd (Nat.pos_of_ne_zero h0) h1 _).mono ?_; rintro e w2 ⟨qh, ql, rfl, hq, hb2⟩))
      go_ret2
      exact ⟨rfl, ((hb1.trans (hb2.mono hb1.size))).alloc (Nat.le_trans hb1.size hb2.size) _⟩
end Go.Proofs.Ytfeopnnobbcjjaa
