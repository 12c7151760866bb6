/-
  Contracts of wide.DivMod, Half and Sqrt on two words: quotient and remainder, the nearest integer, the greatest integer whose square is at most the number.
-/
import Derived.Test.YtfeopnnobbcjjaaM
import Derived.Test.YtfeopnnobbcjjaaF
namespace Go.Proofs.Ytfeopnnobbcjjaa
open Go.RowKit
set_option linter.unusedVariables false

theorem Box2.drew {w : World} {b : Nat} {x y : Value} (h : Box2 w b x y) : Box2 w.drew b x y := h
theorem Box2.alloc {w : World} {b : Nat} {x y : Value} (h : Box2 w b x y) (hlt : b < w.heap.size) (o : Obj) : Box2 (w.alloc o) b x y :=
  h.keep ((Below.refl _ _).alloc (Nat.le_refl _) o) hlt

theorem wide_divmod_zero (hi lo : Nat) (w : World) :
    Calls Try.prog 38 #[.agg #[.int .u64 hi, .int .u64 lo], .int .u64 0] w fun e w' => e = .returned (.tuple #[.agg #[.int .u64 0, .int .u64 0], .int .u64 0, .bool false]) ∧ Below w.heap.size w w' := by
  go_enter Try.func38, Try.ntmps38
  go_wp2
  refine bodyPost_ret (v := .tuple #[.agg #[.int .u64 0, .int .u64 0], .int .u64 0, .bool false]) (by simp [results, Try.results38, go_sem]) rfl ⟨rfl, ?_⟩
  repeat (first | exact Below.refl _ _ | refine below_alloc ?_ _ | refine below_set ?_ (by simp <;> omega) _)

theorem two_div (hi lo d : Nat) (hd : 0 < d) :
    (hi * 18446744073709551616 + lo) / d = hi / d * 18446744073709551616 + (hi % d * 18446744073709551616 + lo) / d ∧ (hi * 18446744073709551616 + lo) % d = (hi % d * 18446744073709551616 + lo) % d := by
  have e : hi * 18446744073709551616 + lo = (hi % d * 18446744073709551616 + lo) + hi / d * 18446744073709551616 * d := by
    have h1 := Nat.div_add_mod hi d
    have h2 : hi * 18446744073709551616 = (d * (hi / d) + hi % d) * 18446744073709551616 := by rw [h1]
    rw [Nat.add_mul, Nat.mul_comm d, Nat.mul_right_comm] at h2
    rw [h2, Nat.add_right_comm, Nat.add_comm]
    generalize hi / d * 18446744073709551616 * d = a
    generalize hi % d * 18446744073709551616 = b
    omega
  constructor
  · rw [e, Nat.add_mul_div_right _ _ hd]; omega
  · rw [e, Nat.add_mul_mod_self_right]

theorem wide_divmod (hi lo d n : Nat) (hn : Word2 n hi lo) (hd : d < 18446744073709551616) (h0 : 0 < d) (w : World) :
    Calls Try.prog 38 #[.agg #[.int .u64 hi, .int .u64 lo], .int .u64 d] w fun e w' => ∃ qh ql : Nat, e = .returned (.tuple #[.agg #[.int .u64 qh, .int .u64 ql], .int .u64 (n % d : Nat), .bool true]) ∧ Word2 (n / d) qh ql ∧ Below w.heap.size w w' := by
  have h1 : ((d : Int) == 0) = false := by simpa using (by omega : d ≠ 0)
  have hr := Nat.mod_lt hi h0
  obtain ⟨hn1, hn2, hn3⟩ := hn
  have c1 := div64_any 0 hi d h0 hn3 hd
  have c2 := div64_any (hi % d) lo d hr hn2 hd
  have ⟨t1, t2⟩ := two_div hi lo d h0
  rw [hn1] at t1 t2
  have hq : (hi % d * 18446744073709551616 + lo) / d < 18446744073709551616 := by
    rw [Nat.div_lt_iff_lt_mul h0, Nat.mul_comm]
    have := Nat.mul_le_mul_right 18446744073709551616 (Nat.succ_le_of_lt hr)
    rw [Nat.succ_eq_add_one, Nat.add_mul] at this
    omega
  have hq1 : hi / d < 18446744073709551616 := Nat.lt_of_le_of_lt (Nat.div_le_self _ _) hn3
  have K : Word2 (n / d) (hi / d) ((hi % d * 18446744073709551616 + lo) / d) := ⟨t1.symm, hq, hq1⟩
  rw [Nat.zero_mul, Nat.zero_add] at c1
  rw [t2]
  generalize (hi % d * 18446744073709551616 + lo) / d = q0 at *
  generalize (hi % d * 18446744073709551616 + lo) % d = r0 at *
  generalize hi / d = q1 at *
  generalize hi % d = r1 at *
  clear t1 t2 hn1
  go_enter Try.func38, Try.ntmps38
  go_wp2_with fail
  refine (c1 _).mono ?_
  rintro e w1 ⟨rfl, m1, rfl⟩
  go_wp2_with fail
  refine (c2 _).mono ?_
  rintro e w1 ⟨rfl, m2, rfl⟩
  go_wp2
  refine bodyPost_ret (v := .tuple #[.agg #[.int .u64 q1, .int .u64 q0], .int .u64 r0, .bool true]) (by simp [results, Try.results38, go_sem]) rfl ⟨q1, q0, rfl, K, ?_⟩
  repeat (first | exact Below.refl _ _ | refine below_alloc ?_ _ | refine below_set ?_ (by simp <;> omega) _ | refine below_drewn ?_ _)

theorem wide_half_zero (hi lo : Nat) (w : World) :
    Calls Try.prog 40 #[.agg #[.int .u64 hi, .int .u64 lo], .int .u64 0] w fun e w' => e = .returned (.tuple #[.agg #[.int .u64 0, .int .u64 0], .bool false]) ∧ Below w.heap.size w w' := by
  go_enter Try.func40, Try.ntmps40
  go_wp2_with (go_at_call 38; refine (wide_divmod_zero _ _ _).mono ?_; rintro e w' ⟨rfl, hb⟩; obtain ⟨hc, hf⟩ := bcell hb; have hz : w.heap.size + 1 < w'.heap.size := (by have := hb.size; simp at this; omega))
  refine bodyPost_ret (v := .tuple #[.agg #[.int .u64 0, .int .u64 0], .bool false]) (by simp [results, Try.results40, go_sem, hc, hz]) rfl ⟨rfl, ?_⟩
  exact (((((Below.refl _ _).alloc (Nat.le_refl _) _).alloc (by simp) _).trans (hb.mono (by simp; omega))).setCell (by simp) _ |>.setCell (by simp) _).alloc (by simp; omega) _

set_option maxRecDepth 100000 in
theorem wide_half (hi lo d n : Nat) (hn : Word2 n hi lo) (hd : d < 18446744073709551616) (h0 : 0 < d) (w : World) :
    Calls Try.prog 40 #[.agg #[.int .u64 hi, .int .u64 lo], .int .u64 d] w fun e w' => ∃ qh ql : Nat, e = .returned (.tuple #[.agg #[.int .u64 qh, .int .u64 ql], .bool true]) ∧ Word2 (half n d) qh ql ∧ Below w.heap.size w w' := by
  obtain ⟨r, hr⟩ : ∃ r, r = n % d := ⟨_, rfl⟩
  have hlt : r < d := by rw [hr]; exact Nat.mod_lt _ h0
  have c := wide_divmod hi lo d n hn hd h0
  rw [← hr] at c
  have R := Lib.hid hr
  clear hr
  have hsub : IntKind.u64.wrap ((d : Int) - r) = ((d - r : Nat) : Int) := by rw [IntKind.wrap_u64]; omega
  by_cases hh : d - r ≤ r
  · have h1 : (d : Int) - r ≤ r := by omega
    have e1 := Lib.hid (half_up h0 R.out hh)
    have e2 := Lib.hid (half_up_lt (n := n) hlt hh (by obtain ⟨a, b, c⟩ := hn; omega))
    clear hsub
    go_enter Try.func40, Try.ntmps40
    go_upto_region 4 with (go_at_call 38; refine (c _).mono ?_; rintro e w' ⟨qh, ql, rfl, H, hb⟩; obtain ⟨hc, hf⟩ := bcell hb; have hz : w.heap.size + 1 < w'.heap.size := (by have := hb.size; simp at this; omega))
    have B1 : Box2 w' (w.heap.size + 1) (.int .u64 0) (.int .u64 0) := Box2.keep (by simp [Box2, go_sem]) hb (by simp)
    have hb' := below_then (below_alloc (below_alloc (Below.refl w.heap.size w) _) _) hb
    clear hc hf
    go_cut [5] (fun ok wx => ∃ gh gl : Nat, ok = .bool true ∧ Word2 (n / d + 1) gh gl ∧ wx.cell? ⟨w.heap.size + 1, 0, none⟩ = some (.int .u64 gh) ∧ wx.cell? ⟨w.heap.size + 1, 1, none⟩ = some (.int .u64 gl) ∧ Below w.heap.size w wx)
    case first =>
      go_region_with (first
        | (go_at_call 35; refine (wide_of 1 _).mono ?_; rintro e w1 ⟨rfl, hb1⟩; obtain ⟨hc1, hf1⟩ := bcell hb1; have hz1 : w'.heap.size < w1.heap.size := (by have := hb1.size; simp at this; omega); have B2 : Box2 w1 (w.heap.size + 1) (.int .u64 0) (.int .u64 0) := (B1.alloc (by omega) _).drew.keep hb1 (by simp; omega))
        | (go_at_call 26; refine (wide_add_yes qh ql 0 1 (n / d) 1 H ⟨rfl, by omega, by omega⟩ e2.out _).mono ?_; rintro e w2 ⟨gh, gl, rfl, K, hb2⟩; obtain ⟨hc2, hf2⟩ := bcell hb2; have hz2 : w1.heap.size ≤ w2.heap.size := hb2.size; have B3 : Box2 w2 (w.heap.size + 1) (.int .u64 0) (.int .u64 0) := B2.keep hb2 (by omega); have ⟨r1, r2, r3, r4⟩ := B3))
      all_goals
        have S1 := B3.set (.int .u64 gh) (.int .u64 gl)
        have ⟨s1, s2, _, _⟩ := S1
        have q1 := below_set (below_set (below_then (below_then (below_drew (below_alloc hb' (.cells #[.int .u64 qh, .int .u64 ql] 41))) hb1) hb2) (p := ⟨w.heap.size + 1, 0, none⟩) (by simp) (.int .u64 gh)) (p := ⟨w.heap.size + 1, 1, none⟩) (by simp) (.int .u64 gl)
        go_wp2_with fail
        go_meet
        exact ⟨gh, gl, rfl, K, s1, s2, q1⟩
    case rest =>
      obtain ⟨gh, gl, rfl, K, k0, k1, hb3⟩ := hcut
      go_wp2
      refine bodyPost_ret (v := .tuple #[.agg #[.int .u64 gh, .int .u64 gl], .bool true]) (by simp [results, Try.results40, go_sem, k0, k1]) rfl ⟨gh, gl, rfl, by rw [e1.out]; exact K, hb3⟩
  · have h1 : ¬ (d : Int) - r ≤ r := by omega
    have e1 := Lib.hid (half_down h0 R.out hh)
    go_enter Try.func40, Try.ntmps40
    go_wp2_with (go_at_call 38; refine (c _).mono ?_; rintro e w' ⟨qh, ql, rfl, H, hb⟩; obtain ⟨hc, hf⟩ := bcell hb; have hz : w.heap.size + 1 < w'.heap.size := (by have := hb.size; simp at this; omega))
    refine bodyPost_ret (v := .tuple #[.agg #[.int .u64 qh, .int .u64 ql], .bool true]) (by simp [results, Try.results40, go_sem, hc, hz]) rfl ⟨qh, ql, rfl, by rw [e1.out]; exact H, ?_⟩
    exact (((((Below.refl _ _).alloc (Nat.le_refl _) _).alloc (by simp) _).trans (hb.mono (by simp; omega))).setCell (by simp) _ |>.setCell (by simp) _).alloc (by simp; omega) _

theorem wide_length (hi lo n : Nat) (hn : Word2 n hi lo) (w : World) :
    Calls Try.prog 51 #[.agg #[.int .u64 hi, .int .u64 lo]] w fun e w' => ∃ bl : Nat, e = .returned (.int .i64 (bl : Int)) ∧ n < 2 ^ bl ∧ bl ≤ 128 ∧ Below w.heap.size w w' := by
  obtain ⟨h1, h2, h3⟩ := hn
  have len : ∀ (n : Nat), n < 18446744073709551616 → ∀ w : World, Calls Try.prog 46 #[.int .u64 n] w fun e w' => e = .returned (.int .i64 ((Lib.bitLenAux 64 n : Nat) : Int)) ∧ w = w' := fun n hn w =>
      (Try.bits_Len64 (n : Int) w (by omega) (by omega)).mono fun e w' ⟨he, hw⟩ => ⟨he, hw.symm⟩
  by_cases h0 : hi = 0
  · have hd : ((hi : Int) == 0) = true := by rw [beq_iff_eq]; omega
    have ⟨b1, _, b3, _⟩ := Num.bitLenAux_spec 64 lo h2
    have c := len lo h2
    generalize Lib.bitLenAux 64 lo = bl at *
    have K : n < 2 ^ bl := by rw [← h1, h0, Nat.zero_mul, Nat.zero_add]; exact b1
    have K := Lib.hid K
    clear b1 h1 h0
    go_enter Try.func51, Try.ntmps51
    go_wp2_with (go_at_call 46; refine (c _).mono ?_; rintro e w1 ⟨rfl, rfl⟩)
    refine bodyPost_ret (v := .int .i64 (bl : Int)) (by simp [results, Try.results51, go_sem]) rfl ⟨bl, rfl, K.out, by omega, ?_⟩
    exact below_alloc (Below.refl _ _) _
  · have hd : ((hi : Int) == 0) = false := by rw [beq_eq_false_iff_ne]; omega
    have ⟨b1, _, b3, _⟩ := Num.bitLenAux_spec 64 hi h3
    have c := len hi h3
    generalize Lib.bitLenAux 64 hi = bl at *
    have K : n < 2 ^ (64 + bl) := by
      rw [← h1, Nat.pow_add]
      have : (hi + 1) * 18446744073709551616 ≤ 2 ^ bl * 18446744073709551616 := Nat.mul_le_mul_right _ b1
      rw [Nat.mul_comm (2 ^ 64)]
      omega
    have K := Lib.hid K
    clear b1 h1 h0
    go_enter Try.func51, Try.ntmps51
    go_wp2_with (go_at_call 46; refine (c _).mono ?_; rintro e w1 ⟨rfl, rfl⟩)
    refine bodyPost_ret (v := .int .i64 ((64 + bl : Nat) : Int)) ?_ rfl ⟨64 + bl, rfl, K.out, by omega, ?_⟩
    · simp [results, Try.results51, go_sem]
    · exact below_alloc (Below.refl _ _) _

theorem wroot_lt {n s : Nat} (h : IsRoot n s) (hn : n < 340282366920938463463374607431768211456) : s < 18446744073709551616 := by
  by_cases hl : s < 18446744073709551616
  · exact hl
  · have h2 := Nat.mul_le_mul (by omega : 18446744073709551616 ≤ s) (by omega : 18446744073709551616 ≤ s)
    have := h.1
    omega
theorem wroot_start {n s b : Nat} (h : IsRoot n s) (hb : n < 2 ^ b) : s < 2 ^ ((b + 1) / 2) := by
  have h1 : 2 ^ b ≤ 2 ^ ((b + 1) / 2) * 2 ^ ((b + 1) / 2) := by
    rw [← Nat.pow_add]; exact Nat.pow_le_pow_right (by decide) (by omega)
  by_cases hl : s < 2 ^ ((b + 1) / 2)
  · exact hl
  · have h2 := Nat.mul_le_mul (by omega : 2 ^ ((b + 1) / 2) ≤ s) (by omega : 2 ^ ((b + 1) / 2) ≤ s)
    have := h.1
    omega
theorem root_ge {n s x : Nat} (h : IsRoot n s) (hx : x * x ≤ n) : x ≤ s := by
  by_cases hl : x ≤ s
  · exact hl
  · have h2 := Nat.mul_le_mul (by omega : s + 1 ≤ x) (by omega : s + 1 ≤ x)
    have := h.2
    omega

theorem shl_one (k : Nat) (hk : k ≤ 64) : IntKind.u64.wrap (IntKind.u64.wrap ((2 : Int) ^ k) - 1) = ((2 ^ k - 1 : Nat) : Int) := by
  have e : (2 : Int) ^ k = ((2 ^ k : Nat) : Int) := by simp
  have h1 : 2 ^ k ≤ 18446744073709551616 := Nat.pow_le_pow_right (n := 2) (j := 64) (by decide) hk
  have h2 := Nat.two_pow_pos k
  rw [e]
  generalize 2 ^ k = z at *
  rw [IntKind.wrap_u64, IntKind.wrap_u64]
  omega

set_option maxRecDepth 100000 in
theorem wide_sqrt (hi lo n s : Nat) (hn : Word2 n hi lo) (h : IsRoot n s) (w : World) :
    Calls Try.prog 42 #[.agg #[.int .u64 hi, .int .u64 lo]] w fun e w' => e = .returned (.int .u64 s) ∧ Below w.heap.size w w' := by
  have cl := wide_length hi lo n hn
  have sl := wroot_lt h hn.lt
  have H := Lib.hid h
  have hn2 := hn.2.1
  have hn3 := hn.2.2
  have N1 := Lib.hid hn.1
  clear h hn
  go_enter Try.func42, Try.ntmps42
  go_wp2_with fail
  refine (cl _).mono ?_
  rintro e w1 ⟨bl, rfl, hbl, hbl2, hb⟩
  have hzz : w.heap.size < w1.heap.size := by have := hb.size; simp at this; omega
  have B1 : Box2 w1 w.heap.size (.int .u64 hi) (.int .u64 lo) := Box2.keep (by simp [Box2, go_sem]) hb (by simp)
  have hb' := below_then (below_alloc (Below.refl w.heap.size w) _) hb
  have st := wroot_start H.out hbl
  have so := shl_one ((bl + 1) / 2) (by omega)
  clear hb hbl
  rw [show ((2 : Int) ^ ((bl + 1) / 2)) = ((2 ^ ((bl + 1) / 2) : Nat) : Int) by simp] at so
  have so := Lib.hid so
  have st2 : 2 ^ ((bl + 1) / 2) ≤ 18446744073709551616 := Nat.pow_le_pow_right (n := 2) (j := 64) (by decide) (by omega)
  have zs := hb'.size
  go_wp2_with fail
  go_loopw [3] (fun t wr => ∃ x : Nat, t = .int .u64 x ∧ s ≤ x ∧ x < 18446744073709551616 ∧ Below w.heap.size w wr ∧ w.heap.size < wr.heap.size ∧ Box2 wr w.heap.size (.int .u64 hi) (.int .u64 lo)) (fun t _ => (intOf t).toNat)
  case atStart =>
    refine ⟨2 ^ ((bl + 1) / 2) - 1, ?_, by omega, by omega, hb', hzz, B1⟩
    have := so.out
    simp only [Int.natCast_pow] at this
    exact congrArg _ this
  case round =>
    obtain ⟨x, rfl, hs, hx, hb, hz, B⟩ := hrel
    have ⟨r1, r2, _, _⟩ := B
    by_cases h1 : x ≤ hi
    · have h2 : (x : Int) ≤ hi := by omega
      have e : Hid (x = s) := Lib.hid (by
        refine Nat.le_antisymm (root_ge H.out ?_) hs
        have : x * x ≤ hi * 18446744073709551616 := Nat.mul_le_mul h1 (by omega)
        exact Nat.le_trans this (by rw [← N1.out]; exact Nat.le_add_right _ _))
      clear h1
      go_wp2
      refine bodyPost_ret (v := .int .u64 x) (by simp [results, Try.results42, go_sem]) rfl ⟨by rw [e.out], hb⟩
    · have h2 : ¬ (x : Int) ≤ hi := by omega
      have c := div64_any hi lo x (by omega) hn2 hx
      rw [N1.out] at c
      have ge := Lib.hid (newton_ge H.out (x := x) (by omega))
      have nd := Lib.hid (Nat.div_mul_le_self n x)
      clear h1
      generalize n / x = q at *
      generalize n % x = r at *
      by_cases h3 : x ≤ q
      · have h4 : (x : Int) ≤ q := by omega
        have e : Hid (x = s) := Lib.hid (Nat.le_antisymm (root_ge H.out (Nat.le_trans (Nat.mul_le_mul_right x h3) nd.out)) hs)
        clear h3
        go_wp2_with fail
        refine (c _).mono ?_
        rintro e1 w2 ⟨rfl, m, rfl⟩
        go_wp2
        refine bodyPost_ret (v := .int .u64 x) (by simp [results, Try.results42, go_sem]) rfl ⟨by rw [e.out], below_drewn hb _⟩
      · have h4 : ¬ (x : Int) ≤ q := by omega
        have h5 := Lib.hid h3
        clear h3
        go_wp2_with fail
        refine (c _).mono ?_
        rintro e1 w2 ⟨rfl, m, rfl⟩
        go_wp2
        have g1 := ge.out
        have g2 := h5.out
        have e : (x + q) / 2 = q + (x - q) / 2 := by omega
        rw [e] at g1
        refine ⟨⟨q + (x - q) / 2, ?_, g1, by omega, below_drewn hb _, hz, B.keep ⟨rfl, rfl, rfl, Nat.le_refl _, fun _ _ => rfl⟩ hz⟩, ?_⟩
        · congr 1; omega
        · simp [intOf]; omega
end Go.Proofs.Ytfeopnnobbcjjaa
