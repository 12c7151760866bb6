/-
  The law WideDivides of layer 2 (wide), walked: it returns true for all arguments in their ranges.
-/
import Derived.Test.YtfeopnnobbcjjaaO
namespace Go.Proofs.Ytfeopnnobbcjjaa
open Go.RowKit
set_option linter.unusedVariables false

set_option maxRecDepth 100000 in
set_option maxHeartbeats 4000000 in
theorem WideDivides_core (a0 a1 d k : Int) (w0 : (Lit.int .u64 a0).wf = true) (w1 : (Lit.int .u64 a1).wf = true) (w2 : (Lit.int .u64 d).wf = true) (w3 : (Lit.int .i64 k).wf = true) (w : World) :
    Calls Try.prog 12 #[.agg #[.int .u64 a0, .int .u64 a1], .int .u64 d, .int .i64 k] w fun e w' => e = .returned (.bool true) ∧ Below w.heap.size w w' := by
  obtain ⟨a0, rfl, ha0⟩ := u64_nat w0
  obtain ⟨a1, rfl, ha1⟩ := u64_nat w1
  obtain ⟨d, rfl, hd⟩ := u64_nat w2
  clear w0 w1 w2 w3
  have eq := eql_u128
  by_cases h0 : d = 0
  · subst h0
    go_enter Try.func12, Try.ntmps12
    go_wp2_with fail
    refine (near_any _ _ _ ha0 ha1 _).mono ?_
    rintro e w1 ⟨p, q, rfl, hp, hq, x1⟩
    have B0 : Box2 w1 (w.heap.size) (.int .u64 a0) (.int .u64 a1) := Box2.keep (by simp [Box2, go_sem]) x1 (by simp <;> omega)
    have ⟨B0a, B0b, B0c, B0d⟩ := B0
    have B0e := Box2.lt B0
    have hW : Below w.heap.size w w1 := below_then (by repeat (first | assumption | exact Below.refl _ _ | refine below_alloc ?_ _ | refine below_drew ?_ | refine below_drewn ?_ _ | refine below_set ?_ (by simp <;> omega) _)) x1
    have B0e := Box2.lt B0
    have S0 := B0.set (.int .u64 p) (.int .u64 q)
    go_wp2_with fail
    refine (wide_divmod_zero _ _ _).mono ?_
    rintro e w2 ⟨rfl, x2⟩
    have B0 := S0
    have hW : Below w.heap.size w w2 := below_then (by repeat (first | assumption | exact Below.refl _ _ | refine below_alloc ?_ _ | refine below_drew ?_ | refine below_drewn ?_ _ | refine below_set ?_ (by simp <;> omega) _)) x2
    have x2z := x2.size
    try simp at x2z
    clear B0a B0b B0c B0d B0e
    have B0 := Box2.thru B0 x2 (by repeat (first | assumption | exact Below.refl _ _ | refine below_alloc ?_ _ | refine below_drew ?_ | refine below_drewn ?_ _ | refine below_set ?_ (by simp <;> omega) _))
    have ⟨B0a, B0b, B0c, B0d⟩ := B0
    have B0e := Box2.lt B0
    go_wp2_with fail
    refine (awake2 _).mono ?_
    rintro e w3 ⟨rfl, x3⟩
    have hW : Below w.heap.size w w3 := below_then (by repeat (first | assumption | exact Below.refl _ _ | refine below_alloc ?_ _ | refine below_drew ?_ | refine below_drewn ?_ _ | refine below_set ?_ (by simp <;> omega) _)) x3
    have x3z := x3.size
    try simp at x3z
    clear B0a B0b B0c B0d B0e
    have B0 := Box2.thru B0 x3 (by repeat (first | assumption | exact Below.refl _ _ | refine below_alloc ?_ _ | refine below_drew ?_ | refine below_drewn ?_ _ | refine below_set ?_ (by simp <;> omega) _))
    have ⟨B0a, B0b, B0c, B0d⟩ := B0
    have B0e := Box2.lt B0
    have B1 : Box2 w3 (w2.heap.size) (.int .u64 0) (.int .u64 0) := Box2.keep (by simp [Box2, go_sem]) x3 (by simp <;> omega)
    have ⟨B1a, B1b, B1c, B1d⟩ := B1
    have B1e := Box2.lt B1
    go_wp2
    go_ret
    exact ⟨rfl, hW⟩
  · have h1 : ((d : Int) == 0) = false := by simpa using h0
    have hp0 : 0 < d := by omega
    clear h0
    go_enter Try.func12, Try.ntmps12
    go_wp2_with fail
    refine (near_any _ _ _ ha0 ha1 _).mono ?_
    rintro e w1 ⟨p, q, rfl, hp, hq, x1⟩
    have B0 : Box2 w1 (w.heap.size) (.int .u64 a0) (.int .u64 a1) := Box2.keep (by simp [Box2, go_sem]) x1 (by simp <;> omega)
    have ⟨B0a, B0b, B0c, B0d⟩ := B0
    have B0e := Box2.lt B0
    have hW : Below w.heap.size w w1 := below_then (by repeat (first | assumption | exact Below.refl _ _ | refine below_alloc ?_ _ | refine below_drew ?_ | refine below_drewn ?_ _ | refine below_set ?_ (by simp <;> omega) _)) x1
    have B0e := Box2.lt B0
    have S0 := B0.set (.int .u64 p) (.int .u64 q)
    obtain ⟨x, P⟩ : ∃ x, Word2 x p q := ⟨_, word2_mk p q hp hq⟩
    go_wp2_with fail
    refine (wide_divmod _ _ _ _ P hd hp0 _).mono ?_
    rintro e w2 ⟨qh, ql, rfl, Q, x2⟩
    have B0 := S0
    have hW : Below w.heap.size w w2 := below_then (by repeat (first | assumption | exact Below.refl _ _ | refine below_alloc ?_ _ | refine below_drew ?_ | refine below_drewn ?_ _ | refine below_set ?_ (by simp <;> omega) _)) x2
    have x2z := x2.size
    try simp at x2z
    clear B0a B0b B0c B0d B0e
    have B0 := Box2.thru B0 x2 (by repeat (first | assumption | exact Below.refl _ _ | refine below_alloc ?_ _ | refine below_drew ?_ | refine below_drewn ?_ _ | refine below_set ?_ (by simp <;> omega) _))
    have ⟨B0a, B0b, B0c, B0d⟩ := B0
    have B0e := Box2.lt B0
    have hlt := Nat.mod_lt x hp0
    have hm := Lib.hid (Nat.div_add_mod' x d)
    generalize x / d = y at *
    generalize x % d = r at *
    go_wp2_with fail
    refine (ref_mulsmall _ _ _ _ Q hd _).mono ?_
    rintro e w3 ⟨⟨h3, l3, b3, rfl, A3⟩, x3⟩
    have hW : Below w.heap.size w w3 := below_then (by repeat (first | assumption | exact Below.refl _ _ | refine below_alloc ?_ _ | refine below_drew ?_ | refine below_drewn ?_ _ | refine below_set ?_ (by simp <;> omega) _)) x3
    have x3z := x3.size
    try simp at x3z
    clear B0a B0b B0c B0d B0e
    have B0 := Box2.thru B0 x3 (by repeat (first | assumption | exact Below.refl _ _ | refine below_alloc ?_ _ | refine below_drew ?_ | refine below_drewn ?_ _ | refine below_set ?_ (by simp <;> omega) _))
    have ⟨B0a, B0b, B0c, B0d⟩ := B0
    have B0e := Box2.lt B0
    have B1 : Box2 w3 (w2.heap.size) (.int .u64 qh) (.int .u64 ql) := Box2.keep (by simp [Box2, go_sem]) x3 (by simp <;> omega)
    have ⟨B1a, B1b, B1c, B1d⟩ := B1
    have B1e := Box2.lt B1
    have B1e := Box2.lt B1
    have hyd : y * d ≤ x := by rw [← hm.out]; exact Nat.le_add_right _ _
    have hyr : y * d + r = x := hm.out
    obtain ⟨rfl, Y⟩ : b3 = true ∧ Word2 (y * d) h3 l3 := by
      rcases A3 with h | ⟨_, _, _, h⟩
      · exact h
      · exact absurd (Nat.lt_of_le_of_lt hyd P.lt) h
    clear A3
    have hr64 : r < 18446744073709551616 := Nat.lt_trans hlt hd
    have ca := ref_add_yes h3 l3 0 r (y * d) r Y ⟨Nat.zero_add r, hr64, by decide⟩ (by rw [hyr]; exact P.lt)
    rw [hyr] at ca
    have ca2 : ∀ w : World, Calls Try.prog 27 #[.agg #[.int .u64 h3, .int .u64 l3], .agg #[.int .u64 0, .int .u64 r]] w fun e w' => e = .returned (.tuple #[.agg #[.int .u64 p, .int .u64 q], .bool true]) ∧ Below w.heap.size w w' := fun w =>
      (ca w).mono fun e w' ⟨i, o, he, hw, hb⟩ => ⟨by obtain ⟨u1, u2⟩ := P.unique hw; rw [he, u1, u2], hb⟩
    clear ca hyr hyd
    go_upto_region 6 with fail
    have hV : Below w.heap.size w (w3.alloc (.cells #[.int .u64 h3, .int .u64 l3] 41)) := (by repeat (first | assumption | exact Below.refl _ _ | refine below_alloc ?_ _ | refine below_drew ?_ | refine below_drewn ?_ _ | refine below_set ?_ (by simp <;> omega) _))
    have B0 := B0.alloc B0e (.cells #[.int .u64 h3, .int .u64 l3] 41)
    have B1 := B1.alloc B1e (.cells #[.int .u64 h3, .int .u64 l3] 41)
    have B2 : Box2 (w3.alloc (.cells #[.int .u64 h3, .int .u64 l3] 41)) w3.heap.size (.int .u64 h3) (.int .u64 l3) := by simp [Box2, go_sem]
    generalize w3.alloc (.cells #[.int .u64 h3, .int .u64 l3] 41) = v at *
    clear B0a B0b B0c B0d B0e B1a B1b B1c B1d B1e x2 x3 hW x2z x3z x1
    have ⟨B0a, B0b, B0c, B0d⟩ := B0
    have B0e := Box2.lt B0
    have ⟨B1a, B1b, B1c, B1d⟩ := B1
    have B1e := Box2.lt B1
    have ⟨B2a, B2b, B2c, B2d⟩ := B2
    have B2e := Box2.lt B2
    go_cut [12, 13] (fun t ok wx => ∃ b : Nat, t = .pointer (some ⟨b, 0, none⟩) ∧ ok = .bool true ∧ Box2 wx b (.int .u64 p) (.int .u64 q) ∧ Below v.heap.size v wx)
    case first =>
      go_region_held3 (fun w' => (∀ b o, b < v.heap.size → w'.cell? ⟨b, o, none⟩ = v.cell? ⟨b, o, none⟩) ∧ Below v.heap.size v w') (first | ((apply held_then; rotate_left; assumption; assumption)) | ((refine held_of ?_; repeat (first | assumption | exact Below.refl _ _ | ((refine held_below ?_; assumption)) | ((apply held_un; assumption; omega)) | refine below_alloc ?_ _ | refine below_drew ?_ | refine below_drewn ?_ _ | ((refine below_set ?_ ?_ _; rotate_left; (simp <;> omega))))))) (first
        | (go_at_call 39; refine (ref_of r _).mono ?_; rintro e w' ⟨rfl, hx⟩; obtain ⟨hc, hf⟩ := bcell hx; have hz := hx.size; (try simp at hz); (try have hz2 := Nat.lt_of_succ_le hz))
        | (go_at_call 27; refine (ca2 _).mono ?_; rintro e w' ⟨rfl, hx⟩; obtain ⟨hc, hf⟩ := bcell hx; have hz := hx.size; (try simp at hz); (try have hz2 := Nat.lt_of_succ_le hz)))
      all_goals
        go_wp2_with fail
        go_meet
        refine ⟨_, rfl, rfl, ?_, held_below ?_⟩
        · first | (simp [Box2, go_sem]; done) | (simp [Box2, go_sem, *]; done)
        · assumption
    case rest =>
      obtain ⟨b, rfl, rfl, C, hx⟩ := hcut
      have D0 := B0.keep hx B0e
      have D1 := B1.keep hx B1e
      have D2 := B2.keep hx B2e
      have hW := below_then hV hx
      clear B0 B1 B2 B0a B0b B0c B0d B0e B1a B1b B1c B1d B1e B2a B2b B2c B2d B2e hV
      have ⟨D0a, D0b, D0c, D0d⟩ := D0
      have D0e := Box2.lt D0
      have ⟨D1a, D1b, D1c, D1d⟩ := D1
      have D1e := Box2.lt D1
      have ⟨D2a, D2b, D2c, D2d⟩ := D2
      have D2e := Box2.lt D2
      have ⟨Ca, Cb, Cc, Cd⟩ := C
      have Ce := Box2.lt C
      go_wp2_with fail
      refine (awake2 _).mono ?_
      rintro e w7 ⟨rfl, x7⟩
      have hW : Below w.heap.size w w7 := below_then (by repeat (first | assumption | exact Below.refl _ _ | refine below_alloc ?_ _ | refine below_drew ?_ | refine below_drewn ?_ _ | refine below_set ?_ (by simp <;> omega) _)) x7
      have x7z := x7.size
      try simp at x7z
      clear D0a D0b D0c D0d D0e
      clear D1a D1b D1c D1d D1e
      clear D2a D2b D2c D2d D2e
      clear Ca Cb Cc Cd Ce
      have D0 := Box2.thru D0 x7 (by repeat (first | assumption | exact Below.refl _ _ | refine below_alloc ?_ _ | refine below_drew ?_ | refine below_drewn ?_ _ | refine below_set ?_ (by simp <;> omega) _))
      have ⟨D0a, D0b, D0c, D0d⟩ := D0
      have D0e := Box2.lt D0
      have D1 := Box2.thru D1 x7 (by repeat (first | assumption | exact Below.refl _ _ | refine below_alloc ?_ _ | refine below_drew ?_ | refine below_drewn ?_ _ | refine below_set ?_ (by simp <;> omega) _))
      have ⟨D1a, D1b, D1c, D1d⟩ := D1
      have D1e := Box2.lt D1
      have D2 := Box2.thru D2 x7 (by repeat (first | assumption | exact Below.refl _ _ | refine below_alloc ?_ _ | refine below_drew ?_ | refine below_drewn ?_ _ | refine below_set ?_ (by simp <;> omega) _))
      have ⟨D2a, D2b, D2c, D2d⟩ := D2
      have D2e := Box2.lt D2
      have C := Box2.thru C x7 (by repeat (first | assumption | exact Below.refl _ _ | refine below_alloc ?_ _ | refine below_drew ?_ | refine below_drewn ?_ _ | refine below_set ?_ (by simp <;> omega) _))
      have ⟨Ca, Cb, Cc, Cd⟩ := C
      have Ce := Box2.lt C
      go_wp2
      go_ret
      exact ⟨rfl, hW⟩
end Go.Proofs.Ytfeopnnobbcjjaa
