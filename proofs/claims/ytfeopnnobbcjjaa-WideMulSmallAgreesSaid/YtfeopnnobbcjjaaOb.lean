/-
  The law WideMulSmallAgrees of layer 2 (wide), walked: it returns true for all arguments in their ranges.
-/
import Derived.Test.YtfeopnnobbcjjaaO
namespace Go.Proofs.Ytfeopnnobbcjjaa
open Go.RowKit
set_option linter.unusedVariables false

set_option maxRecDepth 100000 in
set_option maxHeartbeats 4000000 in
theorem WideMulSmallAgrees_core (a0 a1 k small j : Int) (w0 : (Lit.int .u64 a0).wf = true) (w1 : (Lit.int .u64 a1).wf = true) (w2 : (Lit.int .u64 k).wf = true) (w3 : (Lit.int .i64 small).wf = true) (w4 : (Lit.int .i64 j).wf = true) (w : World) :
    Calls Try.prog 11 #[.agg #[.int .u64 a0, .int .u64 a1], .int .u64 k, .int .i64 small, .int .i64 j] w fun e w' => e = .returned (.bool true) ∧ Below w.heap.size w w' := by
  obtain ⟨a0, rfl, ha0⟩ := u64_nat w0
  obtain ⟨a1, rfl, ha1⟩ := u64_nat w1
  obtain ⟨k, rfl, hk⟩ := u64_nat w2
  clear w0 w1 w2 w3 w4
  have eq := eql_u128
  obtain ⟨m, hm, hml⟩ : ∃ m : Nat, small % 64 = (m : Int) ∧ m < 64 := ⟨(small % 64).toNat, by omega, by omega⟩
  have cm := mod_any small 64 (by omega) (by omega)
  rw [hm] at cm
  clear hm
  have cn : ∀ (q : Int) (w : World), Calls Try.prog 16 #[.int .i64 q, .int .i64 1000] w fun e w' => ∃ n : Nat, e = .returned (.int .i64 n) ∧ n < 1000 ∧ w = w' := fun q w =>
    (mod_any q 1000 (by omega) (by omega) w).mono fun e w' ⟨he, hw⟩ => ⟨(q % 1000).toNat, by rw [he, Int.toNat_of_nonneg (by omega)], by omega, hw⟩
  go_enter Try.func11, Try.ntmps11
  go_wp2_with fail
  refine (near_any _ _ _ ha0 ha1 _).mono ?_
  rintro e w1 ⟨p, q, rfl, hp, hq, x1⟩
  have B0 : Box2 w1 (w.heap.size) (.int .u64 a0) (.int .u64 a1) := Box2.keep (by simp [Box2, go_sem]) x1 (by simp <;> omega)
  have ⟨B0a, B0b, B0c, B0d⟩ := B0
  have B0e := Box2.lt B0
  have hW : Below w.heap.size w w1 := below_then (by repeat (first | assumption | exact Below.refl _ _ | refine below_alloc ?_ _ | refine below_drew ?_ | refine below_drewn ?_ _ | refine below_set ?_ (by simp <;> omega) _)) x1
  have B0e := Box2.lt B0
  have S0 := B0.set (.int .u64 p) (.int .u64 q)
  obtain ⟨x, P⟩ : ∃ x, Word2 x p q := ⟨_, word2_mk p q hp hq⟩
  go_wp2_with fail
  refine (wide_mulsmall _ _ _ _ P hk _).mono ?_
  rintro e w2 ⟨⟨h1, l1, b1, rfl, A1⟩, x2⟩
  have B0 := S0
  have hW : Below w.heap.size w w2 := below_then (by repeat (first | assumption | exact Below.refl _ _ | refine below_alloc ?_ _ | refine below_drew ?_ | refine below_drewn ?_ _ | refine below_set ?_ (by simp <;> omega) _)) x2
  have x2z := x2.size
  try simp at x2z
  clear B0a B0b B0c B0d B0e
  have B0 := Box2.thru B0 x2 (by repeat (first | assumption | exact Below.refl _ _ | refine below_alloc ?_ _ | refine below_drew ?_ | refine below_drewn ?_ _ | refine below_set ?_ (by simp <;> omega) _))
  have ⟨B0a, B0b, B0c, B0d⟩ := B0
  have B0e := Box2.lt B0
  go_wp2_with fail
  refine (ref_mulsmall _ _ _ _ P hk _).mono ?_
  rintro e w3 ⟨⟨h2, l2, b2, rfl, A2⟩, x3⟩
  have hW : Below w.heap.size w w3 := below_then (by repeat (first | assumption | exact Below.refl _ _ | refine below_alloc ?_ _ | refine below_drew ?_ | refine below_drewn ?_ _ | refine below_set ?_ (by simp <;> omega) _)) x3
  have x3z := x3.size
  try simp at x3z
  clear B0a B0b B0c B0d B0e
  have B0 := Box2.thru B0 x3 (by repeat (first | assumption | exact Below.refl _ _ | refine below_alloc ?_ _ | refine below_drew ?_ | refine below_drewn ?_ _ | refine below_set ?_ (by simp <;> omega) _))
  have ⟨B0a, B0b, B0c, B0d⟩ := B0
  have B0e := Box2.lt B0
  have B1 : Box2 w3 (w2.heap.size) (.int .u64 h1) (.int .u64 l1) := Box2.keep (by simp [Box2, go_sem]) x3 (by simp <;> omega)
  have ⟨B1a, B1b, B1c, B1d⟩ := B1
  have B1e := Box2.lt B1
  have B1e := Box2.lt B1
  obtain ⟨rfl, rfl, rfl⟩ := A1.unique A2
  go_upto_region 4 with fail
  have hV : Below w.heap.size w (w3.alloc (.cells #[.int .u64 h1, .int .u64 l1] 41)) := (by repeat (first | assumption | exact Below.refl _ _ | refine below_alloc ?_ _ | refine below_drew ?_ | refine below_drewn ?_ _ | refine below_set ?_ (by simp <;> omega) _))
  have B0 := B0.alloc B0e (.cells #[.int .u64 h1, .int .u64 l1] 41)
  have B1 := B1.alloc B1e (.cells #[.int .u64 h1, .int .u64 l1] 41)
  have B2 : Box2 (w3.alloc (.cells #[.int .u64 h1, .int .u64 l1] 41)) w3.heap.size (.int .u64 h1) (.int .u64 l1) := by simp [Box2, go_sem]
  generalize w3.alloc (.cells #[.int .u64 h1, .int .u64 l1] 41) = v at *
  clear B0a B0b B0c B0d B0e B1a B1b B1c B1d B1e x2 x3 hW x2z x3z A1 A2 x1
  have ⟨B0a, B0b, B0c, B0d⟩ := B0
  have B0e := Box2.lt B0
  have ⟨B1a, B1b, B1c, B1d⟩ := B1
  have B1e := Box2.lt B1
  have ⟨B2a, B2b, B2c, B2d⟩ := B2
  have B2e := Box2.lt B2
  go_cut [13] (fun t wx => ∃ c0 c1 : Nat, t = .pointer (some ⟨v.heap.size, 0, none⟩) ∧ c0 < 18446744073709551616 ∧ c1 < 18446744073709551616 ∧ Box2 wx v.heap.size (.int .u64 c0) (.int .u64 c1) ∧ Below v.heap.size v wx)
  case first =>
    go_region_held3 (fun w' => (∀ b o, b < v.heap.size → w'.cell? ⟨b, o, none⟩ = v.cell? ⟨b, o, none⟩) ∧ Below v.heap.size v w') (first | exact held_then (by assumption) (by assumption) | exact held_of (by repeat (first | assumption | exact Below.refl _ _ | exact And.right (by assumption) | refine below_alloc ?_ _ | refine below_drew ?_ | refine below_drewn ?_ _ | refine below_set ?_ (by simp <;> omega) _))) (first | (go_at_call 16; refine (cm _).mono ?_; rintro e w' ⟨rfl, rfl⟩))
    all_goals
      go_wp2_with fail
      go_meet
      refine ⟨p / 2 ^ (min (IntKind.u64.wrap (m : Int)).toNat 64), q, rfl, Nat.lt_of_le_of_lt (Nat.div_le_self _ _) hp, hq, ?_, (by repeat (first | assumption | exact Below.refl _ _ | refine below_alloc ?_ _ | refine below_drew ?_ | refine below_drewn ?_ _ | refine below_set ?_ (by simp <;> omega) _))⟩
      simp [Box2, go_sem]
  case rest =>
    obtain ⟨c0, c1, rfl, hc0, hc1, C, hx⟩ := hcut
    have D0 := B0.keep hx B0e
    have D1 := B1.keep hx B1e
    have D2 := B2.keep hx B2e
    have hW := below_then hV hx
    clear B0 B1 B2 B0a B0b B0c B0d B0e B1a B1b B1c B1d B1e B2a B2b B2c B2d B2e hV
    have ⟨D0a, D0b, D0c, D0d⟩ := D0
    have D0e := Box2.lt D0
    have ⟨D1a, D1b, D1c, D1d⟩ := D1
    have D1e := Box2.lt D1
    have ⟨D2a, D2b, D2c, D2d⟩ := D2
    have D2e := Box2.lt D2
    have ⟨Ca, Cb, Cc, Cd⟩ := C
    have Ce := Box2.lt C
    obtain ⟨y, R⟩ : ∃ y, Word2 y c0 c1 := ⟨_, word2_mk c0 c1 hc0 hc1⟩
    go_wp2_with fail
    refine (cn _ _).mono ?_
    rintro e w4 ⟨n, rfl, hn, rfl⟩
    go_wp2_with fail
    refine (wide_mulsmall _ _ _ n R (by omega) _).mono ?_
    rintro e w5 ⟨⟨h3, l3, b3, rfl, A3⟩, x5⟩
    have hW : Below w.heap.size w w5 := below_then (by repeat (first | assumption | exact Below.refl _ _ | refine below_alloc ?_ _ | refine below_drew ?_ | refine below_drewn ?_ _ | refine below_set ?_ (by simp <;> omega) _)) x5
    have x5z := x5.size
    try simp at x5z
    clear D0a D0b D0c D0d D0e
    clear D1a D1b D1c D1d D1e
    clear D2a D2b D2c D2d D2e
    clear Ca Cb Cc Cd Ce
    have D0 := Box2.thru D0 x5 (by repeat (first | assumption | exact Below.refl _ _ | refine below_alloc ?_ _ | refine below_drew ?_ | refine below_drewn ?_ _ | refine below_set ?_ (by simp <;> omega) _))
    have ⟨D0a, D0b, D0c, D0d⟩ := D0
    have D0e := Box2.lt D0
    have D1 := Box2.thru D1 x5 (by repeat (first | assumption | exact Below.refl _ _ | refine below_alloc ?_ _ | refine below_drew ?_ | refine below_drewn ?_ _ | refine below_set ?_ (by simp <;> omega) _))
    have ⟨D1a, D1b, D1c, D1d⟩ := D1
    have D1e := Box2.lt D1
    have D2 := Box2.thru D2 x5 (by repeat (first | assumption | exact Below.refl _ _ | refine below_alloc ?_ _ | refine below_drew ?_ | refine below_drewn ?_ _ | refine below_set ?_ (by simp <;> omega) _))
    have ⟨D2a, D2b, D2c, D2d⟩ := D2
    have D2e := Box2.lt D2
    have C := Box2.thru C x5 (by repeat (first | assumption | exact Below.refl _ _ | refine below_alloc ?_ _ | refine below_drew ?_ | refine below_drewn ?_ _ | refine below_set ?_ (by simp <;> omega) _))
    have ⟨Ca, Cb, Cc, Cd⟩ := C
    have Ce := Box2.lt C
    go_wp2_with fail
    refine (ref_mulsmall _ _ _ n R (by omega) _).mono ?_
    rintro e w6 ⟨⟨h4, l4, b4, rfl, A4⟩, x6⟩
    have hW : Below w.heap.size w w6 := below_then (by repeat (first | assumption | exact Below.refl _ _ | refine below_alloc ?_ _ | refine below_drew ?_ | refine below_drewn ?_ _ | refine below_set ?_ (by simp <;> omega) _)) x6
    have x6z := x6.size
    try simp at x6z
    clear D0a D0b D0c D0d D0e
    clear D1a D1b D1c D1d D1e
    clear D2a D2b D2c D2d D2e
    clear Ca Cb Cc Cd Ce
    have D0 := Box2.thru D0 x6 (by repeat (first | assumption | exact Below.refl _ _ | refine below_alloc ?_ _ | refine below_drew ?_ | refine below_drewn ?_ _ | refine below_set ?_ (by simp <;> omega) _))
    have ⟨D0a, D0b, D0c, D0d⟩ := D0
    have D0e := Box2.lt D0
    have D1 := Box2.thru D1 x6 (by repeat (first | assumption | exact Below.refl _ _ | refine below_alloc ?_ _ | refine below_drew ?_ | refine below_drewn ?_ _ | refine below_set ?_ (by simp <;> omega) _))
    have ⟨D1a, D1b, D1c, D1d⟩ := D1
    have D1e := Box2.lt D1
    have D2 := Box2.thru D2 x6 (by repeat (first | assumption | exact Below.refl _ _ | refine below_alloc ?_ _ | refine below_drew ?_ | refine below_drewn ?_ _ | refine below_set ?_ (by simp <;> omega) _))
    have ⟨D2a, D2b, D2c, D2d⟩ := D2
    have D2e := Box2.lt D2
    have C := Box2.thru C x6 (by repeat (first | assumption | exact Below.refl _ _ | refine below_alloc ?_ _ | refine below_drew ?_ | refine below_drewn ?_ _ | refine below_set ?_ (by simp <;> omega) _))
    have ⟨Ca, Cb, Cc, Cd⟩ := C
    have Ce := Box2.lt C
    have D4 : Box2 w6 (w5.heap.size) (.int .u64 h3) (.int .u64 l3) := Box2.keep (by simp [Box2, go_sem]) x6 (by simp <;> omega)
    have ⟨D4a, D4b, D4c, D4d⟩ := D4
    have D4e := Box2.lt D4
    have D4e := Box2.lt D4
    obtain ⟨rfl, rfl, rfl⟩ := A3.unique A4
    clear A3 A4
    go_wp2_with fail
    refine (awake2 _).mono ?_
    rintro e w7 ⟨rfl, x7⟩
    have hW : Below w.heap.size w w7 := below_then (by repeat (first | assumption | exact Below.refl _ _ | refine below_alloc ?_ _ | refine below_drew ?_ | refine below_drewn ?_ _ | refine below_set ?_ (by simp <;> omega) _)) x7
    have x7z := x7.size
    try simp at x7z
    clear D0a D0b D0c D0d D0e
    clear D1a D1b D1c D1d D1e
    clear D2a D2b D2c D2d D2e
    clear D4a D4b D4c D4d D4e
    have D0 := Box2.thru D0 x7 (by repeat (first | assumption | exact Below.refl _ _ | refine below_alloc ?_ _ | refine below_drew ?_ | refine below_drewn ?_ _ | refine below_set ?_ (by simp <;> omega) _))
    have ⟨D0a, D0b, D0c, D0d⟩ := D0
    have D0e := Box2.lt D0
    have D1 := Box2.thru D1 x7 (by repeat (first | assumption | exact Below.refl _ _ | refine below_alloc ?_ _ | refine below_drew ?_ | refine below_drewn ?_ _ | refine below_set ?_ (by simp <;> omega) _))
    have ⟨D1a, D1b, D1c, D1d⟩ := D1
    have D1e := Box2.lt D1
    have D2 := Box2.thru D2 x7 (by repeat (first | assumption | exact Below.refl _ _ | refine below_alloc ?_ _ | refine below_drew ?_ | refine below_drewn ?_ _ | refine below_set ?_ (by simp <;> omega) _))
    have ⟨D2a, D2b, D2c, D2d⟩ := D2
    have D2e := Box2.lt D2
    have D4 := Box2.thru D4 x7 (by repeat (first | assumption | exact Below.refl _ _ | refine below_alloc ?_ _ | refine below_drew ?_ | refine below_drewn ?_ _ | refine below_set ?_ (by simp <;> omega) _))
    have ⟨D4a, D4b, D4c, D4d⟩ := D4
    have D4e := Box2.lt D4
    have D5 : Box2 w7 (w6.heap.size) (.int .u64 h3) (.int .u64 l3) := Box2.keep (by simp [Box2, go_sem]) x7 (by simp <;> omega)
    have ⟨D5a, D5b, D5c, D5d⟩ := D5
    have D5e := Box2.lt D5
    go_wp2
    go_ret
    exact ⟨rfl, hW⟩
end Go.Proofs.Ytfeopnnobbcjjaa
