/-
  The law WideSumsAgree of layer 2 (wide), walked: it returns true for all arguments in their ranges.
-/
import Derived.Test.YtfeopnnobbcjjaaO
namespace Go.Proofs.Ytfeopnnobbcjjaa
open Go.RowKit
set_option linter.unusedVariables false

set_option maxRecDepth 100000 in
set_option maxHeartbeats 4000000 in
theorem WideSumsAgree_core (a0 a1 b0 b1 k j : Int) (w0 : (Lit.int .u64 a0).wf = true) (w1 : (Lit.int .u64 a1).wf = true) (w2 : (Lit.int .u64 b0).wf = true) (w3 : (Lit.int .u64 b1).wf = true) (w4 : (Lit.int .i64 k).wf = true) (w5 : (Lit.int .i64 j).wf = true) (w : World) :
    Calls Try.prog 10 #[.agg #[.int .u64 a0, .int .u64 a1], .agg #[.int .u64 b0, .int .u64 b1], .int .i64 k, .int .i64 j] w fun e w' => e = .returned (.bool true) ∧ Below w.heap.size w w' := by
  obtain ⟨a0, rfl, ha0⟩ := u64_nat w0
  obtain ⟨a1, rfl, ha1⟩ := u64_nat w1
  obtain ⟨b0, rfl, hb0⟩ := u64_nat w2
  obtain ⟨b1, rfl, hb1⟩ := u64_nat w3
  clear w0 w1 w2 w3 w4 w5
  have eq := eql_u128
  go_enter Try.func10, Try.ntmps10
  go_upto_region 1 with fail
  go_cut [] (fun wx => ∃ p q r s : Nat, p < 18446744073709551616 ∧ q < 18446744073709551616 ∧ r < 18446744073709551616 ∧ s < 18446744073709551616 ∧ Below w.heap.size w wx ∧ w.heap.size + 1 < wx.heap.size ∧ Box2 wx w.heap.size (.int .u64 p) (.int .u64 q) ∧ Box2 wx (w.heap.size + 1) (.int .u64 r) (.int .u64 s))
  case first =>
    go_region_with (first
      | (go_at_call 25; (with_reducible refine (near_any a0 a1 _ ha0 ha1 _).mono ?_); rintro e w1 ⟨p, q, rfl, hp, hq, hx1⟩; have ⟨hc1, hf1⟩ := bcell hx1; have hz1 : w.heap.size + 1 < w1.heap.size := (by have := hx1.size; simp at this; omega); have X0 : Box2 w1 w.heap.size (.int .u64 a0) (.int .u64 a1) := Box2.keep (by simp [Box2, go_sem]) hx1 (by simp <;> omega); have X1 : Box2 w1 (w.heap.size + 1) (.int .u64 b0) (.int .u64 b1) := Box2.keep (by simp [Box2, go_sem]) hx1 (by simp <;> omega); have hw1 : Below w.heap.size w w1 := below_then (by repeat (first | assumption | exact Below.refl _ _ | refine below_alloc ?_ _ | refine below_drew ?_ | refine below_drewn ?_ _ | refine below_set ?_ (by simp <;> omega) _)) hx1)
      | (go_at_call 25; (with_reducible refine (near_any b0 b1 _ hb0 hb1 _).mono ?_); rintro e w2 ⟨r, s, rfl, hr, hs, hx2⟩; have hz2 : w1.heap.size ≤ w2.heap.size := hx2.size; have Y0 := X0.keep hx2 (by omega); have Y1 := X1.keep hx2 (by omega); have ⟨r1, r2, r3, r4⟩ := Y0; have ⟨t1, t2, t3, t4⟩ := Y1; have hw2 := below_then hw1 hx2))
    all_goals
      have Z0 := (Y0.set (.int .u64 p) (.int .u64 q) |>.other (p := ⟨w.heap.size + 1, 0, none⟩) (by simp <;> omega) (.int .u64 r)).other (p := ⟨w.heap.size + 1, 1, none⟩) (by simp <;> omega) (.int .u64 s)
      have Z1 := ((Y1.other (p := ⟨w.heap.size, 0, none⟩) (by simp <;> omega) (.int .u64 p)).other (p := ⟨w.heap.size, 1, none⟩) (by simp <;> omega) (.int .u64 q)).set (.int .u64 r) (.int .u64 s)
      go_wp2_with fail
      go_meet
      exact ⟨p, q, r, s, hp, hq, hr, hs, (by repeat (first | assumption | exact Below.refl _ _ | refine below_alloc ?_ _ | refine below_drew ?_ | refine below_drewn ?_ _ | refine below_set ?_ (by simp <;> omega) _)), by simp; omega, Z0, Z1⟩
  case rest =>
    obtain ⟨p, q, r, s, hp, hq, hr, hs, hW, hz, B0, B1⟩ := hcut
    have ⟨B0a, B0b, B0c, B0d⟩ := B0
    have B0e := Box2.lt B0
    have ⟨B1a, B1b, B1c, B1d⟩ := B1
    have B1e := Box2.lt B1
    obtain ⟨x, P⟩ : ∃ x, Word2 x p q := ⟨_, word2_mk p q hp hq⟩
    obtain ⟨y, R⟩ : ∃ y, Word2 y r s := ⟨_, word2_mk r s hr hs⟩
    go_wp2_with fail
    refine (wide_add _ _ _ _ _ _ P R _).mono ?_
    rintro e w3 ⟨⟨h1, l1, b1, rfl, A1⟩, x3⟩
    have hW : Below w.heap.size w w3 := below_then (by repeat (first | assumption | exact Below.refl _ _ | refine below_alloc ?_ _ | refine below_drew ?_ | refine below_drewn ?_ _ | refine below_set ?_ (by simp <;> omega) _)) x3
    have x3z := x3.size
    try simp at x3z
    clear B0a B0b B0c B0d B0e
    clear B1a B1b B1c B1d B1e
    have B0 := Box2.thru B0 x3 (by repeat (first | assumption | exact Below.refl _ _ | refine below_alloc ?_ _ | refine below_drew ?_ | refine below_drewn ?_ _ | refine below_set ?_ (by simp <;> omega) _))
    have ⟨B0a, B0b, B0c, B0d⟩ := B0
    have B0e := Box2.lt B0
    have B1 := Box2.thru B1 x3 (by repeat (first | assumption | exact Below.refl _ _ | refine below_alloc ?_ _ | refine below_drew ?_ | refine below_drewn ?_ _ | refine below_set ?_ (by simp <;> omega) _))
    have ⟨B1a, B1b, B1c, B1d⟩ := B1
    have B1e := Box2.lt B1
    go_wp2_with fail
    refine (ref_add _ _ _ _ _ _ P R _).mono ?_
    rintro e w4 ⟨⟨h2, l2, b2, rfl, A2⟩, x4⟩
    have hW : Below w.heap.size w w4 := below_then (by repeat (first | assumption | exact Below.refl _ _ | refine below_alloc ?_ _ | refine below_drew ?_ | refine below_drewn ?_ _ | refine below_set ?_ (by simp <;> omega) _)) x4
    have x4z := x4.size
    try simp at x4z
    clear B0a B0b B0c B0d B0e
    clear B1a B1b B1c B1d B1e
    have B0 := Box2.thru B0 x4 (by repeat (first | assumption | exact Below.refl _ _ | refine below_alloc ?_ _ | refine below_drew ?_ | refine below_drewn ?_ _ | refine below_set ?_ (by simp <;> omega) _))
    have ⟨B0a, B0b, B0c, B0d⟩ := B0
    have B0e := Box2.lt B0
    have B1 := Box2.thru B1 x4 (by repeat (first | assumption | exact Below.refl _ _ | refine below_alloc ?_ _ | refine below_drew ?_ | refine below_drewn ?_ _ | refine below_set ?_ (by simp <;> omega) _))
    have ⟨B1a, B1b, B1c, B1d⟩ := B1
    have B1e := Box2.lt B1
    have B2 : Box2 w4 (w3.heap.size) (.int .u64 h1) (.int .u64 l1) := Box2.keep (by simp [Box2, go_sem]) x4 (by simp <;> omega)
    have ⟨B2a, B2b, B2c, B2d⟩ := B2
    have B2e := Box2.lt B2
    obtain ⟨rfl, rfl, rfl⟩ := A1.unique A2
    go_wp2_with fail
    refine (wide_sub _ _ _ _ _ _ P R _).mono ?_
    rintro e w5 ⟨⟨h3, l3, b3, rfl, D1⟩, x5⟩
    have hW : Below w.heap.size w w5 := below_then (by repeat (first | assumption | exact Below.refl _ _ | refine below_alloc ?_ _ | refine below_drew ?_ | refine below_drewn ?_ _ | refine below_set ?_ (by simp <;> omega) _)) x5
    have x5z := x5.size
    try simp at x5z
    clear B0a B0b B0c B0d B0e
    clear B1a B1b B1c B1d B1e
    clear B2a B2b B2c B2d B2e
    have B0 := Box2.thru B0 x5 (by repeat (first | assumption | exact Below.refl _ _ | refine below_alloc ?_ _ | refine below_drew ?_ | refine below_drewn ?_ _ | refine below_set ?_ (by simp <;> omega) _))
    have ⟨B0a, B0b, B0c, B0d⟩ := B0
    have B0e := Box2.lt B0
    have B1 := Box2.thru B1 x5 (by repeat (first | assumption | exact Below.refl _ _ | refine below_alloc ?_ _ | refine below_drew ?_ | refine below_drewn ?_ _ | refine below_set ?_ (by simp <;> omega) _))
    have ⟨B1a, B1b, B1c, B1d⟩ := B1
    have B1e := Box2.lt B1
    have B2 := Box2.thru B2 x5 (by repeat (first | assumption | exact Below.refl _ _ | refine below_alloc ?_ _ | refine below_drew ?_ | refine below_drewn ?_ _ | refine below_set ?_ (by simp <;> omega) _))
    have ⟨B2a, B2b, B2c, B2d⟩ := B2
    have B2e := Box2.lt B2
    have B3 : Box2 w5 (w4.heap.size) (.int .u64 h1) (.int .u64 l1) := Box2.keep (by simp [Box2, go_sem]) x5 (by simp <;> omega)
    have ⟨B3a, B3b, B3c, B3d⟩ := B3
    have B3e := Box2.lt B3
    go_wp2_with fail
    refine (ref_sub _ _ _ _ _ _ P R _).mono ?_
    rintro e w6 ⟨⟨h4, l4, b4, rfl, D2⟩, x6⟩
    have hW : Below w.heap.size w w6 := below_then (by repeat (first | assumption | exact Below.refl _ _ | refine below_alloc ?_ _ | refine below_drew ?_ | refine below_drewn ?_ _ | refine below_set ?_ (by simp <;> omega) _)) x6
    have x6z := x6.size
    try simp at x6z
    clear B0a B0b B0c B0d B0e
    clear B1a B1b B1c B1d B1e
    clear B2a B2b B2c B2d B2e
    clear B3a B3b B3c B3d B3e
    have B0 := Box2.thru B0 x6 (by repeat (first | assumption | exact Below.refl _ _ | refine below_alloc ?_ _ | refine below_drew ?_ | refine below_drewn ?_ _ | refine below_set ?_ (by simp <;> omega) _))
    have ⟨B0a, B0b, B0c, B0d⟩ := B0
    have B0e := Box2.lt B0
    have B1 := Box2.thru B1 x6 (by repeat (first | assumption | exact Below.refl _ _ | refine below_alloc ?_ _ | refine below_drew ?_ | refine below_drewn ?_ _ | refine below_set ?_ (by simp <;> omega) _))
    have ⟨B1a, B1b, B1c, B1d⟩ := B1
    have B1e := Box2.lt B1
    have B2 := Box2.thru B2 x6 (by repeat (first | assumption | exact Below.refl _ _ | refine below_alloc ?_ _ | refine below_drew ?_ | refine below_drewn ?_ _ | refine below_set ?_ (by simp <;> omega) _))
    have ⟨B2a, B2b, B2c, B2d⟩ := B2
    have B2e := Box2.lt B2
    have B3 := Box2.thru B3 x6 (by repeat (first | assumption | exact Below.refl _ _ | refine below_alloc ?_ _ | refine below_drew ?_ | refine below_drewn ?_ _ | refine below_set ?_ (by simp <;> omega) _))
    have ⟨B3a, B3b, B3c, B3d⟩ := B3
    have B3e := Box2.lt B3
    have B4 : Box2 w6 (w5.heap.size) (.int .u64 h3) (.int .u64 l3) := Box2.keep (by simp [Box2, go_sem]) x6 (by simp <;> omega)
    have ⟨B4a, B4b, B4c, B4d⟩ := B4
    have B4e := Box2.lt B4
    obtain ⟨rfl, rfl, rfl⟩ := D1.unique D2
    have c1 := wide_compare p q r s x y P R
    have c2 := ref_compare p q r s x y P R
    obtain ⟨mh, ml, M⟩ := word2_mul q s hq hs
    have c3 := wide_mul_at q s mh ml hq hs M
    have c4 := ref_mul_at q s mh ml hq hs M
    have c5 := wide_of q
    clear A1 A2 D1 D2 P R
    generalize cmp3 x y = cm at *
    go_upto_region 6 with fail
    have hV : Below w.heap.size w (w6.alloc (.cells #[.int .u64 h3, .int .u64 l3] 41)) := (by repeat (first | assumption | exact Below.refl _ _ | refine below_alloc ?_ _ | refine below_drew ?_ | refine below_drewn ?_ _ | refine below_set ?_ (by simp <;> omega) _))
    have B0 := B0.alloc B0e (.cells #[.int .u64 h3, .int .u64 l3] 41)
    have B1 := B1.alloc B1e (.cells #[.int .u64 h3, .int .u64 l3] 41)
    have B2 := B2.alloc B2e (.cells #[.int .u64 h3, .int .u64 l3] 41)
    have B3 := B3.alloc B3e (.cells #[.int .u64 h3, .int .u64 l3] 41)
    have B4 := B4.alloc B4e (.cells #[.int .u64 h3, .int .u64 l3] 41)
    have B5 : Box2 (w6.alloc (.cells #[.int .u64 h3, .int .u64 l3] 41)) w6.heap.size (.int .u64 h3) (.int .u64 l3) := by simp [Box2, go_sem]
    generalize w6.alloc (.cells #[.int .u64 h3, .int .u64 l3] 41) = v at *
    clear B0a B0b B0c B0d B0e B1a B1b B1c B1d B1e B2a B2b B2c B2d B2e B3a B3b B3c B3d B3e B4a B4b B4c B4d B4e x3 x4 x5 x6 hW x3z x4z x5z x6z
    have ⟨B0a, B0b, B0c, B0d⟩ := B0
    have B0e := Box2.lt B0
    have ⟨B1a, B1b, B1c, B1d⟩ := B1
    have B1e := Box2.lt B1
    have ⟨B2a, B2b, B2c, B2d⟩ := B2
    have B2e := Box2.lt B2
    have ⟨B3a, B3b, B3c, B3d⟩ := B3
    have B3e := Box2.lt B3
    have ⟨B4a, B4b, B4c, B4d⟩ := B4
    have B4e := Box2.lt B4
    have ⟨B5a, B5b, B5c, B5d⟩ := B5
    have B5e := Box2.lt B5
    go_region_held3 (fun w' => (∀ b o, b < v.heap.size → w'.cell? ⟨b, o, none⟩ = v.cell? ⟨b, o, none⟩) ∧ Below v.heap.size v w') (first | exact held_of (below_drew (Below.refl _ _)) | exact held_then (by assumption) (by assumption))
      (first
        | (go_at_call 30; refine (awake2 _).mono ?_; rintro e w' ⟨rfl, hx⟩)
        | (go_at_call 31; refine (c1 _).mono ?_; rintro e w' ⟨rfl, hx⟩)
        | (go_at_call 32; refine (c2 _).mono ?_; rintro e w' ⟨rfl, hx⟩)
        | (go_at_call 33; refine (c3 _).mono ?_; rintro e w' ⟨rfl, hx⟩)
        | (go_at_call 34; refine (c4 _).mono ?_; rintro e w' ⟨rfl, hx⟩)
        | (go_at_call 35; refine (c5 _).mono ?_; rintro e w' ⟨rfl, hx⟩))
    go_wp2
    go_ret
    exact ⟨rfl, below_then hV (And.right (by assumption))⟩
end Go.Proofs.Ytfeopnnobbcjjaa
