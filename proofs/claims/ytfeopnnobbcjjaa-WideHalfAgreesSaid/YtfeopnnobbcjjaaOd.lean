/-
  The law WideHalfAgrees of layer 2 (wide), walked: it returns true for all arguments in their ranges.
-/
import Derived.Test.YtfeopnnobbcjjaaO
namespace Go.Proofs.Ytfeopnnobbcjjaa
open Go.RowKit
set_option linter.unusedVariables false

set_option maxRecDepth 100000 in
set_option maxHeartbeats 4000000 in
theorem WideHalfAgrees_core (a0 a1 d k : Int) (w0 : (Lit.int .u64 a0).wf = true) (w1 : (Lit.int .u64 a1).wf = true) (w2 : (Lit.int .u64 d).wf = true) (w3 : (Lit.int .i64 k).wf = true) (w : World) :
    Calls Try.prog 13 #[.agg #[.int .u64 a0, .int .u64 a1], .int .u64 d, .int .i64 k] w fun e w' => e = .returned (.bool true) ∧ Below w.heap.size w w' := by
  obtain ⟨a0, rfl, ha0⟩ := u64_nat w0
  obtain ⟨a1, rfl, ha1⟩ := u64_nat w1
  obtain ⟨d, rfl, hd⟩ := u64_nat w2
  clear w0 w1 w2 w3
  have eq := eql_u128
  -- both functions, whatever d is
  have both : ∀ p q x : Nat, Word2 x p q → ∃ (gh gl : Nat) (b : Bool), (∀ w : World, Calls Try.prog 40 #[.agg #[.int .u64 p, .int .u64 q], .int .u64 d] w fun e w' => e = .returned (.tuple #[.agg #[.int .u64 gh, .int .u64 gl], .bool b]) ∧ Below w.heap.size w w') ∧
      (∀ w : World, Calls Try.prog 41 #[.agg #[.int .u64 p, .int .u64 q], .int .u64 d] w fun e w' => e = .returned (.tuple #[.agg #[.int .u64 gh, .int .u64 gl], .bool b]) ∧ Below w.heap.size w w') := fun p q x P => by
    by_cases h0 : d = 0
    · subst h0
      exact ⟨0, 0, false, fun w => wide_half_zero p q w, fun w => ref_halfwide_zero p q w⟩
    · have hp0 : 0 < d := by omega
      obtain ⟨gh, gl, G⟩ := word2_of (half x d) (Nat.lt_of_le_of_lt (half_le x d) P.lt)
      exact ⟨gh, gl, true, fun w => (wide_half p q d x P hd hp0 w).mono fun e w' ⟨i, o, he, hw, hb⟩ => ⟨by obtain ⟨u1, u2⟩ := G.unique hw; rw [he, u1, u2], hb⟩,
        fun w => (ref_halfwide p q d x P hd hp0 w).mono fun e w' ⟨i, o, he, hw, hb⟩ => ⟨by obtain ⟨u1, u2⟩ := G.unique hw; rw [he, u1, u2], hb⟩⟩
  go_enter Try.func13, Try.ntmps13
  go_wp2_with fail
  refine (near_any _ _ _ ha0 ha1 _).mono ?_
  rintro e w1 ⟨p, q, rfl, hp, hq, x1⟩
  have B0 : Box2 w1 (w.heap.size) (.int .u64 a0) (.int .u64 a1) := Box2.keep (by simp [Box2, go_sem]) x1 (by simp <;> omega)
  have ⟨B0a, B0b, B0c, B0d⟩ := B0
  have B0e := Box2.lt B0
  have hW : Below w.heap.size w w1 := below_then (by repeat (first | assumption | exact Below.refl _ _ | refine below_alloc ?_ _ | refine below_drew ?_ | refine below_drewn ?_ _ | refine below_set ?_ (by simp <;> omega) _)) x1
  have B0e := Box2.lt B0
  have S0 := B0.set (.int .u64 p) (.int .u64 q)
  obtain ⟨gh, gl, b, c1, c2⟩ := both p q _ (word2_mk p q hp hq)
  clear both
  go_wp2_with fail
  refine (c1 _).mono ?_
  rintro e w2 ⟨rfl, x2⟩
  have B0 := S0
  have hW : Below w.heap.size w w2 := below_then (by repeat (first | assumption | exact Below.refl _ _ | refine below_alloc ?_ _ | refine below_drew ?_ | refine below_drewn ?_ _ | refine below_set ?_ (by simp <;> omega) _)) x2
  have x2z := x2.size
  try simp at x2z
  clear B0a B0b B0c B0d B0e
  have B0 := Box2.thru B0 x2 (by repeat (first | assumption | exact Below.refl _ _ | refine below_alloc ?_ _ | refine below_drew ?_ | refine below_drewn ?_ _ | refine below_set ?_ (by simp <;> omega) _))
  have ⟨B0a, B0b, B0c, B0d⟩ := B0
  have B0e := Box2.lt B0
  go_wp2_with fail
  refine (c2 _).mono ?_
  rintro e w3 ⟨rfl, x3⟩
  have hW : Below w.heap.size w w3 := below_then (by repeat (first | assumption | exact Below.refl _ _ | refine below_alloc ?_ _ | refine below_drew ?_ | refine below_drewn ?_ _ | refine below_set ?_ (by simp <;> omega) _)) x3
  have x3z := x3.size
  try simp at x3z
  clear B0a B0b B0c B0d B0e
  have B0 := Box2.thru B0 x3 (by repeat (first | assumption | exact Below.refl _ _ | refine below_alloc ?_ _ | refine below_drew ?_ | refine below_drewn ?_ _ | refine below_set ?_ (by simp <;> omega) _))
  have ⟨B0a, B0b, B0c, B0d⟩ := B0
  have B0e := Box2.lt B0
  have B1 : Box2 w3 (w2.heap.size) (.int .u64 gh) (.int .u64 gl) := Box2.keep (by simp [Box2, go_sem]) x3 (by simp <;> omega)
  have ⟨B1a, B1b, B1c, B1d⟩ := B1
  have B1e := Box2.lt B1
  have B1e := Box2.lt B1
  clear c1 c2
  -- t = 2 (q / 2)
  have hq2 : (q : Int) / 2 = ((q / 2 : Nat) : Int) := by omega
  have co : ∀ w : World, Calls Try.prog 39 #[.int .u64 ((q : Int) / 2)] w fun e w' => e = .returned (.agg #[.int .u64 0, .int .u64 ((q / 2 : Nat) : Int)]) ∧ Below w.heap.size w w' := fun w => by rw [hq2]; exact ref_of (q / 2) w
  have ct : ∀ w : World, Calls Try.prog 37 #[.agg #[.int .u64 0, .int .u64 ((q / 2 : Nat) : Int)], .int .u64 2] w fun e w' => e = .returned (.tuple #[.agg #[.int .u64 0, .int .u64 ((q / 2 * 2 : Nat) : Int)], .bool true]) ∧ Below w.heap.size w w' := fun w => by
    refine (ref_mulsmall 0 (q / 2) (q / 2) 2 ⟨by omega, by omega, by omega⟩ (by omega) w).mono ?_
    rintro e w' ⟨⟨i, o, b, rfl, A⟩, hb⟩
    rcases A with ⟨rfl, K⟩ | ⟨rfl, rfl, rfl, K⟩
    · obtain ⟨rfl, rfl⟩ := K.unique (⟨by omega, by omega, by omega⟩ : Word2 (q / 2 * 2) 0 (q / 2 * 2))
      exact ⟨rfl, hb⟩
    · exact absurd (by omega) K
  clear hq2
  go_wp2_with fail
  refine (co _).mono ?_
  rintro e w4 ⟨rfl, x4⟩
  have hW : Below w.heap.size w w4 := below_then (by repeat (first | assumption | exact Below.refl _ _ | refine below_alloc ?_ _ | refine below_drew ?_ | refine below_drewn ?_ _ | refine below_set ?_ (by simp <;> omega) _)) x4
  have x4z := x4.size
  try simp at x4z
  clear B0a B0b B0c B0d B0e
  clear B1a B1b B1c B1d B1e
  have B0 := Box2.thru B0 x4 (by repeat (first | assumption | exact Below.refl _ _ | refine below_alloc ?_ _ | refine below_drew ?_ | refine below_drewn ?_ _ | refine below_set ?_ (by simp <;> omega) _))
  have ⟨B0a, B0b, B0c, B0d⟩ := B0
  have B0e := Box2.lt B0
  have B1 := Box2.thru B1 x4 (by repeat (first | assumption | exact Below.refl _ _ | refine below_alloc ?_ _ | refine below_drew ?_ | refine below_drewn ?_ _ | refine below_set ?_ (by simp <;> omega) _))
  have ⟨B1a, B1b, B1c, B1d⟩ := B1
  have B1e := Box2.lt B1
  have B2 : Box2 w4 (w3.heap.size) (.int .u64 gh) (.int .u64 gl) := Box2.keep (by simp [Box2, go_sem]) x4 (by simp <;> omega)
  have ⟨B2a, B2b, B2c, B2d⟩ := B2
  have B2e := Box2.lt B2
  have B2e := Box2.lt B2
  go_wp2_with fail
  refine (ct _).mono ?_
  rintro e w5 ⟨rfl, x5⟩
  have hW : Below w.heap.size w w5 := below_then (by repeat (first | assumption | exact Below.refl _ _ | refine below_alloc ?_ _ | refine below_drew ?_ | refine below_drewn ?_ _ | refine below_set ?_ (by simp <;> omega) _)) x5
  have x5z := x5.size
  try simp at x5z
  clear B0a B0b B0c B0d B0e
  clear B1a B1b B1c B1d B1e
  clear B2a B2b B2c B2d B2e
  have B0 := Box2.thru B0 x5 (by repeat (first | assumption | exact Below.refl _ _ | refine below_alloc ?_ _ | refine below_drew ?_ | refine below_drewn ?_ _ | refine below_set ?_ (by simp <;> omega) _))
  have ⟨B0a, B0b, B0c, B0d⟩ := B0
  have B0e := Box2.lt B0
  have B1 := Box2.thru B1 x5 (by repeat (first | assumption | exact Below.refl _ _ | refine below_alloc ?_ _ | refine below_drew ?_ | refine below_drewn ?_ _ | refine below_set ?_ (by simp <;> omega) _))
  have ⟨B1a, B1b, B1c, B1d⟩ := B1
  have B1e := Box2.lt B1
  have B2 := Box2.thru B2 x5 (by repeat (first | assumption | exact Below.refl _ _ | refine below_alloc ?_ _ | refine below_drew ?_ | refine below_drewn ?_ _ | refine below_set ?_ (by simp <;> omega) _))
  have ⟨B2a, B2b, B2c, B2d⟩ := B2
  have B2e := Box2.lt B2
  clear co ct
  obtain ⟨z, hz0⟩ : ∃ z, z = q / 2 * 2 := ⟨_, rfl⟩
  obtain ⟨z1, hz1⟩ : ∃ z1, z1 = q / 2 + 1 := ⟨_, rfl⟩
  obtain ⟨zz, hzz⟩ : ∃ zz, zz = z + 1 := ⟨_, rfl⟩
  rw [← hz0]
  have ca : ∀ w : World, Calls Try.prog 27 #[.agg #[.int .u64 0, .int .u64 (z : Int)], .agg #[.int .u64 0, .int .u64 ((1 : Nat) : Int)]] w fun e w' => e = .returned (.tuple #[.agg #[.int .u64 0, .int .u64 (zz : Int)], .bool true]) ∧ Below w.heap.size w w' := fun w =>
    (ref_add_yes 0 z 0 1 z 1 ⟨by omega, by omega, by omega⟩ ⟨by omega, by omega, by omega⟩ (by omega) w).mono fun e w' ⟨i, o, he, hw, hb⟩ => ⟨by
      obtain ⟨u1, u2⟩ := Word2.unique (n := z + 1) (a := 0) (b := zz) ⟨by omega, by omega, by omega⟩ hw; rw [he, ← u1, ← u2]; rfl, hb⟩
  have ch : ∀ w : World, Calls Try.prog 40 #[.agg #[.int .u64 0, .int .u64 (zz : Int)], .int .u64 2] w fun e w' => e = .returned (.tuple #[.agg #[.int .u64 0, .int .u64 (z1 : Int)], .bool true]) ∧ Below w.heap.size w w' := fun w =>
    (wide_half 0 zz 2 zz ⟨by omega, by omega, by omega⟩ (by omega) (by omega) w).mono fun e w' ⟨i, o, he, hw, hb⟩ => ⟨by
      have e1 : half zz 2 = z1 := by unfold half; rw [if_neg (by decide), if_pos (by omega)]; omega
      rw [e1] at hw
      obtain ⟨u1, u2⟩ := Word2.unique (n := z1) (a := 0) (b := z1) ⟨by omega, by omega, by omega⟩ hw; rw [he, ← u1, ← u2]; rfl, hb⟩
  have Hz0 := Lib.hid hz0
  have Hz1 := Lib.hid hz1
  have Hzz := 0
  clear hz0 hz1 hzz Hzz
  go_upto_region 5 with fail
  have hV : Below w.heap.size w (w5.alloc (.cells #[.int .u64 0, .int .u64 z] 41)) := (by repeat (first | assumption | exact Below.refl _ _ | refine below_alloc ?_ _ | refine below_drew ?_ | refine below_drewn ?_ _ | refine below_set ?_ (by simp <;> omega) _))
  have B0 := B0.alloc B0e (.cells #[.int .u64 0, .int .u64 z] 41)
  have B1 := B1.alloc B1e (.cells #[.int .u64 0, .int .u64 z] 41)
  have B2 := B2.alloc B2e (.cells #[.int .u64 0, .int .u64 z] 41)
  have T : Box2 (w5.alloc (.cells #[.int .u64 0, .int .u64 z] 41)) w5.heap.size (.int .u64 0) (.int .u64 z) := by simp [Box2, go_sem]
  have n0 : w5.heap.size ≠ w.heap.size := by omega
  have n1 : w5.heap.size ≠ w2.heap.size := by omega
  have n2 : w5.heap.size ≠ w3.heap.size := by omega
  have n3 : w.heap.size ≤ w5.heap.size := by omega
  generalize w5.alloc (.cells #[.int .u64 0, .int .u64 z] 41) = v at *
  generalize w5.heap.size = tb at *
  clear B0a B0b B0c B0d B0e B1a B1b B1c B1d B1e B2a B2b B2c B2d B2e hW x1 x2 x3 x4 x5 x2z x3z x4z x5z
  have ⟨Ta, Tb, Tc, Td⟩ := T
  have Te := Box2.lt T
  go_cut [] (fun wx => Box2 wx w.heap.size (.int .u64 p) (.int .u64 q) ∧ Box2 wx w2.heap.size (.int .u64 gh) (.int .u64 gl) ∧ Box2 wx w3.heap.size (.int .u64 gh) (.int .u64 gl) ∧ Box2 wx tb (.int .u64 0) (.int .u64 (zz : Int)) ∧ Below w.heap.size w wx)
  case first =>
    go_region_with (first
      | (go_at_call 39; refine (ref_of 1 _).mono ?_; rintro e w6 ⟨rfl, hx6⟩; have T1 := Box2.thru T hx6 (by repeat (first | assumption | exact Below.refl _ _ | refine below_alloc ?_ _ | refine below_drew ?_ | refine below_drewn ?_ _ | refine below_set ?_ (by simp <;> omega) _)); have ⟨Y1, Y2, Y3, Y4⟩ := T1; have V6 : Below v.heap.size v w6 := below_then (by repeat (first | assumption | exact Below.refl _ _ | refine below_alloc ?_ _ | refine below_drew ?_ | refine below_drewn ?_ _ | refine below_set ?_ (by simp <;> omega) _)) hx6)
      | (go_at_call 27; refine (ca _).mono ?_; rintro e w7 ⟨rfl, hx7⟩; have T2 := Box2.thru T1 hx7 (by repeat (first | assumption | exact Below.refl _ _ | refine below_alloc ?_ _ | refine below_drew ?_ | refine below_drewn ?_ _ | refine below_set ?_ (by simp <;> omega) _)); have ⟨Z1, Z2, Z3, Z4⟩ := T2; have V7 : Below v.heap.size v w7 := below_then V6 hx7))
    all_goals
      have V8 := below_then hV V7
      have C0 := ((B0.keep V7 (Box2.lt B0)).other (p := ⟨tb, 0, none⟩) n0 (.int .u64 0)).other (p := ⟨tb, 1, none⟩) n0 (.int .u64 (zz : Int))
      have C1 := ((B1.keep V7 (Box2.lt B1)).other (p := ⟨tb, 0, none⟩) n1 (.int .u64 0)).other (p := ⟨tb, 1, none⟩) n1 (.int .u64 (zz : Int))
      have C2 := ((B2.keep V7 (Box2.lt B2)).other (p := ⟨tb, 0, none⟩) n2 (.int .u64 0)).other (p := ⟨tb, 1, none⟩) n2 (.int .u64 (zz : Int))
      have C3 := T2.set (.int .u64 0) (.int .u64 (zz : Int))
      go_wp2_with fail
      go_meet
      exact ⟨C0, C1, C2, C3, (by repeat (first | assumption | exact Below.refl _ _ | refine below_alloc ?_ _ | refine below_drew ?_ | refine below_drewn ?_ _ | refine below_set ?_ (by simp <;> omega) _))⟩
  case rest =>
    obtain ⟨D0, D1, D2, D3, hW⟩ := hcut
    clear B0 B1 B2 T Ta Tb Tc Td Te hV
    have ⟨D0a, D0b, D0c, D0d⟩ := D0
    have D0e := Box2.lt D0
    have ⟨D1a, D1b, D1c, D1d⟩ := D1
    have D1e := Box2.lt D1
    have ⟨D2a, D2b, D2c, D2d⟩ := D2
    have D2e := Box2.lt D2
    have ⟨D3a, D3b, D3c, D3d⟩ := D3
    have D3e := Box2.lt D3
    go_wp2_with fail
    refine (ch _).mono ?_
    rintro e w8 ⟨rfl, x8⟩
    have hW : Below w.heap.size w w8 := below_then (by repeat (first | assumption | exact Below.refl _ _ | refine below_alloc ?_ _ | refine below_drew ?_ | refine below_drewn ?_ _ | refine below_set ?_ (by simp <;> omega) _)) x8
    have x8z := x8.size
    try simp at x8z
    clear D0a D0b D0c D0d D0e
    clear D1a D1b D1c D1d D1e
    clear D2a D2b D2c D2d D2e
    clear D3a D3b D3c D3d D3e
    have D0 := Box2.thru D0 x8 (by repeat (first | assumption | exact Below.refl _ _ | refine below_alloc ?_ _ | refine below_drew ?_ | refine below_drewn ?_ _ | refine below_set ?_ (by simp <;> omega) _))
    have ⟨D0a, D0b, D0c, D0d⟩ := D0
    have D0e := Box2.lt D0
    have D1 := Box2.thru D1 x8 (by repeat (first | assumption | exact Below.refl _ _ | refine below_alloc ?_ _ | refine below_drew ?_ | refine below_drewn ?_ _ | refine below_set ?_ (by simp <;> omega) _))
    have ⟨D1a, D1b, D1c, D1d⟩ := D1
    have D1e := Box2.lt D1
    have D2 := Box2.thru D2 x8 (by repeat (first | assumption | exact Below.refl _ _ | refine below_alloc ?_ _ | refine below_drew ?_ | refine below_drewn ?_ _ | refine below_set ?_ (by simp <;> omega) _))
    have ⟨D2a, D2b, D2c, D2d⟩ := D2
    have D2e := Box2.lt D2
    have D3 := Box2.thru D3 x8 (by repeat (first | assumption | exact Below.refl _ _ | refine below_alloc ?_ _ | refine below_drew ?_ | refine below_drewn ?_ _ | refine below_set ?_ (by simp <;> omega) _))
    have ⟨D3a, D3b, D3c, D3d⟩ := D3
    have D3e := Box2.lt D3
    have cz : ∀ w : World, Calls Try.prog 39 #[.int .u64 (IntKind.u64.wrap ((q : Int) / 2 + 1))] w fun e w' => e = .returned (.agg #[.int .u64 0, .int .u64 (z1 : Int)]) ∧ Below w.heap.size w w' := fun w => by
      have e1 : IntKind.u64.wrap ((q : Int) / 2 + 1) = (z1 : Int) := by have := Hz1.out; rw [IntKind.wrap_u64]; omega
      rw [e1]; exact ref_of z1 w
    go_upto_region 7 with fail
    have hV : Below w.heap.size w (w8.alloc (.cells #[.int .u64 0, .int .u64 z1] 41)) := (by repeat (first | assumption | exact Below.refl _ _ | refine below_alloc ?_ _ | refine below_drew ?_ | refine below_drewn ?_ _ | refine below_set ?_ (by simp <;> omega) _))
    have D0 := D0.alloc D0e (.cells #[.int .u64 0, .int .u64 z1] 41)
    have D1 := D1.alloc D1e (.cells #[.int .u64 0, .int .u64 z1] 41)
    have D2 := D2.alloc D2e (.cells #[.int .u64 0, .int .u64 z1] 41)
    have D4 : Box2 (w8.alloc (.cells #[.int .u64 0, .int .u64 z1] 41)) w8.heap.size (.int .u64 0) (.int .u64 z1) := by simp [Box2, go_sem]
    generalize w8.alloc (.cells #[.int .u64 0, .int .u64 z1] 41) = v at *
    clear D0a D0b D0c D0d D0e D1a D1b D1c D1d D1e D2a D2b D2c D2d D2e D3a D3b D3c D3d D3e hW x8 x8z D3
    have ⟨D0a, D0b, D0c, D0d⟩ := D0
    have D0e := Box2.lt D0
    have ⟨D1a, D1b, D1c, D1d⟩ := D1
    have D1e := Box2.lt D1
    have ⟨D2a, D2b, D2c, D2d⟩ := D2
    have D2e := Box2.lt D2
    have ⟨D4a, D4b, D4c, D4d⟩ := D4
    have D4e := Box2.lt D4
    go_region_held3 (fun w' => (∀ b o, b < v.heap.size → w'.cell? ⟨b, o, none⟩ = v.cell? ⟨b, o, none⟩) ∧ Below v.heap.size v w') (first | ((apply held_then; rotate_left; assumption; assumption)) | ((refine held_of ?_; repeat (first | assumption | exact Below.refl _ _ | ((refine held_below ?_; assumption)) | ((apply held_un; assumption; omega)) | refine below_alloc ?_ _ | refine below_drew ?_ | refine below_drewn ?_ _ | ((refine below_set ?_ ?_ _; rotate_left; (simp <;> omega))))))) (first
      | (go_at_call 30; refine (awake2 _).mono ?_; rintro e w' ⟨rfl, hx⟩)
      | (go_at_call 39; refine (cz _).mono ?_; rintro e w' ⟨rfl, hx⟩))
    all_goals
      go_wp2
      go_ret
      exact ⟨rfl, below_then hV (held_below (by assumption))⟩
end Go.Proofs.Ytfeopnnobbcjjaa
