/-
  The law WideIsARing of layer 2 (wide), walked: it returns true for all arguments in their ranges.
-/
import Derived.Test.YtfeopnnobbcjjaaO
import Derived.BigRegion
namespace Go.Proofs.Ytfeopnnobbcjjaa
open Go.RowKit
set_option linter.unusedVariables false

set_option maxRecDepth 100000 in
set_option maxHeartbeats 4000000 in
theorem WideIsARing_core (a0 a1 b0 b1 c0 c1 n m : Int) (w0 : (Lit.int .u64 a0).wf = true) (w1 : (Lit.int .u64 a1).wf = true) (w2 : (Lit.int .u64 b0).wf = true) (w3 : (Lit.int .u64 b1).wf = true) (w4 : (Lit.int .u64 c0).wf = true) (w5 : (Lit.int .u64 c1).wf = true)
    (w6 : (Lit.int .u64 n).wf = true) (w7 : (Lit.int .u64 m).wf = true) (w : World) :
    Calls Try.prog 15 #[.agg #[.int .u64 a0, .int .u64 a1], .agg #[.int .u64 b0, .int .u64 b1], .agg #[.int .u64 c0, .int .u64 c1], .int .u64 n, .int .u64 m] w fun e w' => e = .returned (.bool true) ∧ Below w.heap.size w w' := by
  obtain ⟨a0, rfl, ha0⟩ := u64_nat w0
  obtain ⟨a1, rfl, ha1⟩ := u64_nat w1
  obtain ⟨b0, rfl, hb0⟩ := u64_nat w2
  obtain ⟨b1, rfl, hb1⟩ := u64_nat w3
  obtain ⟨c0, rfl, hc0⟩ := u64_nat w4
  obtain ⟨c1, rfl, hc1⟩ := u64_nat w5
  obtain ⟨n, rfl, hn⟩ := u64_nat w6
  obtain ⟨m, rfl, hm⟩ := u64_nat w7
  clear w0 w1 w2 w3 w4 w5 w6 w7
  have eq := eql_u128
  obtain ⟨p, hp⟩ : ∃ p, p = a0 / 4 := ⟨_, rfl⟩
  obtain ⟨r, hr⟩ : ∃ r, r = b0 / 4 := ⟨_, rfl⟩
  obtain ⟨t, ht⟩ : ∃ t, t = c0 / 4 := ⟨_, rfl⟩
  have kp : p < 4611686018427387904 := by omega
  have kr : r < 4611686018427387904 := by omega
  have kt : t < 4611686018427387904 := by omega
  have Hp := Lib.hid hp
  have Hr := Lib.hid hr
  have Ht := Lib.hid ht
  clear hp hr ht
  obtain ⟨x, X⟩ : ∃ x, Word2 x p a1 := ⟨_, word2_mk p a1 (by omega) ha1⟩
  obtain ⟨y, Y⟩ : ∃ y, Word2 y r b1 := ⟨_, word2_mk r b1 (by omega) hb1⟩
  obtain ⟨z, Z⟩ : ∃ z, Word2 z t c1 := ⟨_, word2_mk t c1 (by omega) hc1⟩
  have lx : x < 85070591730234615865843651857942052864 := by obtain ⟨h1, h2, h3⟩ := X; omega
  have ly : y < 85070591730234615865843651857942052864 := by obtain ⟨h1, h2, h3⟩ := Y; omega
  have lz : z < 85070591730234615865843651857942052864 := by obtain ⟨h1, h2, h3⟩ := Z; omega
  obtain ⟨uh, ul, U⟩ := word2_of (x + y) (by omega)
  obtain ⟨vh, vl, V⟩ := word2_of (y + z) (by omega)
  obtain ⟨sh, sl, S⟩ := word2_of (x + y + z) (by omega)
  have at' : ∀ {i j k ih il jh jl kh kl : Nat}, Word2 i ih il → Word2 j jh jl → Word2 k kh kl → i + j = k → ∀ w : World,
      Calls Try.prog 26 #[.agg #[.int .u64 ih, .int .u64 il], .agg #[.int .u64 jh, .int .u64 jl]] w fun e w' => e = .returned (.tuple #[.agg #[.int .u64 kh, .int .u64 kl], .bool true]) ∧ Below w.heap.size w w' := fun I J K h w => by
    subst h
    exact (wide_add_yes _ _ _ _ _ _ I J K.lt w).mono fun e w' ⟨i, o, he, hw, hb⟩ => ⟨by obtain ⟨u1, u2⟩ := K.unique hw; rw [he, u1, u2], hb⟩
  have k1 := at' X Y U rfl
  have k2 := at' U Z S rfl
  have k3 := at' Y Z V rfl
  have k4 := at' X V S (by omega)
  have k5 : ∀ w : World, Calls Try.prog 28 #[.agg #[.int .u64 uh, .int .u64 ul], .agg #[.int .u64 r, .int .u64 b1]] w fun e w' => e = .returned (.tuple #[.agg #[.int .u64 p, .int .u64 a1], .bool true]) ∧ Below w.heap.size w w' := fun w =>
    (wide_sub_yes _ _ _ _ _ _ U Y (by omega) w).mono fun e w' ⟨i, o, he, hw, hb⟩ => ⟨by
      have e1 : x + y - y = x := by omega
      rw [e1] at hw
      obtain ⟨u1, u2⟩ := X.unique hw; rw [he, u1, u2], hb⟩
  obtain ⟨mh, ml, M⟩ := word2_mul n m hn hm
  have k6 := wide_mul_at n m mh ml hn hm M
  have k7 := wide_mul_at m n mh ml hm hn (by rw [Nat.mul_comm]; exact M)
  clear at' lx ly lz X Y Z U V S M kp kr kt
  go_enter Try.func15, Try.ntmps15
  go_upto_region 1 with fail
  have e1 : (a0 : Int) / 4 = (p : Int) := by have := Hp.out; omega
  have e2 : (b0 : Int) / 4 = (r : Int) := by have := Hr.out; omega
  have e3 : (c0 : Int) / 4 = (t : Int) := by have := Ht.out; omega
  have E1 := Lib.hid e1
  have E2 := Lib.hid e2
  have E3 := Lib.hid e3
  clear e1 e2 e3
  go_cut [] (fun wx => Box2 wx w.heap.size (.int .u64 p) (.int .u64 a1) ∧ Box2 wx (w.heap.size + 1) (.int .u64 r) (.int .u64 b1) ∧ Box2 wx (w.heap.size + 1 + 1) (.int .u64 t) (.int .u64 c1) ∧ Below w.heap.size w wx)
  case first =>
    go_region
    go_wp2_with fail
    go_meet
    rw [E1.out, E2.out, E3.out]
    refine ⟨?_, ?_, ?_, (by repeat (first | assumption | exact Below.refl _ _ | refine below_alloc ?_ _ | refine below_drew ?_ | refine below_drewn ?_ _ | refine below_set ?_ (by simp <;> omega) _))⟩ <;> simp [Box2, go_sem]
  case rest =>
    obtain ⟨B0, B1, B2, hW⟩ := hcut
    have ⟨B0a, B0b, B0c, B0d⟩ := B0
    have B0e := Box2.lt B0
    have ⟨B1a, B1b, B1c, B1d⟩ := B1
    have B1e := Box2.lt B1
    have ⟨B2a, B2b, B2c, B2d⟩ := B2
    have B2e := Box2.lt B2
    go_wp2_with fail
    refine (k1 _).mono ?_
    rintro e w1 ⟨rfl, x1⟩
    have hW : Below w.heap.size w w1 := below_then (by repeat (first | assumption | exact Below.refl _ _ | refine below_alloc ?_ _ | refine below_drew ?_ | refine below_drewn ?_ _ | refine below_set ?_ (by simp <;> omega) _)) x1
    have x1z := x1.size
    try simp at x1z
    clear B0a B0b B0c B0d B0e
    clear B1a B1b B1c B1d B1e
    clear B2a B2b B2c B2d B2e
    have B0 := Box2.thru B0 x1 (by repeat (first | assumption | exact Below.refl _ _ | refine below_alloc ?_ _ | refine below_drew ?_ | refine below_drewn ?_ _ | refine below_set ?_ (by simp <;> omega) _))
    have ⟨B0a, B0b, B0c, B0d⟩ := B0
    have B0e := Box2.lt B0
    have B1 := Box2.thru B1 x1 (by repeat (first | assumption | exact Below.refl _ _ | refine below_alloc ?_ _ | refine below_drew ?_ | refine below_drewn ?_ _ | refine below_set ?_ (by simp <;> omega) _))
    have ⟨B1a, B1b, B1c, B1d⟩ := B1
    have B1e := Box2.lt B1
    have B2 := Box2.thru B2 x1 (by repeat (first | assumption | exact Below.refl _ _ | refine below_alloc ?_ _ | refine below_drew ?_ | refine below_drewn ?_ _ | refine below_set ?_ (by simp <;> omega) _))
    have ⟨B2a, B2b, B2c, B2d⟩ := B2
    have B2e := Box2.lt B2
    go_wp2_with fail
    refine (k2 _).mono ?_
    rintro e w2 ⟨rfl, x2⟩
    have hW : Below w.heap.size w w2 := below_then (by repeat (first | assumption | exact Below.refl _ _ | refine below_alloc ?_ _ | refine below_drew ?_ | refine below_drewn ?_ _ | refine below_set ?_ (by simp <;> omega) _)) x2
    have x2z := x2.size
    try simp at x2z
    clear B0a B0b B0c B0d B0e
    clear B1a B1b B1c B1d B1e
    clear B2a B2b B2c B2d B2e
    have B0 := Box2.thru B0 x2 (by repeat (first | assumption | exact Below.refl _ _ | refine below_alloc ?_ _ | refine below_drew ?_ | refine below_drewn ?_ _ | refine below_set ?_ (by simp <;> omega) _))
    have ⟨B0a, B0b, B0c, B0d⟩ := B0
    have B0e := Box2.lt B0
    have B1 := Box2.thru B1 x2 (by repeat (first | assumption | exact Below.refl _ _ | refine below_alloc ?_ _ | refine below_drew ?_ | refine below_drewn ?_ _ | refine below_set ?_ (by simp <;> omega) _))
    have ⟨B1a, B1b, B1c, B1d⟩ := B1
    have B1e := Box2.lt B1
    have B2 := Box2.thru B2 x2 (by repeat (first | assumption | exact Below.refl _ _ | refine below_alloc ?_ _ | refine below_drew ?_ | refine below_drewn ?_ _ | refine below_set ?_ (by simp <;> omega) _))
    have ⟨B2a, B2b, B2c, B2d⟩ := B2
    have B2e := Box2.lt B2
    have B3 : Box2 w2 (w1.heap.size) (.int .u64 uh) (.int .u64 ul) := Box2.keep (by simp [Box2, go_sem]) x2 (by simp <;> omega)
    have ⟨B3a, B3b, B3c, B3d⟩ := B3
    have B3e := Box2.lt B3
    have B3e := Box2.lt B3
    go_wp2_with fail
    refine (k3 _).mono ?_
    rintro e w3 ⟨rfl, x3⟩
    have hW : Below w.heap.size w w3 := below_then (by repeat (first | assumption | exact Below.refl _ _ | refine below_alloc ?_ _ | refine below_drew ?_ | refine below_drewn ?_ _ | refine below_set ?_ (by simp <;> omega) _)) x3
    have x3z := x3.size
    try simp at x3z
    clear B0a B0b B0c B0d B0e
    clear B1a B1b B1c B1d B1e
    clear B2a B2b B2c B2d B2e
    clear B3a B3b B3c B3d B3e
    have B0 := Box2.thru B0 x3 (by repeat (first | assumption | exact Below.refl _ _ | refine below_alloc ?_ _ | refine below_drew ?_ | refine below_drewn ?_ _ | refine below_set ?_ (by simp <;> omega) _))
    have ⟨B0a, B0b, B0c, B0d⟩ := B0
    have B0e := Box2.lt B0
    have B1 := Box2.thru B1 x3 (by repeat (first | assumption | exact Below.refl _ _ | refine below_alloc ?_ _ | refine below_drew ?_ | refine below_drewn ?_ _ | refine below_set ?_ (by simp <;> omega) _))
    have ⟨B1a, B1b, B1c, B1d⟩ := B1
    have B1e := Box2.lt B1
    have B2 := Box2.thru B2 x3 (by repeat (first | assumption | exact Below.refl _ _ | refine below_alloc ?_ _ | refine below_drew ?_ | refine below_drewn ?_ _ | refine below_set ?_ (by simp <;> omega) _))
    have ⟨B2a, B2b, B2c, B2d⟩ := B2
    have B2e := Box2.lt B2
    have B3 := Box2.thru B3 x3 (by repeat (first | assumption | exact Below.refl _ _ | refine below_alloc ?_ _ | refine below_drew ?_ | refine below_drewn ?_ _ | refine below_set ?_ (by simp <;> omega) _))
    have ⟨B3a, B3b, B3c, B3d⟩ := B3
    have B3e := Box2.lt B3
    have B4 : Box2 w3 (w2.heap.size) (.int .u64 sh) (.int .u64 sl) := Box2.keep (by simp [Box2, go_sem]) x3 (by simp <;> omega)
    have ⟨B4a, B4b, B4c, B4d⟩ := B4
    have B4e := Box2.lt B4
    have B4e := Box2.lt B4
    go_wp2_with fail
    refine (k4 _).mono ?_
    rintro e w4 ⟨rfl, x4⟩
    have hW : Below w.heap.size w w4 := below_then (by repeat (first | assumption | exact Below.refl _ _ | refine below_alloc ?_ _ | refine below_drew ?_ | refine below_drewn ?_ _ | refine below_set ?_ (by simp <;> omega) _)) x4
    have x4z := x4.size
    try simp at x4z
    clear B0a B0b B0c B0d B0e
    clear B1a B1b B1c B1d B1e
    clear B2a B2b B2c B2d B2e
    clear B3a B3b B3c B3d B3e
    clear B4a B4b B4c B4d B4e
    have B0 := Box2.thru B0 x4 (by repeat (first | assumption | exact Below.refl _ _ | refine below_alloc ?_ _ | refine below_drew ?_ | refine below_drewn ?_ _ | refine below_set ?_ (by simp <;> omega) _))
    have ⟨B0a, B0b, B0c, B0d⟩ := B0
    have B0e := Box2.lt B0
    have B1 := Box2.thru B1 x4 (by repeat (first | assumption | exact Below.refl _ _ | refine below_alloc ?_ _ | refine below_drew ?_ | refine below_drewn ?_ _ | refine below_set ?_ (by simp <;> omega) _))
    have ⟨B1a, B1b, B1c, B1d⟩ := B1
    have B1e := Box2.lt B1
    have B2 := Box2.thru B2 x4 (by repeat (first | assumption | exact Below.refl _ _ | refine below_alloc ?_ _ | refine below_drew ?_ | refine below_drewn ?_ _ | refine below_set ?_ (by simp <;> omega) _))
    have ⟨B2a, B2b, B2c, B2d⟩ := B2
    have B2e := Box2.lt B2
    have B3 := Box2.thru B3 x4 (by repeat (first | assumption | exact Below.refl _ _ | refine below_alloc ?_ _ | refine below_drew ?_ | refine below_drewn ?_ _ | refine below_set ?_ (by simp <;> omega) _))
    have ⟨B3a, B3b, B3c, B3d⟩ := B3
    have B3e := Box2.lt B3
    have B4 := Box2.thru B4 x4 (by repeat (first | assumption | exact Below.refl _ _ | refine below_alloc ?_ _ | refine below_drew ?_ | refine below_drewn ?_ _ | refine below_set ?_ (by simp <;> omega) _))
    have ⟨B4a, B4b, B4c, B4d⟩ := B4
    have B4e := Box2.lt B4
    have B5 : Box2 w4 (w3.heap.size) (.int .u64 vh) (.int .u64 vl) := Box2.keep (by simp [Box2, go_sem]) x4 (by simp <;> omega)
    have ⟨B5a, B5b, B5c, B5d⟩ := B5
    have B5e := Box2.lt B5
    have B5e := Box2.lt B5
    go_wp2_with fail
    refine (k5 _).mono ?_
    rintro e w5 ⟨rfl, x5⟩
    have hW : Below w.heap.size w w5 := below_then (by repeat (first | assumption | exact Below.refl _ _ | refine below_alloc ?_ _ | refine below_drew ?_ | refine below_drewn ?_ _ | refine below_set ?_ (by simp <;> omega) _)) x5
    have x5z := x5.size
    try simp at x5z
    clear B0a B0b B0c B0d B0e
    clear B1a B1b B1c B1d B1e
    clear B2a B2b B2c B2d B2e
    clear B3a B3b B3c B3d B3e
    clear B4a B4b B4c B4d B4e
    clear B5a B5b B5c B5d B5e
    have B0 := Box2.thru B0 x5 (by repeat (first | assumption | exact Below.refl _ _ | refine below_alloc ?_ _ | refine below_drew ?_ | refine below_drewn ?_ _ | refine below_set ?_ (by simp <;> omega) _))
    have ⟨B0a, B0b, B0c, B0d⟩ := B0
    have B0e := Box2.lt B0
    have B1 := Box2.thru B1 x5 (by repeat (first | assumption | exact Below.refl _ _ | refine below_alloc ?_ _ | refine below_drew ?_ | refine below_drewn ?_ _ | refine below_set ?_ (by simp <;> omega) _))
    have ⟨B1a, B1b, B1c, B1d⟩ := B1
    have B1e := Box2.lt B1
    have B2 := Box2.thru B2 x5 (by repeat (first | assumption | exact Below.refl _ _ | refine below_alloc ?_ _ | refine below_drew ?_ | refine below_drewn ?_ _ | refine below_set ?_ (by simp <;> omega) _))
    have ⟨B2a, B2b, B2c, B2d⟩ := B2
    have B2e := Box2.lt B2
    have B3 := Box2.thru B3 x5 (by repeat (first | assumption | exact Below.refl _ _ | refine below_alloc ?_ _ | refine below_drew ?_ | refine below_drewn ?_ _ | refine below_set ?_ (by simp <;> omega) _))
    have ⟨B3a, B3b, B3c, B3d⟩ := B3
    have B3e := Box2.lt B3
    have B4 := Box2.thru B4 x5 (by repeat (first | assumption | exact Below.refl _ _ | refine below_alloc ?_ _ | refine below_drew ?_ | refine below_drewn ?_ _ | refine below_set ?_ (by simp <;> omega) _))
    have ⟨B4a, B4b, B4c, B4d⟩ := B4
    have B4e := Box2.lt B4
    have B5 := Box2.thru B5 x5 (by repeat (first | assumption | exact Below.refl _ _ | refine below_alloc ?_ _ | refine below_drew ?_ | refine below_drewn ?_ _ | refine below_set ?_ (by simp <;> omega) _))
    have ⟨B5a, B5b, B5c, B5d⟩ := B5
    have B5e := Box2.lt B5
    have B6 : Box2 w5 (w4.heap.size) (.int .u64 sh) (.int .u64 sl) := Box2.keep (by simp [Box2, go_sem]) x5 (by simp <;> omega)
    have ⟨B6a, B6b, B6c, B6d⟩ := B6
    have B6e := Box2.lt B6
    have B6e := Box2.lt B6
    go_wp2_with fail
    refine (awake2 _).mono ?_
    rintro e w6 ⟨rfl, x6⟩
    have hW : Below w.heap.size w w6 := below_then (by repeat (first | assumption | exact Below.refl _ _ | refine below_alloc ?_ _ | refine below_drew ?_ | refine below_drewn ?_ _ | refine below_set ?_ (by simp <;> omega) _)) x6
    have x6z := x6.size
    try simp at x6z
    clear B0a B0b B0c B0d B0e
    clear B1a B1b B1c B1d B1e
    clear B2a B2b B2c B2d B2e
    clear B3a B3b B3c B3d B3e
    clear B4a B4b B4c B4d B4e
    clear B5a B5b B5c B5d B5e
    clear B6a B6b B6c B6d B6e
    have B0 := Box2.thru B0 x6 (by repeat (first | assumption | exact Below.refl _ _ | refine below_alloc ?_ _ | refine below_drew ?_ | refine below_drewn ?_ _ | refine below_set ?_ (by simp <;> omega) _))
    have ⟨B0a, B0b, B0c, B0d⟩ := B0
    have B0e := Box2.lt B0
    have B1 := Box2.thru B1 x6 (by repeat (first | assumption | exact Below.refl _ _ | refine below_alloc ?_ _ | refine below_drew ?_ | refine below_drewn ?_ _ | refine below_set ?_ (by simp <;> omega) _))
    have ⟨B1a, B1b, B1c, B1d⟩ := B1
    have B1e := Box2.lt B1
    have B2 := Box2.thru B2 x6 (by repeat (first | assumption | exact Below.refl _ _ | refine below_alloc ?_ _ | refine below_drew ?_ | refine below_drewn ?_ _ | refine below_set ?_ (by simp <;> omega) _))
    have ⟨B2a, B2b, B2c, B2d⟩ := B2
    have B2e := Box2.lt B2
    have B3 := Box2.thru B3 x6 (by repeat (first | assumption | exact Below.refl _ _ | refine below_alloc ?_ _ | refine below_drew ?_ | refine below_drewn ?_ _ | refine below_set ?_ (by simp <;> omega) _))
    have ⟨B3a, B3b, B3c, B3d⟩ := B3
    have B3e := Box2.lt B3
    have B4 := Box2.thru B4 x6 (by repeat (first | assumption | exact Below.refl _ _ | refine below_alloc ?_ _ | refine below_drew ?_ | refine below_drewn ?_ _ | refine below_set ?_ (by simp <;> omega) _))
    have ⟨B4a, B4b, B4c, B4d⟩ := B4
    have B4e := Box2.lt B4
    have B5 := Box2.thru B5 x6 (by repeat (first | assumption | exact Below.refl _ _ | refine below_alloc ?_ _ | refine below_drew ?_ | refine below_drewn ?_ _ | refine below_set ?_ (by simp <;> omega) _))
    have ⟨B5a, B5b, B5c, B5d⟩ := B5
    have B5e := Box2.lt B5
    have B6 := Box2.thru B6 x6 (by repeat (first | assumption | exact Below.refl _ _ | refine below_alloc ?_ _ | refine below_drew ?_ | refine below_drewn ?_ _ | refine below_set ?_ (by simp <;> omega) _))
    have ⟨B6a, B6b, B6c, B6d⟩ := B6
    have B6e := Box2.lt B6
    have B7 : Box2 w6 (w5.heap.size) (.int .u64 p) (.int .u64 a1) := Box2.keep (by simp [Box2, go_sem]) x6 (by simp <;> omega)
    have ⟨B7a, B7b, B7c, B7d⟩ := B7
    have B7e := Box2.lt B7
    have B7e := Box2.lt B7
    go_wp2_with fail
    refine (k6 _).mono ?_
    rintro e w7 ⟨rfl, x7⟩
    have hW : Below w.heap.size w w7 := below_then (by repeat (first | assumption | exact Below.refl _ _ | refine below_alloc ?_ _ | refine below_drew ?_ | refine below_drewn ?_ _ | refine below_set ?_ (by simp <;> omega) _)) x7
    have x7z := x7.size
    try simp at x7z
    clear B0a B0b B0c B0d B0e
    clear B4a B4b B4c B4d B4e
    clear B6a B6b B6c B6d B6e
    clear B7a B7b B7c B7d B7e
    have B0 := Box2.thru B0 x7 (by repeat (first | assumption | exact Below.refl _ _ | refine below_alloc ?_ _ | refine below_drew ?_ | refine below_drewn ?_ _ | refine below_set ?_ (by simp <;> omega) _))
    have ⟨B0a, B0b, B0c, B0d⟩ := B0
    have B0e := Box2.lt B0
    have B4 := Box2.thru B4 x7 (by repeat (first | assumption | exact Below.refl _ _ | refine below_alloc ?_ _ | refine below_drew ?_ | refine below_drewn ?_ _ | refine below_set ?_ (by simp <;> omega) _))
    have ⟨B4a, B4b, B4c, B4d⟩ := B4
    have B4e := Box2.lt B4
    have B6 := Box2.thru B6 x7 (by repeat (first | assumption | exact Below.refl _ _ | refine below_alloc ?_ _ | refine below_drew ?_ | refine below_drewn ?_ _ | refine below_set ?_ (by simp <;> omega) _))
    have ⟨B6a, B6b, B6c, B6d⟩ := B6
    have B6e := Box2.lt B6
    have B7 := Box2.thru B7 x7 (by repeat (first | assumption | exact Below.refl _ _ | refine below_alloc ?_ _ | refine below_drew ?_ | refine below_drewn ?_ _ | refine below_set ?_ (by simp <;> omega) _))
    have ⟨B7a, B7b, B7c, B7d⟩ := B7
    have B7e := Box2.lt B7
    go_wp2_with fail
    refine (k7 _).mono ?_
    rintro e w8 ⟨rfl, x8⟩
    have hW : Below w.heap.size w w8 := below_then (by repeat (first | assumption | exact Below.refl _ _ | refine below_alloc ?_ _ | refine below_drew ?_ | refine below_drewn ?_ _ | refine below_set ?_ (by simp <;> omega) _)) x8
    have x8z := x8.size
    try simp at x8z
    clear B0a B0b B0c B0d B0e
    clear B4a B4b B4c B4d B4e
    clear B6a B6b B6c B6d B6e
    clear B7a B7b B7c B7d B7e
    have B0 := Box2.thru B0 x8 (by repeat (first | assumption | exact Below.refl _ _ | refine below_alloc ?_ _ | refine below_drew ?_ | refine below_drewn ?_ _ | refine below_set ?_ (by simp <;> omega) _))
    have ⟨B0a, B0b, B0c, B0d⟩ := B0
    have B0e := Box2.lt B0
    have B4 := Box2.thru B4 x8 (by repeat (first | assumption | exact Below.refl _ _ | refine below_alloc ?_ _ | refine below_drew ?_ | refine below_drewn ?_ _ | refine below_set ?_ (by simp <;> omega) _))
    have ⟨B4a, B4b, B4c, B4d⟩ := B4
    have B4e := Box2.lt B4
    have B6 := Box2.thru B6 x8 (by repeat (first | assumption | exact Below.refl _ _ | refine below_alloc ?_ _ | refine below_drew ?_ | refine below_drewn ?_ _ | refine below_set ?_ (by simp <;> omega) _))
    have ⟨B6a, B6b, B6c, B6d⟩ := B6
    have B6e := Box2.lt B6
    have B7 := Box2.thru B7 x8 (by repeat (first | assumption | exact Below.refl _ _ | refine below_alloc ?_ _ | refine below_drew ?_ | refine below_drewn ?_ _ | refine below_set ?_ (by simp <;> omega) _))
    have ⟨B7a, B7b, B7c, B7d⟩ := B7
    have B7e := Box2.lt B7
    go_wp2
    go_ret
    exact ⟨rfl, hW⟩
end Go.Proofs.Ytfeopnnobbcjjaa
