import Derived.Test.YtdpmigbenkndbaaMa
import Derived.Test.YtdpmigbenkndbaaMp
namespace Go.Proofs.Ytdpmigbenkndbaa
open Go.RowKit PR QR
set_option linter.unusedVariables false
set_option linter.unusedSimpArgs false
def tiB (a b c d w h : Int) : Bool := decide (reB a b c d = false ∧ (1 ≤ w ∧ w ≤ c - a) ∧ 1 ≤ h ∧ h ≤ d - b)
def tiX (a b c d w h : Int) : Int := if tiB a b c d w h = true then (c - a - 1) / w + 1 else 0
def tiY (a b c d w h : Int) : Int := if tiB a b c d w h = true then (d - b - 1) / h + 1 else 0
def tlB (a b c d w h i : Int) : Bool := decide (tiB a b c d w h = true ∧ 0 ≤ i ∧ i < tiX a b c d w h * tiY a b c d w h)
def tlO (a b c d w h x y : Int) : R4 := ⟨x, y, if x + w ≤ c then x + w else c, if y + h ≤ d then y + h else d⟩
def tlR (a b c d w h i : Int) : R4 := if tlB a b c d w h i = true then tlO a b c d w h (a + i % tiX a b c d w h * w) (b + i / tiX a b c d w h * h) else r4z
def tlV (j : Nat) (a b c d w h i : Int) : Int := r4G j (tlR a b c d w h i)
def txB (a b c d w h x y : Int) : Bool := decide (tiB a b c d w h = true ∧ rcB a b c d x y = true)
def txV (a b c d w h x y : Int) : Int := if txB a b c d w h x y = true then (y - b) / h * tiX a b c d w h + (x - a) / w else 0
theorem quo_nn {a b : Int} (h : 0 ≤ a) (k : a ≤ 9223372036854775807) (hb : 1 ≤ b) : iquo .i64 a b = a / b := by
  unfold iquo
  rw [Int.tdiv_eq_ediv_of_nonneg h]
  have h1 := Int.ediv_nonneg h (show (0 : Int) ≤ b by omega)
  have h2 := Int.ediv_le_self b h
  exact IntWalk.i64_in _ (by omega)
theorem rem_nn {a b : Int} (h : 0 ≤ a) : irem a b = a % b := by unfold irem; exact Int.tmod_eq_emod_of_nonneg h
theorem mul_in {a b : Int} (h : -9223372036854775808 ≤ a * b ∧ a * b ≤ 9223372036854775807) : imul .i64 a b = a * b := by unfold imul; exact IntWalk.i64_in _ (by omega)
theorem div_steps {u w : Int} (hw : 1 ≤ w) (hu : w ≤ u) : (1 ≤ (u - 1) / w + 1 ∧ (u - 1) / w + 1 ≤ u) ∧ (u - 1) / w * w ≤ u - 1 ∧ u ≤ ((u - 1) / w + 1) * w := by
  have h0 : 0 ≤ u - 1 := by omega
  have h1 := Int.ediv_nonneg h0 (show (0 : Int) ≤ w by omega)
  have h2 := Int.ediv_le_self w h0
  have h3 := Int.mul_ediv_add_emod (u - 1) w
  have h4 := Int.emod_nonneg (u - 1) (show w ≠ 0 by omega)
  have h5 := Int.emod_lt_of_pos (u - 1) (show 0 < w by omega)
  rw [Int.mul_comm] at h3
  refine ⟨⟨by omega, by omega⟩, by omega, ?_⟩
  rw [Int.add_mul]
  omega
theorem tib_f {a b c d w h : Int} (k : tiB a b c d w h = true) : ((F30 a ∧ F30 b ∧ F30 c ∧ F30 d) ∧ a < c ∧ b < d) ∧ (1 ≤ w ∧ w ≤ c - a) ∧ 1 ≤ h ∧ h ≤ d - b := by
  unfold tiB at k
  rw [decide_eq_true_eq, re_f] at k
  exact k
theorem tiX_t {a b c d w h : Int} (k : tiB a b c d w h = true) : tiX a b c d w h = (c - a - 1) / w + 1 := by unfold tiX; rw [if_pos k]
theorem tiY_t {a b c d w h : Int} (k : tiB a b c d w h = true) : tiY a b c d w h = (d - b - 1) / h + 1 := by unfold tiY; rw [if_pos k]
theorem ti_facts {a b c d w h : Int} (k : tiB a b c d w h = true) :
    (1 ≤ tiX a b c d w h ∧ tiX a b c d w h ≤ 2147483648) ∧ (1 ≤ tiY a b c d w h ∧ tiY a b c d w h ≤ 2147483648) ∧ ((tiX a b c d w h - 1) * w ≤ c - a - 1 ∧ c - a ≤ tiX a b c d w h * w) ∧ (tiY a b c d w h - 1) * h ≤ d - b - 1 ∧ d - b ≤ tiY a b c d w h * h := by
  obtain ⟨⟨⟨f0, f1, f2, f3⟩, g0, g1⟩, ⟨hw, hw'⟩, hh, hh'⟩ := tib_f k
  unfold F30 at f0 f1 f2 f3
  rw [tiX_t k, tiY_t k]
  obtain ⟨⟨x0, x1⟩, x2, x3⟩ := div_steps hw hw'
  obtain ⟨⟨y0, y1⟩, y2, y3⟩ := div_steps hh hh'
  refine ⟨⟨x0, by omega⟩, ⟨y0, by omega⟩, ⟨?_, x3⟩, ?_, y3⟩
  · rw [Int.add_sub_cancel]; exact x2
  · rw [Int.add_sub_cancel]; exact y2
theorem prod_le {x y m : Int} (h0 : 0 ≤ x) (h1 : x ≤ m) (h2 : 0 ≤ y) (h3 : y ≤ m) : 0 ≤ x * y ∧ x * y ≤ m * m :=
  ⟨Int.mul_nonneg h0 h2, Int.mul_le_mul h1 h3 h2 (by omega)⟩
theorem tl_facts {a b c d w h i : Int} (k : tlB a b c d w h i = true) :
    tiB a b c d w h = true ∧ (0 ≤ i ∧ i ≤ 4611686018427387904) ∧ (0 ≤ i % tiX a b c d w h ∧ i % tiX a b c d w h < tiX a b c d w h) ∧ (0 ≤ i / tiX a b c d w h ∧ i / tiX a b c d w h < tiY a b c d w h) ∧
    (0 ≤ i % tiX a b c d w h * w ∧ i % tiX a b c d w h * w < c - a) ∧ 0 ≤ i / tiX a b c d w h * h ∧ i / tiX a b c d w h * h < d - b := by
  unfold tlB at k
  rw [decide_eq_true_eq] at k
  obtain ⟨k, i0, i1⟩ := k
  obtain ⟨⟨x0, x1⟩, ⟨y0, y1⟩, ⟨x2, x3⟩, y2, y3⟩ := ti_facts k
  obtain ⟨_, ⟨hw, _⟩, hh, _⟩ := tib_f k
  generalize tiX a b c d w h = X at *
  generalize tiY a b c d w h = Y at *
  have m0 := Int.emod_nonneg i (show X ≠ 0 by omega)
  have m1 := Int.emod_lt_of_pos i (show 0 < X by omega)
  have q0 := Int.ediv_nonneg i0 (show (0 : Int) ≤ X by omega)
  have q1 : i / X < Y := Int.ediv_lt_of_lt_mul (by omega) (by rw [Int.mul_comm]; exact i1)
  have p := prod_le (x := X) (y := Y) (m := 2147483648) (by omega) x1 (by omega) y1
  have e0 := Int.mul_nonneg m0 (show (0 : Int) ≤ w by omega)
  have e1 := Int.mul_le_mul_of_nonneg_right (show i % X ≤ X - 1 by omega) (show (0 : Int) ≤ w by omega)
  have e2 := Int.mul_nonneg q0 (show (0 : Int) ≤ h by omega)
  have e3 := Int.mul_le_mul_of_nonneg_right (show i / X ≤ Y - 1 by omega) (show (0 : Int) ≤ h by omega)
  exact ⟨k, ⟨i0, by omega⟩, ⟨m0, m1⟩, ⟨q0, q1⟩, ⟨e0, by omega⟩, e2, by omega⟩
theorem rc_f {a b c d x y : Int} (k : rcB a b c d x y = true) : reB a b c d = false ∧ (a ≤ x ∧ x < c) ∧ b ≤ y ∧ y < d := by
  unfold rcB at k
  rw [decide_eq_true_eq] at k
  exact ⟨k.1, ⟨k.2.1, k.2.2.1⟩, k.2.2.2⟩
theorem tx_facts {a b c d w h x y : Int} (k : txB a b c d w h x y = true) :
    tiB a b c d w h = true ∧ ((a ≤ x ∧ x < c) ∧ b ≤ y ∧ y < d) ∧ (0 ≤ (x - a) / w ∧ (x - a) / w < tiX a b c d w h) ∧ 0 ≤ (y - b) / h ∧ (y - b) / h < tiY a b c d w h := by
  unfold txB at k
  rw [decide_eq_true_eq] at k
  obtain ⟨k, k2⟩ := k
  obtain ⟨_, ⟨p0, p1⟩, p2, p3⟩ := rc_f k2
  obtain ⟨⟨x0, x1⟩, ⟨y0, y1⟩, ⟨x2, x3⟩, y2, y3⟩ := ti_facts k
  obtain ⟨_, ⟨hw, _⟩, hh, _⟩ := tib_f k
  exact ⟨k, ⟨⟨p0, p1⟩, p2, p3⟩, ⟨Int.ediv_nonneg (by omega) (by omega), Int.ediv_lt_of_lt_mul (by omega) (by omega)⟩, Int.ediv_nonneg (by omega) (by omega), Int.ediv_lt_of_lt_mul (by omega) (by omega)⟩
end Go.Proofs.Ytdpmigbenkndbaa
