import Derived.Test.YtdpmigbenkndbaaYg
namespace Go.Proofs.Ytdpmigbenkndbaa
open Go.RowKit PR QR
set_option linter.unusedVariables false
set_option linter.unusedSimpArgs false
set_option maxRecDepth 20000
theorem div_iff {n w R : Int} (hw : 1 ≤ w) : n / w = R ↔ R * w ≤ n ∧ n < (R + 1) * w := by
  constructor
  · rintro rfl
    have h3 := Int.mul_ediv_add_emod n w
    have h4 := Int.emod_nonneg n (show w ≠ 0 by omega)
    have h5 := Int.emod_lt_of_pos n (show 0 < w by omega)
    rw [Int.mul_comm] at h3
    rw [Int.add_mul]
    omega
  · rintro ⟨h1, h2⟩
    have := Int.le_ediv_of_mul_le (show 0 < w by omega) h1
    have := Int.ediv_lt_of_lt_mul (show 0 < w by omega) h2
    omega
theorem place_iff {i X W U : Int} (hX : 1 ≤ X) (h0 : 0 ≤ U) (h1 : U < X) : i = W * X + U ↔ i / X = W ∧ i % X = U := by
  have h3 := Int.mul_ediv_add_emod i X
  constructor
  · intro e
    have : i / X = W := (div_iff hX).2 (by rw [Int.add_mul]; omega)
    rw [this, Int.mul_comm] at h3
    exact ⟨this, by omega⟩
  · rintro ⟨rfl, rfl⟩
    rw [Int.mul_comm] at h3
    omega
theorem miI_le (a b : Int) : miI a b ≤ a ∧ miI a b ≤ b := by unfold miI; split <;> omega
theorem miI_l {a b : Int} (h : a ≤ b) : miI a b = a := by unfold miI; rw [if_pos h]
theorem miI_r {a b : Int} (h : b ≤ a) : miI a b = b := by unfold miI; split <;> omega
theorem tl_cells {a b c d w h i : Int} (k : tlB a b c d w h i = true) :
    (tlV 0 a b c d w h i = a + i % tiX a b c d w h * w ∧ tlV 1 a b c d w h i = b + i / tiX a b c d w h * h ∧ tlV 2 a b c d w h i = a + miI ((i % tiX a b c d w h + 1) * w) (c - a) ∧ tlV 3 a b c d w h i = b + miI ((i / tiX a b c d w h + 1) * h) (d - b)) ∧
    (a ≤ tlV 0 a b c d w h i ∧ tlV 0 a b c d w h i < tlV 2 a b c d w h i ∧ tlV 2 a b c d w h i ≤ c) ∧ b ≤ tlV 1 a b c d w h i ∧ tlV 1 a b c d w h i < tlV 3 a b c d w h i ∧ tlV 3 a b c d w h i ≤ d := by
  obtain ⟨kb, _, ⟨m0, m1⟩, ⟨q0, q1⟩, ⟨e0, e1⟩, e2, e3⟩ := tl_facts k
  obtain ⟨_, ⟨hw, hw'⟩, hh, hh'⟩ := tib_f kb
  rw [tl_t k, tl_t k, tl_t k, tl_t k]
  generalize i % tiX a b c d w h = R at *
  generalize i / tiX a b c d w h = Q at *
  have g2 : r4G 2 (tlO a b c d w h (a + R * w) (b + Q * h)) = a + miI ((R + 1) * w) (c - a) := by
    show (if a + R * w + w ≤ c then a + R * w + w else c) = _
    unfold miI
    rw [Int.add_mul]
    split <;> split <;> omega
  have g3 : r4G 3 (tlO a b c d w h (a + R * w) (b + Q * h)) = b + miI ((Q + 1) * h) (d - b) := by
    show (if b + Q * h + h ≤ d then b + Q * h + h else d) = _
    unfold miI
    rw [Int.add_mul]
    split <;> split <;> omega
  rw [g2, g3]
  refine ⟨⟨rfl, rfl, rfl, rfl⟩, ⟨?_, ?_, ?_⟩, ?_, ?_, ?_⟩
  · show a ≤ a + R * w; omega
  · show a + R * w < a + miI ((R + 1) * w) (c - a); rw [Int.add_mul]; unfold miI; split <;> omega
  · have := (miI_le ((R + 1) * w) (c - a)).2; omega
  · show b ≤ b + Q * h; omega
  · show b + Q * h < b + miI ((Q + 1) * h) (d - b); rw [Int.add_mul]; unfold miI; split <;> omega
  · have := (miI_le ((Q + 1) * h) (d - b)).2; omega
theorem cov_in {a b c d x y g e : Int} (k : reB a b c d = false) (h0 : a ≤ x ∧ x < g ∧ g ≤ c) (h1 : b ≤ y ∧ y < e ∧ e ≤ d) : reB x y g e = false ∧ rcovB a b c d x y g e = true := by
  obtain ⟨⟨f0, f1, f2, f3⟩, g0, g1⟩ := re_f.1 k
  have k2 : reB x y g e = false := re_f.2 (by unfold F30 at *; omega)
  refine ⟨k2, ?_⟩
  unfold rcovB
  rw [decide_eq_true_eq]
  right
  rw [r4I_f (x := ⟨a, b, c, d⟩) (y := ⟨x, y, g, e⟩) k k2]
  show r4T ⟨if a ≤ x then x else a, if b ≤ y then y else b, if c ≤ g then c else g, if d ≤ e then d else e⟩ = _
  have t2 : (if c ≤ g then c else g) = g := by split <;> omega
  have t3 : (if d ≤ e then d else e) = e := by split <;> omega
  rw [if_pos h0.1, if_pos h1.1, t2, t3]
  exact r4T_f k2
theorem cov_tile {a b c d w h i : Int} (k : tlB a b c d w h i = true) : reB (tlV 0 a b c d w h i) (tlV 1 a b c d w h i) (tlV 2 a b c d w h i) (tlV 3 a b c d w h i) = false ∧ rcovB a b c d (tlV 0 a b c d w h i) (tlV 1 a b c d w h i) (tlV 2 a b c d w h i) (tlV 3 a b c d w h i) = true := by
  obtain ⟨_, h0, h1⟩ := tl_cells k
  have kb := (tib_f (tl_facts k).1).1
  exact cov_in (re_f.2 kb) h0 h1
theorem cont_tile {a b c d w h i x y : Int} (k : tlB a b c d w h i = true) (kx : txB a b c d w h x y = true) :
    rcB (tlV 0 a b c d w h i) (tlV 1 a b c d w h i) (tlV 2 a b c d w h i) (tlV 3 a b c d w h i) x y = ieq i (txV a b c d w h x y) := by
  obtain ⟨⟨e0, e1, e2, e3⟩, h0, h1⟩ := tl_cells k
  have kr := (cov_tile k).1
  obtain ⟨kb, ⟨⟨p0, p1⟩, p2, p3⟩, ⟨q0, q1⟩, q2, q3⟩ := tx_facts kx
  obtain ⟨⟨x0, _⟩, _⟩ := ti_facts kb
  obtain ⟨_, ⟨hw, hw'⟩, hh, hh'⟩ := tib_f kb
  have v : txV a b c d w h x y = (y - b) / h * tiX a b c d w h + (x - a) / w := by unfold txV; rw [if_pos kx]
  rw [Bool.eq_iff_iff, v]
  unfold rcB ieq
  rw [decide_eq_true_eq, beq_iff_eq, place_iff x0 q0 q1]
  have d0 := div_iff (n := x - a) (R := i % tiX a b c d w h) hw
  have d1 := div_iff (n := y - b) (R := i / tiX a b c d w h) hh
  have m0 : ∀ z : Int, x - a < miI z (c - a) ↔ x - a < z := fun z => by unfold miI; split <;> omega
  have m1 : ∀ z : Int, y - b < miI z (d - b) ↔ y - b < z := fun z => by unfold miI; split <;> omega
  have m0 := m0 ((i % tiX a b c d w h + 1) * w)
  have m1 := m1 ((i / tiX a b c d w h + 1) * h)
  constructor
  · rintro ⟨_, c0, c1, c2, c3⟩
    exact ⟨(d1.2 ⟨by omega, m1.1 (by omega)⟩).symm, (d0.2 ⟨by omega, m0.1 (by omega)⟩).symm⟩
  · rintro ⟨c0, c1⟩
    obtain ⟨u0, u1⟩ := d0.1 c1.symm
    obtain ⟨u2, u3⟩ := d1.1 c0.symm
    have := m0.2 u1
    have := m1.2 u3
    exact ⟨kr, by omega, by omega, by omega, by omega⟩
theorem ar_zero {a b c d w h : Int} (kb : tiB a b c d w h = true) : arV a b c d w h 0 = 0 := by
  obtain ⟨⟨_, g0, g1⟩, _⟩ := tib_f kb
  unfold arV
  rw [Int.zero_ediv, Int.zero_emod, Int.zero_mul, Int.zero_mul, miI_l (show (0 : Int) ≤ d - b by omega), miI_l (show (0 : Int) ≤ c - a by omega), Int.zero_mul, Int.mul_zero]
  rfl
theorem ar_all {a b c d w h : Int} (kb : tiB a b c d w h = true) : arV a b c d w h (tiX a b c d w h * tiY a b c d w h) = raV a b c d := by
  obtain ⟨⟨x0, x1⟩, ⟨y0, y1⟩, ⟨x2, x3⟩, y2, y3⟩ := ti_facts kb
  obtain ⟨⟨_, g0, g1⟩, _⟩ := tib_f kb
  have kr := re_f.2 (tib_f kb).1
  unfold arV
  rw [Int.mul_ediv_cancel_left _ (show tiX a b c d w h ≠ 0 by omega), Int.mul_emod_right, miI_r y3, Int.zero_mul, miI_l (show (0 : Int) ≤ c - a by omega), Int.mul_zero, Int.add_zero]
  unfold raV
  rw [if_neg (by simp [kr]), Int.mul_comm]
theorem ar_next (S u H T G a b : Int) : S * u + (H - S) * G = S * u + (H - S) * T + (a + G - (a + T)) * (b + H - (b + S)) := by grind
theorem ar_row (S u H T G a b : Int) : H * u + (G - H) * 0 = S * u + (H - S) * T + (a + u - (a + T)) * (b + H - (b + S)) := by grind
theorem ar_step {a b c d w h i : Int} (k : tlB a b c d w h i = true) : arV a b c d w h (i + 1) = arV a b c d w h i + raV (tlV 0 a b c d w h i) (tlV 1 a b c d w h i) (tlV 2 a b c d w h i) (tlV 3 a b c d w h i) := by
  obtain ⟨⟨e0, e1, e2, e3⟩, _⟩ := tl_cells k
  have kr := (cov_tile k).1
  obtain ⟨kb, _, ⟨m0, m1⟩, ⟨q0, q1⟩, ⟨u0, u1⟩, u2, u3⟩ := tl_facts k
  obtain ⟨⟨x0, x1⟩, ⟨y0, y1⟩, ⟨x2, x3⟩, y2, y3⟩ := ti_facts kb
  unfold raV
  rw [if_neg (by simp [kr]), e0, e1, e2, e3]
  unfold arV
  have h3 := Int.mul_ediv_add_emod i (tiX a b c d w h)
  generalize tiX a b c d w h = X at *
  generalize hR : i % X = R at *
  generalize hQ : i / X = Q at *
  rw [Int.mul_comm] at h3
  rw [miI_l (show R * w ≤ c - a by omega), miI_l (show Q * h ≤ d - b by omega)]
  by_cases l : R + 1 < X
  · obtain ⟨j0, j1⟩ := (place_iff (i := i + 1) (W := Q) (U := R + 1) x0 (by omega) l).1 (by omega)
    rw [j0, j1, miI_l (show Q * h ≤ d - b by omega)]
    exact ar_next ..
  · obtain rfl : R = X - 1 := by omega
    obtain ⟨j0, j1⟩ := (place_iff (i := i + 1) (W := Q + 1) (U := 0) x0 (by omega) (by omega)).1 (by rw [Int.add_mul]; omega)
    rw [j0, j1, show X - 1 + 1 = X by omega, miI_r x3, Int.zero_mul, miI_l (show (0 : Int) ≤ c - a by omega)]
    exact ar_row ..
end Go.Proofs.Ytdpmigbenkndbaa
