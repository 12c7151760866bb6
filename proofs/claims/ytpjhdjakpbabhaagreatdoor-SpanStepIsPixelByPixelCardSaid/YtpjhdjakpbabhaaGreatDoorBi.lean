import Derived.Test.YtpjhdjakpbabhaaGreatDoorBh
namespace Go.Proofs.YtpjhdjakpbabhaaGreatDoor
open Go.RowKit PR QR
set_option linter.unusedVariables false
set_option linter.unusedSimpArgs false
def fullB (m : Int) : Bool := decide (m = 255 ∨ m = 65535)
def mxOk (o k m s a d b : Int) : Bool := blOk k s a d b && opOk7 o a b m && fullB m
def mxN (fa fb k m s a d b : Int) : Int := fa * (blP k s a d b + (m - b) * s * blD k s a d b) + fb * d * m * blD k s a d b
def mxP (o k m s a d b : Int) : Int := bif mxOk o k m s a d b then mxN (faV o a b m) (fbV o a b m) k m s a d b else 0
def mxQ (o k m s a d b : Int) : Int := bif mxOk o k m s a d b then faV o a b m * blQ k s a d b else 0
def mxR (o k m s a d b : Int) : Int := bif mxOk o k m s a d b then blR k s a d b else 0
def mxD (o k m s a d b : Int) : Int := bif mxOk o k m s a d b then m * m * blD k s a d b else 0
def mxH (o k m s a d b : Int) : Int := hi64 (mxP o k m s a d b)
def mxL (o k m s a d b : Int) : Int := lo64 (mxP o k m s a d b)
def mcV (o k m s a d b : Int) : Int := bif mxOk o k m s a d b then iconv .u16 (hvV (mxH o k m s a d b) (mxL o k m s a d b) (mxQ o k m s a d b) (mxR o k m s a d b) (mxD o k m s a d b)) else 0
theorem ord_inv {p q r n : Int} (h : ordZ p q r n ≤ 0) : p ≤ n ∧ q * q * r ≤ (n - p) * (n - p) := by
  unfold ordZ cmpZ at h
  split at h
  · omega
  · split at h
    · exact ⟨by omega, by omega⟩
    · split at h
      · exact ⟨by omega, by omega⟩
      · omega
theorem isq_le {x k : Int} (h : 0 ≤ x) (hk : 0 ≤ k) (hx : x ≤ k * k) : isq x ≤ k := by
  by_cases c : isq x ≤ k
  · exact c
  · have := (le_isq h (k := k + 1) (by omega)).1 (by omega)
    have e : (k + 1) * (k + 1) = k * k + 2 * k + 1 := by grind
    omega
theorem hv_le {p q r d n : Int} (hp : 0 ≤ p) (hS : 0 ≤ q * q * r) (hd : 0 < d) (h1 : p ≤ n) (h2 : q * q * r ≤ (n - p) * (n - p)) : flZ p q r d * d ≤ n ∧ hvZ p q r d ≤ (2 * n + d) / (2 * d) := by
  have i1 := isq_le hS (show 0 ≤ n - p by omega) h2
  have f1 : flZ p q r d * d ≤ n := by
    unfold flZ
    have := Int.ediv_mul_le (p + isq (q * q * r)) (show d ≠ 0 by omega)
    omega
  refine ⟨f1, ?_⟩
  rw [Int.le_ediv_iff_mul_le (by omega)]
  unfold hvZ
  split
  · rename_i h
    have e4 : 2 * q * (2 * q) * r = 4 * (q * q * r) := by grind
    have g := (ordZ_ge (by rw [e4]; omega)).1 h
    rw [e4] at g
    have i2 : isq (4 * (q * q * r)) ≤ 2 * (n - p) := isq_le (by omega) (by omega) (by
      have : 2 * (n - p) * (2 * (n - p)) = 4 * ((n - p) * (n - p)) := by grind
      omega)
    have e1 : (flZ p q r d + 1) * (2 * d) = 2 * (flZ p q r d * d) + 2 * d := by grind
    have e2 : (2 * flZ p q r d + 1) * d = 2 * (flZ p q r d * d) + d := by grind
    omega
  · have e1 : flZ p q r d * (2 * d) = 2 * (flZ p q r d * d) := by grind
    omega
theorem hv_flat' {p q r d : Int} (h0 : q * q * r = 0) (hd : 0 < d) : hvZ p q r d = (2 * p + d) / (2 * d) := by
  rw [← hv_flat (r := 0) hd, hv_whole (s := 0) (by decide) (by rw [h0]; rfl) hd, hv_whole (s := 0) (by decide) (by simp) hd]
theorem div_scale {x y c : Int} (hc : 0 < c) : (c * x) / (c * y) = x / y := Int.mul_ediv_mul_of_pos x y hc
theorem mx_scale {N m D : Int} (hm : 0 < m) (hD : 0 < D) : (2 * (N * m * D) + m * m * D) / (2 * (m * m * D)) = (2 * N + m) / (2 * m) := by
  have e1 : 2 * (N * m * D) + m * m * D = m * D * (2 * N + m) := by grind
  have e2 : 2 * (m * m * D) = m * D * (2 * m) := by grind
  rw [e1, e2]; exact Int.mul_ediv_mul_of_pos _ _ (Int.mul_pos hm hD)
section
variable {o k m s a d b : Int}
theorem mx_iff : mxOk o k m s a d b = true ↔ (1 ≤ k ∧ k ≤ 12 ∧ s ≤ a ∧ d ≤ b) ∧ (1 ≤ o ∧ o ≤ 12 ∧ a ≤ m ∧ b ≤ m) ∧ (m = 255 ∨ m = 65535) := by
  unfold mxOk blOk opOk7 fullB
  simp only [Bool.and_eq_true, decide_eq_true_eq, and_assoc]
theorem mx_at (ok : mxOk o k m s a d b = true) : mxP o k m s a d b = mxN (faV o a b m) (fbV o a b m) k m s a d b ∧ mxQ o k m s a d b = faV o a b m * blQ k s a d b ∧ mxR o k m s a d b = blR k s a d b ∧ mxD o k m s a d b = m * m * blD k s a d b := by
  unfold mxP mxQ mxR mxD; rw [ok]; exact ⟨rfl, rfl, rfl, rfl⟩
theorem mx_no (ok : mxOk o k m s a d b = false) : mxP o k m s a d b = 0 ∧ mxQ o k m s a d b = 0 ∧ mxR o k m s a d b = 0 ∧ mxD o k m s a d b = 0 ∧ mcV o k m s a d b = 0 := by
  unfold mxP mxQ mxR mxD mcV; rw [ok]; exact ⟨rfl, rfl, rfl, rfl, rfl⟩
theorem mx_facts (ok : mxOk o k m s a d b = true) (h0 : 0 ≤ s) (h2 : 0 ≤ d) :
    (0 ≤ faV o a b m ∧ faV o a b m ≤ m) ∧ (0 ≤ fbV o a b m ∧ fbV o a b m ≤ m) ∧ 0 < blD k s a d b ∧ blD k s a d b ≤ 4294836225 ∧ 0 ≤ mxP o k m s a d b ∧ 0 ≤ mxQ o k m s a d b ∧ mxQ o k m s a d b ≤ 4294836225 ∧ 0 ≤ mxR o k m s a d b ∧ mxR o k m s a d b ≤ 4294836225 ∧
    0 < mxD o k m s a d b ∧ mxD o k m s a d b < 18446744073709551616 ∧
    mxP o k m s a d b ≤ (faV o a b m * a + fbV o a b m * b) * m * blD k s a d b ∧
    mxQ o k m s a d b * mxQ o k m s a d b * mxR o k m s a d b ≤ ((faV o a b m * a + fbV o a b m * b) * m * blD k s a d b - mxP o k m s a d b) * ((faV o a b m * a + fbV o a b m * b) * m * blD k s a d b - mxP o k m s a d b) := by
  obtain ⟨hk, ho, hm⟩ := mx_iff.1 ok
  have hM : m ≤ 65535 := by omega
  have hm0 : 0 < m := by omega
  obtain ⟨e1, e2, e3, e4⟩ := mx_at ok
  obtain ⟨_, f1, f2, _⟩ := op_at ⟨ho.1, ho.2.1⟩ ho.2.2.1 ho.2.2.2
  obtain ⟨⟨r1, r2⟩, r3, r4⟩ := fa_range (k := o) (a := a) (b := b) (m := m) (by omega) (by omega) (by omega) (by omega)
  rw [← f1] at r1 r2
  rw [← f2] at r3 r4
  obtain ⟨g1, g2, g3, g4, g5, g6, g7, g8, g9⟩ := bl_facts (k := k) ⟨hk.1, hk.2.1⟩ h0 hk.2.2.1 (show a ≤ 65535 by omega) h2 hk.2.2.2 (show b ≤ 65535 by omega)
  obtain ⟨i1, i2⟩ := ord_inv g9
  rw [e1, e2, e3, e4]
  unfold mxN
  generalize faV o a b m = fa at *
  generalize fbV o a b m = fb at *
  generalize blP k s a d b = P at *
  generalize blQ k s a d b = Q at *
  generalize blR k s a d b = R at *
  generalize blD k s a d b = D at *
  have ha0 : 0 ≤ a := by omega
  have hb0 : 0 ≤ b := by omega
  have mb0 : 0 ≤ m - b := by omega
  have t1 := Int.mul_nonneg (Int.mul_nonneg mb0 h0) (show 0 ≤ D by omega)
  have t2 := Int.mul_nonneg r1 (show 0 ≤ P + (m - b) * s * D by omega)
  have t3 := Int.mul_nonneg (Int.mul_nonneg (Int.mul_nonneg r3 h2) (show 0 ≤ m by omega)) (show 0 ≤ D by omega)
  have q1 := Int.mul_le_mul (show fa ≤ 65535 by omega) g4 g3 (by decide)
  have q0 := Int.mul_nonneg r1 g3
  have mm : m * m ≤ 4294836225 := by have := Int.mul_le_mul hM hM (by omega) (by decide); omega
  have mm0 : 0 < m * m := Int.mul_pos hm0 hm0
  have d1 := Int.mul_pos mm0 g7
  have d2 := Int.mul_le_mul mm g8 (by omega) (by decide)
  have v1 := Int.mul_nonneg (Int.mul_nonneg r1 (Int.mul_nonneg mb0 (show 0 ≤ a - s by omega))) (show 0 ≤ D by omega)
  have v2 := Int.mul_nonneg (Int.mul_nonneg (Int.mul_nonneg r3 (show 0 ≤ b - d by omega)) (show 0 ≤ m by omega)) (show 0 ≤ D by omega)
  have key : fa * (a * b * D - P) ≤ (fa * a + fb * b) * m * D - (fa * (P + (m - b) * s * D) + fb * d * m * D) := by grind
  have w0 : 0 ≤ fa * (a * b * D - P) := Int.mul_nonneg r1 (by omega)
  refine ⟨⟨r1, r2⟩, ⟨r3, r4⟩, g7, g8, by omega, q0, by omega, g5, g6, d1, by omega, by omega, ?_⟩
  have sq := Int.mul_le_mul key key w0 (Int.le_trans w0 key)
  have ff := Int.mul_nonneg r1 r1
  have x := Int.mul_le_mul_of_nonneg_left i2 ff
  have x1 : fa * Q * (fa * Q) * R = fa * fa * (Q * Q * R) := by grind
  have x2 : fa * (a * b * D - P) * (fa * (a * b * D - P)) = fa * fa * ((a * b * D - P) * (a * b * D - P)) := by grind
  omega
theorem mc_eq (ok : mxOk o k m s a d b = true) (h0 : 0 ≤ s) (h2 : 0 ≤ d) :
    hvOk (mxH o k m s a d b) (mxL o k m s a d b) (mxQ o k m s a d b) (mxR o k m s a d b) (mxD o k m s a d b) = true ∧ mcV o k m s a d b = hvZ (mxP o k m s a d b) (mxQ o k m s a d b) (mxR o k m s a d b) (mxD o k m s a d b) ∧
    0 ≤ mcV o k m s a d b ∧ mcV o k m s a d b ≤ alV o a b m ∧ mcV o k m s a d b ≤ m := by
  obtain ⟨hk, ho, hm⟩ := mx_iff.1 ok
  have hM : m ≤ 65535 := by omega
  have hm0 : 0 < m := by omega
  obtain ⟨⟨r1, r2⟩, ⟨r3, r4⟩, g7, g8, p0, q0, q1, s0, s1, d0, d1, le, sq⟩ := mx_facts ok h0 h2
  obtain ⟨_, f1, f2, _⟩ := op_at ⟨ho.1, ho.2.1⟩ ho.2.2.1 ho.2.2.2
  obtain ⟨n0, n1⟩ := al_bounds (k := o) (a := a) (b := b) (m := m) ⟨ho.1, ho.2.1⟩ (by omega) (by omega) (by omega) (by omega)
  have e4 := (mx_at ok).2.2.2
  have hS := Int.mul_nonneg (Int.mul_nonneg q0 q0) s0
  obtain ⟨l1, l2⟩ := hv_le p0 hS d0 le sq
  have al : alV o a b m = (2 * (faV o a b m * a + fbV o a b m * b) + m) / (2 * m) := by unfold alV; rw [hlf_div (by rw [f1, f2]; exact n0) hm0]
  have alm := (al_range (k := o) (a := a) (b := b) (m := m) ⟨ho.1, ho.2.1⟩ (by omega) (by omega) (by omega) (by omega) hm0).2
  rw [← f1, ← f2] at n0 n1
  have cc : (2 * ((faV o a b m * a + fbV o a b m * b) * m * blD k s a d b) + mxD o k m s a d b) / (2 * mxD o k m s a d b) = alV o a b m := by
    rw [al, e4]
    exact mx_scale hm0 g7
  rw [cc] at l2
  have fl0 := fl_nonneg (d := mxD o k m s a d b) p0 hS d0
  have flm : flZ (mxP o k m s a d b) (mxQ o k m s a d b) (mxR o k m s a d b) (mxD o k m s a d b) ≤ m := by
    have x1 := Int.mul_le_mul_of_nonneg_right n1 (show 0 ≤ m * blD k s a d b from Int.mul_nonneg (by omega) (by omega))
    have x2 : (faV o a b m * a + fbV o a b m * b) * m * blD k s a d b = (faV o a b m * a + fbV o a b m * b) * (m * blD k s a d b) := Int.mul_assoc _ _ _
    have x3 : m * m * (m * blD k s a d b) = m * mxD o k m s a d b := by rw [e4]; grind
    have x4 : flZ (mxP o k m s a d b) (mxQ o k m s a d b) (mxR o k m s a d b) (mxD o k m s a d b) * mxD o k m s a d b ≤ m * mxD o k m s a d b := by omega
    exact Int.le_of_mul_le_mul_right x4 d0
  have hv0 : 0 ≤ hvZ (mxP o k m s a d b) (mxQ o k m s a d b) (mxR o k m s a d b) (mxD o k m s a d b) := by unfold hvZ; split <;> omega
  have pl : mxP o k m s a d b < 18446744073709551616 * 4294967296 := by
    have x1 := Int.mul_le_mul_of_nonneg_right n1 (show 0 ≤ m * blD k s a d b from Int.mul_nonneg (by omega) (by omega))
    have x2 : (faV o a b m * a + fbV o a b m * b) * m * blD k s a d b = (faV o a b m * a + fbV o a b m * b) * (m * blD k s a d b) := Int.mul_assoc _ _ _
    have x3 : m * m * (m * blD k s a d b) = m * mxD o k m s a d b := by rw [e4]; grind
    have x5 := Int.mul_le_mul hM (show mxD o k m s a d b ≤ 18446744073709551615 by omega) (by omega) (by decide)
    omega
  have w : w2 (mxH o k m s a d b) (mxL o k m s a d b) = mxP o k m s a d b := (hilo_range _ p0 (by omega)).2.2
  have hh : mxH o k m s a d b < 4294967296 := by unfold mxH hi64; omega
  have okv : hvOk (mxH o k m s a d b) (mxL o k m s a d b) (mxQ o k m s a d b) (mxR o k m s a d b) (mxD o k m s a d b) = true := by
    unfold hvOk flOk flI vldB
    rw [w]
    simp only [Bool.and_eq_true, decide_eq_true_eq]
    exact ⟨⟨⟨⟨⟨hh, by omega⟩, by omega⟩, by omega⟩, by omega⟩, by omega⟩
  have c : mcV o k m s a d b = hvZ (mxP o k m s a d b) (mxQ o k m s a d b) (mxR o k m s a d b) (mxD o k m s a d b) := by
    unfold mcV hvV
    rw [ok, okv, w]
    have hv1 := Int.le_trans l2 alm
    exact u16_id hv0 (Int.lt_of_le_of_lt hv1 (by omega))
  exact ⟨okv, c, by omega, by omega, by omega⟩
theorem mc_flat (ok : mxOk o k m s a d b = true) (h0 : 0 ≤ s) (h2 : 0 ≤ d) (hq : mxQ o k m s a d b * mxQ o k m s a d b * mxR o k m s a d b = 0) : mcV o k m s a d b = (2 * mxP o k m s a d b + mxD o k m s a d b) / (2 * mxD o k m s a d b) := by
  rw [(mc_eq ok h0 h2).2.1]
  exact hv_flat' hq (mx_facts ok h0 h2).2.2.2.2.2.2.2.2.2.1
theorem round_to {n v P : Int} (hn : 0 < n) (h : P = n * v) : (2 * P + n) / (2 * n) = v := by
  subst h
  rw [Int.ediv_eq_iff_of_pos (by omega)]
  have e1 : v * (2 * n) = 2 * (n * v) := by grind
  have e2 : (v + 1) * (2 * n) = 2 * (n * v) + 2 * n := by grind
  omega
theorem mc_classic (hm : m = 255 ∨ m = 65535) (h0 : 0 ≤ s) (h1 : s ≤ a) (ha : a ≤ m) (h2 : 0 ≤ d) (h3 : d ≤ b) (hb : b ≤ m) : mxOk 4 1 m s a d b = true ∧ mcV 4 1 m s a d b = s + hlf ((m - a) * d) m := by
  have ok : mxOk 4 1 m s a d b = true := mx_iff.2 ⟨⟨by omega, by omega, h1, h3⟩, ⟨by omega, by omega, ha, hb⟩, hm⟩
  obtain ⟨e1, e2, e3, e4⟩ := mx_at ok
  obtain ⟨_, f1, f2, _⟩ := op_at (k := 4) (a := a) (b := b) (m := m) (by omega) ha hb
  have fa : faV 4 a b m = m := by rw [f1]; rfl
  have fb : fbV 4 a b m = m - a := by rw [f2]; rfl
  have ob : blOk 1 s a d b = true := decide_eq_true ⟨by decide, by decide, h1, h3⟩
  obtain ⟨b1, b2, b3, b4⟩ := bl_at ob
  have b1 : blP 1 s a d b = s * b := b1
  have b2 : blQ 1 s a d b = 0 := b2
  have b4 : blD 1 s a d b = 1 := b4
  have n0 := Int.mul_nonneg (show 0 ≤ m - a by omega) h2
  refine ⟨ok, ?_⟩
  rw [mc_flat ok h0 h2 (by rw [e2, b2]; simp), e1, e4, fa, fb, b4, hlf_div n0 (by omega)]
  unfold mxN
  rw [b1, b4]
  have x1 : 2 * (m * (s * b + (m - b) * s * 1) + (m - a) * d * m * 1) + m * m * 1 = m * (2 * ((m - a) * d) + m + s * (2 * m)) := by grind
  have x2 : 2 * (m * m * 1) = m * (2 * m) := by grind
  rw [x1, x2, div_scale (by omega), Int.add_mul_ediv_right _ _ (by omega), Int.add_comm]
theorem bl_void {s a d b : Int} (hk : 1 ≤ k ∧ k ≤ 12) (h0 : 0 ≤ s) (h1 : s ≤ a) (ha : a ≤ 65535) (h2 : 0 ≤ d) (h3 : d ≤ b) (hb : b ≤ 65535) (h : a * b = 0) : blP k s a d b = 0 ∧ blQ k s a d b * blQ k s a d b * blR k s a d b = 0 := by
  obtain ⟨g1, g2, g3, g4, g5, g6, g7, g8, g9⟩ := bl_facts hk h0 h1 ha h2 h3 hb
  rw [h, Int.zero_mul] at g9
  obtain ⟨i1, i2⟩ := ord_inv g9
  have p : blP k s a d b = 0 := by omega
  have := Int.mul_nonneg (Int.mul_nonneg g3 g3) g5
  rw [p] at i2
  exact ⟨p, by omega⟩
end
end Go.Proofs.YtpjhdjakpbabhaaGreatDoor
namespace Go.Proofs.YtpjhdjakpbabhaaGreatDoor
open Go.RowKit PR QR
set_option linter.unusedVariables false
def nmZ (fa al p d be : Int) : Int := (al * d + p) * fa + be * d
def nmOk (fa al p d be : Int) : Bool := decide ((0 ≤ fa ∧ fa ≤ 65535) ∧ (0 ≤ al ∧ al ≤ 4294836225) ∧ (0 ≤ p ∧ p < 18446744073709551616) ∧ (0 ≤ d ∧ d ≤ 4294836225) ∧ (0 ≤ be ∧ be ≤ 281462092005375))
def nmH (fa al p d be : Int) : Int := hi64 (nmZ fa al p d be)
def nmL (fa al p d be : Int) : Int := lo64 (nmZ fa al p d be)
def s_full8 : List AV → Option QR.Ans
  | [.x (.c (.v (.int .u16 m)))] => some ⟨[.c (.v (.bool (fullB m)))], [], []⟩
  | _ => none
def s_num8 : List AV → Option QR.Ans
  | [.x (.c (.v (.int .u64 fa))), .x (.c (.v (.int .u64 al))), .x (.agg [.v (.int .u64 h), .v (.int .u64 p), .v (.int .u64 q), .v (.int .u64 r), .v (.int .u64 d)]), .x (.c (.v (.int .u64 be)))] => some ⟨[.agg [.v (.int .u64 (nmH fa al p d be)), .v (.int .u64 (nmL fa al p d be))]], [], [h = 0, nmOk fa al p d be = true]⟩
  | _ => none
def s_mval : List AV → Option QR.Ans
  | [.x (.c (.v (.int .i64 o))), .x (.c (.v (.int .i64 k))), .x (.c (.v (.int .u16 m))), .x (.c (.v (.int .u16 s))), .x (.c (.v (.int .u16 a))), .x (.c (.v (.int .u16 d))), .x (.c (.v (.int .u16 b)))] => some ⟨[.agg [.v (.int .u64 (mxH o k m s a d b)), .v (.int .u64 (mxL o k m s a d b)), .v (.int .u64 (mxQ o k m s a d b)), .v (.int .u64 (mxR o k m s a d b)), .v (.int .u64 (mxD o k m s a d b))], .c (.v (.bool (mxOk o k m s a d b)))], [], [in16 m = true, in16 s = true, in16 a = true, in16 d = true, in16 b = true]⟩
  | _ => none
def s_mcol : List AV → Option QR.Ans
  | [.x (.c (.v (.int .i64 o))), .x (.c (.v (.int .i64 k))), .x (.c (.v (.int .u16 m))), .x (.c (.v (.int .u16 s))), .x (.c (.v (.int .u16 a))), .x (.c (.v (.int .u16 d))), .x (.c (.v (.int .u16 b)))] => some ⟨[.c (.v (.int .u16 (mcV o k m s a d b))), .c (.v (.bool (mxOk o k m s a d b)))], [], [in16 m = true, in16 s = true, in16 a = true, in16 d = true, in16 b = true]⟩
  | _ => none
def o_num8 : QR.Oracle := QR.orc [(117, QR.lift1 s_mul), (116, QR.lift1 s_add), (100, QR.lift1 s_mulsmall)]
def o_val8 : QR.Oracle := QR.orc [(79, s_factors), (96, s_bl), (97, s_full8), (98, s_num8)]
def o_col8 : QR.Oracle := QR.orc [(77, s_mval), (78, QR.lift1 s_halfX)]
set_option maxRecDepth 100000 in
theorem depth8_vc (m : Int) (V : List QR.XV → List (List QR.CV) → Prop) : QR.evalBody Tryz.prog (QR.orc []) (QR.noLoops) (Tryz.f97.body.getD .skip) Tryz.f97.results.toList Tryz.f97.ntmps [.x (.c (.v (.int .u16 m)))] V = (True ∧ bcond (ieq m 255) (True ∧ True ∧ V [XV.c (CV.v (Value.bool true))] []) (True ∧ True ∧ V [XV.c (CV.v (Value.bool (ieq m 65535)))] [])) := by
  kernel_rfl
set_option maxRecDepth 100000 in
theorem num8_vc (fa al h p q r d be : Int) (V : List QR.XV → List (List QR.CV) → Prop) : QR.evalBody Tryz.prog (o_num8) (QR.noLoops) (Tryz.f98.body.getD .skip) Tryz.f98.results.toList Tryz.f98.ntmps [.x (.c (.v (.int .u64 fa))), .x (.c (.v (.int .u64 al))), .x (.agg [.v (.int .u64 h), .v (.int .u64 p), .v (.int .u64 q), .v (.int .u64 r), .v (.int .u64 d)]), .x (.c (.v (.int .u64 be)))] V = (True ∧ ∀ (i : Int), i = wmH al d → ∀ (i_1 : Int), i_1 = wmL al d → ∀ (i_2 : Int), i_2 = waH i i_1 h p → ∀ (i_3 : Int), i_3 = waL i i_1 h p → (inU i = true ∧ inU i_1 = true ∧ inU h = true ∧ inU p = true ∧ inU al = true ∧ inU d = true ∧ True) ∧ ∀ (i : Int), i = wkH i_2 i_3 fa → ∀ (i_4 : Int), i_4 = wkL i_2 i_3 fa → (inU i_2 = true ∧ inU i_3 = true ∧ inU fa = true ∧ True) ∧ ∀ (i_5 : Int), i_5 = wmH be d → ∀ (i_6 : Int), i_6 = wmL be d → ∀ (i_7 : Int), i_7 = waH i i_4 i_5 i_6 → ∀ (i_8 : Int), i_8 = waL i i_4 i_5 i_6 → (inU i = true ∧ inU i_4 = true ∧ inU i_5 = true ∧ inU i_6 = true ∧ inU be = true ∧ inU d = true ∧ True) ∧ True ∧ True ∧ V [XV.agg [CV.v (Value.int .u64 i_7), CV.v (Value.int .u64 i_8)]] []) := by
  try delta o_num8
  try delta s_mul
  try delta s_add
  try delta s_mulsmall
  generalize @inU = inU
  generalize @waH = waH
  generalize @waL = waL
  generalize @waOk = waOk
  generalize @wkH = wkH
  generalize @wkL = wkL
  generalize @wkOk = wkOk
  generalize @wmH = wmH
  generalize @wmL = wmL
  kernel_rfl
set_option maxRecDepth 100000 in
theorem mval_vc (o k m s a d b : Int) (V : List QR.XV → List (List QR.CV) → Prop) : QR.evalBody Tryz.prog (o_val8) (QR.noLoops) (Tryz.f77.body.getD .skip) Tryz.f77.results.toList Tryz.f77.ntmps [.x (.c (.v (.int .i64 o))), .x (.c (.v (.int .i64 k))), .x (.c (.v (.int .u16 m))), .x (.c (.v (.int .u16 s))), .x (.c (.v (.int .u16 a))), .x (.c (.v (.int .u16 d))), .x (.c (.v (.int .u16 b)))] V = (True ∧ ∀ (i : Int), i = faV o a b m → ∀ (i_1 : Int), i_1 = fbV o a b m → (in16 a = true ∧ in16 b = true ∧ in16 m = true ∧ True) ∧ ∀ (i_2 : Int), i_2 = 0 → ∀ (i_3 : Int), i_3 = blP k s a d b → ∀ (i_4 : Int), i_4 = blQ k s a d b → ∀ (i_5 : Int), i_5 = blR k s a d b → ∀ (i_6 : Int), i_6 = blD k s a d b → (in16 s = true ∧ in16 a = true ∧ in16 d = true ∧ in16 b = true ∧ True) ∧ bcond (bnot (opOk7 o a b m)) (True ∧ True ∧ True ∧ V [XV.agg [CV.v (Value.int .u64 0), CV.v (Value.int .u64 0), CV.v (Value.int .u64 0), CV.v (Value.int .u64 0), CV.v (Value.int .u64 0)], XV.c (CV.v (Value.bool false))] []) (bcond (bnot (blOk k s a d b)) (True ∧ True ∧ True ∧ V [XV.agg [CV.v (Value.int .u64 0), CV.v (Value.int .u64 0), CV.v (Value.int .u64 0), CV.v (Value.int .u64 0), CV.v (Value.int .u64 0)], XV.c (CV.v (Value.bool false))] []) (True ∧ bcond (bnot (fullB m)) (True ∧ True ∧ V [XV.agg [CV.v (Value.int .u64 0), CV.v (Value.int .u64 0), CV.v (Value.int .u64 0), CV.v (Value.int .u64 0), CV.v (Value.int .u64 0)], XV.c (CV.v (Value.bool false))] []) (True ∧ True ∧ ∀ (i_7 : Int), i_7 = nmH (iconv IntKind.u64 i) (imul IntKind.u64 (iconv IntKind.u64 (isub IntKind.u16 m b)) (iconv IntKind.u64 s)) i_3 i_6 (imul IntKind.u64 (imul IntKind.u64 (iconv IntKind.u64 i_1) (iconv IntKind.u64 d)) (iconv IntKind.u64 m)) → ∀ (i_8 : Int), i_8 = nmL (iconv IntKind.u64 i) (imul IntKind.u64 (iconv IntKind.u64 (isub IntKind.u16 m b)) (iconv IntKind.u64 s)) i_3 i_6 (imul IntKind.u64 (imul IntKind.u64 (iconv IntKind.u64 i_1) (iconv IntKind.u64 d)) (iconv IntKind.u64 m)) → (i_2 = 0 ∧ nmOk (iconv IntKind.u64 i) (imul IntKind.u64 (iconv IntKind.u64 (isub IntKind.u16 m b)) (iconv IntKind.u64 s)) i_3 i_6 (imul IntKind.u64 (imul IntKind.u64 (iconv IntKind.u64 i_1) (iconv IntKind.u64 d)) (iconv IntKind.u64 m)) = true ∧ True) ∧ True ∧ V [XV.agg [CV.v (Value.int .u64 i_7), CV.v (Value.int .u64 i_8), CV.v (Value.int .u64 (imul IntKind.u64 (iconv IntKind.u64 i) i_4)), CV.v (Value.int .u64 i_5), CV.v (Value.int .u64 (imul IntKind.u64 (imul IntKind.u64 (iconv IntKind.u64 m) (iconv IntKind.u64 m)) i_6))], XV.c (CV.v (Value.bool true))] [])))) := by
  try delta o_val8
  try delta s_factors
  try delta s_bl
  try delta s_full8
  try delta s_num8
  generalize @blD = blD
  generalize @blOk = blOk
  generalize @blP = blP
  generalize @blQ = blQ
  generalize @blR = blR
  generalize @faV = faV
  generalize @fbV = fbV
  generalize @fullB = fullB
  generalize @in16 = in16
  generalize @nmH = nmH
  generalize @nmL = nmL
  generalize @nmOk = nmOk
  generalize @opOk7 = opOk7
  kernel_rfl
set_option maxRecDepth 100000 in
theorem mcol_vc (o k m s a d b : Int) (V : List QR.XV → List (List QR.CV) → Prop) : QR.evalBody Tryz.prog (o_col8) (QR.noLoops) (Tryz.f37.body.getD .skip) Tryz.f37.results.toList Tryz.f37.ntmps [.x (.c (.v (.int .i64 o))), .x (.c (.v (.int .i64 k))), .x (.c (.v (.int .u16 m))), .x (.c (.v (.int .u16 s))), .x (.c (.v (.int .u16 a))), .x (.c (.v (.int .u16 d))), .x (.c (.v (.int .u16 b)))] V = (True ∧ ∀ (i : Int), i = mxH o k m s a d b → ∀ (i_1 : Int), i_1 = mxL o k m s a d b → ∀ (i_2 : Int), i_2 = mxQ o k m s a d b → ∀ (i_3 : Int), i_3 = mxR o k m s a d b → ∀ (i_4 : Int), i_4 = mxD o k m s a d b → (in16 m = true ∧ in16 s = true ∧ in16 a = true ∧ in16 d = true ∧ in16 b = true ∧ True) ∧ True ∧ bcond (bnot (mxOk o k m s a d b)) (True ∧ True ∧ V [XV.c (CV.v (Value.int .u16 0)), XV.c (CV.v (Value.bool false))] []) (∀ (i_5 : Int), i_5 = hvV i i_1 i_2 i_3 i_4 → (inU i = true ∧ inU i_1 = true ∧ inU i_2 = true ∧ inU i_3 = true ∧ inU i_4 = true ∧ True) ∧ True ∧ True ∧ V [XV.c (CV.v (Value.int .u16 (iconv IntKind.u16 i_5))), XV.c (CV.v (Value.bool true))] [])) := by
  try delta o_col8
  try delta s_mval
  try delta s_halfX
  generalize @hvOk = hvOk
  generalize @hvV = hvV
  generalize @in16 = in16
  generalize @inU = inU
  generalize @mxD = mxD
  generalize @mxH = mxH
  generalize @mxL = mxL
  generalize @mxOk = mxOk
  generalize @mxQ = mxQ
  generalize @mxR = mxR
  kernel_rfl
end Go.Proofs.YtpjhdjakpbabhaaGreatDoor
namespace Go.Proofs.YtpjhdjakpbabhaaGreatDoor
open Go.RowKit PR QR
set_option linter.unusedVariables false
set_option linter.unusedSimpArgs false
theorem wa_at {a b c d X Y : Int} (h1 : w2 a b = X) (h2 : w2 c d = Y) (k : X + Y < 340282366920938463463374607431768211456) : waH a b c d = hi64 (X + Y) ∧ waL a b c d = lo64 (X + Y) := by
  have ok : waOk a b c d = true := by unfold waOk; rw [h1, h2]; exact decide_eq_true k
  unfold waH waL; rw [ok, h1, h2]; exact ⟨rfl, rfl⟩
theorem wk_at {a b c X : Int} (h1 : w2 a b = X) (k : X * c < 340282366920938463463374607431768211456) : wkH a b c = hi64 (X * c) ∧ wkL a b c = lo64 (X * c) := by
  have ok : wkOk a b c = true := by unfold wkOk; rw [h1]; exact decide_eq_true k
  unfold wkH wkL; rw [ok, h1]; exact ⟨rfl, rfl⟩
theorem w2_zero (p : Int) : w2 0 p = p := by unfold w2; omega
theorem a_depth8 : Answers2 97 s_full8 := by
  intro al ans h hq
  unfold s_full8 at h
  split at h <;> try (simp at h; done)
  rename_i m
  simp only [Option.some.injEq] at h
  subst h
  have hq := asked hq
  refine QR.does_of_eval (O := (QR.orc [])) QR.orc_nil mixed (QR.noLoops) Tryz.func97 (by kernel_rfl) (by kernel_rfl) (by simp) ?_
  rw [depth8_vc]
  simp only [bcond_iff, okAns, eqXs, eqX, eqo, eqLo, eqL, eqc, veq, eqUs, forall_eq, true_and, and_true, ieq, beq_iff_eq, beq_eq_false_iff_ne, ne_eq]
  unfold fullB
  exact ⟨fun c => by simp [c], fun c => by simp only [c, false_or]; rfl⟩
theorem a_num8 : Answers2 98 s_num8 := by
  intro al ans h hq
  unfold s_num8 at h
  split at h <;> try (simp at h; done)
  rename_i fa al h p q r d be
  simp only [Option.some.injEq] at h
  subst h
  have hq := asked hq
  refine QR.does_of_eval (O := o_num8) (QR.orc_cons (up a_mul) (QR.orc_cons (up a_add) (QR.orc_cons (up a_mulsmall) QR.orc_nil))) mixed (QR.noLoops) Tryz.func98 (by kernel_rfl) (by kernel_rfl) (by simp) ?_
  rw [num8_vc]
  obtain ⟨rfl, g, _⟩ := hq
  obtain ⟨⟨f0, f1⟩, ⟨a0, a1⟩, ⟨p0, p1⟩, ⟨d0, d1⟩, ⟨b0, b1⟩⟩ := of_decide_eq_true g
  have n1 := Int.mul_nonneg a0 d0
  have n2 := Int.mul_le_mul a1 d1 d0 (by decide)
  have n3 := Int.mul_nonneg b0 d0
  have n4 := Int.mul_le_mul b1 d1 d0 (by decide)
  have n5 := Int.mul_nonneg (show 0 ≤ al * d + p by omega) f0
  have n6 := Int.mul_le_mul (show al * d + p ≤ 36893488147419103231 by omega) f1 f0 (by decide)
  have i1 : inU fa = true := inU_iff.2 (by omega)
  have i2 : inU al = true := inU_iff.2 (by omega)
  have i3 : inU p = true := inU_iff.2 (by omega)
  have i4 : inU d = true := inU_iff.2 (by omega)
  have i5 : inU be = true := inU_iff.2 (by omega)
  obtain ⟨m1, m2, m3⟩ := wm_spec i2 i4
  obtain ⟨k1, k2, k3⟩ := wm_spec i5 i4
  obtain ⟨x1, x2⟩ := wa_at m3 (w2_zero p) (by omega)
  obtain ⟨x3, x4, x5⟩ := hilo_range (al * d + p) (by omega) (by omega)
  obtain ⟨y1, y2⟩ := wk_at (c := fa) x5 (by omega)
  obtain ⟨y3, y4, y5⟩ := hilo_range ((al * d + p) * fa) n5 (by omega)
  obtain ⟨z1, z2⟩ := wa_at y5 k3 (by omega)
  simp only [okAns, eqXs, eqX, eqo, eqLo, eqL, eqc, veq, eqUs, forall_eq, true_and, and_true, i1, i2, i3, i4, i5, inU_zero, m1, m2, k1, k2, x1, x2, x3, x4, y1, y2, y3, y4, z1, z2, nmH, nmL, nmZ]
theorem mx_in {o k m s a d b : Int} (hm : in16 m = true) (hs : in16 s = true) (ha : in16 a = true) (hd : in16 d = true) (hb : in16 b = true) :
    inU (mxH o k m s a d b) = true ∧ inU (mxL o k m s a d b) = true ∧ inU (mxQ o k m s a d b) = true ∧ inU (mxR o k m s a d b) = true ∧ inU (mxD o k m s a d b) = true := by
  rw [in16_iff] at *
  cases ok : mxOk o k m s a d b
  · obtain ⟨z1, z2, z3, z4, _⟩ := mx_no ok
    unfold mxH mxL
    rw [z1, z2, z3, z4]; decide
  · obtain ⟨_, _, g7, g8, p0, q0, q1, s0, s1, d0, d1, le, sq⟩ := mx_facts ok hs.1 hd.1
    have c := (mc_eq ok hs.1 hd.1).1
    have h1 : mxH o k m s a d b < 4294967296 := by
      unfold hvOk flOk vldB at c
      simp only [Bool.and_eq_true, decide_eq_true_eq] at c
      exact c.1.1.1.1.1
    have h0 : 0 ≤ mxH o k m s a d b := by unfold mxH hi64; omega
    exact ⟨inU_iff.2 ⟨h0, by omega⟩, inU_lo _, inU_iff.2 ⟨q0, by omega⟩, inU_iff.2 ⟨s0, by omega⟩, inU_iff.2 ⟨by omega, d1⟩⟩
theorem sub16 {m b : Int} (hm : in16 m = true) (hb : in16 b = true) (h : b ≤ m) : isub .u16 m b = m - b ∧ in16 (m - b) = true ∧ isub .u64 m b = m - b := by
  rw [in16_iff] at *
  refine ⟨?_, by omega, ?_⟩
  · unfold isub; rw [IntKind.wrap_u16]; omega
  · unfold isub; rw [IntKind.wrap_u64]; omega
theorem mulIn {x y : Int} (h : 0 ≤ x * y) (k : x * y < 18446744073709551616) : imul .u64 x y = x * y := by rw [imulU]; exact modM h k
theorem mx_ways {o k m s a d b : Int} (ok : mxOk o k m s a d b = true) (hm : in16 m = true) (hs : in16 s = true) (ha : in16 a = true) (hd : in16 d = true) (hb : in16 b = true) :
    (in16 (faV o a b m) = true ∧ in16 (fbV o a b m) = true) ∧ (isub .u16 m b = m - b ∧ iconv .u64 (m - b) = m - b ∧ isub .u64 m b = m - b) ∧ (0 ≤ (m - b) * s ∧ (m - b) * s ≤ 4294836225 ∧ imul .u64 (m - b) s = (m - b) * s) ∧
    (0 ≤ fbV o a b m * d ∧ fbV o a b m * d ≤ 4294836225 ∧ imul .u64 (fbV o a b m) d = fbV o a b m * d) ∧ (0 ≤ fbV o a b m * d * m ∧ fbV o a b m * d * m ≤ 281462092005375 ∧ imul .u64 (fbV o a b m * d) m = fbV o a b m * d * m) ∧
    (imul .u64 (faV o a b m) (blQ k s a d b) = faV o a b m * blQ k s a d b ∧ imul .u64 m m = m * m ∧ imul .u64 (m * m) (blD k s a d b) = m * m * blD k s a d b) ∧
    (0 ≤ blP k s a d b ∧ blP k s a d b < 18446744073709551616 ∧ 0 < blD k s a d b ∧ blD k s a d b ≤ 4294836225) ∧
    nmOk (faV o a b m) ((m - b) * s) (blP k s a d b) (blD k s a d b) (fbV o a b m * d * m) = true ∧ nmZ (faV o a b m) ((m - b) * s) (blP k s a d b) (blD k s a d b) (fbV o a b m * d * m) = mxP o k m s a d b := by
  obtain ⟨hk, ho, hmm⟩ := mx_iff.1 ok
  obtain ⟨z1, z2, z3⟩ := sub16 hm hb ho.2.2.2
  have z4 := conv64 z2
  obtain ⟨f1, f2⟩ := fa_in (k := o) ha hb hm
  rw [in16_iff] at hm hs ha hd hb z2
  obtain ⟨_, _, g7, g8, p0, q0, q1, s0, s1, d0, d1, le, sq⟩ := mx_facts ok hs.1 hd.1
  obtain ⟨e1, e2, e3, e4⟩ := mx_at ok
  obtain ⟨l0, l1⟩ := bl_lt (k := k) ⟨hk.1, hk.2.1⟩ hs.1 hk.2.2.1 (show a ≤ 65535 by omega) hd.1 hk.2.2.2 (show b ≤ 65535 by omega)
  have okb : blOk k s a d b = true := decide_eq_true hk
  rw [← (bl_at okb).1] at l0 l1
  have F1 := in16_iff.1 f1
  have F2 := in16_iff.1 f2
  have a0 := Int.mul_nonneg z2.1 hs.1
  have a1 := Int.mul_le_mul (show m - b ≤ 65535 by omega) (show s ≤ 65535 by omega) hs.1 (by decide)
  have b0 := Int.mul_nonneg F2.1 hd.1
  have b1 := Int.mul_le_mul (show fbV o a b m ≤ 65535 by omega) (show d ≤ 65535 by omega) hd.1 (by decide)
  have c0 := Int.mul_nonneg b0 hm.1
  have c1 := Int.mul_le_mul (show fbV o a b m * d ≤ 4294836225 by omega) (show m ≤ 65535 by omega) hm.1 (by decide)
  have mm0 := Int.mul_nonneg hm.1 hm.1
  have mm := Int.mul_le_mul (show m ≤ 65535 by omega) (show m ≤ 65535 by omega) hm.1 (by decide)
  rw [e2] at q0 q1
  rw [e4] at d0 d1
  refine ⟨⟨f1, f2⟩, ⟨z1, z4.1, z3⟩, ⟨a0, by omega, mulIn a0 (by omega)⟩, ⟨b0, by omega, mulIn b0 (by omega)⟩, ⟨c0, by omega, mulIn c0 (by omega)⟩, ⟨mulIn q0 (by omega), mulIn mm0 (by omega), mulIn (by omega) d1⟩, ⟨l0, l1, g7, g8⟩, ?_, ?_⟩
  · exact decide_eq_true ⟨by omega, by omega, by omega, by omega, by omega⟩
  · rw [e1]; unfold nmZ mxN; grind
theorem a_mval : Answers2 77 s_mval := by
  intro al ans h hq
  unfold s_mval at h
  split at h <;> try (simp at h; done)
  rename_i o k m s a d b
  simp only [Option.some.injEq] at h
  subst h
  have hq := asked hq
  refine QR.does_of_eval (O := o_val8) (QR.orc_cons a_factors (QR.orc_cons a_exact6 (QR.orc_cons a_depth8 (QR.orc_cons a_num8 QR.orc_nil)))) mixed (QR.noLoops) Tryz.func77 (by kernel_rfl) (by kernel_rfl) (by simp) ?_
  rw [mval_vc]
  obtain ⟨g1, g2, g3, g4, g5, _⟩ := hq
  cases ok : mxOk o k m s a d b
  · obtain ⟨y1, y2, y3, y4, _⟩ := mx_no ok
    have y5 : mxH o k m s a d b = 0 := by unfold mxH; rw [y1]; rfl
    have y6 : mxL o k m s a d b = 0 := by unfold mxL; rw [y1]; rfl
    have no := ok
    unfold mxOk at no
    cases c1 : opOk7 o a b m <;> cases c2 : blOk k s a d b <;> cases c3 : fullB m <;> simp [c1, c2, c3, bcond_iff, bnot, okAns, eqXs, eqX, eqo, eqLo, eqL, eqc, veq, eqUs, g1, g2, g3, g4, g5, y2, y3, y4, y5, y6] at no ⊢
  · obtain ⟨⟨f1, f2⟩, ⟨z1, z2, z3⟩, ⟨a0, a1, a2⟩, ⟨b0, b1, b2⟩, ⟨c0, c1, c2⟩, ⟨q1, q2, q3⟩, ⟨p0, p1, p2, p3⟩, nm, nz⟩ := mx_ways ok g1 g2 g3 g4 g5
    obtain ⟨e1, e2, e3, e4⟩ := mx_at ok
    have k1 := ok
    unfold mxOk at k1
    simp only [Bool.and_eq_true] at k1
    obtain ⟨⟨k1, k2⟩, k3⟩ := k1
    have u1 := (conv64 f1).1
    have u2 := (conv64 f2).1
    have u3 := (conv64 g1).1
    have u4 := (conv64 g2).1
    have u5 := (conv64 g4).1
    simp only [k1, k2, k3, bcond_iff, bnot, Bool.not_true, okAns, eqXs, eqX, eqo, eqLo, eqL, eqc, veq, eqUs, forall_eq, true_and, and_true, Bool.false_eq_true, false_implies, true_implies, forall_const, g1, g2, g3, g4, g5, z1, z2, z3, a2, b2, c2, q1, q2, q3, u1, u2, u3, u4, u5, nm, e2, e3, e4]
    simp only [mxH, mxL, ← nz]
    first | done | exact ⟨rfl, rfl⟩
theorem a_mcol : Answers2 37 s_mcol := by
  intro al ans h hq
  unfold s_mcol at h
  split at h <;> try (simp at h; done)
  rename_i o k m s a d b
  simp only [Option.some.injEq] at h
  subst h
  have hq := asked hq
  refine QR.does_of_eval (O := o_col8) (QR.orc_cons a_mval (QR.orc_cons (up a_half3) QR.orc_nil)) mixed (QR.noLoops) Tryz.func37 (by kernel_rfl) (by kernel_rfl) (by simp) ?_
  rw [mcol_vc]
  obtain ⟨g1, g2, g3, g4, g5, _⟩ := hq
  obtain ⟨i1, i2, i3, i4, i5⟩ := mx_in (o := o) (k := k) g1 g2 g3 g4 g5
  cases ok : mxOk o k m s a d b
  · obtain ⟨_, _, _, _, z⟩ := mx_no ok
    simp [bcond_iff, bnot, okAns, eqXs, eqX, eqo, eqLo, eqc, veq, eqUs, g1, g2, g3, g4, g5, z]
  · have e : mcV o k m s a d b = iconv .u16 (hvV (mxH o k m s a d b) (mxL o k m s a d b) (mxQ o k m s a d b) (mxR o k m s a d b) (mxD o k m s a d b)) := by unfold mcV; rw [ok]; rfl
    simp [bcond_iff, bnot, okAns, eqXs, eqX, eqo, eqLo, eqc, veq, eqUs, g1, g2, g3, g4, g5, i1, i2, i3, i4, i5, e]
end Go.Proofs.YtpjhdjakpbabhaaGreatDoor
