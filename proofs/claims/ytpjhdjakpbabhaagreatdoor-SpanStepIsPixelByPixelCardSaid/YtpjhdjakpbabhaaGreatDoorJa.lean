import Derived.Test.YtpjhdjakpbabhaaGreatDoorBi
namespace Go.Proofs.YtpjhdjakpbabhaaGreatDoor
open Go.RowKit PR QR
set_option linter.unusedVariables false
set_option linter.unusedSimpArgs false
def knOk (k m s a f c d b : Int) : Bool := decide ((1 ≤ k ∧ k ≤ 12) ∧ s ≤ a ∧ a ≤ f ∧ f ≤ m ∧ d ≤ b ∧ b ≤ m ∧ c ≤ m) && fullB m
def knX (m s a f c d b : Int) : Int := (m - f) * c + (f - a) * d + (m - b) * s
def knN (m a f acc b : Int) : Int := (m - f) * acc + (f - a) * b + m * a
def knP (k m s a f c d b : Int) : Int := blP k s a d b + knX m s a f c d b * blD k s a d b
def knD (k m s a d b : Int) : Int := m * blD k s a d b
def knH (k m s a f c d b : Int) : Int := hi64 (knP k m s a f c d b)
def knL (k m s a f c d b : Int) : Int := lo64 (knP k m s a f c d b)
def kcV (k m s a f c d b : Int) : Int := bif knOk k m s a f c d b then iconv .u16 (hvV (knH k m s a f c d b) (knL k m s a f c d b) (blQ k s a d b) (blR k s a d b) (knD k m s a d b)) else 0
def kaOk (m a f acc b : Int) : Bool := decide (a ≤ f ∧ f ≤ m ∧ acc ≤ m ∧ b ≤ m) && fullB m
def kaV (m a f acc b : Int) : Int := bif kaOk m a f acc b then iconv .u16 (hlf (knN m a f acc b) m) else 0
section
variable {k m s a f c d b acc : Int}
theorem kn_iff : knOk k m s a f c d b = true ↔ ((1 ≤ k ∧ k ≤ 12) ∧ s ≤ a ∧ a ≤ f ∧ f ≤ m ∧ d ≤ b ∧ b ≤ m ∧ c ≤ m) ∧ (m = 255 ∨ m = 65535) := by
  unfold knOk fullB
  rw [Bool.and_eq_true, decide_eq_true_eq, decide_eq_true_eq]
theorem ka_iff : kaOk m a f acc b = true ↔ (a ≤ f ∧ f ≤ m ∧ acc ≤ m ∧ b ≤ m) ∧ (m = 255 ∨ m = 65535) := by
  unfold kaOk fullB
  rw [Bool.and_eq_true, decide_eq_true_eq, decide_eq_true_eq]
theorem kn_N (a0 : 0 ≤ a) (a1 : a ≤ f) (f1 : f ≤ m) (c0 : 0 ≤ acc) (c1 : acc ≤ m) (b0 : 0 ≤ b) (b1 : b ≤ m) : 0 ≤ knN m a f acc b ∧ knN m a f acc b ≤ m * m := by
  unfold knN
  have p1 := Int.mul_nonneg (show 0 ≤ m - f by omega) c0
  have p2 := Int.mul_nonneg (show 0 ≤ f - a by omega) b0
  have p3 := Int.mul_nonneg (show 0 ≤ m by omega) a0
  have q1 := Int.mul_nonneg (show 0 ≤ m - f by omega) (show 0 ≤ m - acc by omega)
  have q2 := Int.mul_nonneg (show 0 ≤ f - a by omega) (show 0 ≤ m - b by omega)
  exact ⟨by omega, by grind⟩
theorem ka_at (ok : kaOk m a f acc b = true) (a0 : 0 ≤ a) (c0 : 0 ≤ acc) (b0 : 0 ≤ b) : kaV m a f acc b = hlf (knN m a f acc b) m ∧ 0 ≤ kaV m a f acc b ∧ kaV m a f acc b ≤ m := by
  obtain ⟨⟨h1, h2, h3, h4⟩, hm⟩ := ka_iff.1 ok
  obtain ⟨n0, n1⟩ := kn_N a0 h1 h2 c0 h3 b0 h4
  have l := hlf_le n0 (show 0 ≤ m by omega) n1 (by omega)
  have l0 := hlf_nonneg (knN m a f acc b) m
  have e : kaV m a f acc b = hlf (knN m a f acc b) m := by unfold kaV; rw [ok]; exact u16_id l0 (by omega)
  exact ⟨e, by omega, by omega⟩
theorem ka_mk (hm : m = 255 ∨ m = 65535) (h1 : a ≤ f) (h2 : f ≤ m) (h3 : acc ≤ m) (h4 : b ≤ m) : kaOk m a f acc b = true := ka_iff.2 ⟨⟨h1, h2, h3, h4⟩, hm⟩
theorem kn_X (s0 : 0 ≤ s) (s1 : s ≤ a) (a1 : a ≤ f) (f1 : f ≤ m) (c0 : 0 ≤ c) (c1 : c ≤ acc) (d0 : 0 ≤ d) (d1 : d ≤ b) (b1 : b ≤ m) : 0 ≤ knX m s a f c d b ∧ knX m s a f c d b + a * b ≤ knN m a f acc b := by
  unfold knX knN
  have p1 := Int.mul_nonneg (show 0 ≤ m - f by omega) c0
  have p2 := Int.mul_nonneg (show 0 ≤ f - a by omega) d0
  have p3 := Int.mul_nonneg (show 0 ≤ m - b by omega) s0
  have q1 := Int.mul_nonneg (show 0 ≤ m - f by omega) (show 0 ≤ acc - c by omega)
  have q2 := Int.mul_nonneg (show 0 ≤ f - a by omega) (show 0 ≤ b - d by omega)
  have q3 := Int.mul_nonneg (show 0 ≤ m - b by omega) (show 0 ≤ a - s by omega)
  exact ⟨by omega, by grind⟩
theorem kc_eq (ok : knOk k m s a f c d b = true) (s0 : 0 ≤ s) (c0 : 0 ≤ c) (d0 : 0 ≤ d) :
    (inU (knH k m s a f c d b) = true ∧ inU (knL k m s a f c d b) = true ∧ inU (blQ k s a d b) = true ∧ inU (blR k s a d b) = true ∧ inU (knD k m s a d b) = true) ∧ 0 < knD k m s a d b ∧ 0 ≤ blQ k s a d b * blQ k s a d b * blR k s a d b ∧
    hvOk (knH k m s a f c d b) (knL k m s a f c d b) (blQ k s a d b) (blR k s a d b) (knD k m s a d b) = true ∧ kcV k m s a f c d b = hvZ (knP k m s a f c d b) (blQ k s a d b) (blR k s a d b) (knD k m s a d b) ∧
    0 ≤ kcV k m s a f c d b ∧ kcV k m s a f c d b ≤ m ∧ ∀ acc, c ≤ acc → acc ≤ m → kcV k m s a f c d b ≤ kaV m a f acc b := by
  obtain ⟨⟨hk, h1, h2, h3, h4, h5, h6⟩, hm⟩ := kn_iff.1 ok
  have hM : m ≤ 65535 := by omega
  have hm0 : 0 < m := by omega
  obtain ⟨g1, g2, g3, g4, g5, g6, g7, g8, g9⟩ := bl_facts (k := k) hk s0 h1 (show a ≤ 65535 by omega) d0 h4 (show b ≤ 65535 by omega)
  obtain ⟨i1, i2⟩ := ord_inv g9
  have X0 := (kn_X s0 h1 h2 h3 c0 (Int.le_refl c) d0 h4 h5).1
  have hS := Int.mul_nonneg (Int.mul_nonneg g3 g3) g5
  have D0 : 0 < knD k m s a d b := Int.mul_pos hm0 g7
  have D1 : knD k m s a d b ≤ 65535 * 4294836225 := Int.mul_le_mul hM g8 (by omega) (by decide)
  have P0 : 0 ≤ knP k m s a f c d b := by
    have := Int.mul_nonneg X0 (show 0 ≤ blD k s a d b by omega)
    unfold knP; omega
  have step : ∀ acc, c ≤ acc → acc ≤ m → knP k m s a f c d b ≤ knN m a f acc b * blD k s a d b ∧ flZ (knP k m s a f c d b) (blQ k s a d b) (blR k s a d b) (knD k m s a d b) * knD k m s a d b ≤ knN m a f acc b * blD k s a d b ∧ hvZ (knP k m s a f c d b) (blQ k s a d b) (blR k s a d b) (knD k m s a d b) ≤ hlf (knN m a f acc b) m := by
    intro acc e1 e2
    have X1 := (kn_X s0 h1 h2 h3 c0 e1 d0 h4 h5).2
    have N0 := (kn_N (acc := acc) (show 0 ≤ a by omega) h2 h3 (by omega) e2 (show 0 ≤ b by omega) h5).1
    have x1 := Int.mul_le_mul_of_nonneg_right X1 (show 0 ≤ blD k s a d b by omega)
    have x2 : (knX m s a f c d b + a * b) * blD k s a d b = knX m s a f c d b * blD k s a d b + a * b * blD k s a d b := Int.add_mul _ _ _
    have le : knP k m s a f c d b ≤ knN m a f acc b * blD k s a d b := by unfold knP; omega
    have key : a * b * blD k s a d b - blP k s a d b ≤ knN m a f acc b * blD k s a d b - knP k m s a f c d b := by unfold knP; omega
    have w0 : 0 ≤ a * b * blD k s a d b - blP k s a d b := by omega
    have sq := Int.mul_le_mul key key w0 (Int.le_trans w0 key)
    obtain ⟨l1, l2⟩ := hv_le P0 hS D0 le (Int.le_trans i2 sq)
    refine ⟨le, l1, ?_⟩
    rw [hlf_div N0 hm0]
    have e3 : 2 * (knN m a f acc b * blD k s a d b) + knD k m s a d b = blD k s a d b * (2 * knN m a f acc b + m) := by unfold knD; grind
    have e4 : 2 * knD k m s a d b = blD k s a d b * (2 * m) := by unfold knD; grind
    rw [e3, e4, div_scale g7] at l2
    exact l2
  obtain ⟨le, l1, l2⟩ := step m (by omega) (by omega)
  obtain ⟨n0, n1⟩ := kn_N (m := m) (acc := m) (show 0 ≤ a by omega) h2 h3 (by omega) (Int.le_refl m) (show 0 ≤ b by omega) h5
  have hm1 := hlf_le n0 (show 0 ≤ m by omega) n1 hm0
  have fl0 := fl_nonneg (d := knD k m s a d b) P0 hS D0
  have flm : flZ (knP k m s a f c d b) (blQ k s a d b) (blR k s a d b) (knD k m s a d b) ≤ m := by
    have x1 := Int.mul_le_mul_of_nonneg_right n1 (show 0 ≤ blD k s a d b by omega)
    have x3 : m * m * blD k s a d b = m * knD k m s a d b := by unfold knD; grind
    exact Int.le_of_mul_le_mul_right (show _ * knD k m s a d b ≤ m * knD k m s a d b by omega) D0
  have hv0 : 0 ≤ hvZ (knP k m s a f c d b) (blQ k s a d b) (blR k s a d b) (knD k m s a d b) := by unfold hvZ; split <;> omega
  have pl : knP k m s a f c d b < 18446744073709551616 * 4294967296 := by
    have x1 := Int.mul_le_mul_of_nonneg_right n1 (show 0 ≤ blD k s a d b by omega)
    have mm : m * m ≤ 4294836225 := by have := Int.mul_le_mul hM hM (by omega) (by decide); omega
    have x2 := Int.mul_le_mul mm g8 (by omega) (by decide)
    omega
  obtain ⟨u1, u2, w⟩ := hilo_range (knP k m s a f c d b) P0 (by omega)
  have w : w2 (knH k m s a f c d b) (knL k m s a f c d b) = knP k m s a f c d b := w
  have hh : knH k m s a f c d b < 4294967296 := by unfold knH hi64; omega
  have okv : hvOk (knH k m s a f c d b) (knL k m s a f c d b) (blQ k s a d b) (blR k s a d b) (knD k m s a d b) = true := by
    unfold hvOk flOk flI vldB
    rw [w]
    simp only [Bool.and_eq_true, decide_eq_true_eq]
    exact ⟨⟨⟨⟨⟨hh, by omega⟩, by omega⟩, by omega⟩, by omega⟩, by omega⟩
  have v : kcV k m s a f c d b = hvZ (knP k m s a f c d b) (blQ k s a d b) (blR k s a d b) (knD k m s a d b) := by
    unfold kcV hvV
    rw [ok, okv, w]
    have hv1 : hvZ (knP k m s a f c d b) (blQ k s a d b) (blR k s a d b) (knD k m s a d b) < 65536 := by omega
    exact u16_id hv0 hv1
  refine ⟨⟨u1, u2, inU_iff.2 (by omega), inU_iff.2 (by omega), inU_iff.2 (by omega)⟩, D0, hS, okv, v, by omega, by omega, fun acc e1 e2 => ?_⟩
  rw [v, (ka_at (ka_mk hm h2 h3 e2 h5) (show 0 ≤ a by omega) (show 0 ≤ acc by omega) (show 0 ≤ b by omega)).1]
  exact (step acc e1 e2).2.2
theorem kc_full {p q : Int} (hk : 1 ≤ k ∧ k ≤ 12) (hm : m = 255 ∨ m = 65535) (s1 : s ≤ a) (a1 : a ≤ m) (d1 : d ≤ b) (b1 : b ≤ m) (hp : p ≤ m) (hq : q ≤ m) : knOk k m s a m p d b = true ∧ knOk k m s a m q d b = true ∧ kcV k m s a m p d b = kcV k m s a m q d b := by
  have o1 : knOk k m s a m p d b = true := kn_iff.2 ⟨⟨hk, s1, a1, Int.le_refl m, d1, b1, hp⟩, hm⟩
  have o2 : knOk k m s a m q d b = true := kn_iff.2 ⟨⟨hk, s1, a1, Int.le_refl m, d1, b1, hq⟩, hm⟩
  have e : knP k m s a m p d b = knP k m s a m q d b := by unfold knP knX; simp
  refine ⟨o1, o2, ?_⟩
  unfold kcV knH knL
  rw [o1, o2, e]
theorem ka_full {p q : Int} (hm : m = 255 ∨ m = 65535) (a1 : a ≤ m) (b1 : b ≤ m) (hp : p ≤ m) (hq : q ≤ m) : kaOk m a m p b = true ∧ kaOk m a m q b = true ∧ kaV m a m p b = kaV m a m q b := by
  have o1 := ka_mk hm a1 (Int.le_refl m) hp b1
  have o2 := ka_mk hm a1 (Int.le_refl m) hq b1
  have e : knN m a m p b = knN m a m q b := by unfold knN; simp
  refine ⟨o1, o2, ?_⟩
  unfold kaV
  rw [o1, o2, e]
theorem kc_none (hk : 1 ≤ k ∧ k ≤ 12) (hm : m = 255 ∨ m = 65535) (d0 : 0 ≤ d) (d1 : d ≤ b) (b1 : b ≤ m) (c0 : 0 ≤ c) (c1 : c ≤ m) : knOk k m 0 0 0 c d b = true ∧ kcV k m 0 0 0 c d b = c := by
  have ok : knOk k m 0 0 0 c d b = true := kn_iff.2 ⟨⟨hk, by omega, by omega, by omega, d1, b1, c1⟩, hm⟩
  obtain ⟨_, D0, _, _, v, _⟩ := kc_eq ok (by omega) c0 d0
  obtain ⟨z1, z2⟩ := bl_void (k := k) (s := 0) (a := 0) (d := d) (b := b) hk (by omega) (by omega) (by omega) d0 d1 (by omega) (by omega)
  refine ⟨ok, ?_⟩
  rw [v, hv_flat' z2 D0]
  refine round_to D0 ?_
  unfold knP knX knD
  rw [z1]
  grind
theorem ka_none (hm : m = 255 ∨ m = 65535) (b0 : 0 ≤ b) (b1 : b ≤ m) (c0 : 0 ≤ acc) (c1 : acc ≤ m) : kaOk m 0 0 acc b = true ∧ kaV m 0 0 acc b = acc := by
  have ok := ka_mk hm (Int.le_refl 0) (show 0 ≤ m by omega) c1 b1
  refine ⟨ok, ?_⟩
  rw [(ka_at ok (Int.le_refl 0) c0 b0).1]
  have : knN m 0 0 acc b = m * acc := by unfold knN; simp
  rw [this]
  exact hlf_exact c0 (by omega)
theorem kc_first (hk : 1 ≤ k ∧ k ≤ 12) (hm : m = 255 ∨ m = 65535) (s0 : 0 ≤ s) (s1 : s ≤ a) (a1 : a ≤ f) (f1 : f ≤ m) (d0 : 0 ≤ d) (d1 : d ≤ b) (b1 : b ≤ m) :
    knOk k m s a f d d b = true ∧ mxOk 4 k m s a d b = true ∧ kcV k m s a f d d b = mcV 4 k m s a d b := by
  have ok : knOk k m s a f d d b = true := kn_iff.2 ⟨⟨hk, s1, a1, f1, d1, b1, by omega⟩, hm⟩
  have mo : mxOk 4 k m s a d b = true := mx_iff.2 ⟨⟨hk.1, hk.2, s1, d1⟩, ⟨by omega, by omega, by omega, b1⟩, hm⟩
  obtain ⟨_, D0, S0, _, v, _⟩ := kc_eq ok s0 d0 d0
  obtain ⟨e1, e2, e3, e4⟩ := mx_at mo
  obtain ⟨_, f1', f2', _⟩ := op_at (k := 4) (a := a) (b := b) (m := m) (by omega) (show a ≤ m by omega) b1
  have fa : faV 4 a b m = m := by rw [f1']; rfl
  have fb : fbV 4 a b m = m - a := by rw [f2']; rfl
  refine ⟨ok, mo, ?_⟩
  rw [v, (mc_eq mo s0 d0).2.1, e1, e2, e3, e4, fa, fb]
  have x1 : mxN m (m - a) k m s a d b = m * knP k m s a f d d b := by unfold mxN knP knX; grind
  have x2 : m * m * blD k s a d b = m * knD k m s a d b := by unfold knD; grind
  rw [x1, x2]
  exact (hv_scale (by omega) S0 D0).symm
theorem ka_first (hm : m = 255 ∨ m = 65535) (a0 : 0 ≤ a) (a1 : a ≤ f) (f1 : f ≤ m) (b0 : 0 ≤ b) (b1 : b ≤ m) : kaOk m a f b b = true ∧ kaV m a f b b = alV 4 a b m ∧ kaOk m a f 0 0 = true ∧ kaV m a f 0 0 = a := by
  have ok := ka_mk hm a1 f1 b1 b1
  have ok2 := ka_mk (acc := 0) (b := 0) hm a1 f1 (by omega) (by omega)
  obtain ⟨_, f1', f2', _⟩ := op_at (k := 4) (a := a) (b := b) (m := m) (by omega) (show a ≤ m by omega) b1
  have fa : faV 4 a b m = m := by rw [f1']; rfl
  have fb : fbV 4 a b m = m - a := by rw [f2']; rfl
  refine ⟨ok, ?_, ok2, ?_⟩
  · rw [(ka_at ok a0 b0 b0).1]
    unfold alV
    rw [fa, fb]
    exact congrArg (fun t => hlf t m) (by unfold knN; grind)
  · rw [(ka_at ok2 a0 (by omega) (by omega)).1]
    have : knN m a f 0 0 = m * a := by unfold knN; simp
    rw [this]
    exact hlf_exact a0 (by omega)
end
end Go.Proofs.YtpjhdjakpbabhaaGreatDoor
