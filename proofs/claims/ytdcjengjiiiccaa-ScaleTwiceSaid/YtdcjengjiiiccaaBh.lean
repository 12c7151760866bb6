/-
  Layer 7 (operator): the factors, alphas and shapes on integers.
  Layer 7 (operator): the conditions of the calls.
  Layer 7 (operator): what each call answers.
  Layer 7 (operator): what each call answers: factors, alpha, shape.
-/
import Derived.Test.YtdcjengjiiiccaaBg
namespace Go.Proofs.Ytdcjengjiiiccaa
open Go.RowKit PR
set_option linter.unusedVariables false

-- SPEC opB opOk7 faV fbV alV shV neuB freB
def opB (k : Int) : Bool := decide (1 ≤ k ∧ k ≤ 12)
def opOk7 (k a b m : Int) : Bool := decide (1 ≤ k ∧ k ≤ 12 ∧ a ≤ m ∧ b ≤ m)
def faT (k a b m : Int) : Int := if k = 2 then m else if k = 4 then m else if k = 5 then m - b else if k = 6 then b else if k = 8 then m - b else if k = 10 then b else if k = 11 then m - b else if k = 12 then m - b else 0
def fbT (k a b m : Int) : Int := if k = 3 then m else if k = 4 then m - a else if k = 5 then m else if k = 7 then a else if k = 9 then m - a else if k = 10 then m - a else if k = 11 then a else if k = 12 then m - a else 0
def faV (k a b m : Int) : Int := bif opOk7 k a b m then faT k a b m else 0
def fbV (k a b m : Int) : Int := bif opOk7 k a b m then fbT k a b m else 0
def alV (k a b m : Int) : Int := hlf (faV k a b m * a + fbV k a b m * b) m
def shT (k f g m : Int) : Int := if k = 2 ∨ k = 8 ∨ k = 11 then f else if k = 3 ∨ k = 9 ∨ k = 10 then g else if k = 4 ∨ k = 5 ∨ k = 12 then hlf (m * f + (m - f) * g) m else if k = 6 ∨ k = 7 then hlf (f * g) m else 0
def shV (k f g m : Int) : Int := bif opOk7 k f g m then shT k f g m else 0
def neuB (k : Int) : Bool := decide (k = 3 ∨ k = 4 ∨ k = 5 ∨ k = 9 ∨ k = 10 ∨ k = 12)
def freB (k : Int) : Bool := decide (k = 2 ∨ k = 4 ∨ k = 5 ∨ k = 8 ∨ k = 11 ∨ k = 12)

/- rounding -/
theorem hlf_nonneg (n m : Int) : 0 ≤ hlf n m := by unfold hlf; omega
theorem hlf_mono {n n' m : Int} (h0 : 0 ≤ n) (h : n ≤ n') (hm : 0 < m) : hlf n m ≤ hlf n' m := by
  rw [hlf_div h0 hm, hlf_div (by omega) hm]
  exact Int.ediv_le_ediv (by omega) (by omega)
theorem hlf_exact {x m : Int} (h0 : 0 ≤ x) (hm : 0 < m) : hlf (m * x) m = x := by
  have := Int.mul_nonneg (show 0 ≤ m by omega) h0
  rw [hlf_div this hm, Int.ediv_eq_iff_of_pos (by omega)]
  have e1 : x * (2 * m) = 2 * (m * x) := by grind
  have e2 : (x + 1) * (2 * m) = 2 * (m * x) + 2 * m := by grind
  omega
theorem hlf_le {n x m : Int} (h0 : 0 ≤ n) (hx : 0 ≤ x) (h : n ≤ m * x) (hm : 0 < m) : hlf n m ≤ x := by
  have := hlf_mono h0 h hm
  rw [hlf_exact hx hm] at this
  exact this
theorem hlf_ge {n x m : Int} (hx : 0 ≤ x) (h : m * x ≤ n) (hm : 0 < m) : x ≤ hlf n m := by
  have := hlf_mono (Int.mul_nonneg (show 0 ≤ m by omega) hx) h hm
  rw [hlf_exact hx hm] at this
  exact this

section
variable {k a b m : Int}
theorem op_at (hk : 1 ≤ k ∧ k ≤ 12) (ha : a ≤ m) (hb : b ≤ m) : opOk7 k a b m = true ∧ faV k a b m = faT k a b m ∧ fbV k a b m = fbT k a b m ∧ shV k a b m = shT k a b m := by
  have ok : opOk7 k a b m = true := decide_eq_true ⟨hk.1, hk.2, ha, hb⟩
  unfold faV fbV shV; rw [ok]; exact ⟨rfl, rfl, rfl, rfl⟩
theorem fa_range (ha0 : 0 ≤ a) (ha : a ≤ m) (hb0 : 0 ≤ b) (hb : b ≤ m) : (0 ≤ faT k a b m ∧ faT k a b m ≤ m) ∧ 0 ≤ fbT k a b m ∧ fbT k a b m ≤ m := by
  unfold faT fbT
  refine ⟨⟨?_, ?_⟩, ?_, ?_⟩ <;> (repeat' split) <;> omega
theorem op_modes (h : 1 ≤ k ∧ k ≤ 12) : k = 1 ∨ k = 2 ∨ k = 3 ∨ k = 4 ∨ k = 5 ∨ k = 6 ∨ k = 7 ∨ k = 8 ∨ k = 9 ∨ k = 10 ∨ k = 11 ∨ k = 12 := by omega
/-- what is rounded for alpha, by the operator -/
theorem al_num (k a b m : Int) : faT k a b m * a + fbT k a b m * b = (if k = 2 then m * a else if k = 3 then m * b else if k = 4 then m * a + (m - a) * b else if k = 5 then m * a + (m - a) * b else if k = 6 then a * b else if k = 7 then a * b
    else if k = 8 then (m - b) * a else if k = 9 then (m - a) * b else if k = 10 then m * b else if k = 11 then m * a else if k = 12 then (m - b) * a + (m - a) * b else 0) := by
  unfold faT fbT
  repeat' split
  all_goals first | omega | grind
theorem un_bounds (ha0 : 0 ≤ a) (ha : a ≤ m) (hb0 : 0 ≤ b) (hb : b ≤ m) : 0 ≤ m * a + (m - a) * b ∧ m * a ≤ m * a + (m - a) * b ∧ m * b ≤ m * a + (m - a) * b ∧ m * a + (m - a) * b ≤ m * m ∧ m * a + (m - a) * b ≤ m * (a + b) ∧ 0 ≤ a * b ∧ a * b ≤ m * a ∧ a * b ≤ m * b := by
  have p1 := Int.mul_nonneg ha0 hb0
  have p2 := Int.mul_nonneg (show 0 ≤ m - a by omega) hb0
  have p3 := Int.mul_nonneg (show 0 ≤ m - b by omega) ha0
  have p4 := Int.mul_nonneg (show 0 ≤ m - a by omega) (show 0 ≤ m - b by omega)
  have p5 := Int.mul_nonneg (show 0 ≤ m by omega) ha0
  refine ⟨by omega, by omega, by grind, by grind, by grind, p1, by grind, by grind⟩
theorem al_bounds (hk : 1 ≤ k ∧ k ≤ 12) (ha0 : 0 ≤ a) (ha : a ≤ m) (hb0 : 0 ≤ b) (hb : b ≤ m) : 0 ≤ faT k a b m * a + fbT k a b m * b ∧ faT k a b m * a + fbT k a b m * b ≤ m * m := by
  obtain ⟨u1, u2, u3, u4, u5, u6, u7, u8⟩ := un_bounds ha0 ha hb0 hb
  have p2 := Int.mul_nonneg (show 0 ≤ m - a by omega) hb0
  have p3 := Int.mul_nonneg (show 0 ≤ m - b by omega) ha0
  have p5 := Int.mul_nonneg (show 0 ≤ m by omega) ha0
  have p6 := Int.mul_nonneg (show 0 ≤ m by omega) hb0
  have p7 := Int.mul_le_mul_of_nonneg_left ha (show 0 ≤ m by omega)
  have p8 := Int.mul_le_mul_of_nonneg_left hb (show 0 ≤ m by omega)
  have p9 := Int.mul_nonneg (show 0 ≤ m by omega) (show 0 ≤ m by omega)
  have e1 : (m - b) * a = m * a - a * b := by grind
  have e2 : (m - a) * b = m * b - a * b := by grind
  rw [al_num]
  generalize m * m = mm at *
  generalize m * a = ma at *
  generalize m * b = mb at *
  generalize a * b = ab at *
  generalize (m - b) * a = x at *
  generalize (m - a) * b = y at *
  clear u1 u5 u7 u8
  rcases op_modes hk with rfl | rfl | rfl | rfl | rfl | rfl | rfl | rfl | rfl | rfl | rfl | rfl <;> simp only [Int.reduceEq, if_true, if_false] <;> omega
theorem al_range (hk : 1 ≤ k ∧ k ≤ 12) (ha0 : 0 ≤ a) (ha : a ≤ m) (hb0 : 0 ≤ b) (hb : b ≤ m) (hm : 0 < m) : 0 ≤ alV k a b m ∧ alV k a b m ≤ m := by
  obtain ⟨_, e1, e2, _⟩ := op_at hk ha hb
  obtain ⟨p1, p2⟩ := al_bounds hk ha0 ha hb0 hb
  unfold alV
  rw [e1, e2]
  exact ⟨hlf_nonneg _ _, hlf_le p1 (by omega) p2 hm⟩
theorem sh_range (hk : 1 ≤ k ∧ k ≤ 12) (ha0 : 0 ≤ a) (ha : a ≤ m) (hb0 : 0 ≤ b) (hb : b ≤ m) (hm : 0 < m) : 0 ≤ shV k a b m ∧ shV k a b m ≤ m := by
  obtain ⟨_, _, _, e⟩ := op_at hk ha hb
  obtain ⟨u1, u2, u3, u4, u5, u6, u7, u8⟩ := un_bounds ha0 ha hb0 hb
  have g1 := hlf_le u1 (by omega) u4 hm
  have g2 := hlf_le u6 (by omega) (Int.le_trans u7 (show m * a ≤ m * m from Int.mul_le_mul_of_nonneg_left ha (by omega))) hm
  have g3 := hlf_nonneg (m * a + (m - a) * b) m
  have g4 := hlf_nonneg (a * b) m
  rw [e]
  unfold shT
  refine ⟨?_, ?_⟩ <;> (repeat' split) <;> omega
/-- alpha is at most shape -/
theorem al_le_sh {f g : Int} (hk : 1 ≤ k ∧ k ≤ 12) (ha0 : 0 ≤ a) (haf : a ≤ f) (hf : f ≤ m) (hb0 : 0 ≤ b) (hbg : b ≤ g) (hg : g ≤ m) (hm : 0 < m) : alV k a b m ≤ shV k f g m := by
  obtain ⟨_, e1, e2, _⟩ := op_at hk (a := a) (b := b) (m := m) (by omega) (by omega)
  obtain ⟨_, _, _, e4⟩ := op_at hk (a := f) (b := g) (m := m) hf hg
  obtain ⟨u1, u2, u3, u4, u5, u6, u7, u8⟩ := un_bounds ha0 (show a ≤ m by omega) hb0 (show b ≤ m by omega)
  have p2 := Int.mul_nonneg (show 0 ≤ m - a by omega) hb0
  have p3 := Int.mul_nonneg (show 0 ≤ m - b by omega) ha0
  have q1 := Int.mul_nonneg (show 0 ≤ f - a by omega) (show 0 ≤ m - b by omega)
  have q2 := Int.mul_nonneg (show 0 ≤ g - b by omega) (show 0 ≤ m - f by omega)
  have un : m * a + (m - a) * b ≤ m * f + (m - f) * g := by grind
  have pr : a * b ≤ f * g := Int.mul_le_mul haf hbg hb0 (by omega)
  have xo : (m - b) * a + (m - a) * b ≤ m * a + (m - a) * b := by grind
  have so : (m - b) * a ≤ m * a := by grind
  have do' : (m - a) * b ≤ m * b := by grind
  unfold alV
  rw [e1, e2, e4, al_num]
  unfold shT
  rcases op_modes hk with rfl | rfl | rfl | rfl | rfl | rfl | rfl | rfl | rfl | rfl | rfl | rfl <;> simp only [Int.reduceEq, if_true, if_false, or_true, or_false]
  · rw [show hlf 0 m = 0 by have := hlf_exact (x := 0) (Int.le_refl 0) hm; rwa [Int.mul_zero] at this]; omega
  · rw [hlf_exact ha0 hm]; exact haf
  · rw [hlf_exact hb0 hm]; exact hbg
  · exact hlf_mono u1 un hm
  · exact hlf_mono u1 un hm
  · exact hlf_mono u6 pr hm
  · exact hlf_mono u6 pr hm
  · exact Int.le_trans (hlf_le p3 ha0 so hm) haf
  · exact Int.le_trans (hlf_le p2 hb0 do' hm) hbg
  · rw [hlf_exact hb0 hm]; exact hbg
  · rw [hlf_exact ha0 hm]; exact haf
  · exact hlf_mono (by omega) (Int.le_trans xo un) hm
/-- neutral operators under a transparent source -/
theorem op_neutral (hn : neuB k = true) (hb0 : 0 ≤ b) (hb : b ≤ m) (hm : 0 < m) : alV k 0 b m = b ∧ shV k 0 b m = b := by
  have hn := of_decide_eq_true hn
  obtain ⟨_, e1, e2, e4⟩ := op_at (k := k) (a := 0) (b := b) (m := m) (by omega) (by omega) hb
  unfold alV
  rw [e1, e2, e4, al_num]
  unfold shT
  have x := hlf_exact hb0 hm
  rcases hn with rfl | rfl | rfl | rfl | rfl | rfl <;> simp [x]
/-- fresh operators over a transparent backdrop -/
theorem op_fresh (hn : freB k = true) (ha0 : 0 ≤ a) (ha : a ≤ m) (hm : 0 < m) : alV k a 0 m = a ∧ shV k a 0 m = a := by
  have hn := of_decide_eq_true hn
  obtain ⟨_, e1, e2, e4⟩ := op_at (k := k) (a := a) (b := 0) (m := m) (by omega) ha (by omega)
  unfold alV
  rw [e1, e2, e4, al_num]
  unfold shT
  have x := hlf_exact ha0 hm
  rcases hn with rfl | rfl | rfl | rfl | rfl | rfl <;> simp [x]
/-- source and backdrop exchanged -/
theorem op_dual {k' : Int} (hp : (k = 1 ∧ k' = 1) ∨ (k = 2 ∧ k' = 3) ∨ (k = 4 ∧ k' = 5) ∨ (k = 6 ∧ k' = 7) ∨ (k = 8 ∧ k' = 9) ∨ (k = 10 ∧ k' = 11) ∨ (k = 12 ∧ k' = 12)) (ha : a ≤ m) (hb : b ≤ m) :
    opOk7 k a b m = true ∧ opOk7 k' b a m = true ∧ faV k a b m = fbV k' b a m ∧ fbV k a b m = faV k' b a m ∧ alV k a b m = alV k' b a m ∧ shV k a b m = shV k' b a m := by
  obtain ⟨o1, e1, e2, e3⟩ := op_at (k := k) (a := a) (b := b) (m := m) (by omega) ha hb
  obtain ⟨o2, d1, d2, d3⟩ := op_at (k := k') (a := b) (b := a) (m := m) (by omega) hb ha
  have x1 : faT k a b m = fbT k' b a m ∧ fbT k a b m = faT k' b a m := by
    unfold faT fbT
    rcases hp with ⟨rfl, rfl⟩ | ⟨rfl, rfl⟩ | ⟨rfl, rfl⟩ | ⟨rfl, rfl⟩ | ⟨rfl, rfl⟩ | ⟨rfl, rfl⟩ | ⟨rfl, rfl⟩ <;> exact ⟨rfl, rfl⟩
  have x2 : shT k a b m = shT k' b a m := by
    have u : m * a + (m - a) * b = m * b + (m - b) * a := by grind
    have v : a * b = b * a := Int.mul_comm a b
    unfold shT
    rcases hp with ⟨rfl, rfl⟩ | ⟨rfl, rfl⟩ | ⟨rfl, rfl⟩ | ⟨rfl, rfl⟩ | ⟨rfl, rfl⟩ | ⟨rfl, rfl⟩ | ⟨rfl, rfl⟩ <;> simp [u, v]
  refine ⟨o1, o2, by rw [e1, d2, x1.1], by rw [e2, d1, x1.2], ?_, by rw [e3, d3, x2]⟩
  unfold alV
  rw [e1, e2, d1, d2, x1.1, x1.2, Int.add_comm]
/-- the union of shapes -/
theorem op_union (ha0 : 0 ≤ a) (ha : a ≤ m) (hb0 : 0 ≤ b) (hb : b ≤ m) (hm : 0 < m) : shV 4 a b m = shV 12 b a m ∧ a ≤ shV 4 a b m ∧ b ≤ shV 4 a b m ∧ shV 4 a b m ≤ a + b ∧ shV 7 a b m = hlf (a * b) m := by
  obtain ⟨_, _, _, e1⟩ := op_at (k := 4) (a := a) (b := b) (m := m) (by decide) ha hb
  obtain ⟨_, _, _, e2⟩ := op_at (k := 12) (a := b) (b := a) (m := m) (by decide) hb ha
  obtain ⟨_, _, _, e3⟩ := op_at (k := 7) (a := a) (b := b) (m := m) (by decide) ha hb
  obtain ⟨u1, u2, u3, u4, u5, u6, u7, u8⟩ := un_bounds ha0 ha hb0 hb
  have u : m * b + (m - b) * a = m * a + (m - a) * b := by grind
  rw [e1, e2, e3]
  show hlf (m * a + (m - a) * b) m = hlf (m * b + (m - b) * a) m ∧ a ≤ hlf (m * a + (m - a) * b) m ∧ b ≤ hlf (m * a + (m - a) * b) m ∧ hlf (m * a + (m - a) * b) m ≤ a + b ∧ hlf (a * b) m = hlf (a * b) m
  rw [u]
  exact ⟨rfl, hlf_ge ha0 u2 hm, hlf_ge hb0 u3 hm, hlf_le u1 (by omega) u5 hm, rfl⟩
/-- opaque pixels: the table of Porter and Duff: 1 where the result shows something, by source alone, backdrop alone, both -/
theorem op_opaque {x y : Int} (hk : 1 ≤ k ∧ k ≤ 12) (hx : x = 0 ∨ x = m) (hy : y = 0 ∨ y = m) (hm : 0 < m) : alV k x y m = 0 ∨ alV k x y m = m := by
  obtain ⟨_, e1, e2, _⟩ := op_at hk (a := x) (b := y) (m := m) (by omega) (by omega)
  have z : hlf 0 m = 0 := by have := hlf_exact (x := 0) (Int.le_refl 0) hm; rwa [Int.mul_zero] at this
  have o : hlf (m * m) m = m := hlf_exact (show 0 ≤ m by omega) hm
  unfold alV
  rw [e1, e2, al_num]
  rcases op_modes hk with rfl | rfl | rfl | rfl | rfl | rfl | rfl | rfl | rfl | rfl | rfl | rfl <;> rcases hx with rfl | rfl <;> rcases hy with rfl | rfl <;> simp [z, o]
end
end Go.Proofs.Ytdcjengjiiiccaa
namespace Go.Proofs.Ytdcjengjiiiccaa
open Go.RowKit PR QR
set_option linter.unusedVariables false

-- SPEC oname oparse oparsed wtV wdV7
def oname (m : Int) : ByteArray := if m = 1 then bs [99, 108, 101, 97, 114] else if m = 2 then bs [115, 114, 99] else if m = 3 then bs [100, 115, 116] else if m = 4 then bs [115, 114, 99, 45, 111, 118, 101, 114] else if m = 5 then bs [100, 115, 116, 45, 111, 118, 101, 114] else if m = 6 then bs [115, 114, 99, 45, 105, 110] else if m = 7 then bs [100, 115, 116, 45, 105, 110] else if m = 8 then bs [115, 114, 99, 45, 111, 117, 116] else if m = 9 then bs [100, 115, 116, 45, 111, 117, 116] else if m = 10 then bs [115, 114, 99, 45, 97, 116, 111, 112] else if m = 11 then bs [100, 115, 116, 45, 97, 116, 111, 112] else if m = 12 then bs [120, 111, 114] else bs []
def oparse (s : ByteArray) : Int := bif seqB (oname 1) s then 1 else bif seqB (oname 2) s then 2 else bif seqB (oname 3) s then 3 else bif seqB (oname 4) s then 4 else bif seqB (oname 5) s then 5 else bif seqB (oname 6) s then 6 else bif seqB (oname 7) s then 7 else bif seqB (oname 8) s then 8 else bif seqB (oname 9) s then 9 else bif seqB (oname 10) s then 10 else bif seqB (oname 11) s then 11 else bif seqB (oname 12) s then 12 else 0
def oparsed (s : ByteArray) : Bool := bif seqB (oname 1) s then true else bif seqB (oname 2) s then true else bif seqB (oname 3) s then true else bif seqB (oname 4) s then true else bif seqB (oname 5) s then true else bif seqB (oname 6) s then true else bif seqB (oname 7) s then true else bif seqB (oname 8) s then true else bif seqB (oname 9) s then true else bif seqB (oname 10) s then true else bif seqB (oname 11) s then true else bif seqB (oname 12) s then true else false
def wtV (f a m : Int) : Int := if f = 1 then m else if f = 2 then a else if f = 3 then m - a else 0
def wdV7 (v x w y m : Int) : Int := iconv .u16 (hlf (v * x + w * y) m)

def s_yes7 : List AV → Option QR.Ans
  | [] => some ⟨[.c (.v (.bool true))], [], []⟩
  | _ => none
def s_oname : List AV → Option QR.Ans
  | [.x (.c (.v (.int .i64 m)))] => some ⟨[.c (.v (.string (oname m)))], [], []⟩
  | _ => none
def s_oparse : List AV → Option QR.Ans
  | [.x (.c (.v (.string s)))] => some ⟨[.c (.v (.int .i64 (oparse s))), .c (.v (.bool (oparsed s)))], [], []⟩
  | _ => none
def s_known7 : List AV → Option QR.Ans
  | [.x (.c (.v (.int .i64 m)))] => some ⟨[.c (.v (.bool (band (ige m 1) (ile m 12))))], [], []⟩
  | _ => none
def s_perm7 : List AV → Option QR.Ans
  | [.x (.c (.v (.int .i64 k))), .x (.c (.v (.int .u16 a))), .x (.c (.v (.int .u16 b))), .x (.c (.v (.int .u16 m)))] => some ⟨[.c (.v (.bool (opOk7 k a b m)))], [], []⟩
  | _ => none
def s_weight7 : List AV → Option QR.Ans
  | [.x (.c (.v (.int .i64 f))), .x (.c (.v (.int .u16 a))), .x (.c (.v (.int .u16 m)))] => some ⟨[.c (.v (.int .u16 (wtV f a m)))], [], [in16 a = true, in16 m = true, ile a m = true]⟩
  | _ => none
def s_weighted7 : List AV → Option QR.Ans
  | [.x (.c (.v (.int .u16 v))), .x (.c (.v (.int .u16 x))), .x (.c (.v (.int .u16 w))), .x (.c (.v (.int .u16 y))), .x (.c (.v (.int .u16 m)))] => some ⟨[.c (.v (.int .u16 (wdV7 v x w y m)))], [], [in16 v = true, in16 x = true, in16 w = true, in16 y = true, in16 m = true]⟩
  | _ => none
def s_factors : List AV → Option QR.Ans
  | [.x (.c (.v (.int .i64 k))), .x (.c (.v (.int .u16 a))), .x (.c (.v (.int .u16 b))), .x (.c (.v (.int .u16 m)))] => some ⟨[.c (.v (.int .u16 (faV k a b m))), .c (.v (.int .u16 (fbV k a b m))), .c (.v (.bool (opOk7 k a b m)))], [], [in16 a = true, in16 b = true, in16 m = true]⟩
  | _ => none
def s_oalpha : List AV → Option QR.Ans
  | [.x (.c (.v (.int .i64 k))), .x (.c (.v (.int .u16 a))), .x (.c (.v (.int .u16 b))), .x (.c (.v (.int .u16 m)))] => some ⟨[.c (.v (.int .u16 (alV k a b m)))], [], [in16 a = true, in16 b = true, in16 m = true]⟩
  | _ => none
def s_oshape : List AV → Option QR.Ans
  | [.x (.c (.v (.int .i64 k))), .x (.c (.v (.int .u16 a))), .x (.c (.v (.int .u16 b))), .x (.c (.v (.int .u16 m)))] => some ⟨[.c (.v (.int .u16 (shV k a b m)))], [], [in16 a = true, in16 b = true, in16 m = true]⟩
  | _ => none
def s_neu : List AV → Option QR.Ans
  | [.x (.c (.v (.int .i64 m)))] => some ⟨[.c (.v (.bool (neuB m)))], [], []⟩
  | _ => none
def s_fre : List AV → Option QR.Ans
  | [.x (.c (.v (.int .i64 m)))] => some ⟨[.c (.v (.bool (freB m)))], [], []⟩
  | _ => none

def o_wd7 : QR.Oracle := QR.orc [(18, QR.lift1 s_half)]
end Go.Proofs.Ytdcjengjiiiccaa
namespace Go.Proofs.Ytdcjengjiiiccaa
open Go.RowKit PR QR
set_option linter.unusedVariables false
set_option linter.unusedSimpArgs false

theorem knownB7 {m : Int} : band (ige m 1) (ile m 12) = opB m := by
  unfold band ige ile opB; simp
theorem hlf0 {m : Int} (h : 0 ≤ m) : hlf 0 m = 0 := by
  by_cases c : m = 0
  · subst c; exact hlf_zero 0
  · have := hlf_exact (x := 0) (Int.le_refl 0) (show 0 < m by omega); rwa [Int.mul_zero] at this
theorem opOk_iff {k a b m : Int} : opOk7 k a b m = true ↔ (1 ≤ k ∧ k ≤ 12) ∧ a ≤ m ∧ b ≤ m := by unfold opOk7; rw [decide_eq_true_eq]; omega
theorem op_no {k a b m : Int} (h : opOk7 k a b m = false) : faV k a b m = 0 ∧ fbV k a b m = 0 ∧ shV k a b m = 0 := by
  unfold faV fbV shV; rw [h]; exact ⟨rfl, rfl, rfl⟩
theorem fa_in {k a b m : Int} (ha : in16 a = true) (hb : in16 b = true) (hm : in16 m = true) : in16 (faV k a b m) = true ∧ in16 (fbV k a b m) = true := by
  rw [in16_iff] at *
  cases ok : opOk7 k a b m
  · obtain ⟨z1, z2, _⟩ := op_no ok
    rw [z1, z2]; decide
  · have o := opOk_iff.1 ok
    obtain ⟨_, e1, e2, _⟩ := op_at o.1 o.2.1 o.2.2
    have r := fa_range (k := k) (a := a) (b := b) (m := m) ha.1 o.2.1 hb.1 o.2.2
    rw [in16_iff, e1, e2]
    omega
/-- every operator, every argument -/
theorem al_all (k : Int) {a b m : Int} (ha : in16 a = true) (hb : in16 b = true) (hm : in16 m = true) : 0 ≤ alV k a b m ∧ alV k a b m ≤ m := by
  rw [in16_iff] at ha hb hm
  cases ok : opOk7 k a b m
  · obtain ⟨z1, z2, _⟩ := op_no ok
    unfold alV
    rw [z1, z2, Int.zero_mul, Int.zero_mul, Int.add_zero, hlf0 hm.1]; omega
  · have o := opOk_iff.1 ok
    by_cases c : m = 0
    · unfold alV; subst c; rw [hlf_zero]; omega
    · exact al_range o.1 ha.1 o.2.1 hb.1 o.2.2 (by omega)
theorem sh_all (k : Int) {a b m : Int} (ha : in16 a = true) (hb : in16 b = true) (hm : in16 m = true) : 0 ≤ shV k a b m ∧ shV k a b m ≤ m := by
  rw [in16_iff] at ha hb hm
  cases ok : opOk7 k a b m
  · obtain ⟨_, _, z⟩ := op_no ok
    rw [z]; omega
  · have o := opOk_iff.1 ok
    by_cases c : m = 0
    · obtain ⟨_, _, _, e⟩ := op_at o.1 o.2.1 o.2.2
      rw [e]; unfold shT; subst c; simp only [hlf_zero]
      refine ⟨?_, ?_⟩ <;> (repeat' split) <;> omega
    · exact sh_range o.1 ha.1 o.2.1 hb.1 o.2.2 (by omega)
theorem prod16 {a b : Int} (ha : in16 a = true) (hb : in16 b = true) : 0 ≤ a * b ∧ a * b ≤ 4294836225 := by
  rw [in16_iff] at *
  exact ⟨Int.mul_nonneg ha.1 hb.1, Int.mul_le_mul (show a ≤ 65535 by omega) (show b ≤ 65535 by omega) hb.1 (by decide)⟩
theorem sum16 {v x w y : Int} (hv : in16 v = true) (hx : in16 x = true) (hw : in16 w = true) (hy : in16 y = true) :
    iadd .u64 (imul .u64 (iconv .u64 v) (iconv .u64 x)) (imul .u64 (iconv .u64 w) (iconv .u64 y)) = v * x + w * y ∧ inU (v * x + w * y) = true := by
  have p := prod16 hv hx
  have q := prod16 hw hy
  have e : ∀ z, in16 z = true → iconv .u64 z = z := fun z h => by rw [in16_iff] at h; exact u64_id h.1 (by omega)
  rw [e v hv, e x hx, e w hw, e y hy, inU_iff, iaddU, imulU, imulU]
  omega
theorem conv64 {z : Int} (h : in16 z = true) : iconv .u64 z = z ∧ inU z = true := by
  rw [in16_iff] at h; exact ⟨u64_id h.1 (by omega), inU_iff.2 (by omega)⟩
theorem alV_conv (k : Int) {a b m : Int} (ha : in16 a = true) (hb : in16 b = true) (hm : in16 m = true) : iconv .u16 (alV k a b m) = alV k a b m := by
  have := al_all k ha hb hm
  rw [in16_iff] at hm
  exact u16_id this.1 (by omega)

theorem oname_none {m : Int} (h : ¬ (1 ≤ m ∧ m ≤ 12)) : oname m = bs [] := by unfold oname; rw [if_neg (by omega), if_neg (by omega), if_neg (by omega), if_neg (by omega), if_neg (by omega), if_neg (by omega), if_neg (by omega), if_neg (by omega), if_neg (by omega), if_neg (by omega), if_neg (by omega), if_neg (by omega)]
theorem oname_known {m : Int} : bnot (seqB (oname m) (bs [])) = opB m := by
  by_cases h : 1 ≤ m ∧ m ≤ 12
  · rcases op_modes h with rfl | rfl | rfl | rfl | rfl | rfl | rfl | rfl | rfl | rfl | rfl | rfl <;> rfl
  · rw [oname_none h]
    unfold opB
    rw [decide_eq_false h]; rfl
end Go.Proofs.Ytdcjengjiiiccaa
namespace Go.Proofs.Ytdcjengjiiiccaa
open Go.RowKit PR QR
set_option linter.unusedVariables false
set_option linter.unusedSimpArgs false

theorem seqB_rfl (s : ByteArray) : seqB s s = true := by simp [seqB]
theorem gx16 (n : Int) : in16 (gxMax n) = true := by rcases gxMax_cases n with h | h <;> rw [h] <;> rfl
theorem gs16 (a n : Int) : in16 (gsV a (gxMax n)) = true := gsV_in16 a (gx16 n)
theorem gss16 (a b n : Int) : in16 (gsV a (gsV b (gxMax n))) = true := gsV_in16 a (gs16 b n)
theorem u16_subs {m d : Int} (hd : in16 d = true) (hm : in16 m = true) (h : d ≤ m) : isub .u16 m d = m - d ∧ in16 (m - d) = true := by
  rw [in16_iff] at *
  refine ⟨?_, ?_⟩
  · unfold isub; rw [IntKind.wrap_u16]; omega
  · omega
end Go.Proofs.Ytdcjengjiiiccaa
