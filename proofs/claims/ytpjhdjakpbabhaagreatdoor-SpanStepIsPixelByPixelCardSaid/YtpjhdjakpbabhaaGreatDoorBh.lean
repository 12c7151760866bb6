import Derived.Test.YtpjhdjakpbabhaaGreatDoorZaa
import Derived.Test.YtpjhdjakpbabhaaGreatDoorBg
namespace Go.Proofs.YtpjhdjakpbabhaaGreatDoor
open Go.RowKit PR
set_option linter.unusedVariables false
def opOk7 (k a b m : Int) : Bool := decide (1 ≤ k ∧ k ≤ 12 ∧ a ≤ m ∧ b ≤ m)
def faT (k a b m : Int) : Int := if k = 2 then m else if k = 4 then m else if k = 5 then m - b else if k = 6 then b else if k = 8 then m - b else if k = 10 then b else if k = 11 then m - b else if k = 12 then m - b else 0
def fbT (k a b m : Int) : Int := if k = 3 then m else if k = 4 then m - a else if k = 5 then m else if k = 7 then a else if k = 9 then m - a else if k = 10 then m - a else if k = 11 then a else if k = 12 then m - a else 0
def faV (k a b m : Int) : Int := bif opOk7 k a b m then faT k a b m else 0
def fbV (k a b m : Int) : Int := bif opOk7 k a b m then fbT k a b m else 0
def alV (k a b m : Int) : Int := hlf (faV k a b m * a + fbV k a b m * b) m
def shT (k f g m : Int) : Int := if k = 2 ∨ k = 8 ∨ k = 11 then f else if k = 3 ∨ k = 9 ∨ k = 10 then g else if k = 4 ∨ k = 5 ∨ k = 12 then hlf (m * f + (m - f) * g) m else if k = 6 ∨ k = 7 then hlf (f * g) m else 0
def shV (k f g m : Int) : Int := bif opOk7 k f g m then shT k f g m else 0
def neuB (k : Int) : Bool := decide (k = 3 ∨ k = 4 ∨ k = 5 ∨ k = 9 ∨ k = 10 ∨ k = 12)
theorem hlf_nonneg (n m : Int) : 0 ≤ hlf n m := by unfold hlf; omega
theorem hlf_mono {n n' m : Int} (h0 : 0 ≤ n) (h : n ≤ n') (hm : 0 < m) : hlf n m ≤ hlf n' m := by
  rw [hlf_div h0 hm, hlf_div (by omega) hm]
  exact Int.ediv_le_ediv (by omega) (by omega)
theorem hlf_exact {x m : Int} (h0 : 0 ≤ x) (hm : 0 < m) : hlf (m * x) m = x := by
  have := Int.mul_nonneg (show 0 ≤ m by omega) h0
  rw [hlf_div this hm, Int.ediv_eq_iff_of_pos (by omega)]
  have e1 : x * (2 * m) = 2 * (m * x) := by grind
  have e2 : (x + 1) * (2 * m) = 2 * (m * x) + 2 * m := by grind
  omega
theorem hlf_le {n x m : Int} (h0 : 0 ≤ n) (hx : 0 ≤ x) (h : n ≤ m * x) (hm : 0 < m) : hlf n m ≤ x := by
  have := hlf_mono h0 h hm
  rw [hlf_exact hx hm] at this
  exact this
section
variable {k a b m : Int}
theorem op_at (hk : 1 ≤ k ∧ k ≤ 12) (ha : a ≤ m) (hb : b ≤ m) : opOk7 k a b m = true ∧ faV k a b m = faT k a b m ∧ fbV k a b m = fbT k a b m ∧ shV k a b m = shT k a b m := by
  have ok : opOk7 k a b m = true := decide_eq_true ⟨hk.1, hk.2, ha, hb⟩
  unfold faV fbV shV; rw [ok]; exact ⟨rfl, rfl, rfl, rfl⟩
theorem fa_range (ha0 : 0 ≤ a) (ha : a ≤ m) (hb0 : 0 ≤ b) (hb : b ≤ m) : (0 ≤ faT k a b m ∧ faT k a b m ≤ m) ∧ 0 ≤ fbT k a b m ∧ fbT k a b m ≤ m := by
  unfold faT fbT
  refine ⟨⟨?_, ?_⟩, ?_, ?_⟩ <;> (repeat' split) <;> omega
theorem op_modes (h : 1 ≤ k ∧ k ≤ 12) : k = 1 ∨ k = 2 ∨ k = 3 ∨ k = 4 ∨ k = 5 ∨ k = 6 ∨ k = 7 ∨ k = 8 ∨ k = 9 ∨ k = 10 ∨ k = 11 ∨ k = 12 := by omega
theorem al_num (k a b m : Int) : faT k a b m * a + fbT k a b m * b = (if k = 2 then m * a else if k = 3 then m * b else if k = 4 then m * a + (m - a) * b else if k = 5 then m * a + (m - a) * b else if k = 6 then a * b else if k = 7 then a * b
    else if k = 8 then (m - b) * a else if k = 9 then (m - a) * b else if k = 10 then m * b else if k = 11 then m * a else if k = 12 then (m - b) * a + (m - a) * b else 0) := by
  unfold faT fbT
  repeat' split
  all_goals first | omega | grind
theorem un_bounds (ha0 : 0 ≤ a) (ha : a ≤ m) (hb0 : 0 ≤ b) (hb : b ≤ m) : 0 ≤ m * a + (m - a) * b ∧ m * a ≤ m * a + (m - a) * b ∧ m * b ≤ m * a + (m - a) * b ∧ m * a + (m - a) * b ≤ m * m ∧ m * a + (m - a) * b ≤ m * (a + b) ∧ 0 ≤ a * b ∧ a * b ≤ m * a ∧ a * b ≤ m * b := by
  have p1 := Int.mul_nonneg ha0 hb0
  have p2 := Int.mul_nonneg (show 0 ≤ m - a by omega) hb0
  have p3 := Int.mul_nonneg (show 0 ≤ m - b by omega) ha0
  have p4 := Int.mul_nonneg (show 0 ≤ m - a by omega) (show 0 ≤ m - b by omega)
  have p5 := Int.mul_nonneg (show 0 ≤ m by omega) ha0
  refine ⟨by omega, by omega, by grind, by grind, by grind, p1, by grind, by grind⟩
theorem al_bounds (hk : 1 ≤ k ∧ k ≤ 12) (ha0 : 0 ≤ a) (ha : a ≤ m) (hb0 : 0 ≤ b) (hb : b ≤ m) : 0 ≤ faT k a b m * a + fbT k a b m * b ∧ faT k a b m * a + fbT k a b m * b ≤ m * m := by
  obtain ⟨u1, u2, u3, u4, u5, u6, u7, u8⟩ := un_bounds ha0 ha hb0 hb
  have p2 := Int.mul_nonneg (show 0 ≤ m - a by omega) hb0
  have p3 := Int.mul_nonneg (show 0 ≤ m - b by omega) ha0
  have p5 := Int.mul_nonneg (show 0 ≤ m by omega) ha0
  have p6 := Int.mul_nonneg (show 0 ≤ m by omega) hb0
  have p7 := Int.mul_le_mul_of_nonneg_left ha (show 0 ≤ m by omega)
  have p8 := Int.mul_le_mul_of_nonneg_left hb (show 0 ≤ m by omega)
  have p9 := Int.mul_nonneg (show 0 ≤ m by omega) (show 0 ≤ m by omega)
  have e1 : (m - b) * a = m * a - a * b := by grind
  have e2 : (m - a) * b = m * b - a * b := by grind
  rw [al_num]
  generalize m * m = mm at *
  generalize m * a = ma at *
  generalize m * b = mb at *
  generalize a * b = ab at *
  generalize (m - b) * a = x at *
  generalize (m - a) * b = y at *
  clear u1 u5 u7 u8
  rcases op_modes hk with rfl | rfl | rfl | rfl | rfl | rfl | rfl | rfl | rfl | rfl | rfl | rfl <;> simp only [Int.reduceEq, if_true, if_false] <;> omega
theorem al_range (hk : 1 ≤ k ∧ k ≤ 12) (ha0 : 0 ≤ a) (ha : a ≤ m) (hb0 : 0 ≤ b) (hb : b ≤ m) (hm : 0 < m) : 0 ≤ alV k a b m ∧ alV k a b m ≤ m := by
  obtain ⟨_, e1, e2, _⟩ := op_at hk ha hb
  obtain ⟨p1, p2⟩ := al_bounds hk ha0 ha hb0 hb
  unfold alV
  rw [e1, e2]
  exact ⟨hlf_nonneg _ _, hlf_le p1 (by omega) p2 hm⟩
theorem sh_range (hk : 1 ≤ k ∧ k ≤ 12) (ha0 : 0 ≤ a) (ha : a ≤ m) (hb0 : 0 ≤ b) (hb : b ≤ m) (hm : 0 < m) : 0 ≤ shV k a b m ∧ shV k a b m ≤ m := by
  obtain ⟨_, _, _, e⟩ := op_at hk ha hb
  obtain ⟨u1, u2, u3, u4, u5, u6, u7, u8⟩ := un_bounds ha0 ha hb0 hb
  have g1 := hlf_le u1 (by omega) u4 hm
  have g2 := hlf_le u6 (by omega) (Int.le_trans u7 (show m * a ≤ m * m from Int.mul_le_mul_of_nonneg_left ha (by omega))) hm
  have g3 := hlf_nonneg (m * a + (m - a) * b) m
  have g4 := hlf_nonneg (a * b) m
  rw [e]
  unfold shT
  refine ⟨?_, ?_⟩ <;> (repeat' split) <;> omega
theorem op_neutral (hn : neuB k = true) (hb0 : 0 ≤ b) (hb : b ≤ m) (hm : 0 < m) : alV k 0 b m = b ∧ shV k 0 b m = b := by
  have hn := of_decide_eq_true hn
  obtain ⟨_, e1, e2, e4⟩ := op_at (k := k) (a := 0) (b := b) (m := m) (by omega) (by omega) hb
  unfold alV
  rw [e1, e2, e4, al_num]
  unfold shT
  have x := hlf_exact hb0 hm
  rcases hn with rfl | rfl | rfl | rfl | rfl | rfl <;> simp [x]
end
end Go.Proofs.YtpjhdjakpbabhaaGreatDoor
namespace Go.Proofs.YtpjhdjakpbabhaaGreatDoor
open Go.RowKit PR QR
set_option linter.unusedVariables false
def wtV (f a m : Int) : Int := if f = 1 then m else if f = 2 then a else if f = 3 then m - a else 0
def wdV7 (v x w y m : Int) : Int := iconv .u16 (hlf (v * x + w * y) m)
def s_known7 : List AV → Option QR.Ans
  | [.x (.c (.v (.int .i64 m)))] => some ⟨[.c (.v (.bool (band (ige m 1) (ile m 12))))], [], []⟩
  | _ => none
def s_perm7 : List AV → Option QR.Ans
  | [.x (.c (.v (.int .i64 k))), .x (.c (.v (.int .u16 a))), .x (.c (.v (.int .u16 b))), .x (.c (.v (.int .u16 m)))] => some ⟨[.c (.v (.bool (opOk7 k a b m)))], [], []⟩
  | _ => none
def s_weight7 : List AV → Option QR.Ans
  | [.x (.c (.v (.int .i64 f))), .x (.c (.v (.int .u16 a))), .x (.c (.v (.int .u16 m)))] => some ⟨[.c (.v (.int .u16 (wtV f a m)))], [], [in16 a = true, in16 m = true, ile a m = true]⟩
  | _ => none
def s_weighted7 : List AV → Option QR.Ans
  | [.x (.c (.v (.int .u16 v))), .x (.c (.v (.int .u16 x))), .x (.c (.v (.int .u16 w))), .x (.c (.v (.int .u16 y))), .x (.c (.v (.int .u16 m)))] => some ⟨[.c (.v (.int .u16 (wdV7 v x w y m)))], [], [in16 v = true, in16 x = true, in16 w = true, in16 y = true, in16 m = true]⟩
  | _ => none
def s_factors : List AV → Option QR.Ans
  | [.x (.c (.v (.int .i64 k))), .x (.c (.v (.int .u16 a))), .x (.c (.v (.int .u16 b))), .x (.c (.v (.int .u16 m)))] => some ⟨[.c (.v (.int .u16 (faV k a b m))), .c (.v (.int .u16 (fbV k a b m))), .c (.v (.bool (opOk7 k a b m)))], [], [in16 a = true, in16 b = true, in16 m = true]⟩
  | _ => none
def s_oalpha : List AV → Option QR.Ans
  | [.x (.c (.v (.int .i64 k))), .x (.c (.v (.int .u16 a))), .x (.c (.v (.int .u16 b))), .x (.c (.v (.int .u16 m)))] => some ⟨[.c (.v (.int .u16 (alV k a b m)))], [], [in16 a = true, in16 b = true, in16 m = true]⟩
  | _ => none
def s_oshape : List AV → Option QR.Ans
  | [.x (.c (.v (.int .i64 k))), .x (.c (.v (.int .u16 a))), .x (.c (.v (.int .u16 b))), .x (.c (.v (.int .u16 m)))] => some ⟨[.c (.v (.int .u16 (shV k a b m)))], [], [in16 a = true, in16 b = true, in16 m = true]⟩
  | _ => none
def o_kn7 : QR.Oracle := QR.orc [(104, s_known7)]
def o_fa7 : QR.Oracle := QR.orc [(81, s_perm7), (103, s_weight7)]
def o_al7 : QR.Oracle := QR.orc [(79, s_factors), (80, s_weighted7)]
def o_sh7 : QR.Oracle := QR.orc [(81, s_perm7), (80, s_weighted7)]
def o_wd7 : QR.Oracle := QR.orc [(93, QR.lift1 s_half)]
set_option maxRecDepth 100000 in
theorem known7_vc (m : Int) (V : List QR.XV → List (List QR.CV) → Prop) : QR.evalBody Tryz.prog (QR.orc []) (QR.noLoops) (Tryz.f104.body.getD .skip) Tryz.f104.results.toList Tryz.f104.ntmps [.x (.c (.v (.int .i64 m)))] V = (True ∧ bcond (ige m 1) (True ∧ True ∧ V [XV.c (CV.v (Value.bool (ile m 12)))] []) (True ∧ True ∧ V [XV.c (CV.v (Value.bool false))] [])) := by
  kernel_rfl
set_option maxRecDepth 100000 in
theorem perm7_vc (k a b m : Int) (V : List QR.XV → List (List QR.CV) → Prop) : QR.evalBody Tryz.prog (o_kn7) (QR.noLoops) (Tryz.f81.body.getD .skip) Tryz.f81.results.toList Tryz.f81.ntmps [.x (.c (.v (.int .i64 k))), .x (.c (.v (.int .u16 a))), .x (.c (.v (.int .u16 b))), .x (.c (.v (.int .u16 m)))] V = (True ∧ bcond (band (ige k 1) (ile k 12)) (bcond (ile a m) (True ∧ True ∧ V [XV.c (CV.v (Value.bool (ile b m)))] []) (True ∧ True ∧ V [XV.c (CV.v (Value.bool false))] [])) (True ∧ True ∧ V [XV.c (CV.v (Value.bool false))] [])) := by
  try delta o_kn7
  try delta s_known7
  kernel_rfl
set_option maxRecDepth 100000 in
theorem weight7_vc (f a m : Int) (V : List QR.XV → List (List QR.CV) → Prop) : QR.evalBody Tryz.prog (QR.orc []) (QR.noLoops) (Tryz.f103.body.getD .skip) Tryz.f103.results.toList Tryz.f103.ntmps [.x (.c (.v (.int .i64 f))), .x (.c (.v (.int .u16 a))), .x (.c (.v (.int .u16 m)))] V = (True ∧ True ∧ True ∧ bcond (ieq f 1) (True ∧ True ∧ V [XV.c (CV.v (Value.int .u16 m))] []) (True ∧ bcond (ieq f 2) (True ∧ True ∧ V [XV.c (CV.v (Value.int .u16 a))] []) (True ∧ bcond (ieq f 3) (True ∧ True ∧ V [XV.c (CV.v (Value.int .u16 (isub IntKind.u16 m a)))] []) (True ∧ True ∧ V [XV.c (CV.v (Value.int .u16 0))] [])))) := by
  kernel_rfl
set_option maxRecDepth 100000 in
theorem weighted7_vc (v x w y m : Int) (V : List QR.XV → List (List QR.CV) → Prop) : QR.evalBody Tryz.prog (o_wd7) (QR.noLoops) (Tryz.f80.body.getD .skip) Tryz.f80.results.toList Tryz.f80.ntmps [.x (.c (.v (.int .u16 v))), .x (.c (.v (.int .u16 x))), .x (.c (.v (.int .u16 w))), .x (.c (.v (.int .u16 y))), .x (.c (.v (.int .u16 m)))] V = (True ∧ True ∧ ∀ (i : Int), i = hlf (iadd IntKind.u64 (imul IntKind.u64 (iconv IntKind.u64 v) (iconv IntKind.u64 x)) (imul IntKind.u64 (iconv IntKind.u64 w) (iconv IntKind.u64 y))) (iconv IntKind.u64 m) → (inU (iadd IntKind.u64 (imul IntKind.u64 (iconv IntKind.u64 v) (iconv IntKind.u64 x)) (imul IntKind.u64 (iconv IntKind.u64 w) (iconv IntKind.u64 y))) = true ∧ inU (iconv IntKind.u64 m) = true ∧ True) ∧ True ∧ V [XV.c (CV.v (Value.int .u16 (iconv IntKind.u16 i)))] []) := by
  try delta o_wd7
  try delta s_half
  generalize @hlf = hlf
  generalize @inU = inU
  kernel_rfl
set_option maxHeartbeats 8000000 in
set_option maxRecDepth 100000 in
theorem factors_vc (k a b m : Int) (V : List QR.XV → List (List QR.CV) → Prop) : QR.evalBody Tryz.prog (o_fa7) (QR.noLoops) (Tryz.f79.body.getD .skip) Tryz.f79.results.toList Tryz.f79.ntmps [.x (.c (.v (.int .i64 k))), .x (.c (.v (.int .u16 a))), .x (.c (.v (.int .u16 b))), .x (.c (.v (.int .u16 m)))] V = (True ∧ True ∧ bcond (bnot (opOk7 k a b m)) (True ∧ True ∧ V [XV.c (CV.v (Value.int .u16 0)), XV.c (CV.v (Value.int .u16 0)), XV.c (CV.v (Value.bool false))] []) (bcond (ieq k 0) (∀ (i : Int), i = wtV 0 b m → bcond (ieq k 0) (∀ (i_1 : Int), i_1 = wtV 0 a m → (zz247 a m b) ∧ True ∧ V (zz251 i i_1) []) (bcond (ieq k 1) (∀ (i_1 : Int), i_1 = wtV 0 a m → (zz247 a m b) ∧ True ∧ V (zz251 i i_1) []) (bcond (ieq k 2) (∀ (i_1 : Int), i_1 = wtV 0 a m → (zz247 a m b) ∧ True ∧ V (zz251 i i_1) []) (bcond (ieq k 3) (∀ (i_1 : Int), i_1 = wtV 1 a m → (zz247 a m b) ∧ True ∧ V (zz251 i i_1) []) (bcond (ieq k 4) (∀ (i_1 : Int), i_1 = wtV 3 a m → (zz247 a m b) ∧ True ∧ V (zz251 i i_1) []) (bcond (ieq k 5) (∀ (i_1 : Int), i_1 = wtV 1 a m → (zz247 a m b) ∧ True ∧ V (zz251 i i_1) []) (bcond (ieq k 6) (∀ (i_1 : Int), i_1 = wtV 0 a m → (zz247 a m b) ∧ True ∧ V (zz251 i i_1) []) (bcond (ieq k 7) (∀ (i_1 : Int), i_1 = wtV 2 a m → (zz247 a m b) ∧ True ∧ V (zz251 i i_1) []) (bcond (ieq k 8) (∀ (i_1 : Int), i_1 = wtV 0 a m → (zz247 a m b) ∧ True ∧ V (zz251 i i_1) []) (bcond (ieq k 9) (∀ (i_1 : Int), i_1 = wtV 3 a m → (zz247 a m b) ∧ True ∧ V (zz251 i i_1) []) (bcond (ieq k 10) (∀ (i_1 : Int), i_1 = wtV 3 a m → (zz247 a m b) ∧ True ∧ V (zz251 i i_1) []) (bcond (ieq k 11) (∀ (i_1 : Int), i_1 = wtV 2 a m → (zz247 a m b) ∧ True ∧ V (zz251 i i_1) []) (bcond (ieq k 12) (∀ (i_1 : Int), i_1 = wtV 3 a m → (zz247 a m b) ∧ True ∧ V (zz251 i i_1) []) False))))))))))))) (bcond (ieq k 1) (∀ (i : Int), i = wtV 0 b m → bcond (ieq k 0) (∀ (i_1 : Int), i_1 = wtV 0 a m → (zz247 a m b) ∧ True ∧ V (zz251 i i_1) []) (bcond (ieq k 1) (∀ (i_1 : Int), i_1 = wtV 0 a m → (zz247 a m b) ∧ True ∧ V (zz251 i i_1) []) (bcond (ieq k 2) (∀ (i_1 : Int), i_1 = wtV 0 a m → (zz247 a m b) ∧ True ∧ V (zz251 i i_1) []) (bcond (ieq k 3) (∀ (i_1 : Int), i_1 = wtV 1 a m → (zz247 a m b) ∧ True ∧ V (zz251 i i_1) []) (bcond (ieq k 4) (∀ (i_1 : Int), i_1 = wtV 3 a m → (zz247 a m b) ∧ True ∧ V (zz251 i i_1) []) (bcond (ieq k 5) (∀ (i_1 : Int), i_1 = wtV 1 a m → (zz247 a m b) ∧ True ∧ V (zz251 i i_1) []) (bcond (ieq k 6) (∀ (i_1 : Int), i_1 = wtV 0 a m → (zz247 a m b) ∧ True ∧ V (zz251 i i_1) []) (bcond (ieq k 7) (∀ (i_1 : Int), i_1 = wtV 2 a m → (zz247 a m b) ∧ True ∧ V (zz251 i i_1) []) (bcond (ieq k 8) (∀ (i_1 : Int), i_1 = wtV 0 a m → (zz247 a m b) ∧ True ∧ V (zz251 i i_1) []) (bcond (ieq k 9) (∀ (i_1 : Int), i_1 = wtV 3 a m → (zz247 a m b) ∧ True ∧ V (zz251 i i_1) []) (bcond (ieq k 10) (∀ (i_1 : Int), i_1 = wtV 3 a m → (zz247 a m b) ∧ True ∧ V (zz251 i i_1) []) (bcond (ieq k 11) (∀ (i_1 : Int), i_1 = wtV 2 a m → (zz247 a m b) ∧ True ∧ V (zz251 i i_1) []) (bcond (ieq k 12) (∀ (i_1 : Int), i_1 = wtV 3 a m → (zz247 a m b) ∧ True ∧ V (zz251 i i_1) []) False))))))))))))) (bcond (ieq k 2) (∀ (i : Int), i = wtV 1 b m → bcond (ieq k 0) (∀ (i_1 : Int), i_1 = wtV 0 a m → (zz247 a m b) ∧ True ∧ V (zz251 i i_1) []) (bcond (ieq k 1) (∀ (i_1 : Int), i_1 = wtV 0 a m → (zz247 a m b) ∧ True ∧ V (zz251 i i_1) []) (bcond (ieq k 2) (∀ (i_1 : Int), i_1 = wtV 0 a m → (zz247 a m b) ∧ True ∧ V (zz251 i i_1) []) (bcond (ieq k 3) (∀ (i_1 : Int), i_1 = wtV 1 a m → (zz247 a m b) ∧ True ∧ V (zz251 i i_1) []) (bcond (ieq k 4) (∀ (i_1 : Int), i_1 = wtV 3 a m → (zz247 a m b) ∧ True ∧ V (zz251 i i_1) []) (bcond (ieq k 5) (∀ (i_1 : Int), i_1 = wtV 1 a m → (zz247 a m b) ∧ True ∧ V (zz251 i i_1) []) (bcond (ieq k 6) (∀ (i_1 : Int), i_1 = wtV 0 a m → (zz247 a m b) ∧ True ∧ V (zz251 i i_1) []) (bcond (ieq k 7) (∀ (i_1 : Int), i_1 = wtV 2 a m → (zz247 a m b) ∧ True ∧ V (zz251 i i_1) []) (bcond (ieq k 8) (∀ (i_1 : Int), i_1 = wtV 0 a m → (zz247 a m b) ∧ True ∧ V (zz251 i i_1) []) (bcond (ieq k 9) (∀ (i_1 : Int), i_1 = wtV 3 a m → (zz247 a m b) ∧ True ∧ V (zz251 i i_1) []) (bcond (ieq k 10) (∀ (i_1 : Int), i_1 = wtV 3 a m → (zz247 a m b) ∧ True ∧ V (zz251 i i_1) []) (bcond (ieq k 11) (∀ (i_1 : Int), i_1 = wtV 2 a m → (zz247 a m b) ∧ True ∧ V (zz251 i i_1) []) (bcond (ieq k 12) (∀ (i_1 : Int), i_1 = wtV 3 a m → (zz247 a m b) ∧ True ∧ V (zz251 i i_1) []) False))))))))))))) (bcond (ieq k 3) (∀ (i : Int), i = wtV 0 b m → bcond (ieq k 0) (∀ (i_1 : Int), i_1 = wtV 0 a m → (zz247 a m b) ∧ True ∧ V (zz251 i i_1) []) (bcond (ieq k 1) (∀ (i_1 : Int), i_1 = wtV 0 a m → (zz247 a m b) ∧ True ∧ V (zz251 i i_1) []) (bcond (ieq k 2) (∀ (i_1 : Int), i_1 = wtV 0 a m → (zz247 a m b) ∧ True ∧ V (zz251 i i_1) []) (bcond (ieq k 3) (∀ (i_1 : Int), i_1 = wtV 1 a m → (zz247 a m b) ∧ True ∧ V (zz251 i i_1) []) (bcond (ieq k 4) (∀ (i_1 : Int), i_1 = wtV 3 a m → (zz247 a m b) ∧ True ∧ V (zz251 i i_1) []) (bcond (ieq k 5) (∀ (i_1 : Int), i_1 = wtV 1 a m → (zz247 a m b) ∧ True ∧ V (zz251 i i_1) []) (bcond (ieq k 6) (∀ (i_1 : Int), i_1 = wtV 0 a m → (zz247 a m b) ∧ True ∧ V (zz251 i i_1) []) (bcond (ieq k 7) (∀ (i_1 : Int), i_1 = wtV 2 a m → (zz247 a m b) ∧ True ∧ V (zz251 i i_1) []) (bcond (ieq k 8) (∀ (i_1 : Int), i_1 = wtV 0 a m → (zz247 a m b) ∧ True ∧ V (zz251 i i_1) []) (bcond (ieq k 9) (∀ (i_1 : Int), i_1 = wtV 3 a m → (zz247 a m b) ∧ True ∧ V (zz251 i i_1) []) (bcond (ieq k 10) (∀ (i_1 : Int), i_1 = wtV 3 a m → (zz247 a m b) ∧ True ∧ V (zz251 i i_1) []) (bcond (ieq k 11) (∀ (i_1 : Int), i_1 = wtV 2 a m → (zz247 a m b) ∧ True ∧ V (zz251 i i_1) []) (bcond (ieq k 12) (∀ (i_1 : Int), i_1 = wtV 3 a m → (zz247 a m b) ∧ True ∧ V (zz251 i i_1) []) False))))))))))))) (bcond (ieq k 4) (∀ (i : Int), i = wtV 1 b m → bcond (ieq k 0) (∀ (i_1 : Int), i_1 = wtV 0 a m → (zz247 a m b) ∧ True ∧ V (zz251 i i_1) []) (bcond (ieq k 1) (∀ (i_1 : Int), i_1 = wtV 0 a m → (zz247 a m b) ∧ True ∧ V (zz251 i i_1) []) (bcond (ieq k 2) (∀ (i_1 : Int), i_1 = wtV 0 a m → (zz247 a m b) ∧ True ∧ V (zz251 i i_1) []) (bcond (ieq k 3) (∀ (i_1 : Int), i_1 = wtV 1 a m → (zz247 a m b) ∧ True ∧ V (zz251 i i_1) []) (bcond (ieq k 4) (∀ (i_1 : Int), i_1 = wtV 3 a m → (zz247 a m b) ∧ True ∧ V (zz251 i i_1) []) (bcond (ieq k 5) (∀ (i_1 : Int), i_1 = wtV 1 a m → (zz247 a m b) ∧ True ∧ V (zz251 i i_1) []) (bcond (ieq k 6) (∀ (i_1 : Int), i_1 = wtV 0 a m → (zz247 a m b) ∧ True ∧ V (zz251 i i_1) []) (bcond (ieq k 7) (∀ (i_1 : Int), i_1 = wtV 2 a m → (zz247 a m b) ∧ True ∧ V (zz251 i i_1) []) (bcond (ieq k 8) (∀ (i_1 : Int), i_1 = wtV 0 a m → (zz247 a m b) ∧ True ∧ V (zz251 i i_1) []) (bcond (ieq k 9) (∀ (i_1 : Int), i_1 = wtV 3 a m → (zz247 a m b) ∧ True ∧ V (zz251 i i_1) []) (bcond (ieq k 10) (∀ (i_1 : Int), i_1 = wtV 3 a m → (zz247 a m b) ∧ True ∧ V (zz251 i i_1) []) (bcond (ieq k 11) (∀ (i_1 : Int), i_1 = wtV 2 a m → (zz247 a m b) ∧ True ∧ V (zz251 i i_1) []) (bcond (ieq k 12) (∀ (i_1 : Int), i_1 = wtV 3 a m → (zz247 a m b) ∧ True ∧ V (zz251 i i_1) []) False))))))))))))) (bcond (ieq k 5) (∀ (i : Int), i = wtV 3 b m → bcond (ieq k 0) (∀ (i_1 : Int), i_1 = wtV 0 a m → (zz247 a m b) ∧ True ∧ V (zz251 i i_1) []) (bcond (ieq k 1) (∀ (i_1 : Int), i_1 = wtV 0 a m → (zz247 a m b) ∧ True ∧ V (zz251 i i_1) []) (bcond (ieq k 2) (∀ (i_1 : Int), i_1 = wtV 0 a m → (zz247 a m b) ∧ True ∧ V (zz251 i i_1) []) (bcond (ieq k 3) (∀ (i_1 : Int), i_1 = wtV 1 a m → (zz247 a m b) ∧ True ∧ V (zz251 i i_1) []) (bcond (ieq k 4) (∀ (i_1 : Int), i_1 = wtV 3 a m → (zz247 a m b) ∧ True ∧ V (zz251 i i_1) []) (bcond (ieq k 5) (∀ (i_1 : Int), i_1 = wtV 1 a m → (zz247 a m b) ∧ True ∧ V (zz251 i i_1) []) (bcond (ieq k 6) (∀ (i_1 : Int), i_1 = wtV 0 a m → (zz247 a m b) ∧ True ∧ V (zz251 i i_1) []) (bcond (ieq k 7) (∀ (i_1 : Int), i_1 = wtV 2 a m → (zz247 a m b) ∧ True ∧ V (zz251 i i_1) []) (bcond (ieq k 8) (∀ (i_1 : Int), i_1 = wtV 0 a m → (zz247 a m b) ∧ True ∧ V (zz251 i i_1) []) (bcond (ieq k 9) (∀ (i_1 : Int), i_1 = wtV 3 a m → (zz247 a m b) ∧ True ∧ V (zz251 i i_1) []) (bcond (ieq k 10) (∀ (i_1 : Int), i_1 = wtV 3 a m → (zz247 a m b) ∧ True ∧ V (zz251 i i_1) []) (bcond (ieq k 11) (∀ (i_1 : Int), i_1 = wtV 2 a m → (zz247 a m b) ∧ True ∧ V (zz251 i i_1) []) (bcond (ieq k 12) (∀ (i_1 : Int), i_1 = wtV 3 a m → (zz247 a m b) ∧ True ∧ V (zz251 i i_1) []) False))))))))))))) (bcond (ieq k 6) (∀ (i : Int), i = wtV 2 b m → bcond (ieq k 0) (∀ (i_1 : Int), i_1 = wtV 0 a m → (zz247 a m b) ∧ True ∧ V (zz251 i i_1) []) (bcond (ieq k 1) (∀ (i_1 : Int), i_1 = wtV 0 a m → (zz247 a m b) ∧ True ∧ V (zz251 i i_1) []) (bcond (ieq k 2) (∀ (i_1 : Int), i_1 = wtV 0 a m → (zz247 a m b) ∧ True ∧ V (zz251 i i_1) []) (bcond (ieq k 3) (∀ (i_1 : Int), i_1 = wtV 1 a m → (zz247 a m b) ∧ True ∧ V (zz251 i i_1) []) (bcond (ieq k 4) (∀ (i_1 : Int), i_1 = wtV 3 a m → (zz247 a m b) ∧ True ∧ V (zz251 i i_1) []) (bcond (ieq k 5) (∀ (i_1 : Int), i_1 = wtV 1 a m → (zz247 a m b) ∧ True ∧ V (zz251 i i_1) []) (bcond (ieq k 6) (∀ (i_1 : Int), i_1 = wtV 0 a m → (zz247 a m b) ∧ True ∧ V (zz251 i i_1) []) (bcond (ieq k 7) (∀ (i_1 : Int), i_1 = wtV 2 a m → (zz247 a m b) ∧ True ∧ V (zz251 i i_1) []) (bcond (ieq k 8) (∀ (i_1 : Int), i_1 = wtV 0 a m → (zz247 a m b) ∧ True ∧ V (zz251 i i_1) []) (bcond (ieq k 9) (∀ (i_1 : Int), i_1 = wtV 3 a m → (zz247 a m b) ∧ True ∧ V (zz251 i i_1) []) (bcond (ieq k 10) (∀ (i_1 : Int), i_1 = wtV 3 a m → (zz247 a m b) ∧ True ∧ V (zz251 i i_1) []) (bcond (ieq k 11) (∀ (i_1 : Int), i_1 = wtV 2 a m → (zz247 a m b) ∧ True ∧ V (zz251 i i_1) []) (bcond (ieq k 12) (∀ (i_1 : Int), i_1 = wtV 3 a m → (zz247 a m b) ∧ True ∧ V (zz251 i i_1) []) False))))))))))))) (bcond (ieq k 7) (∀ (i : Int), i = wtV 0 b m → bcond (ieq k 0) (∀ (i_1 : Int), i_1 = wtV 0 a m → (zz247 a m b) ∧ True ∧ V (zz251 i i_1) []) (bcond (ieq k 1) (∀ (i_1 : Int), i_1 = wtV 0 a m → (zz247 a m b) ∧ True ∧ V (zz251 i i_1) []) (bcond (ieq k 2) (∀ (i_1 : Int), i_1 = wtV 0 a m → (zz247 a m b) ∧ True ∧ V (zz251 i i_1) []) (bcond (ieq k 3) (∀ (i_1 : Int), i_1 = wtV 1 a m → (zz247 a m b) ∧ True ∧ V (zz251 i i_1) []) (bcond (ieq k 4) (∀ (i_1 : Int), i_1 = wtV 3 a m → (zz247 a m b) ∧ True ∧ V (zz251 i i_1) []) (bcond (ieq k 5) (∀ (i_1 : Int), i_1 = wtV 1 a m → (zz247 a m b) ∧ True ∧ V (zz251 i i_1) []) (bcond (ieq k 6) (∀ (i_1 : Int), i_1 = wtV 0 a m → (zz247 a m b) ∧ True ∧ V (zz251 i i_1) []) (bcond (ieq k 7) (∀ (i_1 : Int), i_1 = wtV 2 a m → (zz247 a m b) ∧ True ∧ V (zz251 i i_1) []) (bcond (ieq k 8) (∀ (i_1 : Int), i_1 = wtV 0 a m → (zz247 a m b) ∧ True ∧ V (zz251 i i_1) []) (bcond (ieq k 9) (∀ (i_1 : Int), i_1 = wtV 3 a m → (zz247 a m b) ∧ True ∧ V (zz251 i i_1) []) (bcond (ieq k 10) (∀ (i_1 : Int), i_1 = wtV 3 a m → (zz247 a m b) ∧ True ∧ V (zz251 i i_1) []) (bcond (ieq k 11) (∀ (i_1 : Int), i_1 = wtV 2 a m → (zz247 a m b) ∧ True ∧ V (zz251 i i_1) []) (bcond (ieq k 12) (∀ (i_1 : Int), i_1 = wtV 3 a m → (zz247 a m b) ∧ True ∧ V (zz251 i i_1) []) False))))))))))))) (bcond (ieq k 8) (∀ (i : Int), i = wtV 3 b m → bcond (ieq k 0) (∀ (i_1 : Int), i_1 = wtV 0 a m → (zz247 a m b) ∧ True ∧ V (zz251 i i_1) []) (bcond (ieq k 1) (∀ (i_1 : Int), i_1 = wtV 0 a m → (zz247 a m b) ∧ True ∧ V (zz251 i i_1) []) (bcond (ieq k 2) (∀ (i_1 : Int), i_1 = wtV 0 a m → (zz247 a m b) ∧ True ∧ V (zz251 i i_1) []) (bcond (ieq k 3) (∀ (i_1 : Int), i_1 = wtV 1 a m → (zz247 a m b) ∧ True ∧ V (zz251 i i_1) []) (bcond (ieq k 4) (∀ (i_1 : Int), i_1 = wtV 3 a m → (zz247 a m b) ∧ True ∧ V (zz251 i i_1) []) (bcond (ieq k 5) (∀ (i_1 : Int), i_1 = wtV 1 a m → (zz247 a m b) ∧ True ∧ V (zz251 i i_1) []) (bcond (ieq k 6) (∀ (i_1 : Int), i_1 = wtV 0 a m → (zz247 a m b) ∧ True ∧ V (zz251 i i_1) []) (bcond (ieq k 7) (∀ (i_1 : Int), i_1 = wtV 2 a m → (zz247 a m b) ∧ True ∧ V (zz251 i i_1) []) (bcond (ieq k 8) (∀ (i_1 : Int), i_1 = wtV 0 a m → (zz247 a m b) ∧ True ∧ V (zz251 i i_1) []) (bcond (ieq k 9) (∀ (i_1 : Int), i_1 = wtV 3 a m → (zz247 a m b) ∧ True ∧ V (zz251 i i_1) []) (bcond (ieq k 10) (∀ (i_1 : Int), i_1 = wtV 3 a m → (zz247 a m b) ∧ True ∧ V (zz251 i i_1) []) (bcond (ieq k 11) (∀ (i_1 : Int), i_1 = wtV 2 a m → (zz247 a m b) ∧ True ∧ V (zz251 i i_1) []) (bcond (ieq k 12) (∀ (i_1 : Int), i_1 = wtV 3 a m → (zz247 a m b) ∧ True ∧ V (zz251 i i_1) []) False))))))))))))) (bcond (ieq k 9) (∀ (i : Int), i = wtV 0 b m → bcond (ieq k 0) (∀ (i_1 : Int), i_1 = wtV 0 a m → (zz247 a m b) ∧ True ∧ V (zz251 i i_1) []) (bcond (ieq k 1) (∀ (i_1 : Int), i_1 = wtV 0 a m → (zz247 a m b) ∧ True ∧ V (zz251 i i_1) []) (bcond (ieq k 2) (∀ (i_1 : Int), i_1 = wtV 0 a m → (zz247 a m b) ∧ True ∧ V (zz251 i i_1) []) (bcond (ieq k 3) (∀ (i_1 : Int), i_1 = wtV 1 a m → (zz247 a m b) ∧ True ∧ V (zz251 i i_1) []) (bcond (ieq k 4) (∀ (i_1 : Int), i_1 = wtV 3 a m → (zz247 a m b) ∧ True ∧ V (zz251 i i_1) []) (bcond (ieq k 5) (∀ (i_1 : Int), i_1 = wtV 1 a m → (zz247 a m b) ∧ True ∧ V (zz251 i i_1) []) (bcond (ieq k 6) (∀ (i_1 : Int), i_1 = wtV 0 a m → (zz247 a m b) ∧ True ∧ V (zz251 i i_1) []) (bcond (ieq k 7) (∀ (i_1 : Int), i_1 = wtV 2 a m → (zz247 a m b) ∧ True ∧ V (zz251 i i_1) []) (bcond (ieq k 8) (∀ (i_1 : Int), i_1 = wtV 0 a m → (zz247 a m b) ∧ True ∧ V (zz251 i i_1) []) (bcond (ieq k 9) (∀ (i_1 : Int), i_1 = wtV 3 a m → (zz247 a m b) ∧ True ∧ V (zz251 i i_1) []) (bcond (ieq k 10) (∀ (i_1 : Int), i_1 = wtV 3 a m → (zz247 a m b) ∧ True ∧ V (zz251 i i_1) []) (bcond (ieq k 11) (∀ (i_1 : Int), i_1 = wtV 2 a m → (zz247 a m b) ∧ True ∧ V (zz251 i i_1) []) (bcond (ieq k 12) (∀ (i_1 : Int), i_1 = wtV 3 a m → (zz247 a m b) ∧ True ∧ V (zz251 i i_1) []) False))))))))))))) (bcond (ieq k 10) (∀ (i : Int), i = wtV 2 b m → bcond (ieq k 0) (∀ (i_1 : Int), i_1 = wtV 0 a m → (zz247 a m b) ∧ True ∧ V (zz251 i i_1) []) (bcond (ieq k 1) (∀ (i_1 : Int), i_1 = wtV 0 a m → (zz247 a m b) ∧ True ∧ V (zz251 i i_1) []) (bcond (ieq k 2) (∀ (i_1 : Int), i_1 = wtV 0 a m → (zz247 a m b) ∧ True ∧ V (zz251 i i_1) []) (bcond (ieq k 3) (∀ (i_1 : Int), i_1 = wtV 1 a m → (zz247 a m b) ∧ True ∧ V (zz251 i i_1) []) (bcond (ieq k 4) (∀ (i_1 : Int), i_1 = wtV 3 a m → (zz247 a m b) ∧ True ∧ V (zz251 i i_1) []) (bcond (ieq k 5) (∀ (i_1 : Int), i_1 = wtV 1 a m → (zz247 a m b) ∧ True ∧ V (zz251 i i_1) []) (bcond (ieq k 6) (∀ (i_1 : Int), i_1 = wtV 0 a m → (zz247 a m b) ∧ True ∧ V (zz251 i i_1) []) (bcond (ieq k 7) (∀ (i_1 : Int), i_1 = wtV 2 a m → (zz247 a m b) ∧ True ∧ V (zz251 i i_1) []) (bcond (ieq k 8) (∀ (i_1 : Int), i_1 = wtV 0 a m → (zz247 a m b) ∧ True ∧ V (zz251 i i_1) []) (bcond (ieq k 9) (∀ (i_1 : Int), i_1 = wtV 3 a m → (zz247 a m b) ∧ True ∧ V (zz251 i i_1) []) (bcond (ieq k 10) (∀ (i_1 : Int), i_1 = wtV 3 a m → (zz247 a m b) ∧ True ∧ V (zz251 i i_1) []) (bcond (ieq k 11) (∀ (i_1 : Int), i_1 = wtV 2 a m → (zz247 a m b) ∧ True ∧ V (zz251 i i_1) []) (bcond (ieq k 12) (∀ (i_1 : Int), i_1 = wtV 3 a m → (zz247 a m b) ∧ True ∧ V (zz251 i i_1) []) False))))))))))))) (bcond (ieq k 11) (∀ (i : Int), i = wtV 3 b m → bcond (ieq k 0) (∀ (i_1 : Int), i_1 = wtV 0 a m → (zz247 a m b) ∧ True ∧ V (zz251 i i_1) []) (bcond (ieq k 1) (∀ (i_1 : Int), i_1 = wtV 0 a m → (zz247 a m b) ∧ True ∧ V (zz251 i i_1) []) (bcond (ieq k 2) (∀ (i_1 : Int), i_1 = wtV 0 a m → (zz247 a m b) ∧ True ∧ V (zz251 i i_1) []) (bcond (ieq k 3) (∀ (i_1 : Int), i_1 = wtV 1 a m → (zz247 a m b) ∧ True ∧ V (zz251 i i_1) []) (bcond (ieq k 4) (∀ (i_1 : Int), i_1 = wtV 3 a m → (zz247 a m b) ∧ True ∧ V (zz251 i i_1) []) (bcond (ieq k 5) (∀ (i_1 : Int), i_1 = wtV 1 a m → (zz247 a m b) ∧ True ∧ V (zz251 i i_1) []) (bcond (ieq k 6) (∀ (i_1 : Int), i_1 = wtV 0 a m → (zz247 a m b) ∧ True ∧ V (zz251 i i_1) []) (bcond (ieq k 7) (∀ (i_1 : Int), i_1 = wtV 2 a m → (zz247 a m b) ∧ True ∧ V (zz251 i i_1) []) (bcond (ieq k 8) (∀ (i_1 : Int), i_1 = wtV 0 a m → (zz247 a m b) ∧ True ∧ V (zz251 i i_1) []) (bcond (ieq k 9) (∀ (i_1 : Int), i_1 = wtV 3 a m → (zz247 a m b) ∧ True ∧ V (zz251 i i_1) []) (bcond (ieq k 10) (∀ (i_1 : Int), i_1 = wtV 3 a m → (zz247 a m b) ∧ True ∧ V (zz251 i i_1) []) (bcond (ieq k 11) (∀ (i_1 : Int), i_1 = wtV 2 a m → (zz247 a m b) ∧ True ∧ V (zz251 i i_1) []) (bcond (ieq k 12) (∀ (i_1 : Int), i_1 = wtV 3 a m → (zz247 a m b) ∧ True ∧ V (zz251 i i_1) []) False))))))))))))) (bcond (ieq k 12) (∀ (i : Int), i = wtV 3 b m → bcond (ieq k 0) (∀ (i_1 : Int), i_1 = wtV 0 a m → (zz247 a m b) ∧ True ∧ V (zz251 i i_1) []) (bcond (ieq k 1) (∀ (i_1 : Int), i_1 = wtV 0 a m → (zz247 a m b) ∧ True ∧ V (zz251 i i_1) []) (bcond (ieq k 2) (∀ (i_1 : Int), i_1 = wtV 0 a m → (zz247 a m b) ∧ True ∧ V (zz251 i i_1) []) (bcond (ieq k 3) (∀ (i_1 : Int), i_1 = wtV 1 a m → (zz247 a m b) ∧ True ∧ V (zz251 i i_1) []) (bcond (ieq k 4) (∀ (i_1 : Int), i_1 = wtV 3 a m → (zz247 a m b) ∧ True ∧ V (zz251 i i_1) []) (bcond (ieq k 5) (∀ (i_1 : Int), i_1 = wtV 1 a m → (zz247 a m b) ∧ True ∧ V (zz251 i i_1) []) (bcond (ieq k 6) (∀ (i_1 : Int), i_1 = wtV 0 a m → (zz247 a m b) ∧ True ∧ V (zz251 i i_1) []) (bcond (ieq k 7) (∀ (i_1 : Int), i_1 = wtV 2 a m → (zz247 a m b) ∧ True ∧ V (zz251 i i_1) []) (bcond (ieq k 8) (∀ (i_1 : Int), i_1 = wtV 0 a m → (zz247 a m b) ∧ True ∧ V (zz251 i i_1) []) (bcond (ieq k 9) (∀ (i_1 : Int), i_1 = wtV 3 a m → (zz247 a m b) ∧ True ∧ V (zz251 i i_1) []) (bcond (ieq k 10) (∀ (i_1 : Int), i_1 = wtV 3 a m → (zz247 a m b) ∧ True ∧ V (zz251 i i_1) []) (bcond (ieq k 11) (∀ (i_1 : Int), i_1 = wtV 2 a m → (zz247 a m b) ∧ True ∧ V (zz251 i i_1) []) (bcond (ieq k 12) (∀ (i_1 : Int), i_1 = wtV 3 a m → (zz247 a m b) ∧ True ∧ V (zz251 i i_1) []) False))))))))))))) False)))))))))))))) := by
  delta zz247 zz251
  try delta o_fa7
  try delta s_perm7
  try delta s_weight7
  generalize @in16 = in16
  generalize @opOk7 = opOk7
  generalize @wtV = wtV
  kernel_rfl
set_option maxRecDepth 100000 in
theorem oalpha_vc (k a b m : Int) (V : List QR.XV → List (List QR.CV) → Prop) : QR.evalBody Tryz.prog (o_al7) (QR.noLoops) (Tryz.f38.body.getD .skip) Tryz.f38.results.toList Tryz.f38.ntmps [.x (.c (.v (.int .i64 k))), .x (.c (.v (.int .u16 a))), .x (.c (.v (.int .u16 b))), .x (.c (.v (.int .u16 m)))] V = (True ∧ ∀ (i : Int), i = faV k a b m → ∀ (i_1 : Int), i_1 = fbV k a b m → (in16 a = true ∧ in16 b = true ∧ in16 m = true ∧ True) ∧ ∀ (i_2 : Int), i_2 = wdV7 i a i_1 b m → (in16 i = true ∧ in16 a = true ∧ in16 i_1 = true ∧ in16 b = true ∧ in16 m = true ∧ True) ∧ True ∧ V [XV.c (CV.v (Value.int .u16 i_2))] []) := by
  try delta o_al7
  try delta s_factors
  try delta s_weighted7
  generalize @faV = faV
  generalize @fbV = fbV
  generalize @in16 = in16
  generalize @opOk7 = opOk7
  generalize @wdV7 = wdV7
  kernel_rfl
set_option maxRecDepth 100000 in
theorem oshape_vc (k a b m : Int) (V : List QR.XV → List (List QR.CV) → Prop) : QR.evalBody Tryz.prog (o_sh7) (QR.noLoops) (Tryz.f39.body.getD .skip) Tryz.f39.results.toList Tryz.f39.ntmps [.x (.c (.v (.int .i64 k))), .x (.c (.v (.int .u16 a))), .x (.c (.v (.int .u16 b))), .x (.c (.v (.int .u16 m)))] V = (True ∧ True ∧ bcond (bnot (opOk7 k a b m)) (True ∧ True ∧ V [XV.c (CV.v (Value.int .u16 0))] []) (bcond (ieq k 0) ((true = true ∧ true = true ∧ True) ∧ True ∧ True ∧ True ∧ True ∧ True ∧ True ∧ V [XV.c (CV.v (Value.int .u16 0))] []) (bcond (ieq k 1) ((true = true ∧ true = true ∧ True) ∧ True ∧ True ∧ True ∧ True ∧ True ∧ True ∧ V [XV.c (CV.v (Value.int .u16 0))] []) (bcond (ieq k 2) ((true = true ∧ true = true ∧ True) ∧ True ∧ True ∧ True ∧ V [XV.c (CV.v (Value.int .u16 a))] []) (bcond (ieq k 3) ((true = true ∧ true = true ∧ True) ∧ True ∧ True ∧ True ∧ True ∧ V [XV.c (CV.v (Value.int .u16 b))] []) (bcond (ieq k 4) ((true = true ∧ true = true ∧ True) ∧ True ∧ True ∧ True ∧ ∀ (i : Int), i = wdV7 m a (isub IntKind.u16 m a) b m → (in16 m = true ∧ in16 a = true ∧ in16 (isub IntKind.u16 m a) = true ∧ in16 b = true ∧ in16 m = true ∧ True) ∧ True ∧ V [XV.c (CV.v (Value.int .u16 i))] []) (bcond (ieq k 5) ((true = true ∧ true = true ∧ True) ∧ True ∧ True ∧ True ∧ ∀ (i : Int), i = wdV7 m a (isub IntKind.u16 m a) b m → (in16 m = true ∧ in16 a = true ∧ in16 (isub IntKind.u16 m a) = true ∧ in16 b = true ∧ in16 m = true ∧ True) ∧ True ∧ V [XV.c (CV.v (Value.int .u16 i))] []) (bcond (ieq k 6) ((true = true ∧ true = true ∧ True) ∧ True ∧ True ∧ True ∧ True ∧ ∀ (i : Int), i = wdV7 a b 0 0 m → (in16 a = true ∧ in16 b = true ∧ in16 0 = true ∧ in16 0 = true ∧ in16 m = true ∧ True) ∧ True ∧ V [XV.c (CV.v (Value.int .u16 i))] []) (bcond (ieq k 7) ((true = true ∧ true = true ∧ True) ∧ True ∧ True ∧ True ∧ True ∧ ∀ (i : Int), i = wdV7 a b 0 0 m → (in16 a = true ∧ in16 b = true ∧ in16 0 = true ∧ in16 0 = true ∧ in16 m = true ∧ True) ∧ True ∧ V [XV.c (CV.v (Value.int .u16 i))] []) (bcond (ieq k 8) ((true = true ∧ true = true ∧ True) ∧ True ∧ True ∧ True ∧ V [XV.c (CV.v (Value.int .u16 a))] []) (bcond (ieq k 9) ((true = true ∧ true = true ∧ True) ∧ True ∧ True ∧ True ∧ True ∧ V [XV.c (CV.v (Value.int .u16 b))] []) (bcond (ieq k 10) ((true = true ∧ true = true ∧ True) ∧ True ∧ True ∧ True ∧ True ∧ V [XV.c (CV.v (Value.int .u16 b))] []) (bcond (ieq k 11) ((true = true ∧ true = true ∧ True) ∧ True ∧ True ∧ True ∧ V [XV.c (CV.v (Value.int .u16 a))] []) (bcond (ieq k 12) ((true = true ∧ true = true ∧ True) ∧ True ∧ True ∧ True ∧ ∀ (i : Int), i = wdV7 m a (isub IntKind.u16 m a) b m → (in16 m = true ∧ in16 a = true ∧ in16 (isub IntKind.u16 m a) = true ∧ in16 b = true ∧ in16 m = true ∧ True) ∧ True ∧ V [XV.c (CV.v (Value.int .u16 i))] []) False)))))))))))))) := by
  try delta o_sh7
  try delta s_perm7
  try delta s_weighted7
  generalize @in16 = in16
  generalize @opOk7 = opOk7
  generalize @wdV7 = wdV7
  kernel_rfl
end Go.Proofs.YtpjhdjakpbabhaaGreatDoor
namespace Go.Proofs.YtpjhdjakpbabhaaGreatDoor
open Go.RowKit PR QR
set_option linter.unusedVariables false
set_option linter.unusedSimpArgs false
theorem hlf0 {m : Int} (h : 0 ≤ m) : hlf 0 m = 0 := by
  by_cases c : m = 0
  · subst c; exact hlf_zero 0
  · have := hlf_exact (x := 0) (Int.le_refl 0) (show 0 < m by omega); rwa [Int.mul_zero] at this
theorem opOk_iff {k a b m : Int} : opOk7 k a b m = true ↔ (1 ≤ k ∧ k ≤ 12) ∧ a ≤ m ∧ b ≤ m := by unfold opOk7; rw [decide_eq_true_eq]; omega
theorem op_no {k a b m : Int} (h : opOk7 k a b m = false) : faV k a b m = 0 ∧ fbV k a b m = 0 ∧ shV k a b m = 0 := by
  unfold faV fbV shV; rw [h]; exact ⟨rfl, rfl, rfl⟩
theorem fa_in {k a b m : Int} (ha : in16 a = true) (hb : in16 b = true) (hm : in16 m = true) : in16 (faV k a b m) = true ∧ in16 (fbV k a b m) = true := by
  rw [in16_iff] at *
  cases ok : opOk7 k a b m
  · obtain ⟨z1, z2, _⟩ := op_no ok
    rw [z1, z2]; decide
  · have o := opOk_iff.1 ok
    obtain ⟨_, e1, e2, _⟩ := op_at o.1 o.2.1 o.2.2
    have r := fa_range (k := k) (a := a) (b := b) (m := m) ha.1 o.2.1 hb.1 o.2.2
    rw [in16_iff, e1, e2]
    omega
theorem al_all (k : Int) {a b m : Int} (ha : in16 a = true) (hb : in16 b = true) (hm : in16 m = true) : 0 ≤ alV k a b m ∧ alV k a b m ≤ m := by
  rw [in16_iff] at ha hb hm
  cases ok : opOk7 k a b m
  · obtain ⟨z1, z2, _⟩ := op_no ok
    unfold alV
    rw [z1, z2, Int.zero_mul, Int.zero_mul, Int.add_zero, hlf0 hm.1]; omega
  · have o := opOk_iff.1 ok
    by_cases c : m = 0
    · unfold alV; subst c; rw [hlf_zero]; omega
    · exact al_range o.1 ha.1 o.2.1 hb.1 o.2.2 (by omega)
theorem sh_all (k : Int) {a b m : Int} (ha : in16 a = true) (hb : in16 b = true) (hm : in16 m = true) : 0 ≤ shV k a b m ∧ shV k a b m ≤ m := by
  rw [in16_iff] at ha hb hm
  cases ok : opOk7 k a b m
  · obtain ⟨_, _, z⟩ := op_no ok
    rw [z]; omega
  · have o := opOk_iff.1 ok
    by_cases c : m = 0
    · obtain ⟨_, _, _, e⟩ := op_at o.1 o.2.1 o.2.2
      rw [e]; unfold shT; subst c; simp only [hlf_zero]
      refine ⟨?_, ?_⟩ <;> (repeat' split) <;> omega
    · exact sh_range o.1 ha.1 o.2.1 hb.1 o.2.2 (by omega)
theorem prod16 {a b : Int} (ha : in16 a = true) (hb : in16 b = true) : 0 ≤ a * b ∧ a * b ≤ 4294836225 := by
  rw [in16_iff] at *
  exact ⟨Int.mul_nonneg ha.1 hb.1, Int.mul_le_mul (show a ≤ 65535 by omega) (show b ≤ 65535 by omega) hb.1 (by decide)⟩
theorem sum16 {v x w y : Int} (hv : in16 v = true) (hx : in16 x = true) (hw : in16 w = true) (hy : in16 y = true) :
    iadd .u64 (imul .u64 (iconv .u64 v) (iconv .u64 x)) (imul .u64 (iconv .u64 w) (iconv .u64 y)) = v * x + w * y ∧ inU (v * x + w * y) = true := by
  have p := prod16 hv hx
  have q := prod16 hw hy
  have e : ∀ z, in16 z = true → iconv .u64 z = z := fun z h => by rw [in16_iff] at h; exact u64_id h.1 (by omega)
  rw [e v hv, e x hx, e w hw, e y hy, inU_iff, iaddU, imulU, imulU]
  omega
theorem conv64 {z : Int} (h : in16 z = true) : iconv .u64 z = z ∧ inU z = true := by
  rw [in16_iff] at h; exact ⟨u64_id h.1 (by omega), inU_iff.2 (by omega)⟩
theorem alV_conv (k : Int) {a b m : Int} (ha : in16 a = true) (hb : in16 b = true) (hm : in16 m = true) : iconv .u16 (alV k a b m) = alV k a b m := by
  have := al_all k ha hb hm
  rw [in16_iff] at hm
  exact u16_id this.1 (by omega)
theorem a_known7 : Answers2 104 s_known7 := by
  intro al ans h hq
  unfold s_known7 at h
  split at h <;> try (simp at h; done)
  rename_i m
  simp only [Option.some.injEq] at h
  subst h
  have hq := asked hq
  refine QR.does_of_eval (O := (QR.orc [])) QR.orc_nil mixed (QR.noLoops) Tryz.func104 (by kernel_rfl) (by kernel_rfl) (by simp) ?_
  rw [known7_vc]
  simp only [bcond_iff, okAns, eqXs, eqX, eqo, eqLo, eqL, eqc, veq, eqUs, forall_eq, true_and, and_true, band]
  refine ⟨fun c => ?_, fun c => ?_⟩ <;> simp [c]
theorem a_perm7 : Answers2 81 s_perm7 := by
  intro al ans h hq
  unfold s_perm7 at h
  split at h <;> try (simp at h; done)
  rename_i k a b m
  simp only [Option.some.injEq] at h
  subst h
  have hq := asked hq
  refine QR.does_of_eval (O := o_kn7) (QR.orc_cons a_known7 QR.orc_nil) mixed (QR.noLoops) Tryz.func81 (by kernel_rfl) (by kernel_rfl) (by simp) ?_
  rw [perm7_vc]
  simp only [bcond_iff, okAns, eqXs, eqX, eqo, eqLo, eqL, eqc, veq, eqUs, forall_eq, true_and, and_true, band, ige, ile, ge_iff_le, Bool.and_eq_true, Bool.and_eq_false_iff, decide_eq_true_eq, decide_eq_false_iff_not, opOk7]
  refine ⟨fun c => ⟨fun d => ?_, fun d => ?_⟩, fun c => ?_⟩
  · exact decide_eq_decide.2 (by omega)
  · symm; exact decide_eq_false (by omega)
  · symm; exact decide_eq_false (by omega)
theorem a_weight7 : Answers2 103 s_weight7 := by
  intro al ans h hq
  unfold s_weight7 at h
  split at h <;> try (simp at h; done)
  rename_i f a m
  simp only [Option.some.injEq] at h
  subst h
  have hq := asked hq
  refine QR.does_of_eval (O := (QR.orc [])) QR.orc_nil mixed (QR.noLoops) Tryz.func103 (by kernel_rfl) (by kernel_rfl) (by simp) ?_
  rw [weight7_vc]
  obtain ⟨g1, g2, g3, _⟩ := hq
  rw [in16_iff] at g1 g2
  have g3 := of_decide_eq_true g3
  have e : isub .u16 m a = m - a := by unfold isub; rw [IntKind.wrap_u16]; omega
  simp only [bcond_iff, okAns, eqXs, eqX, eqo, eqLo, eqL, eqc, veq, eqUs, forall_eq, true_and, and_true, ieq, beq_iff_eq, beq_eq_false_iff_ne, ne_eq, e]
  unfold wtV
  refine ⟨fun c => ?_, fun c => ⟨fun d => ?_, fun d => ⟨fun e => ?_, fun e => ?_⟩⟩⟩
  · rw [if_pos c]
  · rw [if_neg c, if_pos d]
  · rw [if_neg c, if_neg d, if_pos e]
  · rw [if_neg c, if_neg d, if_neg e]
theorem a_weighted7 : Answers2 80 s_weighted7 := by
  intro al ans h hq
  unfold s_weighted7 at h
  split at h <;> try (simp at h; done)
  rename_i v x w y m
  simp only [Option.some.injEq] at h
  subst h
  have hq := asked hq
  refine QR.does_of_eval (O := o_wd7) (QR.orc_cons (up a_rndhalf) QR.orc_nil) mixed (QR.noLoops) Tryz.func80 (by kernel_rfl) (by kernel_rfl) (by simp) ?_
  rw [weighted7_vc]
  obtain ⟨g1, g2, g3, g4, g5, _⟩ := hq
  obtain ⟨e1, e2⟩ := sum16 g1 g2 g3 g4
  obtain ⟨e3, e4⟩ := conv64 g5
  simp only [okAns, eqXs, eqX, eqo, eqLo, eqL, eqc, veq, eqUs, forall_eq, true_and, and_true, e1, e2, e3, e4, wdV7]
end Go.Proofs.YtpjhdjakpbabhaaGreatDoor
namespace Go.Proofs.YtpjhdjakpbabhaaGreatDoor
open Go.RowKit PR QR
set_option linter.unusedVariables false
set_option linter.unusedSimpArgs false
theorem gx16 (n : Int) : in16 (gxMax n) = true := by rcases gxMax_cases n with h | h <;> rw [h] <;> rfl
theorem u16_subs {m d : Int} (hd : in16 d = true) (hm : in16 m = true) (h : d ≤ m) : isub .u16 m d = m - d ∧ in16 (m - d) = true := by
  rw [in16_iff] at *
  refine ⟨?_, ?_⟩
  · unfold isub; rw [IntKind.wrap_u16]; omega
  · omega
theorem a_factors : Answers2 79 s_factors := by
  intro al ans h hq
  unfold s_factors at h
  split at h <;> try (simp at h; done)
  rename_i k a b m
  simp only [Option.some.injEq] at h
  subst h
  have hq := asked hq
  refine QR.does_of_eval (O := o_fa7) (QR.orc_cons a_perm7 (QR.orc_cons a_weight7 QR.orc_nil)) mixed (QR.noLoops) Tryz.func79 (by kernel_rfl) (by kernel_rfl) (by simp) ?_
  rw [factors_vc]
  delta zz247 zz251
  obtain ⟨g1, g2, g3, _⟩ := hq
  cases ok : opOk7 k a b m
  · obtain ⟨z1, z2, _⟩ := op_no ok
    simp [bcond_iff, bnot, okAns, eqXs, eqX, eqo, eqLo, eqc, veq, eqUs, z1, z2]
  · have o := opOk_iff.1 ok
    obtain ⟨_, e1, e2, _⟩ := op_at o.1 o.2.1 o.2.2
    have l1 : ile a m = true := decide_eq_true o.2.1
    have l2 : ile b m = true := decide_eq_true o.2.2
    rw [e1, e2]
    obtain ⟨hk, _⟩ := o
    clear ok e1 e2
    rcases op_modes hk with rfl | rfl | rfl | rfl | rfl | rfl | rfl | rfl | rfl | rfl | rfl | rfl <;> simp [bcond_iff, bnot, ieq, okAns, eqXs, eqX, eqo, eqLo, eqc, veq, eqUs, g1, g2, g3, l1, l2, wtV, faT, fbT]
theorem a_oalpha : Answers2 38 s_oalpha := by
  intro al ans h hq
  unfold s_oalpha at h
  split at h <;> try (simp at h; done)
  rename_i k a b m
  simp only [Option.some.injEq] at h
  subst h
  have hq := asked hq
  refine QR.does_of_eval (O := o_al7) (QR.orc_cons a_factors (QR.orc_cons a_weighted7 QR.orc_nil)) mixed (QR.noLoops) Tryz.func38 (by kernel_rfl) (by kernel_rfl) (by simp) ?_
  rw [oalpha_vc]
  obtain ⟨g1, g2, g3, _⟩ := hq
  obtain ⟨f1, f2⟩ := fa_in (k := k) g1 g2 g3
  have e : wdV7 (faV k a b m) a (fbV k a b m) b m = alV k a b m := alV_conv k g1 g2 g3
  simp only [okAns, eqXs, eqX, eqo, eqLo, eqL, eqc, veq, eqUs, forall_eq, true_and, and_true, g1, g2, g3, f1, f2, e]
theorem a_oshape : Answers2 39 s_oshape := by
  intro al ans h hq
  unfold s_oshape at h
  split at h <;> try (simp at h; done)
  rename_i k a b m
  simp only [Option.some.injEq] at h
  subst h
  have hq := asked hq
  refine QR.does_of_eval (O := o_sh7) (QR.orc_cons a_perm7 (QR.orc_cons a_weighted7 QR.orc_nil)) mixed (QR.noLoops) Tryz.func39 (by kernel_rfl) (by kernel_rfl) (by simp) ?_
  rw [oshape_vc]
  obtain ⟨g1, g2, g3, _⟩ := hq
  cases ok : opOk7 k a b m
  · obtain ⟨_, _, z⟩ := op_no ok
    simp [bcond_iff, bnot, okAns, eqXs, eqX, eqo, eqLo, eqc, veq, eqUs, z]
  · have o := opOk_iff.1 ok
    obtain ⟨_, _, _, e⟩ := op_at o.1 o.2.1 o.2.2
    have r := sh_all k g1 g2 g3
    obtain ⟨p1, q1⟩ := u16_subs g1 g3 o.2.1
    have i0 : in16 0 = true := rfl
    have c : iconv .u16 (shV k a b m) = shV k a b m := u16_id r.1 (by rw [in16_iff] at g3; omega)
    rw [e] at c ⊢
    obtain ⟨hk, _⟩ := o
    clear ok e r
    rcases op_modes hk with rfl | rfl | rfl | rfl | rfl | rfl | rfl | rfl | rfl | rfl | rfl | rfl <;> simp [bcond_iff, bnot, ieq, okAns, eqXs, eqX, eqo, eqLo, eqc, veq, eqUs, g1, g2, g3, p1, q1, i0, wdV7, shT] at c ⊢ <;> first | done | exact c.symm | exact c
end Go.Proofs.YtpjhdjakpbabhaaGreatDoor
