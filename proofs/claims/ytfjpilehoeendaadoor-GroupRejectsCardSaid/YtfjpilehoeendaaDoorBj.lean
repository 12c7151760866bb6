/-
  Layer 9 (pixel): what the laws ask of composites of pixels.
  Layer 9 (pixel): the conditions of the calls.
  Layer 9 (pixel): what each call answers.
-/
import Derived.Test.YtfjpilehoeendaaDoorBi
namespace Go.Proofs.YtfjpilehoeendaaDoor
open Go.RowKit PR QR
set_option linter.unusedVariables false
set_option linter.unusedSimpArgs false

theorem hlf_rest (n m : Int) (h0 : 0 ≤ n) (hm : 0 < m) : ∃ r, 0 ≤ r ∧ r < 2 * m ∧ 2 * m * hlf n m = 2 * n + m - r := by
  rw [hlf_div h0 hm]
  refine ⟨(2 * n + m) % (2 * m), Int.emod_nonneg _ (by omega), Int.emod_lt_of_pos _ (by omega), ?_⟩
  have := Int.mul_ediv_add_emod (2 * n + m) (2 * m)
  omega
theorem over_key {m ap aq y z i1 i2 h j1 j2 r1 r2 r3 r4 r5 : Int} (e1 : 2 * m * i1 = 2 * ((m - aq) * z) + m - r1) (e2 : 2 * m * i2 = 2 * ((m - ap) * (y + i1)) + m - r2) (e3 : 2 * m * h = 2 * ((m - ap) * aq) + m - r3)
    (e4 : 2 * m * j1 = 2 * ((m - ap) * y) + m - r4) (e5 : 2 * m * j2 = 2 * ((m - (ap + h)) * z) + m - r5) : 2 * (m * m) * (i2 - j1 - j2) = (m - ap) * (m - r1) + z * (m - r3) + m * (r4 + r5 - m - r2) := by
  have f1 := congrArg (fun t => (m - ap) * t) e1
  have f2 := congrArg (fun t => m * t) e2
  have f3 := congrArg (fun t => z * t) e3
  have f4 := congrArg (fun t => m * t) e4
  have f5 := congrArg (fun t => m * t) e5
  clear e1 e2 e3 e4 e5
  grind
theorem qq_zero {f q r : Int} (h : q * q * r = 0) : f * q * (f * q) * r = 0 := by
  have : f * q * (f * q) * r = f * f * (q * q * r) := by grind
  rw [this, h, Int.mul_zero]
/-- regrouping three samples with src-over changes a sample by at most two -/
theorem over_apart {m ap aq x y z : Int} (hm : 0 < m) (p0 : 0 ≤ ap) (p1 : ap ≤ m) (q0 : 0 ≤ aq) (q1 : aq ≤ m) (y0 : 0 ≤ y) (z0 : 0 ≤ z) (z1 : z ≤ m) :
    0 ≤ m - (ap + hlf ((m - ap) * aq) m) ∧
    x + hlf ((m - ap) * (y + hlf ((m - aq) * z) m)) m - (x + hlf ((m - ap) * y) m + hlf ((m - (ap + hlf ((m - ap) * aq) m)) * z) m) ≤ 2 ∧
    -2 ≤ x + hlf ((m - ap) * (y + hlf ((m - aq) * z) m)) m - (x + hlf ((m - ap) * y) m + hlf ((m - (ap + hlf ((m - ap) * aq) m)) * z) m) := by
  have u0 : 0 ≤ m - ap := by omega
  have v0 : 0 ≤ m - aq := by omega
  have n1 := Int.mul_nonneg v0 z0
  have i1n := hlf_nonneg ((m - aq) * z) m
  have n2 := Int.mul_nonneg u0 (show 0 ≤ y + hlf ((m - aq) * z) m by omega)
  have n3 := Int.mul_nonneg u0 q0
  have n4 := Int.mul_nonneg u0 y0
  have hle : hlf ((m - ap) * aq) m ≤ m - ap := hlf_le n3 u0 (by have := Int.mul_le_mul_of_nonneg_left q1 u0; rw [Int.mul_comm m]; exact this) hm
  have w0 : 0 ≤ m - (ap + hlf ((m - ap) * aq) m) := by omega
  have n5 := Int.mul_nonneg w0 z0
  obtain ⟨r1, a1, b1, e1⟩ := hlf_rest _ m n1 hm
  obtain ⟨r2, a2, b2, e2⟩ := hlf_rest _ m n2 hm
  obtain ⟨r3, a3, b3, e3⟩ := hlf_rest _ m n3 hm
  obtain ⟨r4, a4, b4, e4⟩ := hlf_rest _ m n4 hm
  obtain ⟨r5, a5, b5, e5⟩ := hlf_rest _ m n5 hm
  refine ⟨w0, ?_⟩
  generalize hlf ((m - aq) * z) m = i1 at *
  generalize hlf ((m - ap) * (y + i1)) m = i2 at *
  generalize hlf ((m - ap) * aq) m = h at *
  generalize hlf ((m - ap) * y) m = j1 at *
  generalize hlf ((m - (ap + h)) * z) m = j2 at *
  have key := over_key e1 e2 e3 e4 e5
  have mm := Int.mul_pos hm hm
  have c1 := Int.mul_nonneg u0 (show 0 ≤ m - (m - r1) by omega)
  have c2 := Int.mul_nonneg u0 (show 0 ≤ m + (m - r1) by omega)
  have c3 := Int.mul_nonneg z0 (show 0 ≤ m - (m - r3) by omega)
  have c4 := Int.mul_nonneg z0 (show 0 ≤ m + (m - r3) by omega)
  have c5 := Int.mul_nonneg (show 0 ≤ m by omega) (show 0 ≤ m - (m - ap) by omega)
  have c6 := Int.mul_nonneg (show 0 ≤ m by omega) (show 0 ≤ m - z by omega)
  have c7 := Int.mul_pos hm (show 0 < 3 * m - (r4 + r5 - m - r2) by omega)
  have c8 := Int.mul_pos hm (show 0 < 3 * m + (r4 + r5 - m - r2) by omega)
  have up : 2 * (m * m) * (i2 - j1 - j2) < 5 * (m * m) := by grind
  have lo : -(5 * (m * m)) < 2 * (m * m) * (i2 - j1 - j2) := by grind
  have g1 : i2 - j1 - j2 ≤ 2 := by
    by_cases c : i2 - j1 - j2 ≤ 2
    · exact c
    · have := Int.mul_le_mul_of_nonneg_left (show 3 ≤ i2 - j1 - j2 by omega) (show 0 ≤ 2 * (m * m) by omega)
      omega
  have g2 : -2 ≤ i2 - j1 - j2 := by
    by_cases c : -2 ≤ i2 - j1 - j2
    · exact c
    · have := Int.mul_le_mul_of_nonneg_left (show i2 - j1 - j2 ≤ -3 by omega) (show 0 ≤ 2 * (m * m) by omega)
      omega
  exact ⟨by omega, by omega⟩
/-- .. and nothing, where the pixels are opaque or transparent -/
theorem over_crisp {m ap aq x y z : Int} (hm : 0 < m) (hp : ap = 0 ∨ ap = m) (hq : aq = 0 ∨ aq = m) (y0 : 0 ≤ y) (hy : y ≤ aq) (z0 : 0 ≤ z) :
    x + hlf ((m - ap) * (y + hlf ((m - aq) * z) m)) m = x + hlf ((m - ap) * y) m + hlf ((m - (ap + hlf ((m - ap) * aq) m)) * z) m := by
  have z1 : hlf (0 : Int) m = 0 := by have := hlf_exact (x := 0) (Int.le_refl 0) hm; rwa [Int.mul_zero] at this
  have ez := hlf_exact z0 hm
  have ey := hlf_exact y0 hm
  have em := hlf_exact (show 0 ≤ m by omega) hm
  rcases hp with rfl | rfl <;> rcases hq with rfl | rfl
  · have : y = 0 := by omega
    subst this
    simp [ez, z1]
  · simp [z1, ey, em]
  · simp [z1]
  · simp [z1]
section
variable {o k m s a d b : Int}
theorem al_over (ha0 : 0 ≤ a) (ha : a ≤ m) (hb0 : 0 ≤ b) (hb : b ≤ m) (hm : 0 < m) : alV 4 a b m = a + hlf ((m - a) * b) m ∧ shV 4 a b m = a + hlf ((m - a) * b) m := by
  obtain ⟨_, e1, e2, e4⟩ := op_at (k := 4) (a := a) (b := b) (m := m) (by decide) ha hb
  have n := Int.mul_nonneg (show 0 ≤ m - a by omega) hb0
  have n2 := Int.mul_nonneg (show 0 ≤ m by omega) ha0
  have x : hlf (m * a + (m - a) * b) m = a + hlf ((m - a) * b) m := by
    rw [hlf_div (by omega) hm, hlf_div n hm]
    have e : 2 * (m * a + (m - a) * b) + m = 2 * ((m - a) * b) + m + a * (2 * m) := by grind
    rw [e, Int.add_mul_ediv_right _ _ (by omega), Int.add_comm]
  unfold alV
  rw [e1, e2, e4, al_num]
  exact ⟨x, x⟩
/-- a neutral operator leaves the backdrop under a transparent source -/
theorem mc_neutral (hn : neuB o = true) (hk : 1 ≤ k ∧ k ≤ 12) (hm : m = 255 ∨ m = 65535) (h2 : 0 ≤ d) (h3 : d ≤ b) (hb : b ≤ m) : mxOk o k m 0 0 d b = true ∧ mcV o k m 0 0 d b = d := by
  have hn := of_decide_eq_true hn
  have ok : mxOk o k m 0 0 d b = true := mx_iff.2 ⟨⟨hk.1, hk.2, by omega, h3⟩, ⟨by omega, by omega, by omega, hb⟩, hm⟩
  obtain ⟨e1, e2, e3, e4⟩ := mx_at ok
  obtain ⟨p0, q0⟩ := bl_void (k := k) (s := 0) (a := 0) hk (by omega) (by omega) (by omega) h2 h3 (show b ≤ 65535 by omega) (by simp)
  have f := (op_at (k := o) (a := 0) (b := b) (m := m) (by omega) (by omega) hb).2.2.1
  have fb : fbV o 0 b m = m := by rw [f]; unfold fbT; rcases hn with rfl | rfl | rfl | rfl | rfl | rfl <;> simp
  have D0 := (mx_facts ok (by omega) h2).2.2.2.2.2.2.2.2.2.1
  refine ⟨ok, ?_⟩
  rw [mc_flat ok (by omega) h2 (by rw [e2, e3]; exact qq_zero q0)]
  refine round_to D0 ?_
  rw [e1, e4]
  unfold mxN
  rw [p0, fb]
  grind
/-- a fresh operator gives the source on a transparent backdrop -/
theorem mc_fresh (hn : freB o = true) (hk : 1 ≤ k ∧ k ≤ 12) (hm : m = 255 ∨ m = 65535) (h0 : 0 ≤ s) (h1 : s ≤ a) (ha : a ≤ m) : mxOk o k m s a 0 0 = true ∧ mcV o k m s a 0 0 = s := by
  have hn := of_decide_eq_true hn
  have ok : mxOk o k m s a 0 0 = true := mx_iff.2 ⟨⟨hk.1, hk.2, h1, by omega⟩, ⟨by omega, by omega, ha, by omega⟩, hm⟩
  obtain ⟨e1, e2, e3, e4⟩ := mx_at ok
  obtain ⟨p0, q0⟩ := bl_void (k := k) (d := 0) (b := 0) hk h0 h1 (show a ≤ 65535 by omega) (by omega) (by omega) (by omega) (by simp)
  have f := (op_at (k := o) (a := a) (b := 0) (m := m) (by omega) ha (by omega)).2.1
  have fa : faV o a 0 m = m := by rw [f]; unfold faT; rcases hn with rfl | rfl | rfl | rfl | rfl | rfl <;> simp
  have D0 := (mx_facts ok h0 (by omega)).2.2.2.2.2.2.2.2.2.1
  refine ⟨ok, ?_⟩
  rw [mc_flat ok h0 (by omega) (by rw [e2, e3]; exact qq_zero q0)]
  refine round_to D0 ?_
  rw [e1, e4]
  unfold mxN
  rw [p0, fa]
  grind
theorem mc_dst (hk : 1 ≤ k ∧ k ≤ 12) (hm : m = 255 ∨ m = 65535) (h0 : 0 ≤ s) (h1 : s ≤ a) (ha : a ≤ m) (h2 : 0 ≤ d) (h3 : d ≤ b) (hb : b ≤ m) : mxOk 3 k m s a d b = true ∧ mcV 3 k m s a d b = d := by
  have ok : mxOk 3 k m s a d b = true := mx_iff.2 ⟨⟨hk.1, hk.2, h1, h3⟩, ⟨by omega, by omega, ha, hb⟩, hm⟩
  obtain ⟨e1, e2, e3, e4⟩ := mx_at ok
  obtain ⟨_, f1, f2, _⟩ := op_at (k := 3) (a := a) (b := b) (m := m) (by omega) ha hb
  have fa : faV 3 a b m = 0 := f1
  have fb : fbV 3 a b m = m := f2
  have D0 := (mx_facts ok h0 h2).2.2.2.2.2.2.2.2.2.1
  refine ⟨ok, ?_⟩
  rw [mc_flat ok h0 h2 (by rw [e2, fa]; simp)]
  refine round_to D0 ?_
  rw [e1, e4, fa, fb]
  unfold mxN; grind
theorem mc_src (hm : m = 255 ∨ m = 65535) (h0 : 0 ≤ s) (h1 : s ≤ a) (ha : a ≤ m) (h2 : 0 ≤ d) (h3 : d ≤ b) (hb : b ≤ m) : mxOk 2 1 m s a d b = true ∧ mcV 2 1 m s a d b = s := by
  have ok : mxOk 2 1 m s a d b = true := mx_iff.2 ⟨⟨by omega, by omega, h1, h3⟩, ⟨by omega, by omega, ha, hb⟩, hm⟩
  obtain ⟨e1, e2, e3, e4⟩ := mx_at ok
  obtain ⟨_, f1, f2, _⟩ := op_at (k := 2) (a := a) (b := b) (m := m) (by omega) ha hb
  have fa : faV 2 a b m = m := f1
  have fb : fbV 2 a b m = 0 := f2
  have ob : blOk 1 s a d b = true := decide_eq_true ⟨by decide, by decide, h1, h3⟩
  obtain ⟨b1, b2, b3, b4⟩ := bl_at ob
  have b1 : blP 1 s a d b = s * b := b1
  have b2 : blQ 1 s a d b = 0 := b2
  have b4 : blD 1 s a d b = 1 := b4
  have D0 := (mx_facts ok h0 h2).2.2.2.2.2.2.2.2.2.1
  refine ⟨ok, ?_⟩
  rw [mc_flat ok h0 h2 (by rw [e2, b2]; simp)]
  refine round_to D0 ?_
  rw [e1, e4, fa, fb]
  unfold mxN
  rw [b1, b4]; grind
end
end Go.Proofs.YtfjpilehoeendaaDoor
namespace Go.Proofs.YtfjpilehoeendaaDoor
open Go.RowKit PR QR
set_option linter.unusedVariables false

-- SPEC pcOk bz tpB oqB p3 pvfB in3
def pcOk (o k m s0 s1 s2 sa sf d0 d1 d2 da df : Int) : Bool := (decide ((1 ≤ o ∧ o ≤ 12) ∧ (1 ≤ k ∧ k ≤ 12)) && (pvB s0 s1 s2 sa sf m && pvB d0 d1 d2 da df m)) && fullB m
def bz (ok : Bool) (x : Int) : Int := bif ok then x else 0
def tpB (c0 c1 c2 a f : Int) : Bool := decide (c0 = 0 ∧ c1 = 0 ∧ c2 = 0 ∧ a = 0 ∧ f = 0)
def oqB (c0 c1 c2 a f m : Int) : Bool := (fullB m && pvB c0 c1 c2 a f m) && decide (a = m)

def pvfB (c0 c1 c2 a f m : Int) : Bool := fullB m && pvB c0 c1 c2 a f m
def in3 (i : Int) : Bool := decide (0 ≤ i ∧ i ≤ 2)
def p3 (i x y z : Int) : Int := if i = 0 then x else if i = 1 then y else z

def s_transp : List AV → Option QR.Ans
  | [.x (.agg [.v (.int .u16 c0), .v (.int .u16 c1), .v (.int .u16 c2), .v (.int .u16 a), .v (.int .u16 f)])] => some ⟨[.c (.v (.bool (tpB c0 c1 c2 a f)))], [], []⟩
  | _ => none
def s_opaque : List AV → Option QR.Ans
  | [.x (.agg [.v (.int .u16 c0), .v (.int .u16 c1), .v (.int .u16 c2), .v (.int .u16 a), .v (.int .u16 f)]), .x (.c (.v (.int .u16 m)))] => some ⟨[.c (.v (.bool (oqB c0 c1 c2 a f m)))], [], []⟩
  | _ => none
def s_comp : List AV → Option QR.Ans
  | [.x (.c (.v (.int .i64 o))), .x (.c (.v (.int .i64 k))), .x (.c (.v (.int .u16 m))), .x (.agg [.v (.int .u16 s0), .v (.int .u16 s1), .v (.int .u16 s2), .v (.int .u16 sa), .v (.int .u16 sf)]), .x (.agg [.v (.int .u16 d0), .v (.int .u16 d1), .v (.int .u16 d2), .v (.int .u16 da), .v (.int .u16 df)])] => some ⟨[.agg [.v (.int .u16 (bz (pcOk o k m s0 s1 s2 sa sf d0 d1 d2 da df) (mcV o k m s0 sa d0 da))), .v (.int .u16 (bz (pcOk o k m s0 s1 s2 sa sf d0 d1 d2 da df) (mcV o k m s1 sa d1 da))), .v (.int .u16 (bz (pcOk o k m s0 s1 s2 sa sf d0 d1 d2 da df) (mcV o k m s2 sa d2 da))), .v (.int .u16 (bz (pcOk o k m s0 s1 s2 sa sf d0 d1 d2 da df) (alV o sa da m))), .v (.int .u16 (bz (pcOk o k m s0 s1 s2 sa sf d0 d1 d2 da df) (shV o sf df m)))], .c (.v (.bool (pcOk o k m s0 s1 s2 sa sf d0 d1 d2 da df)))], [], [in16 m = true, in16 s0 = true, in16 s1 = true, in16 s2 = true, in16 sa = true, in16 sf = true, in16 d0 = true, in16 d1 = true, in16 d2 = true, in16 da = true, in16 df = true]⟩
  | _ => none

def s_pvf : List AV → Option QR.Ans
  | [.x (.agg [.v (.int .u16 c0), .v (.int .u16 c1), .v (.int .u16 c2), .v (.int .u16 a), .v (.int .u16 f)]), .x (.c (.v (.int .u16 m)))] => some ⟨[.c (.v (.bool (pvfB c0 c1 c2 a f m)))], [], []⟩
  | _ => none
def s_pcol : List AV → Option QR.Ans
  | [.x (.c (.v (.int .i64 i))), .ref 0 [.v (.int .i64 o)], .ref 0 [.v (.int .i64 k)], .ref 0 [.v (.int .u16 m)], .ref 0 [.v (.int .u16 s0), .v (.int .u16 s1), .v (.int .u16 s2), .v (.int .u16 sa), .v (.int .u16 sf)], .ref 0 [.v (.int .u16 d0), .v (.int .u16 d1), .v (.int .u16 d2), .v (.int .u16 da), .v (.int .u16 df)]] => some ⟨[.c (.v (.int .u16 (mcV o k m (p3 i s0 s1 s2) sa (p3 i d0 d1 d2) da))), .c (.v (.bool (mxOk o k m (p3 i s0 s1 s2) sa (p3 i d0 d1 d2) da)))], [[.v (.int .i64 o)], [.v (.int .i64 k)], [.v (.int .u16 m)], [.v (.int .u16 s0), .v (.int .u16 s1), .v (.int .u16 s2), .v (.int .u16 sa), .v (.int .u16 sf)], [.v (.int .u16 d0), .v (.int .u16 d1), .v (.int .u16 d2), .v (.int .u16 da), .v (.int .u16 df)]], [in3 i = true, in16 m = true, in16 s0 = true, in16 s1 = true, in16 s2 = true, in16 sa = true, in16 d0 = true, in16 d1 = true, in16 d2 = true, in16 da = true]⟩
  | _ => none

def o_pvf : QR.Oracle := QR.orc [(32, QR.lift1 s_pvalid)]
def o_opq : QR.Oracle := QR.orc [(46, s_pvf)]
def o_pcol : QR.Oracle := QR.orc [(48, s_mcol)]
def o_comp : QR.Oracle := QR.orc [(46, s_pvf), (47, s_pcol), (49, s_oalpha), (50, s_oshape)]
set_option maxRecDepth 100000 in
theorem pvf_vc (c0 c1 c2 a f m : Int) (V : List QR.XV → List (List QR.CV) → Prop) : QR.evalBody Tryd.prog (o_pvf) (QR.noLoops) (Tryd.f46.body.getD .skip) Tryd.f46.results.toList Tryd.f46.ntmps [.x (.agg [.v (.int .u16 c0), .v (.int .u16 c1), .v (.int .u16 c2), .v (.int .u16 a), .v (.int .u16 f)]), .x (.c (.v (.int .u16 m)))] V = (True ∧ bcond (ieq m 255) (True ∧ True ∧ V [XV.c (CV.v (Value.bool (pvB c0 c1 c2 a f m)))] []) (bcond (ieq m 65535) (True ∧ True ∧ V [XV.c (CV.v (Value.bool (pvB c0 c1 c2 a f m)))] []) (True ∧ True ∧ V [XV.c (CV.v (Value.bool false))] []))) := by
  try delta o_pvf
  try delta s_pvalid
  generalize @pvB = pvB
  kernel_rfl
set_option maxRecDepth 100000 in
theorem pcol_vc (i o k m s0 s1 s2 sa sf d0 d1 d2 da df : Int) (V : List QR.XV → List (List QR.CV) → Prop) : QR.evalBody Tryd.prog (o_pcol) (QR.noLoops) (Tryd.f47.body.getD .skip) Tryd.f47.results.toList Tryd.f47.ntmps [.x (.c (.v (.int .i64 i))), .ref 0 [.v (.int .i64 o)], .ref 0 [.v (.int .i64 k)], .ref 0 [.v (.int .u16 m)], .ref 0 [.v (.int .u16 s0), .v (.int .u16 s1), .v (.int .u16 s2), .v (.int .u16 sa), .v (.int .u16 sf)], .ref 0 [.v (.int .u16 d0), .v (.int .u16 d1), .v (.int .u16 d2), .v (.int .u16 da), .v (.int .u16 df)]] V = (True ∧ bcond (ieq i 0) (bcond (ieq i 0) (∀ (i : Int), i = mcV o k m s0 sa d0 da → (in16 m = true ∧ in16 s0 = true ∧ in16 sa = true ∧ in16 d0 = true ∧ in16 da = true ∧ true = true ∧ true = true ∧ true = true ∧ true = true ∧ True) ∧ True ∧ V [XV.c (CV.v (Value.int .u16 i)), XV.c (CV.v (Value.bool (mxOk o k m s0 sa d0 da)))] [[CV.v (Value.int .i64 o)], [CV.v (Value.int .i64 k)], [CV.v (Value.int .u16 m)], [CV.v (Value.int .u16 s0), CV.v (Value.int .u16 s1), CV.v (Value.int .u16 s2), CV.v (Value.int .u16 sa), CV.v (Value.int .u16 sf)], [CV.v (Value.int .u16 d0), CV.v (Value.int .u16 d1), CV.v (Value.int .u16 d2), CV.v (Value.int .u16 da), CV.v (Value.int .u16 df)]]) (bcond (ieq i 1) (∀ (i : Int), i = mcV o k m s0 sa d1 da → (in16 m = true ∧ in16 s0 = true ∧ in16 sa = true ∧ in16 d1 = true ∧ in16 da = true ∧ true = true ∧ true = true ∧ true = true ∧ true = true ∧ True) ∧ True ∧ V [XV.c (CV.v (Value.int .u16 i)), XV.c (CV.v (Value.bool (mxOk o k m s0 sa d1 da)))] [[CV.v (Value.int .i64 o)], [CV.v (Value.int .i64 k)], [CV.v (Value.int .u16 m)], [CV.v (Value.int .u16 s0), CV.v (Value.int .u16 s1), CV.v (Value.int .u16 s2), CV.v (Value.int .u16 sa), CV.v (Value.int .u16 sf)], [CV.v (Value.int .u16 d0), CV.v (Value.int .u16 d1), CV.v (Value.int .u16 d2), CV.v (Value.int .u16 da), CV.v (Value.int .u16 df)]]) (bcond (ieq i 2) (∀ (i : Int), i = mcV o k m s0 sa d2 da → (in16 m = true ∧ in16 s0 = true ∧ in16 sa = true ∧ in16 d2 = true ∧ in16 da = true ∧ true = true ∧ true = true ∧ true = true ∧ true = true ∧ True) ∧ True ∧ V [XV.c (CV.v (Value.int .u16 i)), XV.c (CV.v (Value.bool (mxOk o k m s0 sa d2 da)))] [[CV.v (Value.int .i64 o)], [CV.v (Value.int .i64 k)], [CV.v (Value.int .u16 m)], [CV.v (Value.int .u16 s0), CV.v (Value.int .u16 s1), CV.v (Value.int .u16 s2), CV.v (Value.int .u16 sa), CV.v (Value.int .u16 sf)], [CV.v (Value.int .u16 d0), CV.v (Value.int .u16 d1), CV.v (Value.int .u16 d2), CV.v (Value.int .u16 da), CV.v (Value.int .u16 df)]]) False))) (bcond (ieq i 1) (bcond (ieq i 0) (∀ (i : Int), i = mcV o k m s1 sa d0 da → (in16 m = true ∧ in16 s1 = true ∧ in16 sa = true ∧ in16 d0 = true ∧ in16 da = true ∧ true = true ∧ true = true ∧ true = true ∧ true = true ∧ True) ∧ True ∧ V [XV.c (CV.v (Value.int .u16 i)), XV.c (CV.v (Value.bool (mxOk o k m s1 sa d0 da)))] [[CV.v (Value.int .i64 o)], [CV.v (Value.int .i64 k)], [CV.v (Value.int .u16 m)], [CV.v (Value.int .u16 s0), CV.v (Value.int .u16 s1), CV.v (Value.int .u16 s2), CV.v (Value.int .u16 sa), CV.v (Value.int .u16 sf)], [CV.v (Value.int .u16 d0), CV.v (Value.int .u16 d1), CV.v (Value.int .u16 d2), CV.v (Value.int .u16 da), CV.v (Value.int .u16 df)]]) (bcond (ieq i 1) (∀ (i : Int), i = mcV o k m s1 sa d1 da → (in16 m = true ∧ in16 s1 = true ∧ in16 sa = true ∧ in16 d1 = true ∧ in16 da = true ∧ true = true ∧ true = true ∧ true = true ∧ true = true ∧ True) ∧ True ∧ V [XV.c (CV.v (Value.int .u16 i)), XV.c (CV.v (Value.bool (mxOk o k m s1 sa d1 da)))] [[CV.v (Value.int .i64 o)], [CV.v (Value.int .i64 k)], [CV.v (Value.int .u16 m)], [CV.v (Value.int .u16 s0), CV.v (Value.int .u16 s1), CV.v (Value.int .u16 s2), CV.v (Value.int .u16 sa), CV.v (Value.int .u16 sf)], [CV.v (Value.int .u16 d0), CV.v (Value.int .u16 d1), CV.v (Value.int .u16 d2), CV.v (Value.int .u16 da), CV.v (Value.int .u16 df)]]) (bcond (ieq i 2) (∀ (i : Int), i = mcV o k m s1 sa d2 da → (in16 m = true ∧ in16 s1 = true ∧ in16 sa = true ∧ in16 d2 = true ∧ in16 da = true ∧ true = true ∧ true = true ∧ true = true ∧ true = true ∧ True) ∧ True ∧ V [XV.c (CV.v (Value.int .u16 i)), XV.c (CV.v (Value.bool (mxOk o k m s1 sa d2 da)))] [[CV.v (Value.int .i64 o)], [CV.v (Value.int .i64 k)], [CV.v (Value.int .u16 m)], [CV.v (Value.int .u16 s0), CV.v (Value.int .u16 s1), CV.v (Value.int .u16 s2), CV.v (Value.int .u16 sa), CV.v (Value.int .u16 sf)], [CV.v (Value.int .u16 d0), CV.v (Value.int .u16 d1), CV.v (Value.int .u16 d2), CV.v (Value.int .u16 da), CV.v (Value.int .u16 df)]]) False))) (bcond (ieq i 2) (bcond (ieq i 0) (∀ (i : Int), i = mcV o k m s2 sa d0 da → (in16 m = true ∧ in16 s2 = true ∧ in16 sa = true ∧ in16 d0 = true ∧ in16 da = true ∧ true = true ∧ true = true ∧ true = true ∧ true = true ∧ True) ∧ True ∧ V [XV.c (CV.v (Value.int .u16 i)), XV.c (CV.v (Value.bool (mxOk o k m s2 sa d0 da)))] [[CV.v (Value.int .i64 o)], [CV.v (Value.int .i64 k)], [CV.v (Value.int .u16 m)], [CV.v (Value.int .u16 s0), CV.v (Value.int .u16 s1), CV.v (Value.int .u16 s2), CV.v (Value.int .u16 sa), CV.v (Value.int .u16 sf)], [CV.v (Value.int .u16 d0), CV.v (Value.int .u16 d1), CV.v (Value.int .u16 d2), CV.v (Value.int .u16 da), CV.v (Value.int .u16 df)]]) (bcond (ieq i 1) (∀ (i : Int), i = mcV o k m s2 sa d1 da → (in16 m = true ∧ in16 s2 = true ∧ in16 sa = true ∧ in16 d1 = true ∧ in16 da = true ∧ true = true ∧ true = true ∧ true = true ∧ true = true ∧ True) ∧ True ∧ V [XV.c (CV.v (Value.int .u16 i)), XV.c (CV.v (Value.bool (mxOk o k m s2 sa d1 da)))] [[CV.v (Value.int .i64 o)], [CV.v (Value.int .i64 k)], [CV.v (Value.int .u16 m)], [CV.v (Value.int .u16 s0), CV.v (Value.int .u16 s1), CV.v (Value.int .u16 s2), CV.v (Value.int .u16 sa), CV.v (Value.int .u16 sf)], [CV.v (Value.int .u16 d0), CV.v (Value.int .u16 d1), CV.v (Value.int .u16 d2), CV.v (Value.int .u16 da), CV.v (Value.int .u16 df)]]) (bcond (ieq i 2) (∀ (i : Int), i = mcV o k m s2 sa d2 da → (in16 m = true ∧ in16 s2 = true ∧ in16 sa = true ∧ in16 d2 = true ∧ in16 da = true ∧ true = true ∧ true = true ∧ true = true ∧ true = true ∧ True) ∧ True ∧ V [XV.c (CV.v (Value.int .u16 i)), XV.c (CV.v (Value.bool (mxOk o k m s2 sa d2 da)))] [[CV.v (Value.int .i64 o)], [CV.v (Value.int .i64 k)], [CV.v (Value.int .u16 m)], [CV.v (Value.int .u16 s0), CV.v (Value.int .u16 s1), CV.v (Value.int .u16 s2), CV.v (Value.int .u16 sa), CV.v (Value.int .u16 sf)], [CV.v (Value.int .u16 d0), CV.v (Value.int .u16 d1), CV.v (Value.int .u16 d2), CV.v (Value.int .u16 da), CV.v (Value.int .u16 df)]]) False))) False))) := by
  try delta o_pcol
  try delta s_mcol
  generalize @in16 = in16
  generalize @mcV = mcV
  generalize @mxOk = mxOk
  kernel_rfl
set_option maxRecDepth 100000 in
theorem comp_vc (o k m s0 s1 s2 sa sf d0 d1 d2 da df : Int) (V : List QR.XV → List (List QR.CV) → Prop) : QR.evalBody Tryd.prog (o_comp) (fun n => bif Nat.beq n 6 then some (.rounds 4) else none) (Tryd.f29.body.getD .skip) Tryd.f29.results.toList Tryd.f29.ntmps [.x (.c (.v (.int .i64 o))), .x (.c (.v (.int .i64 k))), .x (.c (.v (.int .u16 m))), .x (.agg [.v (.int .u16 s0), .v (.int .u16 s1), .v (.int .u16 s2), .v (.int .u16 sa), .v (.int .u16 sf)]), .x (.agg [.v (.int .u16 d0), .v (.int .u16 d1), .v (.int .u16 d2), .v (.int .u16 da), .v (.int .u16 df)])] V = (True ∧ bcond (bnot (pvfB s0 s1 s2 sa sf m)) (True ∧ True ∧ True ∧ V [XV.agg [CV.v (Value.int .u16 0), CV.v (Value.int .u16 0), CV.v (Value.int .u16 0), CV.v (Value.int .u16 0), CV.v (Value.int .u16 0)], XV.c (CV.v (Value.bool false))] []) (True ∧ bcond (bnot (pvfB d0 d1 d2 da df m)) (True ∧ True ∧ V [XV.agg [CV.v (Value.int .u16 0), CV.v (Value.int .u16 0), CV.v (Value.int .u16 0), CV.v (Value.int .u16 0), CV.v (Value.int .u16 0)], XV.c (CV.v (Value.bool false))] []) (True ∧ True ∧ True ∧ True ∧ True ∧ ∀ (i : Int), i = mcV o k m (p3 0 s0 s1 s2) sa (p3 0 d0 d1 d2) da → (in3 0 = true ∧ in16 m = true ∧ in16 s0 = true ∧ in16 s1 = true ∧ in16 s2 = true ∧ in16 sa = true ∧ in16 d0 = true ∧ in16 d1 = true ∧ in16 d2 = true ∧ in16 da = true ∧ True) ∧ True ∧ bcond (bnot (mxOk o k m (p3 0 s0 s1 s2) sa (p3 0 d0 d1 d2) da)) (True ∧ True ∧ V [XV.agg [CV.v (Value.int .u16 0), CV.v (Value.int .u16 0), CV.v (Value.int .u16 0), CV.v (Value.int .u16 0), CV.v (Value.int .u16 0)], XV.c (CV.v (Value.bool false))] []) ((true = true ∧ true = true ∧ True) ∧ True ∧ True ∧ True ∧ ∀ (i_1 : Int), i_1 = mcV o k m (p3 1 s0 s1 s2) sa (p3 1 d0 d1 d2) da → (in3 1 = true ∧ in16 m = true ∧ in16 s0 = true ∧ in16 s1 = true ∧ in16 s2 = true ∧ in16 sa = true ∧ in16 d0 = true ∧ in16 d1 = true ∧ in16 d2 = true ∧ in16 da = true ∧ True) ∧ True ∧ bcond (bnot (mxOk o k m (p3 1 s0 s1 s2) sa (p3 1 d0 d1 d2) da)) (True ∧ True ∧ V [XV.agg [CV.v (Value.int .u16 0), CV.v (Value.int .u16 0), CV.v (Value.int .u16 0), CV.v (Value.int .u16 0), CV.v (Value.int .u16 0)], XV.c (CV.v (Value.bool false))] []) ((true = true ∧ true = true ∧ True) ∧ True ∧ True ∧ True ∧ ∀ (i_2 : Int), i_2 = mcV o k m (p3 2 s0 s1 s2) sa (p3 2 d0 d1 d2) da → (in3 2 = true ∧ in16 m = true ∧ in16 s0 = true ∧ in16 s1 = true ∧ in16 s2 = true ∧ in16 sa = true ∧ in16 d0 = true ∧ in16 d1 = true ∧ in16 d2 = true ∧ in16 da = true ∧ True) ∧ True ∧ bcond (bnot (mxOk o k m (p3 2 s0 s1 s2) sa (p3 2 d0 d1 d2) da)) (True ∧ True ∧ V [XV.agg [CV.v (Value.int .u16 0), CV.v (Value.int .u16 0), CV.v (Value.int .u16 0), CV.v (Value.int .u16 0), CV.v (Value.int .u16 0)], XV.c (CV.v (Value.bool false))] []) ((true = true ∧ true = true ∧ True) ∧ True ∧ True ∧ ∀ (i_3 : Int), i_3 = alV o sa da m → (in16 sa = true ∧ in16 da = true ∧ in16 m = true ∧ True) ∧ ∀ (i_4 : Int), i_4 = shV o sf df m → (in16 sf = true ∧ in16 df = true ∧ in16 m = true ∧ True) ∧ True ∧ True ∧ V [XV.agg [CV.v (Value.int .u16 i), CV.v (Value.int .u16 i_1), CV.v (Value.int .u16 i_2), CV.v (Value.int .u16 i_3), CV.v (Value.int .u16 i_4)], XV.c (CV.v (Value.bool true))] [])))))) := by
  try delta o_comp
  try delta s_pvf
  try delta s_pcol
  try delta s_oalpha
  try delta s_oshape
  generalize @alV = alV
  generalize @in16 = in16
  generalize @in3 = in3
  generalize @mcV = mcV
  generalize @mxOk = mxOk
  generalize @p3 = p3
  generalize @pvfB = pvfB
  generalize @shV = shV
  kernel_rfl
def o_rcomp : QR.Oracle := QR.orc [(36, s_known7), (37, s_known6), (33, s_full8), (26, QR.lift1 s_pvalid), (43, s_oalpha), (38, s_oshape), (40, s_mcol)]
end Go.Proofs.YtfjpilehoeendaaDoor
namespace Go.Proofs.YtfjpilehoeendaaDoor
open Go.RowKit PR QR
set_option linter.unusedVariables false
set_option linter.unusedSimpArgs false

theorem a_pvf : Answers2 46 s_pvf := by
  intro al ans h hq
  unfold s_pvf at h
  split at h <;> try (simp at h; done)
  rename_i c0 c1 c2 a f m
  simp only [Option.some.injEq] at h
  subst h
  have hq := asked hq
  refine QR.does_of_eval (O := o_pvf) (QR.orc_cons (up a_pvalid) QR.orc_nil) mixed (QR.noLoops) Tryd.func46 (by kernel_rfl) (by kernel_rfl) (by simp) ?_
  rw [pvf_vc]
  simp only [bcond_iff, okAns, eqXs, eqX, eqo, eqLo, eqL, eqc, veq, eqUs, forall_eq, true_and, and_true, ieq, beq_iff_eq, beq_eq_false_iff_ne, ne_eq, pvfB, fullB]
  refine ⟨fun c => ?_, fun c => ⟨fun d => ?_, fun d => ?_⟩⟩ <;> simp [c]
  · simp [d]
  · simp [d]
theorem in3_cases {i : Int} (h : in3 i = true) : i = 0 ∨ i = 1 ∨ i = 2 := by
  have := of_decide_eq_true h; omega
theorem a_pcol : Answers2 47 s_pcol := by
  intro al ans h hq
  unfold s_pcol at h
  split at h <;> try (simp at h; done)
  rename_i i o k m s0 s1 s2 sa sf d0 d1 d2 da df
  simp only [Option.some.injEq] at h
  subst h
  have hq := asked hq
  refine QR.does_of_eval (O := o_pcol) (QR.orc_cons a_mcol QR.orc_nil) mixed (QR.noLoops) Tryd.func47 (by kernel_rfl) (by kernel_rfl) (by simp) ?_
  rw [pcol_vc]
  obtain ⟨g, gm, g0, g1, g2, ga, e0, e1, e2, ea, _⟩ := hq
  rcases in3_cases g with rfl | rfl | rfl <;> simp [bcond_iff, okAns, eqXs, eqX, eqo, eqLo, eqL, eqc, veq, eqUs, ieq, p3, gm, g0, g1, g2, ga, e0, e1, e2, ea]
/-- valid pixels: the colours are in order exactly if the operator and the mode are known -/
theorem pv_mx {o k m s0 s1 s2 sa sf d0 d1 d2 da df : Int} (hs : pvfB s0 s1 s2 sa sf m = true) (hd : pvB d0 d1 d2 da df m = true) :
    mxOk o k m s0 sa d0 da = pcOk o k m s0 s1 s2 sa sf d0 d1 d2 da df ∧ mxOk o k m s1 sa d1 da = pcOk o k m s0 s1 s2 sa sf d0 d1 d2 da df ∧ mxOk o k m s2 sa d2 da = pcOk o k m s0 s1 s2 sa sf d0 d1 d2 da df := by
  unfold pvfB at hs
  unfold pcOk mxOk blOk opOk7
  obtain ⟨hf, hs⟩ := Bool.and_eq_true_iff.1 hs
  rw [hf, hs, hd]
  obtain ⟨a0, a1, a2, a3, a4⟩ := of_decide_eq_true hs
  obtain ⟨b0, b1, b2, b3, b4⟩ := of_decide_eq_true hd
  have c1 : sa ≤ m := by omega
  have c2 : da ≤ m := by omega
  refine ⟨?_, ?_, ?_⟩ <;> simp only [a0, a1, a2, b0, b1, b2, c1, c2, and_true, Bool.and_true] <;> rw [Bool.eq_iff_iff] <;> simp only [Bool.and_eq_true, decide_eq_true_eq] <;> grind
theorem bz_t (x : Int) : bz true x = x := rfl
theorem bz_f (x : Int) : bz false x = 0 := rfl
theorem p3s (x y z : Int) : p3 0 x y z = x ∧ p3 1 x y z = y ∧ p3 2 x y z = z := ⟨rfl, rfl, rfl⟩
theorem in3s : in3 0 = true ∧ in3 1 = true ∧ in3 2 = true ∧ in3 (iadd .i64 0 1) = true ∧ in3 (iadd .i64 (iadd .i64 0 1) 1) = true ∧ in3 (iadd .i64 1 1) = true := by decide
theorem a_comp : Answers2 29 s_comp := by
  intro al ans h hq
  unfold s_comp at h
  split at h <;> try (simp at h; done)
  rename_i o k m s0 s1 s2 sa sf d0 d1 d2 da df
  simp only [Option.some.injEq] at h
  subst h
  have hq := asked hq
  refine QR.does_of_eval (O := o_comp) (QR.orc_cons a_pvf (QR.orc_cons a_pcol (QR.orc_cons a_oalpha (QR.orc_cons a_oshape QR.orc_nil)))) mixed ((fun n => bif Nat.beq n 6 then some (.rounds 4) else none)) Tryd.func29 (by kernel_rfl) (by kernel_rfl) (by simp) ?_
  rw [comp_vc]
  obtain ⟨gm, g0, g1, g2, ga, gf, e0, e1, e2, ea, ef, _⟩ := hq
  obtain ⟨t0, t1, t2⟩ := p3s s0 s1 s2
  obtain ⟨u0, u1, u2⟩ := p3s d0 d1 d2
  obtain ⟨i0, i1, i2, i3, i4, i5⟩ := in3s
  cases h : pvfB s0 s1 s2 sa sf m
  · have h' : pcOk o k m s0 s1 s2 sa sf d0 d1 d2 da df = false := by
      unfold pvfB at h; unfold pcOk
      cases x : fullB m <;> cases y : pvB s0 s1 s2 sa sf m <;> simp [x, y] at h ⊢
    simp [bcond_iff, bnot, okAns, eqXs, eqX, eqo, eqLo, eqL, eqc, veq, eqUs, h', bz_f]
  · cases hd : pvfB d0 d1 d2 da df m
    · have h' : pcOk o k m s0 s1 s2 sa sf d0 d1 d2 da df = false := by
        unfold pvfB at hd; unfold pcOk
        cases x : fullB m <;> cases y : pvB d0 d1 d2 da df m <;> simp [x, y] at hd ⊢
      simp [bcond_iff, bnot, okAns, eqXs, eqX, eqo, eqLo, eqL, eqc, veq, eqUs, h', bz_f]
    · obtain ⟨m0, m1, m2⟩ := pv_mx (o := o) (k := k) h (Bool.and_eq_true_iff.1 hd).2
      simp only [t0, t1, t2, u0, u1, u2, m0, m1, m2]
      cases hp : pcOk o k m s0 s1 s2 sa sf d0 d1 d2 da df
      · simp [bcond_iff, bnot, okAns, eqXs, eqX, eqo, eqLo, eqL, eqc, veq, eqUs, bz_f, gm, g0, g1, g2, ga, gf, e0, e1, e2, ea, ef, i0]
      · simp [bcond_iff, bnot, okAns, eqXs, eqX, eqo, eqLo, eqL, eqc, veq, eqUs, bz_t, gm, g0, g1, g2, ga, gf, e0, e1, e2, ea, ef, i0, i1, i2, i3, i4, i5]
/-- a pixel of the generator -/
theorem gp_all (n0 n1 n2 n3 n4 t : Int) : (0 ≤ gpC n0 n3 n4 (gxMax t) ∧ gpC n0 n3 n4 (gxMax t) ≤ gpA n3 n4 (gxMax t)) ∧ (0 ≤ gpC n1 n3 n4 (gxMax t) ∧ gpC n1 n3 n4 (gxMax t) ≤ gpA n3 n4 (gxMax t)) ∧ (0 ≤ gpC n2 n3 n4 (gxMax t) ∧ gpC n2 n3 n4 (gxMax t) ≤ gpA n3 n4 (gxMax t)) ∧
    (0 ≤ gpA n3 n4 (gxMax t) ∧ gpA n3 n4 (gxMax t) ≤ gpF n4 (gxMax t)) ∧ gpF n4 (gxMax t) ≤ gxMax t := by
  have h := gx16 t
  exact ⟨gpC_range n0 n3 n4 h, gpC_range n1 n3 n4 h, gpC_range n2 n3 n4 h, gpA_range n3 n4 h, (gsV_range n4 h).2⟩
theorem in16_of {x m : Int} (h0 : 0 ≤ x) (h1 : x ≤ m) (hm : m = 255 ∨ m = 65535) : in16 x = true := in16_iff.2 ⟨h0, by omega⟩
theorem pc_no_s {o k m s0 s1 s2 sa sf d0 d1 d2 da df : Int} (h : pvB s0 s1 s2 sa sf m = false) : pcOk o k m s0 s1 s2 sa sf d0 d1 d2 da df = false := by unfold pcOk; rw [h]; simp
theorem pc_no_d {o k m s0 s1 s2 sa sf d0 d1 d2 da df : Int} (h : pvB d0 d1 d2 da df m = false) : pcOk o k m s0 s1 s2 sa sf d0 d1 d2 da df = false := by unfold pcOk; rw [h]; simp
theorem pc_iff {o k m s0 s1 s2 sa sf d0 d1 d2 da df : Int} : pcOk o k m s0 s1 s2 sa sf d0 d1 d2 da df = true ↔ ((1 ≤ o ∧ o ≤ 12) ∧ (1 ≤ k ∧ k ≤ 12)) ∧ ((s0 ≤ sa ∧ s1 ≤ sa ∧ s2 ≤ sa ∧ sa ≤ sf ∧ sf ≤ m) ∧ (d0 ≤ da ∧ d1 ≤ da ∧ d2 ≤ da ∧ da ≤ df ∧ df ≤ m)) ∧ (m = 255 ∨ m = 65535) := by
  unfold pcOk pvB fullB
  simp only [Bool.and_eq_true, decide_eq_true_eq, and_assoc]
/-- a composite of valid pixels is valid -/
theorem pc_valid {o k m s0 s1 s2 sa sf d0 d1 d2 da df : Int} (ok : pcOk o k m s0 s1 s2 sa sf d0 d1 d2 da df = true) (s00 : 0 ≤ s0) (s10 : 0 ≤ s1) (s20 : 0 ≤ s2) (d00 : 0 ≤ d0) (d10 : 0 ≤ d1) (d20 : 0 ≤ d2) :
    (0 ≤ mcV o k m s0 sa d0 da ∧ mcV o k m s0 sa d0 da ≤ alV o sa da m) ∧ (0 ≤ mcV o k m s1 sa d1 da ∧ mcV o k m s1 sa d1 da ≤ alV o sa da m) ∧ (0 ≤ mcV o k m s2 sa d2 da ∧ mcV o k m s2 sa d2 da ≤ alV o sa da m) ∧
    (0 ≤ alV o sa da m ∧ alV o sa da m ≤ shV o sf df m) ∧ shV o sf df m ≤ m := by
  obtain ⟨⟨ho, hk⟩, ⟨⟨a0, a1, a2, a3, a4⟩, ⟨b0, b1, b2, b3, b4⟩⟩, hm⟩ := pc_iff.1 ok
  have m0 : mxOk o k m s0 sa d0 da = true := mx_iff.2 ⟨⟨hk.1, hk.2, a0, b0⟩, ⟨ho.1, ho.2, by omega, by omega⟩, hm⟩
  have m1 : mxOk o k m s1 sa d1 da = true := mx_iff.2 ⟨⟨hk.1, hk.2, a1, b1⟩, ⟨ho.1, ho.2, by omega, by omega⟩, hm⟩
  have m2 : mxOk o k m s2 sa d2 da = true := mx_iff.2 ⟨⟨hk.1, hk.2, a2, b2⟩, ⟨ho.1, ho.2, by omega, by omega⟩, hm⟩
  have e0 := (mc_eq m0 s00 d00).2.2
  have e1 := (mc_eq m1 s10 d10).2.2
  have e2 := (mc_eq m2 s20 d20).2.2
  have l := al_le_sh (k := o) (a := sa) (f := sf) (b := da) (g := df) (m := m) ho (by omega) a3 a4 (by omega) b3 b4 (by omega)
  have al := al_range (k := o) (a := sa) (b := da) (m := m) ho (by omega) (by omega) (by omega) (by omega) (by omega)
  have sh := sh_range (k := o) (a := sf) (b := df) (m := m) ho (by omega) (by omega) (by omega) (by omega) (by omega)
  exact ⟨⟨e0.1, e0.2.1⟩, ⟨e1.1, e1.2.1⟩, ⟨e2.1, e2.2.1⟩, ⟨al.1, l⟩, sh.2⟩
/-- .. by src-over in normal mode -/
theorem pc_over {m s0 s1 s2 sa sf d0 d1 d2 da df : Int} (hm : m = 255 ∨ m = 65535) (hs : (0 ≤ s0 ∧ s0 ≤ sa) ∧ (0 ≤ s1 ∧ s1 ≤ sa) ∧ (0 ≤ s2 ∧ s2 ≤ sa) ∧ (0 ≤ sa ∧ sa ≤ sf) ∧ sf ≤ m) (hd : (0 ≤ d0 ∧ d0 ≤ da) ∧ (0 ≤ d1 ∧ d1 ≤ da) ∧ (0 ≤ d2 ∧ d2 ≤ da) ∧ (0 ≤ da ∧ da ≤ df) ∧ df ≤ m) :
    pcOk 4 1 m s0 s1 s2 sa sf d0 d1 d2 da df = true ∧ mcV 4 1 m s0 sa d0 da = s0 + hlf ((m - sa) * d0) m ∧ mcV 4 1 m s1 sa d1 da = s1 + hlf ((m - sa) * d1) m ∧ mcV 4 1 m s2 sa d2 da = s2 + hlf ((m - sa) * d2) m ∧ alV 4 sa da m = sa + hlf ((m - sa) * da) m ∧ shV 4 sf df m = sf + hlf ((m - sf) * df) m := by
  obtain ⟨⟨p0, p1⟩, ⟨q0, q1⟩, ⟨r0, r1⟩, ⟨a0, a1⟩, f1⟩ := hs
  obtain ⟨⟨p2, p3⟩, ⟨q2, q3⟩, ⟨r2, r3⟩, ⟨a2, a3⟩, f3⟩ := hd
  have hm0 : 0 < m := by omega
  refine ⟨pc_iff.2 ⟨by decide, ⟨⟨p1, q1, r1, a1, f1⟩, ⟨p3, q3, r3, a3, f3⟩⟩, hm⟩, (mc_classic hm p0 p1 (by omega) p2 p3 (by omega)).2, (mc_classic hm q0 q1 (by omega) q2 q3 (by omega)).2, (mc_classic hm r0 r1 (by omega) r2 r3 (by omega)).2, (al_over a0 (by omega) a2 (by omega) hm0).1, (al_over (a := sf) (b := df) (by omega) f1 (by omega) f3 hm0).2⟩

end Go.Proofs.YtfjpilehoeendaaDoor
