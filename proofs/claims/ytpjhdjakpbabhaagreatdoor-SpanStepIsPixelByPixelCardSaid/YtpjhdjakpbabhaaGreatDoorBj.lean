import Derived.Test.YtpjhdjakpbabhaaGreatDoorZaa
import Derived.Test.YtpjhdjakpbabhaaGreatDoorBi
import Derived.Test.YtpjhdjakpbabhaaGreatDoorZ0
namespace Go.Proofs.YtpjhdjakpbabhaaGreatDoor
open Go.RowKit PR QR
set_option linter.unusedVariables false
set_option linter.unusedSimpArgs false
theorem qq_zero {f q r : Int} (h : q * q * r = 0) : f * q * (f * q) * r = 0 := by
  have : f * q * (f * q) * r = f * f * (q * q * r) := by grind
  rw [this, h, Int.mul_zero]
section
variable {o k m s a d b : Int}
theorem al_over (ha0 : 0 ≤ a) (ha : a ≤ m) (hb0 : 0 ≤ b) (hb : b ≤ m) (hm : 0 < m) : alV 4 a b m = a + hlf ((m - a) * b) m ∧ shV 4 a b m = a + hlf ((m - a) * b) m := by
  obtain ⟨_, e1, e2, e4⟩ := op_at (k := 4) (a := a) (b := b) (m := m) (by decide) ha hb
  have n := Int.mul_nonneg (show 0 ≤ m - a by omega) hb0
  have n2 := Int.mul_nonneg (show 0 ≤ m by omega) ha0
  have x : hlf (m * a + (m - a) * b) m = a + hlf ((m - a) * b) m := by
    rw [hlf_div (by omega) hm, hlf_div n hm]
    have e : 2 * (m * a + (m - a) * b) + m = 2 * ((m - a) * b) + m + a * (2 * m) := by grind
    rw [e, Int.add_mul_ediv_right _ _ (by omega), Int.add_comm]
  unfold alV
  rw [e1, e2, e4, al_num]
  exact ⟨x, x⟩
theorem mc_neutral (hn : neuB o = true) (hk : 1 ≤ k ∧ k ≤ 12) (hm : m = 255 ∨ m = 65535) (h2 : 0 ≤ d) (h3 : d ≤ b) (hb : b ≤ m) : mxOk o k m 0 0 d b = true ∧ mcV o k m 0 0 d b = d := by
  have hn := of_decide_eq_true hn
  have ok : mxOk o k m 0 0 d b = true := mx_iff.2 ⟨⟨hk.1, hk.2, by omega, h3⟩, ⟨by omega, by omega, by omega, hb⟩, hm⟩
  obtain ⟨e1, e2, e3, e4⟩ := mx_at ok
  obtain ⟨p0, q0⟩ := bl_void (k := k) (s := 0) (a := 0) hk (by omega) (by omega) (by omega) h2 h3 (show b ≤ 65535 by omega) (by simp)
  have f := (op_at (k := o) (a := 0) (b := b) (m := m) (by omega) (by omega) hb).2.2.1
  have fb : fbV o 0 b m = m := by rw [f]; unfold fbT; rcases hn with rfl | rfl | rfl | rfl | rfl | rfl <;> simp
  have D0 := (mx_facts ok (by omega) h2).2.2.2.2.2.2.2.2.2.1
  refine ⟨ok, ?_⟩
  rw [mc_flat ok (by omega) h2 (by rw [e2, e3]; exact qq_zero q0)]
  refine round_to D0 ?_
  rw [e1, e4]
  unfold mxN
  rw [p0, fb]
  grind
end
end Go.Proofs.YtpjhdjakpbabhaaGreatDoor
namespace Go.Proofs.YtpjhdjakpbabhaaGreatDoor
open Go.RowKit PR QR
set_option linter.unusedVariables false
def pcOk (o k m s0 s1 s2 sa sf d0 d1 d2 da df : Int) : Bool := (decide ((1 ≤ o ∧ o ≤ 12) ∧ (1 ≤ k ∧ k ≤ 12)) && (pvB s0 s1 s2 sa sf m && pvB d0 d1 d2 da df m)) && fullB m
def bz (ok : Bool) (x : Int) : Int := bif ok then x else 0
def tpB (c0 c1 c2 a f : Int) : Bool := decide (c0 = 0 ∧ c1 = 0 ∧ c2 = 0 ∧ a = 0 ∧ f = 0)
def oqB (c0 c1 c2 a f m : Int) : Bool := (fullB m && pvB c0 c1 c2 a f m) && decide (a = m)
def pvfB (c0 c1 c2 a f m : Int) : Bool := fullB m && pvB c0 c1 c2 a f m
def in3 (i : Int) : Bool := decide (0 ≤ i ∧ i ≤ 2)
def p3 (i x y z : Int) : Int := if i = 0 then x else if i = 1 then y else z
def s_transp : List AV → Option QR.Ans
  | [.x (.agg [.v (.int .u16 c0), .v (.int .u16 c1), .v (.int .u16 c2), .v (.int .u16 a), .v (.int .u16 f)])] => some ⟨[.c (.v (.bool (tpB c0 c1 c2 a f)))], [], []⟩
  | _ => none
def s_opaque : List AV → Option QR.Ans
  | [.x (.agg [.v (.int .u16 c0), .v (.int .u16 c1), .v (.int .u16 c2), .v (.int .u16 a), .v (.int .u16 f)]), .x (.c (.v (.int .u16 m)))] => some ⟨[.c (.v (.bool (oqB c0 c1 c2 a f m)))], [], []⟩
  | _ => none
def s_comp : List AV → Option QR.Ans
  | [.x (.c (.v (.int .i64 o))), .x (.c (.v (.int .i64 k))), .x (.c (.v (.int .u16 m))), .x (.agg [.v (.int .u16 s0), .v (.int .u16 s1), .v (.int .u16 s2), .v (.int .u16 sa), .v (.int .u16 sf)]), .x (.agg [.v (.int .u16 d0), .v (.int .u16 d1), .v (.int .u16 d2), .v (.int .u16 da), .v (.int .u16 df)])] => some ⟨[.agg [.v (.int .u16 (bz (pcOk o k m s0 s1 s2 sa sf d0 d1 d2 da df) (mcV o k m s0 sa d0 da))), .v (.int .u16 (bz (pcOk o k m s0 s1 s2 sa sf d0 d1 d2 da df) (mcV o k m s1 sa d1 da))), .v (.int .u16 (bz (pcOk o k m s0 s1 s2 sa sf d0 d1 d2 da df) (mcV o k m s2 sa d2 da))), .v (.int .u16 (bz (pcOk o k m s0 s1 s2 sa sf d0 d1 d2 da df) (alV o sa da m))), .v (.int .u16 (bz (pcOk o k m s0 s1 s2 sa sf d0 d1 d2 da df) (shV o sf df m)))], .c (.v (.bool (pcOk o k m s0 s1 s2 sa sf d0 d1 d2 da df)))], [], [in16 m = true, in16 s0 = true, in16 s1 = true, in16 s2 = true, in16 sa = true, in16 sf = true, in16 d0 = true, in16 d1 = true, in16 d2 = true, in16 da = true, in16 df = true]⟩
  | _ => none
def s_pvf : List AV → Option QR.Ans
  | [.x (.agg [.v (.int .u16 c0), .v (.int .u16 c1), .v (.int .u16 c2), .v (.int .u16 a), .v (.int .u16 f)]), .x (.c (.v (.int .u16 m)))] => some ⟨[.c (.v (.bool (pvfB c0 c1 c2 a f m)))], [], []⟩
  | _ => none
def s_pcol : List AV → Option QR.Ans
  | [.x (.c (.v (.int .i64 i))), .ref 0 [.v (.int .i64 o)], .ref 0 [.v (.int .i64 k)], .ref 0 [.v (.int .u16 m)], .ref 0 [.v (.int .u16 s0), .v (.int .u16 s1), .v (.int .u16 s2), .v (.int .u16 sa), .v (.int .u16 sf)], .ref 0 [.v (.int .u16 d0), .v (.int .u16 d1), .v (.int .u16 d2), .v (.int .u16 da), .v (.int .u16 df)]] => some ⟨[.c (.v (.int .u16 (mcV o k m (p3 i s0 s1 s2) sa (p3 i d0 d1 d2) da))), .c (.v (.bool (mxOk o k m (p3 i s0 s1 s2) sa (p3 i d0 d1 d2) da)))], [[.v (.int .i64 o)], [.v (.int .i64 k)], [.v (.int .u16 m)], [.v (.int .u16 s0), .v (.int .u16 s1), .v (.int .u16 s2), .v (.int .u16 sa), .v (.int .u16 sf)], [.v (.int .u16 d0), .v (.int .u16 d1), .v (.int .u16 d2), .v (.int .u16 da), .v (.int .u16 df)]], [in3 i = true, in16 m = true, in16 s0 = true, in16 s1 = true, in16 s2 = true, in16 sa = true, in16 d0 = true, in16 d1 = true, in16 d2 = true, in16 da = true]⟩
  | _ => none
def o_pvf : QR.Oracle := QR.orc [(59, s_pvalid2)]
def o_opq : QR.Oracle := QR.orc [(35, s_pvf)]
def o_pcol : QR.Oracle := QR.orc [(37, s_mcol)]
def o_comp : QR.Oracle := QR.orc [(35, s_pvf), (36, s_pcol), (38, s_oalpha), (39, s_oshape)]
set_option maxRecDepth 100000 in
theorem pvf_vc (c0 c1 c2 a f m : Int) (V : List QR.XV → List (List QR.CV) → Prop) : QR.evalBody Tryz.prog (o_pvf) (QR.noLoops) (Tryz.f35.body.getD .skip) Tryz.f35.results.toList Tryz.f35.ntmps [.x (.agg [.v (.int .u16 c0), .v (.int .u16 c1), .v (.int .u16 c2), .v (.int .u16 a), .v (.int .u16 f)]), .x (.c (.v (.int .u16 m)))] V = (True ∧ bcond (ieq m 255) (True ∧ True ∧ V [XV.c (CV.v (Value.bool (pvB c0 c1 c2 a f m)))] []) (bcond (ieq m 65535) (True ∧ True ∧ V [XV.c (CV.v (Value.bool (pvB c0 c1 c2 a f m)))] []) (True ∧ True ∧ V [XV.c (CV.v (Value.bool false))] []))) := by
  try delta o_pvf
  try delta s_pvalid2
  generalize @pvB = pvB
  kernel_rfl
set_option maxRecDepth 100000 in
theorem transp_vc (c0 c1 c2 a f : Int) (V : List QR.XV → List (List QR.CV) → Prop) : QR.evalBody Tryz.prog (QR.orc []) (QR.noLoops) (Tryz.f74.body.getD .skip) Tryz.f74.results.toList Tryz.f74.ntmps [.x (.agg [.v (.int .u16 c0), .v (.int .u16 c1), .v (.int .u16 c2), .v (.int .u16 a), .v (.int .u16 f)])] V = (True ∧ True ∧ True ∧ V [XV.c (CV.v (Value.bool (band (band (ieq c0 0) (band (ieq c1 0) (band (ieq c2 0) true))) (band (ieq a 0) (band (ieq f 0) true)))))] []) := by
  kernel_rfl
set_option maxRecDepth 100000 in
theorem opaque_vc (c0 c1 c2 a f m : Int) (V : List QR.XV → List (List QR.CV) → Prop) : QR.evalBody Tryz.prog (o_opq) (QR.noLoops) (Tryz.f71.body.getD .skip) Tryz.f71.results.toList Tryz.f71.ntmps [.x (.agg [.v (.int .u16 c0), .v (.int .u16 c1), .v (.int .u16 c2), .v (.int .u16 a), .v (.int .u16 f)]), .x (.c (.v (.int .u16 m)))] V = (True ∧ bcond (pvfB c0 c1 c2 a f m) (True ∧ True ∧ V [XV.c (CV.v (Value.bool (ieq a m)))] []) (True ∧ True ∧ V [XV.c (CV.v (Value.bool false))] [])) := by
  try delta o_opq
  try delta s_pvf
  generalize @pvfB = pvfB
  kernel_rfl
def zz286 (fz0 : Int) (fz1 : Int) (fz2 : Int) (fz3 : Int) (fz4 : Int) (fz5 : Int) (fz6 : Int) (fz7 : Int) : List QR.XV := [XV.c (CV.v (Value.int .u16 fz0)), XV.c (CV.v (Value.bool (mxOk fz1 fz2 fz3 fz4 fz5 fz6 fz7)))]
set_option maxRecDepth 100000 in
theorem pcol_vc (i o k m s0 s1 s2 sa sf d0 d1 d2 da df : Int) (V : List QR.XV → List (List QR.CV) → Prop) : QR.evalBody Tryz.prog (o_pcol) (QR.noLoops) (Tryz.f36.body.getD .skip) Tryz.f36.results.toList Tryz.f36.ntmps [.x (.c (.v (.int .i64 i))), .ref 0 [.v (.int .i64 o)], .ref 0 [.v (.int .i64 k)], .ref 0 [.v (.int .u16 m)], .ref 0 [.v (.int .u16 s0), .v (.int .u16 s1), .v (.int .u16 s2), .v (.int .u16 sa), .v (.int .u16 sf)], .ref 0 [.v (.int .u16 d0), .v (.int .u16 d1), .v (.int .u16 d2), .v (.int .u16 da), .v (.int .u16 df)]] V = (True ∧ bcond (ieq i 0) (bcond (ieq i 0) (∀ (i : Int), i = mcV o k m s0 sa d0 da → (zz270 m s0 sa d0 da) ∧ True ∧ V (zz286 i o k m s0 sa d0 da) [[CV.v (Value.int .i64 o)], [CV.v (Value.int .i64 k)], [CV.v (Value.int .u16 m)], (zz262 s0 s1 s2 sa sf), (zz262 d0 d1 d2 da df)]) (bcond (ieq i 1) (∀ (i : Int), i = mcV o k m s0 sa d1 da → (zz270 m s0 sa d1 da) ∧ True ∧ V (zz286 i o k m s0 sa d1 da) [[CV.v (Value.int .i64 o)], [CV.v (Value.int .i64 k)], [CV.v (Value.int .u16 m)], (zz262 s0 s1 s2 sa sf), (zz262 d0 d1 d2 da df)]) (bcond (ieq i 2) (∀ (i : Int), i = mcV o k m s0 sa d2 da → (zz270 m s0 sa d2 da) ∧ True ∧ V (zz286 i o k m s0 sa d2 da) [[CV.v (Value.int .i64 o)], [CV.v (Value.int .i64 k)], [CV.v (Value.int .u16 m)], (zz262 s0 s1 s2 sa sf), (zz262 d0 d1 d2 da df)]) False))) (bcond (ieq i 1) (bcond (ieq i 0) (∀ (i : Int), i = mcV o k m s1 sa d0 da → (zz270 m s1 sa d0 da) ∧ True ∧ V (zz286 i o k m s1 sa d0 da) [[CV.v (Value.int .i64 o)], [CV.v (Value.int .i64 k)], [CV.v (Value.int .u16 m)], (zz262 s0 s1 s2 sa sf), (zz262 d0 d1 d2 da df)]) (bcond (ieq i 1) (∀ (i : Int), i = mcV o k m s1 sa d1 da → (zz270 m s1 sa d1 da) ∧ True ∧ V (zz286 i o k m s1 sa d1 da) [[CV.v (Value.int .i64 o)], [CV.v (Value.int .i64 k)], [CV.v (Value.int .u16 m)], (zz262 s0 s1 s2 sa sf), (zz262 d0 d1 d2 da df)]) (bcond (ieq i 2) (∀ (i : Int), i = mcV o k m s1 sa d2 da → (zz270 m s1 sa d2 da) ∧ True ∧ V (zz286 i o k m s1 sa d2 da) [[CV.v (Value.int .i64 o)], [CV.v (Value.int .i64 k)], [CV.v (Value.int .u16 m)], (zz262 s0 s1 s2 sa sf), (zz262 d0 d1 d2 da df)]) False))) (bcond (ieq i 2) (bcond (ieq i 0) (∀ (i : Int), i = mcV o k m s2 sa d0 da → (zz270 m s2 sa d0 da) ∧ True ∧ V (zz286 i o k m s2 sa d0 da) [[CV.v (Value.int .i64 o)], [CV.v (Value.int .i64 k)], [CV.v (Value.int .u16 m)], (zz262 s0 s1 s2 sa sf), (zz262 d0 d1 d2 da df)]) (bcond (ieq i 1) (∀ (i : Int), i = mcV o k m s2 sa d1 da → (zz270 m s2 sa d1 da) ∧ True ∧ V (zz286 i o k m s2 sa d1 da) [[CV.v (Value.int .i64 o)], [CV.v (Value.int .i64 k)], [CV.v (Value.int .u16 m)], (zz262 s0 s1 s2 sa sf), (zz262 d0 d1 d2 da df)]) (bcond (ieq i 2) (∀ (i : Int), i = mcV o k m s2 sa d2 da → (zz270 m s2 sa d2 da) ∧ True ∧ V (zz286 i o k m s2 sa d2 da) [[CV.v (Value.int .i64 o)], [CV.v (Value.int .i64 k)], [CV.v (Value.int .u16 m)], (zz262 s0 s1 s2 sa sf), (zz262 d0 d1 d2 da df)]) False))) False))) := by
  delta zz262 zz270 zz286
  try delta o_pcol
  try delta s_mcol
  generalize @in16 = in16
  generalize @mcV = mcV
  generalize @mxOk = mxOk
  kernel_rfl
set_option maxRecDepth 100000 in
theorem comp_vc (o k m s0 s1 s2 sa sf d0 d1 d2 da df : Int) (V : List QR.XV → List (List QR.CV) → Prop) : QR.evalBody Tryz.prog (o_comp) (fun n => bif Nat.beq n 6 then some (.rounds 4) else none) (Tryz.f12.body.getD .skip) Tryz.f12.results.toList Tryz.f12.ntmps [.x (.c (.v (.int .i64 o))), .x (.c (.v (.int .i64 k))), .x (.c (.v (.int .u16 m))), .x (.agg [.v (.int .u16 s0), .v (.int .u16 s1), .v (.int .u16 s2), .v (.int .u16 sa), .v (.int .u16 sf)]), .x (.agg [.v (.int .u16 d0), .v (.int .u16 d1), .v (.int .u16 d2), .v (.int .u16 da), .v (.int .u16 df)])] V = (True ∧ bcond (bnot (pvfB s0 s1 s2 sa sf m)) (True ∧ True ∧ True ∧ V zz274 []) (True ∧ bcond (bnot (pvfB d0 d1 d2 da df m)) (True ∧ True ∧ V zz274 []) (True ∧ True ∧ True ∧ True ∧ True ∧ ∀ (i : Int), i = mcV o k m (p3 0 s0 s1 s2) sa (p3 0 d0 d1 d2) da → (in3 0 = true ∧ (zz302 m s0 s1 s2 sa d0 d1 d2 da)) ∧ True ∧ bcond (bnot (mxOk o k m (p3 0 s0 s1 s2) sa (p3 0 d0 d1 d2) da)) (True ∧ True ∧ V zz274 []) ((true = true ∧ true = true ∧ True) ∧ True ∧ True ∧ True ∧ ∀ (i_1 : Int), i_1 = mcV o k m (p3 1 s0 s1 s2) sa (p3 1 d0 d1 d2) da → (in3 1 = true ∧ (zz302 m s0 s1 s2 sa d0 d1 d2 da)) ∧ True ∧ bcond (bnot (mxOk o k m (p3 1 s0 s1 s2) sa (p3 1 d0 d1 d2) da)) (True ∧ True ∧ V zz274 []) ((true = true ∧ true = true ∧ True) ∧ True ∧ True ∧ True ∧ ∀ (i_2 : Int), i_2 = mcV o k m (p3 2 s0 s1 s2) sa (p3 2 d0 d1 d2) da → (in3 2 = true ∧ (zz302 m s0 s1 s2 sa d0 d1 d2 da)) ∧ True ∧ bcond (bnot (mxOk o k m (p3 2 s0 s1 s2) sa (p3 2 d0 d1 d2) da)) (True ∧ True ∧ V zz274 []) ((true = true ∧ true = true ∧ True) ∧ True ∧ True ∧ ∀ (i_3 : Int), i_3 = alV o sa da m → (in16 sa = true ∧ in16 da = true ∧ in16 m = true ∧ True) ∧ ∀ (i_4 : Int), i_4 = shV o sf df m → (in16 sf = true ∧ in16 df = true ∧ in16 m = true ∧ True) ∧ True ∧ True ∧ V [XV.agg (zz262 i i_1 i_2 i_3 i_4), XV.c (CV.v (Value.bool true))] [])))))) := by
  delta zz262 zz274 zz302
  try delta o_comp
  try delta s_pvf
  try delta s_pcol
  try delta s_oalpha
  try delta s_oshape
  generalize @alV = alV
  generalize @in16 = in16
  generalize @in3 = in3
  generalize @mcV = mcV
  generalize @mxOk = mxOk
  generalize @p3 = p3
  generalize @pvfB = pvfB
  generalize @shV = shV
  kernel_rfl
end Go.Proofs.YtpjhdjakpbabhaaGreatDoor
namespace Go.Proofs.YtpjhdjakpbabhaaGreatDoor
open Go.RowKit PR QR
set_option linter.unusedVariables false
set_option linter.unusedSimpArgs false
theorem a_pvf : Answers2 35 s_pvf := by
  intro al ans h hq
  unfold s_pvf at h
  split at h <;> try (simp at h; done)
  rename_i c0 c1 c2 a f m
  simp only [Option.some.injEq] at h
  subst h
  have hq := asked hq
  refine QR.does_of_eval (O := o_pvf) (QR.orc_cons a_pvalid2 QR.orc_nil) mixed (QR.noLoops) Tryz.func35 (by kernel_rfl) (by kernel_rfl) (by simp) ?_
  rw [pvf_vc]
  simp only [bcond_iff, okAns, eqXs, eqX, eqo, eqLo, eqL, eqc, veq, eqUs, forall_eq, true_and, and_true, ieq, beq_iff_eq, beq_eq_false_iff_ne, ne_eq, pvfB, fullB]
  refine ⟨fun c => ?_, fun c => ⟨fun d => ?_, fun d => ?_⟩⟩ <;> simp [c]
  · simp [d]
  · simp [d]
theorem a_transp : Answers2 74 s_transp := by
  intro al ans h hq
  unfold s_transp at h
  split at h <;> try (simp at h; done)
  rename_i c0 c1 c2 a f
  simp only [Option.some.injEq] at h
  subst h
  have hq := asked hq
  refine QR.does_of_eval (O := (QR.orc [])) QR.orc_nil mixed (QR.noLoops) Tryz.func74 (by kernel_rfl) (by kernel_rfl) (by simp) ?_
  rw [transp_vc]
  simp only [bcond_iff, okAns, eqXs, eqX, eqo, eqLo, eqL, eqc, veq, eqUs, forall_eq, true_and, and_true, ieq, band, tpB]
  by_cases h0 : c0 = 0 <;> by_cases h1 : c1 = 0 <;> by_cases h2 : c2 = 0 <;> by_cases h3 : a = 0 <;> by_cases h4 : f = 0 <;> simp [h0, h1, h2, h3, h4]
theorem a_opaque : Answers2 71 s_opaque := by
  intro al ans h hq
  unfold s_opaque at h
  split at h <;> try (simp at h; done)
  rename_i c0 c1 c2 a f m
  simp only [Option.some.injEq] at h
  subst h
  have hq := asked hq
  refine QR.does_of_eval (O := o_opq) (QR.orc_cons a_pvf QR.orc_nil) mixed (QR.noLoops) Tryz.func71 (by kernel_rfl) (by kernel_rfl) (by simp) ?_
  rw [opaque_vc]
  cases h : pvfB c0 c1 c2 a f m
  · have h' : (fullB m && pvB c0 c1 c2 a f m) = false := h
    simp [bcond_iff, okAns, eqXs, eqX, eqo, eqLo, eqL, eqc, veq, eqUs, oqB, h']
  · have h' : (fullB m && pvB c0 c1 c2 a f m) = true := h
    simp only [bcond_iff, okAns, eqXs, eqX, eqo, eqLo, eqL, eqc, veq, eqUs, oqB, h', Bool.true_and, ieq]
    by_cases e : a = m <;> simp [e]
theorem in3_cases {i : Int} (h : in3 i = true) : i = 0 ∨ i = 1 ∨ i = 2 := by
  have := of_decide_eq_true h; omega
theorem a_pcol : Answers2 36 s_pcol := by
  intro al ans h hq
  unfold s_pcol at h
  split at h <;> try (simp at h; done)
  rename_i i o k m s0 s1 s2 sa sf d0 d1 d2 da df
  simp only [Option.some.injEq] at h
  subst h
  have hq := asked hq
  refine QR.does_of_eval (O := o_pcol) (QR.orc_cons a_mcol QR.orc_nil) mixed (QR.noLoops) Tryz.func36 (by kernel_rfl) (by kernel_rfl) (by simp) ?_
  rw [pcol_vc]
  delta zz262 zz270 zz286
  obtain ⟨g, gm, g0, g1, g2, ga, e0, e1, e2, ea, _⟩ := hq
  rcases in3_cases g with rfl | rfl | rfl <;> simp [bcond_iff, okAns, eqXs, eqX, eqo, eqLo, eqL, eqc, veq, eqUs, ieq, p3, gm, g0, g1, g2, ga, e0, e1, e2, ea]
theorem pv_mx {o k m s0 s1 s2 sa sf d0 d1 d2 da df : Int} (hs : pvfB s0 s1 s2 sa sf m = true) (hd : pvB d0 d1 d2 da df m = true) :
    mxOk o k m s0 sa d0 da = pcOk o k m s0 s1 s2 sa sf d0 d1 d2 da df ∧ mxOk o k m s1 sa d1 da = pcOk o k m s0 s1 s2 sa sf d0 d1 d2 da df ∧ mxOk o k m s2 sa d2 da = pcOk o k m s0 s1 s2 sa sf d0 d1 d2 da df := by
  unfold pvfB at hs
  unfold pcOk mxOk blOk opOk7
  obtain ⟨hf, hs⟩ := Bool.and_eq_true_iff.1 hs
  rw [hf, hs, hd]
  obtain ⟨a0, a1, a2, a3, a4⟩ := of_decide_eq_true hs
  obtain ⟨b0, b1, b2, b3, b4⟩ := of_decide_eq_true hd
  have c1 : sa ≤ m := by omega
  have c2 : da ≤ m := by omega
  refine ⟨?_, ?_, ?_⟩ <;> simp only [a0, a1, a2, b0, b1, b2, c1, c2, and_true, Bool.and_true] <;> rw [Bool.eq_iff_iff] <;> simp only [Bool.and_eq_true, decide_eq_true_eq] <;> grind
theorem bz_t (x : Int) : bz true x = x := rfl
theorem bz_f (x : Int) : bz false x = 0 := rfl
theorem p3s (x y z : Int) : p3 0 x y z = x ∧ p3 1 x y z = y ∧ p3 2 x y z = z := ⟨rfl, rfl, rfl⟩
theorem in3s : in3 0 = true ∧ in3 1 = true ∧ in3 2 = true ∧ in3 (iadd .i64 0 1) = true ∧ in3 (iadd .i64 (iadd .i64 0 1) 1) = true ∧ in3 (iadd .i64 1 1) = true := by decide
theorem a_comp : Answers2 12 s_comp := by
  intro al ans h hq
  unfold s_comp at h
  split at h <;> try (simp at h; done)
  rename_i o k m s0 s1 s2 sa sf d0 d1 d2 da df
  simp only [Option.some.injEq] at h
  subst h
  have hq := asked hq
  refine QR.does_of_eval (O := o_comp) (QR.orc_cons a_pvf (QR.orc_cons a_pcol (QR.orc_cons a_oalpha (QR.orc_cons a_oshape QR.orc_nil)))) mixed ((fun n => bif Nat.beq n 6 then some (.rounds 4) else none)) Tryz.func12 (by kernel_rfl) (by kernel_rfl) (by simp) ?_
  rw [comp_vc]
  delta zz262 zz274 zz302
  obtain ⟨gm, g0, g1, g2, ga, gf, e0, e1, e2, ea, ef, _⟩ := hq
  obtain ⟨t0, t1, t2⟩ := p3s s0 s1 s2
  obtain ⟨u0, u1, u2⟩ := p3s d0 d1 d2
  obtain ⟨i0, i1, i2, i3, i4, i5⟩ := in3s
  cases h : pvfB s0 s1 s2 sa sf m
  · have h' : pcOk o k m s0 s1 s2 sa sf d0 d1 d2 da df = false := by
      unfold pvfB at h; unfold pcOk
      cases x : fullB m <;> cases y : pvB s0 s1 s2 sa sf m <;> simp [x, y] at h ⊢
    simp [bcond_iff, bnot, okAns, eqXs, eqX, eqo, eqLo, eqL, eqc, veq, eqUs, h', bz_f]
  · cases hd : pvfB d0 d1 d2 da df m
    · have h' : pcOk o k m s0 s1 s2 sa sf d0 d1 d2 da df = false := by
        unfold pvfB at hd; unfold pcOk
        cases x : fullB m <;> cases y : pvB d0 d1 d2 da df m <;> simp [x, y] at hd ⊢
      simp [bcond_iff, bnot, okAns, eqXs, eqX, eqo, eqLo, eqL, eqc, veq, eqUs, h', bz_f]
    · obtain ⟨m0, m1, m2⟩ := pv_mx (o := o) (k := k) h (Bool.and_eq_true_iff.1 hd).2
      simp only [t0, t1, t2, u0, u1, u2, m0, m1, m2]
      cases hp : pcOk o k m s0 s1 s2 sa sf d0 d1 d2 da df
      · simp [bcond_iff, bnot, okAns, eqXs, eqX, eqo, eqLo, eqL, eqc, veq, eqUs, bz_f, gm, g0, g1, g2, ga, gf, e0, e1, e2, ea, ef, i0]
      · simp [bcond_iff, bnot, okAns, eqXs, eqX, eqo, eqLo, eqL, eqc, veq, eqUs, bz_t, gm, g0, g1, g2, ga, gf, e0, e1, e2, ea, ef, i0, i1, i2, i3, i4, i5]
end Go.Proofs.YtpjhdjakpbabhaaGreatDoor
