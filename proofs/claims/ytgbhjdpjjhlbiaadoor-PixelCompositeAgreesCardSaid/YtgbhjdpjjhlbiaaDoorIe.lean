/-
  The laws of layer 9 (pixel): each returns true for all arguments in their ranges.
-/
import Derived.Test.YtgbhjdpjjhlbiaaDoorId
namespace Go.Proofs.YtgbhjdpjjhlbiaaDoor
open Go.RowKit PR QR
set_option linter.unusedVariables false
set_option linter.unusedSimpArgs false

/-- a pixel of the generator -/
theorem gp_all (n0 n1 n2 n3 n4 t : Int) : (0 ≤ gpC n0 n3 n4 (gxMax t) ∧ gpC n0 n3 n4 (gxMax t) ≤ gpA n3 n4 (gxMax t)) ∧ (0 ≤ gpC n1 n3 n4 (gxMax t) ∧ gpC n1 n3 n4 (gxMax t) ≤ gpA n3 n4 (gxMax t)) ∧ (0 ≤ gpC n2 n3 n4 (gxMax t) ∧ gpC n2 n3 n4 (gxMax t) ≤ gpA n3 n4 (gxMax t)) ∧
    (0 ≤ gpA n3 n4 (gxMax t) ∧ gpA n3 n4 (gxMax t) ≤ gpF n4 (gxMax t)) ∧ gpF n4 (gxMax t) ≤ gxMax t := by
  have h := gx16 t
  exact ⟨gpC_range n0 n3 n4 h, gpC_range n1 n3 n4 h, gpC_range n2 n3 n4 h, gpA_range n3 n4 h, (gsV_range n4 h).2⟩
theorem in16_of {x m : Int} (h0 : 0 ≤ x) (h1 : x ≤ m) (hm : m = 255 ∨ m = 65535) : in16 x = true := in16_iff.2 ⟨h0, by omega⟩
theorem pc_no_s {o k m s0 s1 s2 sa sf d0 d1 d2 da df : Int} (h : pvB s0 s1 s2 sa sf m = false) : pcOk o k m s0 s1 s2 sa sf d0 d1 d2 da df = false := by unfold pcOk; rw [h]; simp
theorem pc_no_d {o k m s0 s1 s2 sa sf d0 d1 d2 da df : Int} (h : pvB d0 d1 d2 da df m = false) : pcOk o k m s0 s1 s2 sa sf d0 d1 d2 da df = false := by unfold pcOk; rw [h]; simp
theorem pc_iff {o k m s0 s1 s2 sa sf d0 d1 d2 da df : Int} : pcOk o k m s0 s1 s2 sa sf d0 d1 d2 da df = true ↔ ((1 ≤ o ∧ o ≤ 12) ∧ (1 ≤ k ∧ k ≤ 12)) ∧ ((s0 ≤ sa ∧ s1 ≤ sa ∧ s2 ≤ sa ∧ sa ≤ sf ∧ sf ≤ m) ∧ (d0 ≤ da ∧ d1 ≤ da ∧ d2 ≤ da ∧ da ≤ df ∧ df ≤ m)) ∧ (m = 255 ∨ m = 65535) := by
  unfold pcOk pvB fullB
  simp only [Bool.and_eq_true, decide_eq_true_eq, and_assoc]
/-- a composite of valid pixels is valid -/
theorem pc_valid {o k m s0 s1 s2 sa sf d0 d1 d2 da df : Int} (ok : pcOk o k m s0 s1 s2 sa sf d0 d1 d2 da df = true) (s00 : 0 ≤ s0) (s10 : 0 ≤ s1) (s20 : 0 ≤ s2) (d00 : 0 ≤ d0) (d10 : 0 ≤ d1) (d20 : 0 ≤ d2) :
    (0 ≤ mcV o k m s0 sa d0 da ∧ mcV o k m s0 sa d0 da ≤ alV o sa da m) ∧ (0 ≤ mcV o k m s1 sa d1 da ∧ mcV o k m s1 sa d1 da ≤ alV o sa da m) ∧ (0 ≤ mcV o k m s2 sa d2 da ∧ mcV o k m s2 sa d2 da ≤ alV o sa da m) ∧
    (0 ≤ alV o sa da m ∧ alV o sa da m ≤ shV o sf df m) ∧ shV o sf df m ≤ m := by
  obtain ⟨⟨ho, hk⟩, ⟨⟨a0, a1, a2, a3, a4⟩, ⟨b0, b1, b2, b3, b4⟩⟩, hm⟩ := pc_iff.1 ok
  have m0 : mxOk o k m s0 sa d0 da = true := mx_iff.2 ⟨⟨hk.1, hk.2, a0, b0⟩, ⟨ho.1, ho.2, by omega, by omega⟩, hm⟩
  have m1 : mxOk o k m s1 sa d1 da = true := mx_iff.2 ⟨⟨hk.1, hk.2, a1, b1⟩, ⟨ho.1, ho.2, by omega, by omega⟩, hm⟩
  have m2 : mxOk o k m s2 sa d2 da = true := mx_iff.2 ⟨⟨hk.1, hk.2, a2, b2⟩, ⟨ho.1, ho.2, by omega, by omega⟩, hm⟩
  have e0 := (mc_eq m0 s00 d00).2.2
  have e1 := (mc_eq m1 s10 d10).2.2
  have e2 := (mc_eq m2 s20 d20).2.2
  have l := al_le_sh (k := o) (a := sa) (f := sf) (b := da) (g := df) (m := m) ho (by omega) a3 a4 (by omega) b3 b4 (by omega)
  have al := al_range (k := o) (a := sa) (b := da) (m := m) ho (by omega) (by omega) (by omega) (by omega) (by omega)
  have sh := sh_range (k := o) (a := sf) (b := df) (m := m) ho (by omega) (by omega) (by omega) (by omega) (by omega)
  exact ⟨⟨e0.1, e0.2.1⟩, ⟨e1.1, e1.2.1⟩, ⟨e2.1, e2.2.1⟩, ⟨al.1, l⟩, sh.2⟩
/-- .. by src-over in normal mode -/
theorem pc_over {m s0 s1 s2 sa sf d0 d1 d2 da df : Int} (hm : m = 255 ∨ m = 65535) (hs : (0 ≤ s0 ∧ s0 ≤ sa) ∧ (0 ≤ s1 ∧ s1 ≤ sa) ∧ (0 ≤ s2 ∧ s2 ≤ sa) ∧ (0 ≤ sa ∧ sa ≤ sf) ∧ sf ≤ m) (hd : (0 ≤ d0 ∧ d0 ≤ da) ∧ (0 ≤ d1 ∧ d1 ≤ da) ∧ (0 ≤ d2 ∧ d2 ≤ da) ∧ (0 ≤ da ∧ da ≤ df) ∧ df ≤ m) :
    pcOk 4 1 m s0 s1 s2 sa sf d0 d1 d2 da df = true ∧ mcV 4 1 m s0 sa d0 da = s0 + hlf ((m - sa) * d0) m ∧ mcV 4 1 m s1 sa d1 da = s1 + hlf ((m - sa) * d1) m ∧ mcV 4 1 m s2 sa d2 da = s2 + hlf ((m - sa) * d2) m ∧ alV 4 sa da m = sa + hlf ((m - sa) * da) m ∧ shV 4 sf df m = sf + hlf ((m - sf) * df) m := by
  obtain ⟨⟨p0, p1⟩, ⟨q0, q1⟩, ⟨r0, r1⟩, ⟨a0, a1⟩, f1⟩ := hs
  obtain ⟨⟨p2, p3⟩, ⟨q2, q3⟩, ⟨r2, r3⟩, ⟨a2, a3⟩, f3⟩ := hd
  have hm0 : 0 < m := by omega
  refine ⟨pc_iff.2 ⟨by decide, ⟨⟨p1, q1, r1, a1, f1⟩, ⟨p3, q3, r3, a3, f3⟩⟩, hm⟩, (mc_classic hm p0 p1 (by omega) p2 p3 (by omega)).2, (mc_classic hm q0 q1 (by omega) q2 q3 (by omega)).2, (mc_classic hm r0 r1 (by omega) r2 r3 (by omega)).2, (al_over a0 (by omega) a2 (by omega) hm0).1, (al_over (a := sf) (b := df) (by omega) f1 (by omega) f3 hm0).2⟩

theorem a_mx2 : Answers2 21 s_mx2 := by
  intro al ans h hq
  unfold s_mx2 at h
  split at h <;> try (simp at h; done)
  rename_i a b
  simp only [Option.some.injEq] at h
  subst h
  have hq := asked hq
  refine QR.does_of_eval (O := (QR.orc [])) QR.orc_nil mixed (QR.noLoops) Tryd.func21 (by kernel_rfl) (by kernel_rfl) (by simp) ?_
  rw [mx2_vc]
  simp only [bcond_iff, okAns, eqXs, eqX, eqL, eqc, veq, eqUs, forall_eq, true_and, and_true, igt, mx2, decide_eq_true_eq, decide_eq_false_iff_not]
  exact ⟨fun h => by rw [if_pos h], fun h => by rw [if_neg h]⟩
theorem a_apart : Answers2 22 s_apart := by
  intro al ans h hq
  unfold s_apart at h
  split at h <;> try (simp at h; done)
  rename_i a b
  simp only [Option.some.injEq] at h
  subst h
  have hq := asked hq
  refine QR.does_of_eval (O := o_ap9) (QR.orc_cons a_mx2 QR.orc_nil) mixed (QR.noLoops) Tryd.func22 (by kernel_rfl) (by kernel_rfl) (by simp) ?_
  rw [apart_vc]
  obtain ⟨h1, h2, _⟩ := hq
  rw [in16_iff] at h1 h2
  have e1 : isub .i64 a b = a - b := by unfold isub; exact IntWalk.i64_in _ (by omega)
  have e2 : isub .i64 b a = b - a := by unfold isub; exact IntWalk.i64_in _ (by omega)
  simp only [i64_id h1.1 (show a < 9223372036854775808 by omega), i64_id h2.1 (show b < 9223372036854775808 by omega), e1, e2, okAns, eqXs, eqX, eqL, eqc, veq, eqUs, forall_eq, true_and, and_true, apV]
theorem a_awake9 : Answers2 13 s_yes8 := by
  intro al ans h hq
  unfold s_yes8 at h
  split at h <;> try (simp at h; done)
  skip
  simp only [Option.some.injEq] at h
  subst h
  have hq := asked hq
  refine QR.does_of_eval (O := o_aw9) (QR.orc_cons a_comp (QR.orc_cons a_opaque (QR.orc_cons a_transp QR.orc_nil))) mixed (QR.noLoops) Tryd.func13 (by kernel_rfl) (by kernel_rfl) (by simp) ?_
  rw [awake9_vc]
  have p := pc_over (m := 255) (s0 := 1) (s1 := 2) (s2 := 3) (sa := 255) (sf := 255) (d0 := 9) (d1 := 9) (d2 := 9) (da := 10) (df := 20) (by decide) (by decide) (by decide)
  obtain ⟨p1, p2, p3, p4, p5, p6⟩ := p
  have z : (0 : Int) + 0 = 0 := rfl
  have v : ∀ x : Int, hlf ((255 - 255) * x) 255 = 0 := fun x => by rw [show (255 - 255) * x = 0 by simp]; decide
  rw [v] at p2 p3 p4 p5 p6
  have i : ∀ x : Int, 0 ≤ x → x < 65536 → in16 x = true := fun x h k => in16_iff.2 ⟨h, k⟩
  have o : oqB 1 2 3 255 255 255 = true := by decide
  have t : tpB 0 0 0 0 0 = true := by decide
  simp [okAns, eqXs, eqX, eqc, veq, eqUs, bcond_iff, p1, p2, p3, p4, p5, p6, i, ieq, bz_t, o, t, band]

set_option linter.unusedVariables false in
theorem PixelClasses_core (c0 c1 c2 a f n0 n1 n2 n3 n4 m k : Int) (w0 : (Lit.int .u16 c0).wf = true) (w1 : (Lit.int .u16 c1).wf = true) (w2 : (Lit.int .u16 c2).wf = true) (w3 : (Lit.int .u16 a).wf = true) (w4 : (Lit.int .u16 f).wf = true) (w5 : (Lit.int .i64 n0).wf = true) (w6 : (Lit.int .i64 n1).wf = true) (w7 : (Lit.int .i64 n2).wf = true) (w8 : (Lit.int .i64 n3).wf = true) (w9 : (Lit.int .i64 n4).wf = true) (w10 : (Lit.int .u16 m).wf = true) (w11 : (Lit.int .i64 k).wf = true) (w : World) {F : Nat → Prop} (hG : QR.Laid F w) (hF : ∀ k, F k → k < w.heap.size) :
    Calls Tryd.prog 3 #[.agg #[.int .u16 c0, .int .u16 c1, .int .u16 c2, .int .u16 a, .int .u16 f], .agg #[.int .i64 n0, .int .i64 n1, .int .i64 n2, .int .i64 n3, .int .i64 n4], .int .u16 m, .int .i64 k] w fun e w' => e = .returned (.bool true) ∧ Below w.heap.size w w' := by
  refine law_of_eval (O := o_law9) (QR.orc_cons (up a_gmax) (QR.orc_cons (up a_mod) (QR.orc_cons (up a_gpixel) (QR.orc_cons a_full8 (QR.orc_cons (up a_rpvalid) (QR.orc_cons a_transp (QR.orc_cons a_opaque (QR.orc_cons a_comp (QR.orc_cons a_rcomp (QR.orc_cons a_rneu (QR.orc_cons a_rfre (QR.orc_cons a_mx2 (QR.orc_cons a_apart (QR.orc_cons a_awake9 QR.orc_nil)))))))))))))) mixed (QR.noLoops) Tryd.func3 (by kernel_rfl) (vs := [.agg #[.int .u16 c0, .int .u16 c1, .int .u16 c2, .int .u16 a, .int .u16 f], .agg #[.int .i64 n0, .int .i64 n1, .int .i64 n2, .int .i64 n3, .int .i64 n4], .int .u16 m, .int .i64 k]) (xs := [.agg [.v (.int .u16 c0), .v (.int .u16 c1), .v (.int .u16 c2), .v (.int .u16 a), .v (.int .u16 f)], .agg [.v (.int .i64 n0), .v (.int .i64 n1), .v (.int .i64 n2), .v (.int .i64 n3), .v (.int .i64 n4)], .c (.v (.int .u16 m)), .c (.v (.int .i64 k))]) (args := [.x (.agg [.v (.int .u16 c0), .v (.int .u16 c1), .v (.int .u16 c2), .v (.int .u16 a), .v (.int .u16 f)]), .x (.agg [.v (.int .i64 n0), .v (.int .i64 n1), .v (.int .i64 n2), .v (.int .i64 n3), .v (.int .i64 n4)]), .x (.c (.v (.int .u16 m))), .x (.c (.v (.int .i64 k)))]) rfl rfl (by simp) ?_ w hG hF
  rw [PixelClasses_vc]
  have gm := gx16 k
  have tp : ∀ x0 x1 x2 x3 x4 : Int, tpB x0 x1 x2 x3 x4 = (band (band (ieq x0 0) (band (ieq x1 0) (band (ieq x2 0) true))) (band (ieq x3 0) (band (ieq x4 0) true))) := fun x0 x1 x2 x3 x4 => by
    unfold tpB band ieq
    rw [Bool.eq_iff_iff]; simp only [Bool.and_eq_true, decide_eq_true_eq, beq_iff_eq, and_true, and_assoc]
  have gv := gp_valid n0 n1 n2 n3 n4 gm
  have gf : fullB (gxMax k) = true := decide_eq_true (gxMax_cases k)
  have o1 : oqB (gpC n0 n3 n4 (gxMax k)) (gpC n1 n3 n4 (gxMax k)) (gpC n2 n3 n4 (gxMax k)) (gpA n3 n4 (gxMax k)) (gpF n4 (gxMax k)) (gxMax k) = ieq (gpA n3 n4 (gxMax k)) (gxMax k) := by
    unfold oqB; rw [gv, gf]; rfl
  have o2 : oqB 0 0 0 7 7 7 = false := by decide
  have e : ieq a m = decide (a = m) := rfl
  have o3 : oqB c0 c1 c2 a f m = ((fullB m && pvB c0 c1 c2 a f m) && ieq a m) := rfl
  cases h1 : fullB m <;> cases h2 : pvB c0 c1 c2 a f m <;> simp [okAns, eqXs, eqX, eqc, veq, eqUs, bcond_iff, gm, ← tp, o1, o2, o3, h1, h2, beq_rfl', bnot]

set_option linter.unusedVariables false in
theorem PixelCompositeAgrees_core (o k a0 a1 a2 a3 a4 b0 b1 b2 b3 b4 m p0 p1 p2 pa pf q0 q1 q2 qa qf u : Int) (w0 : (Lit.int .i64 o).wf = true) (w1 : (Lit.int .i64 k).wf = true) (w2 : (Lit.int .i64 a0).wf = true) (w3 : (Lit.int .i64 a1).wf = true) (w4 : (Lit.int .i64 a2).wf = true) (w5 : (Lit.int .i64 a3).wf = true) (w6 : (Lit.int .i64 a4).wf = true) (w7 : (Lit.int .i64 b0).wf = true) (w8 : (Lit.int .i64 b1).wf = true) (w9 : (Lit.int .i64 b2).wf = true) (w10 : (Lit.int .i64 b3).wf = true) (w11 : (Lit.int .i64 b4).wf = true) (w12 : (Lit.int .i64 m).wf = true) (w13 : (Lit.int .u16 p0).wf = true) (w14 : (Lit.int .u16 p1).wf = true) (w15 : (Lit.int .u16 p2).wf = true) (w16 : (Lit.int .u16 pa).wf = true) (w17 : (Lit.int .u16 pf).wf = true) (w18 : (Lit.int .u16 q0).wf = true) (w19 : (Lit.int .u16 q1).wf = true) (w20 : (Lit.int .u16 q2).wf = true) (w21 : (Lit.int .u16 qa).wf = true) (w22 : (Lit.int .u16 qf).wf = true) (w23 : (Lit.int .u16 u).wf = true) (w : World) {F : Nat → Prop} (hG : QR.Laid F w) (hF : ∀ k, F k → k < w.heap.size) :
    Calls Tryd.prog 4 #[.int .i64 o, .int .i64 k, .agg #[.int .i64 a0, .int .i64 a1, .int .i64 a2, .int .i64 a3, .int .i64 a4], .agg #[.int .i64 b0, .int .i64 b1, .int .i64 b2, .int .i64 b3, .int .i64 b4], .int .i64 m, .agg #[.int .u16 p0, .int .u16 p1, .int .u16 p2, .int .u16 pa, .int .u16 pf], .agg #[.int .u16 q0, .int .u16 q1, .int .u16 q2, .int .u16 qa, .int .u16 qf], .int .u16 u] w fun e w' => e = .returned (.bool true) ∧ Below w.heap.size w w' := by
  refine law_of_eval (O := o_law9) (QR.orc_cons (up a_gmax) (QR.orc_cons (up a_mod) (QR.orc_cons (up a_gpixel) (QR.orc_cons a_full8 (QR.orc_cons (up a_rpvalid) (QR.orc_cons a_transp (QR.orc_cons a_opaque (QR.orc_cons a_comp (QR.orc_cons a_rcomp (QR.orc_cons a_rneu (QR.orc_cons a_rfre (QR.orc_cons a_mx2 (QR.orc_cons a_apart (QR.orc_cons a_awake9 QR.orc_nil)))))))))))))) mixed (QR.noLoops) Tryd.func4 (by kernel_rfl) (vs := [.int .i64 o, .int .i64 k, .agg #[.int .i64 a0, .int .i64 a1, .int .i64 a2, .int .i64 a3, .int .i64 a4], .agg #[.int .i64 b0, .int .i64 b1, .int .i64 b2, .int .i64 b3, .int .i64 b4], .int .i64 m, .agg #[.int .u16 p0, .int .u16 p1, .int .u16 p2, .int .u16 pa, .int .u16 pf], .agg #[.int .u16 q0, .int .u16 q1, .int .u16 q2, .int .u16 qa, .int .u16 qf], .int .u16 u]) (xs := [.c (.v (.int .i64 o)), .c (.v (.int .i64 k)), .agg [.v (.int .i64 a0), .v (.int .i64 a1), .v (.int .i64 a2), .v (.int .i64 a3), .v (.int .i64 a4)], .agg [.v (.int .i64 b0), .v (.int .i64 b1), .v (.int .i64 b2), .v (.int .i64 b3), .v (.int .i64 b4)], .c (.v (.int .i64 m)), .agg [.v (.int .u16 p0), .v (.int .u16 p1), .v (.int .u16 p2), .v (.int .u16 pa), .v (.int .u16 pf)], .agg [.v (.int .u16 q0), .v (.int .u16 q1), .v (.int .u16 q2), .v (.int .u16 qa), .v (.int .u16 qf)], .c (.v (.int .u16 u))]) (args := [.x (.c (.v (.int .i64 o))), .x (.c (.v (.int .i64 k))), .x (.agg [.v (.int .i64 a0), .v (.int .i64 a1), .v (.int .i64 a2), .v (.int .i64 a3), .v (.int .i64 a4)]), .x (.agg [.v (.int .i64 b0), .v (.int .i64 b1), .v (.int .i64 b2), .v (.int .i64 b3), .v (.int .i64 b4)]), .x (.c (.v (.int .i64 m))), .x (.agg [.v (.int .u16 p0), .v (.int .u16 p1), .v (.int .u16 p2), .v (.int .u16 pa), .v (.int .u16 pf)]), .x (.agg [.v (.int .u16 q0), .v (.int .u16 q1), .v (.int .u16 q2), .v (.int .u16 qa), .v (.int .u16 qf)]), .x (.c (.v (.int .u16 u)))]) rfl rfl (by simp) ?_ w hG hF
  rw [PixelCompositeAgrees_vc]
  have k14 : modOk 14 = true := rfl
  have gm := gx16 m
  have g0 := wf16 w13
  have g1 := wf16 w14
  have g2 := wf16 w15
  have g3 := wf16 w16
  have g4 := wf16 w17
  have g5 := wf16 w18
  have g6 := wf16 w19
  have g7 := wf16 w20
  have g8 := wf16 w21
  have g9 := wf16 w22
  have gu := wf16 w23
  simp [okAns, eqXs, eqX, eqc, veq, eqUs, bcond_iff, gm, k14, ieq_rfl', beq_rfl', band, gpC_in16, gpA_in16, gpF_in16, g0, g1, g2, g3, g4, g5, g6, g7, g8, g9, gu]

set_option linter.unusedVariables false in
theorem PixelStaysValid_core (o k a0 a1 a2 a3 a4 b0 b1 b2 b3 b4 m : Int) (w0 : (Lit.int .i64 o).wf = true) (w1 : (Lit.int .i64 k).wf = true) (w2 : (Lit.int .i64 a0).wf = true) (w3 : (Lit.int .i64 a1).wf = true) (w4 : (Lit.int .i64 a2).wf = true) (w5 : (Lit.int .i64 a3).wf = true) (w6 : (Lit.int .i64 a4).wf = true) (w7 : (Lit.int .i64 b0).wf = true) (w8 : (Lit.int .i64 b1).wf = true) (w9 : (Lit.int .i64 b2).wf = true) (w10 : (Lit.int .i64 b3).wf = true) (w11 : (Lit.int .i64 b4).wf = true) (w12 : (Lit.int .i64 m).wf = true) (w : World) {F : Nat → Prop} (hG : QR.Laid F w) (hF : ∀ k, F k → k < w.heap.size) :
    Calls Tryd.prog 6 #[.int .i64 o, .int .i64 k, .agg #[.int .i64 a0, .int .i64 a1, .int .i64 a2, .int .i64 a3, .int .i64 a4], .agg #[.int .i64 b0, .int .i64 b1, .int .i64 b2, .int .i64 b3, .int .i64 b4], .int .i64 m] w fun e w' => e = .returned (.bool true) ∧ Below w.heap.size w w' := by
  refine law_of_eval (O := o_law9) (QR.orc_cons (up a_gmax) (QR.orc_cons (up a_mod) (QR.orc_cons (up a_gpixel) (QR.orc_cons a_full8 (QR.orc_cons (up a_rpvalid) (QR.orc_cons a_transp (QR.orc_cons a_opaque (QR.orc_cons a_comp (QR.orc_cons a_rcomp (QR.orc_cons a_rneu (QR.orc_cons a_rfre (QR.orc_cons a_mx2 (QR.orc_cons a_apart (QR.orc_cons a_awake9 QR.orc_nil)))))))))))))) mixed (QR.noLoops) Tryd.func6 (by kernel_rfl) (vs := [.int .i64 o, .int .i64 k, .agg #[.int .i64 a0, .int .i64 a1, .int .i64 a2, .int .i64 a3, .int .i64 a4], .agg #[.int .i64 b0, .int .i64 b1, .int .i64 b2, .int .i64 b3, .int .i64 b4], .int .i64 m]) (xs := [.c (.v (.int .i64 o)), .c (.v (.int .i64 k)), .agg [.v (.int .i64 a0), .v (.int .i64 a1), .v (.int .i64 a2), .v (.int .i64 a3), .v (.int .i64 a4)], .agg [.v (.int .i64 b0), .v (.int .i64 b1), .v (.int .i64 b2), .v (.int .i64 b3), .v (.int .i64 b4)], .c (.v (.int .i64 m))]) (args := [.x (.c (.v (.int .i64 o))), .x (.c (.v (.int .i64 k))), .x (.agg [.v (.int .i64 a0), .v (.int .i64 a1), .v (.int .i64 a2), .v (.int .i64 a3), .v (.int .i64 a4)]), .x (.agg [.v (.int .i64 b0), .v (.int .i64 b1), .v (.int .i64 b2), .v (.int .i64 b3), .v (.int .i64 b4)]), .x (.c (.v (.int .i64 m)))]) rfl rfl (by simp) ?_ w hG hF
  rw [PixelStaysValid_vc]
  have k12 : modOk 12 = true := rfl
  have e1 := (gmod_i64 (op := o) (k := 12) (by decide) (by decide)).1
  have e2 := (gmod_i64 (op := k) (k := 12) (by decide) (by decide)).1
  have r1 := gmod_range o (k := 12) (by decide)
  have r2 := gmod_range k (k := 12) (by decide)
  have gm := gx16 m
  have hM := gxMax_cases m
  obtain ⟨p0, p1, p2, p3, p4⟩ := gp_all a0 a1 a2 a3 a4 m
  obtain ⟨q0, q1, q2, q3, q4⟩ := gp_all b0 b1 b2 b3 b4 m
  have ok : pcOk (1 + gmod o 12) (1 + gmod k 12) (gxMax m) (gpC a0 a3 a4 (gxMax m)) (gpC a1 a3 a4 (gxMax m)) (gpC a2 a3 a4 (gxMax m)) (gpA a3 a4 (gxMax m)) (gpF a4 (gxMax m)) (gpC b0 b3 b4 (gxMax m)) (gpC b1 b3 b4 (gxMax m)) (gpC b2 b3 b4 (gxMax m)) (gpA b3 b4 (gxMax m)) (gpF b4 (gxMax m)) = true :=
    pc_iff.2 ⟨⟨by omega, by omega⟩, ⟨⟨p0.2, p1.2, p2.2, p3.2, p4⟩, ⟨q0.2, q1.2, q2.2, q3.2, q4⟩⟩, hM⟩
  obtain ⟨v0, v1, v2, v3, v4⟩ := pc_valid ok p0.1 p1.1 p2.1 q0.1 q1.1 q2.1
  have pv : pvB (mcV (1 + gmod o 12) (1 + gmod k 12) (gxMax m) (gpC a0 a3 a4 (gxMax m)) (gpA a3 a4 (gxMax m)) (gpC b0 b3 b4 (gxMax m)) (gpA b3 b4 (gxMax m))) (mcV (1 + gmod o 12) (1 + gmod k 12) (gxMax m) (gpC a1 a3 a4 (gxMax m)) (gpA a3 a4 (gxMax m)) (gpC b1 b3 b4 (gxMax m)) (gpA b3 b4 (gxMax m))) (mcV (1 + gmod o 12) (1 + gmod k 12) (gxMax m) (gpC a2 a3 a4 (gxMax m)) (gpA a3 a4 (gxMax m)) (gpC b2 b3 b4 (gxMax m)) (gpA b3 b4 (gxMax m))) (alV (1 + gmod o 12) (gpA a3 a4 (gxMax m)) (gpA b3 b4 (gxMax m)) (gxMax m)) (shV (1 + gmod o 12) (gpF a4 (gxMax m)) (gpF b4 (gxMax m)) (gxMax m)) (gxMax m) = true := decide_eq_true ⟨v0.2, v1.2, v2.2, v3.2, v4⟩
  simp [okAns, eqXs, eqX, eqc, veq, eqUs, bcond_iff, gm, k12, e1, e2, gpC_in16, gpA_in16, gpF_in16, ok, bz_t, pv]
set_option linter.unusedVariables false in
theorem PixelIdentities_core (o k a0 a1 a2 a3 a4 b0 b1 b2 b3 b4 m : Int) (w0 : (Lit.int .i64 o).wf = true) (w1 : (Lit.int .i64 k).wf = true) (w2 : (Lit.int .i64 a0).wf = true) (w3 : (Lit.int .i64 a1).wf = true) (w4 : (Lit.int .i64 a2).wf = true) (w5 : (Lit.int .i64 a3).wf = true) (w6 : (Lit.int .i64 a4).wf = true) (w7 : (Lit.int .i64 b0).wf = true) (w8 : (Lit.int .i64 b1).wf = true) (w9 : (Lit.int .i64 b2).wf = true) (w10 : (Lit.int .i64 b3).wf = true) (w11 : (Lit.int .i64 b4).wf = true) (w12 : (Lit.int .i64 m).wf = true) (w : World) {F : Nat → Prop} (hG : QR.Laid F w) (hF : ∀ k, F k → k < w.heap.size) :
    Calls Tryd.prog 7 #[.int .i64 o, .int .i64 k, .agg #[.int .i64 a0, .int .i64 a1, .int .i64 a2, .int .i64 a3, .int .i64 a4], .agg #[.int .i64 b0, .int .i64 b1, .int .i64 b2, .int .i64 b3, .int .i64 b4], .int .i64 m] w fun e w' => e = .returned (.bool true) ∧ Below w.heap.size w w' := by
  refine law_of_eval (O := o_law9) (QR.orc_cons (up a_gmax) (QR.orc_cons (up a_mod) (QR.orc_cons (up a_gpixel) (QR.orc_cons a_full8 (QR.orc_cons (up a_rpvalid) (QR.orc_cons a_transp (QR.orc_cons a_opaque (QR.orc_cons a_comp (QR.orc_cons a_rcomp (QR.orc_cons a_rneu (QR.orc_cons a_rfre (QR.orc_cons a_mx2 (QR.orc_cons a_apart (QR.orc_cons a_awake9 QR.orc_nil)))))))))))))) mixed (QR.noLoops) Tryd.func7 (by kernel_rfl) (vs := [.int .i64 o, .int .i64 k, .agg #[.int .i64 a0, .int .i64 a1, .int .i64 a2, .int .i64 a3, .int .i64 a4], .agg #[.int .i64 b0, .int .i64 b1, .int .i64 b2, .int .i64 b3, .int .i64 b4], .int .i64 m]) (xs := [.c (.v (.int .i64 o)), .c (.v (.int .i64 k)), .agg [.v (.int .i64 a0), .v (.int .i64 a1), .v (.int .i64 a2), .v (.int .i64 a3), .v (.int .i64 a4)], .agg [.v (.int .i64 b0), .v (.int .i64 b1), .v (.int .i64 b2), .v (.int .i64 b3), .v (.int .i64 b4)], .c (.v (.int .i64 m))]) (args := [.x (.c (.v (.int .i64 o))), .x (.c (.v (.int .i64 k))), .x (.agg [.v (.int .i64 a0), .v (.int .i64 a1), .v (.int .i64 a2), .v (.int .i64 a3), .v (.int .i64 a4)]), .x (.agg [.v (.int .i64 b0), .v (.int .i64 b1), .v (.int .i64 b2), .v (.int .i64 b3), .v (.int .i64 b4)]), .x (.c (.v (.int .i64 m)))]) rfl rfl (by simp) ?_ w hG hF
  rw [PixelIdentities_vc]
  have k12 : modOk 12 = true := rfl
  have e1 := (gmod_i64 (op := o) (k := 12) (by decide) (by decide)).1
  have e2 := (gmod_i64 (op := k) (k := 12) (by decide) (by decide)).1
  have r1 := gmod_range o (k := 12) (by decide)
  have r2 := gmod_range k (k := 12) (by decide)
  have gm := gx16 m
  have hM := gxMax_cases m
  have i0 : in16 0 = true := rfl
  obtain ⟨p0, p1, p2, p3, p4⟩ := gp_all a0 a1 a2 a3 a4 m
  obtain ⟨q0, q1, q2, q3, q4⟩ := gp_all b0 b1 b2 b3 b4 m
  simp only [okAns, eqXs, eqX, eqc, veq, eqUs, bcond_iff, forall_eq, true_and, and_true, gm, k12, e1, e2, i0, gpC_in16, gpA_in16, gpF_in16]
  generalize gpC a0 a3 a4 (gxMax m) = s0 at *
  generalize gpC a1 a3 a4 (gxMax m) = s1 at *
  generalize gpC a2 a3 a4 (gxMax m) = s2 at *
  generalize gpA a3 a4 (gxMax m) = sa at *
  generalize gpF a4 (gxMax m) = sf at *
  generalize gpC b0 b3 b4 (gxMax m) = d0 at *
  generalize gpC b1 b3 b4 (gxMax m) = d1 at *
  generalize gpC b2 b3 b4 (gxMax m) = d2 at *
  generalize gpA b3 b4 (gxMax m) = da at *
  generalize gpF b4 (gxMax m) = df at *
  obtain ⟨O, hO⟩ : ∃ O, O = 1 + gmod o 12 := ⟨_, rfl⟩
  obtain ⟨K, hK⟩ : ∃ K, K = 1 + gmod k 12 := ⟨_, rfl⟩
  rw [← hO, ← hK]
  have O1 : 1 ≤ O ∧ O ≤ 12 := by omega
  have K1 : 1 ≤ K ∧ K ≤ 12 := by omega
  generalize gxMax m = M at *
  have z : (0 : Int) ≤ 0 := by omega
  have hM0 : 0 < M := by omega
  have x1 : pcOk O K M 0 0 0 0 0 d0 d1 d2 da df = true := pc_iff.2 ⟨⟨O1, K1⟩, ⟨⟨z, z, z, z, by omega⟩, ⟨q0.2, q1.2, q2.2, q3.2, q4⟩⟩, hM⟩
  have x2 : pcOk O K M s0 s1 s2 sa sf 0 0 0 0 0 = true := pc_iff.2 ⟨⟨O1, K1⟩, ⟨⟨p0.2, p1.2, p2.2, p3.2, p4⟩, ⟨z, z, z, z, by omega⟩⟩, hM⟩
  have x3 : pcOk 3 K M s0 s1 s2 sa sf d0 d1 d2 da df = true := pc_iff.2 ⟨⟨by decide, K1⟩, ⟨⟨p0.2, p1.2, p2.2, p3.2, p4⟩, ⟨q0.2, q1.2, q2.2, q3.2, q4⟩⟩, hM⟩
  have x4 : pcOk 2 1 M s0 s1 s2 sa sf d0 d1 d2 da df = true := pc_iff.2 ⟨by decide, ⟨⟨p0.2, p1.2, p2.2, p3.2, p4⟩, ⟨q0.2, q1.2, q2.2, q3.2, q4⟩⟩, hM⟩
  have y3 := (mc_dst (k := K) K1 hM p0.1 p0.2 (by omega) q0.1 q0.2 (by omega)).2
  have y4 := (mc_dst (k := K) K1 hM p1.1 p1.2 (by omega) q1.1 q1.2 (by omega)).2
  have y5 := (mc_dst (k := K) K1 hM p2.1 p2.2 (by omega) q2.1 q2.2 (by omega)).2
  have y6 := (mc_src hM p0.1 p0.2 (by omega) q0.1 q0.2 (by omega)).2
  have y7 := (mc_src hM p1.1 p1.2 (by omega) q1.1 q1.2 (by omega)).2
  have y8 := (mc_src hM p2.1 p2.2 (by omega) q2.1 q2.2 (by omega)).2
  have al : alV 3 sa da M = da ∧ shV 3 sf df M = df ∧ alV 2 sa da M = sa ∧ shV 2 sf df M = sf := by
    obtain ⟨_, f1, f2, _⟩ := op_at (k := 3) (a := sa) (b := da) (m := M) (by decide) (by omega) (by omega)
    obtain ⟨_, g1, g2, _⟩ := op_at (k := 2) (a := sa) (b := da) (m := M) (by decide) (by omega) (by omega)
    obtain ⟨_, _, _, f4⟩ := op_at (k := 3) (a := sf) (b := df) (m := M) (by decide) (by omega) (by omega)
    obtain ⟨_, _, _, g4⟩ := op_at (k := 2) (a := sf) (b := df) (m := M) (by decide) (by omega) (by omega)
    have w1 := hlf_exact (show 0 ≤ da by omega) hM0
    have w2 := hlf_exact (show 0 ≤ sa by omega) hM0
    refine ⟨?_, by rw [f4]; rfl, ?_, by rw [g4]; rfl⟩
    · unfold alV; rw [f1, f2]; show hlf (0 * sa + M * da) M = da; rw [Int.zero_mul, Int.zero_add, w1]
    · unfold alV; rw [g1, g2]; show hlf (M * sa + 0 * da) M = sa; rw [Int.zero_mul, Int.add_zero, w2]
  obtain ⟨l1, l2, l3, l4⟩ := al
  cases hn : neuB O <;> cases hf : freB O
  · simp [x1, x2, x3, x4, y3, y4, y5, y6, y7, y8, l1, l2, l3, l4, bz_t, bnot, band, ieq_rfl']
  · have f1 := (mc_fresh (k := K) hf K1 hM p0.1 p0.2 (by omega)).2
    have f2 := (mc_fresh (k := K) hf K1 hM p1.1 p1.2 (by omega)).2
    have f3 := (mc_fresh (k := K) hf K1 hM p2.1 p2.2 (by omega)).2
    have f4 := (op_fresh hf (a := sa) (m := M) (by omega) (by omega) hM0).1
    have f5 := (op_fresh hf (a := sf) (m := M) (by omega) (by omega) hM0).2
    simp [x1, x2, x3, x4, y3, y4, y5, y6, y7, y8, l1, l2, l3, l4, bz_t, bnot, band, ieq_rfl', f1, f2, f3, f4, f5]
  · have g1 := (mc_neutral (k := K) hn K1 hM q0.1 q0.2 (by omega)).2
    have g2 := (mc_neutral (k := K) hn K1 hM q1.1 q1.2 (by omega)).2
    have g3 := (mc_neutral (k := K) hn K1 hM q2.1 q2.2 (by omega)).2
    have g4 := (op_neutral hn (b := da) (m := M) (by omega) (by omega) hM0).1
    have g5 := (op_neutral hn (b := df) (m := M) (by omega) (by omega) hM0).2
    simp [x1, x2, x3, x4, y3, y4, y5, y6, y7, y8, l1, l2, l3, l4, bz_t, bnot, band, ieq_rfl', g1, g2, g3, g4, g5]
  · have f1 := (mc_fresh (k := K) hf K1 hM p0.1 p0.2 (by omega)).2
    have f2 := (mc_fresh (k := K) hf K1 hM p1.1 p1.2 (by omega)).2
    have f3 := (mc_fresh (k := K) hf K1 hM p2.1 p2.2 (by omega)).2
    have f4 := (op_fresh hf (a := sa) (m := M) (by omega) (by omega) hM0).1
    have f5 := (op_fresh hf (a := sf) (m := M) (by omega) (by omega) hM0).2
    have g1 := (mc_neutral (k := K) hn K1 hM q0.1 q0.2 (by omega)).2
    have g2 := (mc_neutral (k := K) hn K1 hM q1.1 q1.2 (by omega)).2
    have g3 := (mc_neutral (k := K) hn K1 hM q2.1 q2.2 (by omega)).2
    have g4 := (op_neutral hn (b := da) (m := M) (by omega) (by omega) hM0).1
    have g5 := (op_neutral hn (b := df) (m := M) (by omega) (by omega) hM0).2
    simp [x1, x2, x3, x4, y3, y4, y5, y6, y7, y8, l1, l2, l3, l4, bz_t, bnot, band, ieq_rfl', f1, f2, f3, f4, f5, g1, g2, g3, g4, g5]

set_option linter.unusedVariables false in
theorem PixelRejectsOneSample_core (o k a0 a1 a2 a3 a4 b0 b1 b2 b3 b4 m u : Int) (w0 : (Lit.int .i64 o).wf = true) (w1 : (Lit.int .i64 k).wf = true) (w2 : (Lit.int .i64 a0).wf = true) (w3 : (Lit.int .i64 a1).wf = true) (w4 : (Lit.int .i64 a2).wf = true) (w5 : (Lit.int .i64 a3).wf = true) (w6 : (Lit.int .i64 a4).wf = true) (w7 : (Lit.int .i64 b0).wf = true) (w8 : (Lit.int .i64 b1).wf = true) (w9 : (Lit.int .i64 b2).wf = true) (w10 : (Lit.int .i64 b3).wf = true) (w11 : (Lit.int .i64 b4).wf = true) (w12 : (Lit.int .i64 m).wf = true) (w13 : (Lit.int .i64 u).wf = true) (w : World) {F : Nat → Prop} (hG : QR.Laid F w) (hF : ∀ k, F k → k < w.heap.size) :
    Calls Tryd.prog 5 #[.int .i64 o, .int .i64 k, .agg #[.int .i64 a0, .int .i64 a1, .int .i64 a2, .int .i64 a3, .int .i64 a4], .agg #[.int .i64 b0, .int .i64 b1, .int .i64 b2, .int .i64 b3, .int .i64 b4], .int .i64 m, .int .i64 u] w fun e w' => e = .returned (.bool true) ∧ Below w.heap.size w w' := by
  refine law_of_eval (O := o_law9) (QR.orc_cons (up a_gmax) (QR.orc_cons (up a_mod) (QR.orc_cons (up a_gpixel) (QR.orc_cons a_full8 (QR.orc_cons (up a_rpvalid) (QR.orc_cons a_transp (QR.orc_cons a_opaque (QR.orc_cons a_comp (QR.orc_cons a_rcomp (QR.orc_cons a_rneu (QR.orc_cons a_rfre (QR.orc_cons a_mx2 (QR.orc_cons a_apart (QR.orc_cons a_awake9 QR.orc_nil)))))))))))))) mixed (QR.noLoops) Tryd.func5 (by kernel_rfl) (vs := [.int .i64 o, .int .i64 k, .agg #[.int .i64 a0, .int .i64 a1, .int .i64 a2, .int .i64 a3, .int .i64 a4], .agg #[.int .i64 b0, .int .i64 b1, .int .i64 b2, .int .i64 b3, .int .i64 b4], .int .i64 m, .int .i64 u]) (xs := [.c (.v (.int .i64 o)), .c (.v (.int .i64 k)), .agg [.v (.int .i64 a0), .v (.int .i64 a1), .v (.int .i64 a2), .v (.int .i64 a3), .v (.int .i64 a4)], .agg [.v (.int .i64 b0), .v (.int .i64 b1), .v (.int .i64 b2), .v (.int .i64 b3), .v (.int .i64 b4)], .c (.v (.int .i64 m)), .c (.v (.int .i64 u))]) (args := [.x (.c (.v (.int .i64 o))), .x (.c (.v (.int .i64 k))), .x (.agg [.v (.int .i64 a0), .v (.int .i64 a1), .v (.int .i64 a2), .v (.int .i64 a3), .v (.int .i64 a4)]), .x (.agg [.v (.int .i64 b0), .v (.int .i64 b1), .v (.int .i64 b2), .v (.int .i64 b3), .v (.int .i64 b4)]), .x (.c (.v (.int .i64 m))), .x (.c (.v (.int .i64 u)))]) rfl rfl (by simp) ?_ w hG hF
  rw [PixelRejectsOneSample_vc]
  have k12 : modOk 12 = true := rfl
  have k3 : modOk 3 = true := rfl
  have r3 := gmod_range u (k := 3) (by decide)
  have r4 := gmod_range (iquo .i64 u 3) (k := 3) (by decide)
  have gm := gx16 m
  have hM := gxMax_cases m
  have i0 : in16 0 = true := rfl
  have i1 : in16 1 = true := rfl
  have i2 : in16 65535 = true := rfl
  have i3 : in16 65534 = true := rfl
  obtain ⟨p0, p1, p2, p3, p4⟩ := gp_all a0 a1 a2 a3 a4 m
  obtain ⟨q0, q1, q2, q3, q4⟩ := gp_all b0 b1 b2 b3 b4 m
  have h0 := gpC_in16 a0 a3 a4 gm
  have h1 := gpC_in16 a1 a3 a4 gm
  have h2 := gpC_in16 a2 a3 a4 gm
  have h3 := gpA_in16 a3 a4 gm
  have h4 := gpF_in16 a4 gm
  have h5 := gpC_in16 b0 b3 b4 gm
  have h6 := gpC_in16 b1 b3 b4 gm
  have h7 := gpC_in16 b2 b3 b4 gm
  have h8 := gpA_in16 b3 b4 gm
  have h9 := gpF_in16 b4 gm
  simp only [okAns, eqXs, eqX, eqc, veq, eqUs, forall_eq, true_and, and_true, k12, k3, gm]
  generalize gpC a0 a3 a4 (gxMax m) = s0 at *
  generalize gpC a1 a3 a4 (gxMax m) = s1 at *
  generalize gpC a2 a3 a4 (gxMax m) = s2 at *
  generalize gpA a3 a4 (gxMax m) = sa at *
  generalize gpF a4 (gxMax m) = sf at *
  generalize gpC b0 b3 b4 (gxMax m) = d0 at *
  generalize gpC b1 b3 b4 (gxMax m) = d1 at *
  generalize gpC b2 b3 b4 (gxMax m) = d2 at *
  generalize gpA b3 b4 (gxMax m) = da at *
  generalize gpF b4 (gxMax m) = df at *
  generalize iadd .i64 1 (gmod o 12) = O at *
  generalize iadd .i64 1 (gmod k 12) = K at *
  generalize gmod u 3 = t at *
  generalize gmod (iquo .i64 u 3) 3 = t2 at *
  generalize gxMax m = M at *
  have no : ∀ {x0 x1 x2 xa xf : Int}, pvB x0 x1 x2 xa xf M = false → pcOk O K M x0 x1 x2 xa xf d0 d1 d2 da df = false ∧ pcOk O K M d0 d1 d2 da df x0 x1 x2 xa xf = false := fun h => ⟨pc_no_s h, pc_no_d h⟩
  have c : t = 0 ∨ t = 1 ∨ t = 2 := by omega
  rcases c with rfl | rfl | rfl
  · have c2 : t2 = 0 ∨ t2 = 1 ∨ t2 = 2 := by omega
    by_cases z : sa = 0
    · subst z
      have e : isub .u16 0 (iimin 0 1) = 0 := by decide
      have b0 := no (x0 := 1) (x1 := s1) (x2 := s2) (xa := 0) (xf := sf) (decide_eq_false (by omega))
      have b1 := no (x0 := 1) (x1 := 0) (x2 := s2) (xa := 0) (xf := sf) (decide_eq_false (by omega))
      have b2 := no (x0 := 1) (x1 := s1) (x2 := 0) (xa := 0) (xf := sf) (decide_eq_false (by omega))
      rcases c2 with rfl | rfl | rfl <;> simp [bcond_iff, ieq, e, b0, b1, b2, bz_f, bnot, band, i0, i1, h0, h1, h2, h4, h5, h6, h7, h8, h9]
    · have e : isub .u16 sa (iimin sa 1) = sa - 1 := by
        have g := in16_iff.1 h3
        have : iimin sa 1 = 1 := by unfold iimin; split <;> omega
        rw [this]; unfold isub; rw [IntKind.wrap_u16]; omega
      have i4 : in16 (sa - 1) = true := in16_iff.2 (by have := in16_iff.1 h3; omega)
      have b0 := no (x0 := sa) (x1 := s1) (x2 := s2) (xa := sa - 1) (xf := sf) (decide_eq_false (by omega))
      have b1 := no (x0 := s0) (x1 := sa) (x2 := s2) (xa := sa - 1) (xf := sf) (decide_eq_false (by omega))
      have b2 := no (x0 := s0) (x1 := s1) (x2 := sa) (xa := sa - 1) (xf := sf) (decide_eq_false (by omega))
      rcases c2 with rfl | rfl | rfl <;> simp [bcond_iff, ieq, z, e, b0, b1, b2, bz_f, bnot, band, i0, i1, i4, h0, h1, h2, h3, h4, h5, h6, h7, h8, h9]
  · by_cases z : sa = 65535
    · subst z
      have b0 := no (x0 := s0) (x1 := s1) (x2 := s2) (xa := 65535) (xf := 65534) (decide_eq_false (by omega))
      simp [bcond_iff, ieq, b0, bz_f, bnot, band, i0, i1, i2, i3, h0, h1, h2, h4, h5, h6, h7, h8, h9]
    · have e : iadd .u16 sa 1 = sa + 1 := by
        have g := in16_iff.1 h3
        unfold iadd; rw [IntKind.wrap_u16]; omega
      have i4 : in16 (sa + 1) = true := in16_iff.2 (by have := in16_iff.1 h3; omega)
      have b0 := no (x0 := s0) (x1 := s1) (x2 := s2) (xa := sa + 1) (xf := sa) (decide_eq_false (by omega))
      simp [bcond_iff, ieq, z, e, b0, bz_f, bnot, band, i0, i1, i4, h0, h1, h2, h3, h4, h5, h6, h7, h8, h9]
  · rcases hM with rfl | rfl
    · have e : iadd .u16 255 1 = 256 := by decide
      have i4 : in16 256 = true := rfl
      have b0 := no (x0 := s0) (x1 := s1) (x2 := s2) (xa := sa) (xf := 256) (decide_eq_false (by omega))
      simp [bcond_iff, ieq, e, b0, bz_f, bnot, band, i0, i1, i4, h0, h1, h2, h3, h4, h5, h6, h7, h8, h9]
    · have b0 := no (x0 := 1) (x1 := 0) (x2 := 0) (xa := 0) (xf := 0) (decide_eq_false (by omega))
      simp [bcond_iff, ieq, b0, bz_f, bnot, band, i0, i1, h0, h1, h2, h3, h4, h5, h6, h7, h8, h9]

theorem mx2_le {a b c : Int} (h1 : a ≤ c) (h2 : b ≤ c) : mx2 a b ≤ c := by unfold mx2; split <;> assumption
theorem ap_le {a b c : Int} (h1 : a - b ≤ c) (h2 : -c ≤ a - b) : apV a b ≤ c := mx2_le h1 (by omega)
theorem ap_eq {a b : Int} (h : a = b) : apV a b = 0 := by subst h; unfold apV mx2; split <;> omega
/-- three samples, regrouped -/
theorem over_two {M ap aq x y z : Int} (hm : 0 < M) (p0 : 0 ≤ ap) (p1 : ap ≤ M) (q0 : 0 ≤ aq) (q1 : aq ≤ M) (y0 : 0 ≤ y) (z0 : 0 ≤ z) (z1 : z ≤ M) :
    apV (x + hlf ((M - ap) * (y + hlf ((M - aq) * z) M)) M) (x + hlf ((M - ap) * y) M + hlf ((M - (ap + hlf ((M - ap) * aq) M)) * z) M) ≤ 2 := by
  obtain ⟨_, a, b⟩ := over_apart (x := x) hm p0 p1 q0 q1 y0 z0 z1
  exact ap_le a b

set_option linter.unusedVariables false in
theorem PixelOverIsAssociativeUpToRounding_core (a0 a1 a2 a3 a4 b0 b1 b2 b3 b4 c0 c1 c2 c3 c4 m : Int) (w0 : (Lit.int .i64 a0).wf = true) (w1 : (Lit.int .i64 a1).wf = true) (w2 : (Lit.int .i64 a2).wf = true) (w3 : (Lit.int .i64 a3).wf = true) (w4 : (Lit.int .i64 a4).wf = true) (w5 : (Lit.int .i64 b0).wf = true) (w6 : (Lit.int .i64 b1).wf = true) (w7 : (Lit.int .i64 b2).wf = true) (w8 : (Lit.int .i64 b3).wf = true) (w9 : (Lit.int .i64 b4).wf = true) (w10 : (Lit.int .i64 c0).wf = true) (w11 : (Lit.int .i64 c1).wf = true) (w12 : (Lit.int .i64 c2).wf = true) (w13 : (Lit.int .i64 c3).wf = true) (w14 : (Lit.int .i64 c4).wf = true) (w15 : (Lit.int .i64 m).wf = true) (w : World) {F : Nat → Prop} (hG : QR.Laid F w) (hF : ∀ k, F k → k < w.heap.size) :
    Calls Tryd.prog 8 #[.agg #[.int .i64 a0, .int .i64 a1, .int .i64 a2, .int .i64 a3, .int .i64 a4], .agg #[.int .i64 b0, .int .i64 b1, .int .i64 b2, .int .i64 b3, .int .i64 b4], .agg #[.int .i64 c0, .int .i64 c1, .int .i64 c2, .int .i64 c3, .int .i64 c4], .int .i64 m] w fun e w' => e = .returned (.bool true) ∧ Below w.heap.size w w' := by
  refine law_of_eval (O := o_law9) (QR.orc_cons (up a_gmax) (QR.orc_cons (up a_mod) (QR.orc_cons (up a_gpixel) (QR.orc_cons a_full8 (QR.orc_cons (up a_rpvalid) (QR.orc_cons a_transp (QR.orc_cons a_opaque (QR.orc_cons a_comp (QR.orc_cons a_rcomp (QR.orc_cons a_rneu (QR.orc_cons a_rfre (QR.orc_cons a_mx2 (QR.orc_cons a_apart (QR.orc_cons a_awake9 QR.orc_nil)))))))))))))) mixed (fun n => bif Nat.beq n 11 then some (.rounds 4) else none) Tryd.func8 (by kernel_rfl) (vs := [.agg #[.int .i64 a0, .int .i64 a1, .int .i64 a2, .int .i64 a3, .int .i64 a4], .agg #[.int .i64 b0, .int .i64 b1, .int .i64 b2, .int .i64 b3, .int .i64 b4], .agg #[.int .i64 c0, .int .i64 c1, .int .i64 c2, .int .i64 c3, .int .i64 c4], .int .i64 m]) (xs := [.agg [.v (.int .i64 a0), .v (.int .i64 a1), .v (.int .i64 a2), .v (.int .i64 a3), .v (.int .i64 a4)], .agg [.v (.int .i64 b0), .v (.int .i64 b1), .v (.int .i64 b2), .v (.int .i64 b3), .v (.int .i64 b4)], .agg [.v (.int .i64 c0), .v (.int .i64 c1), .v (.int .i64 c2), .v (.int .i64 c3), .v (.int .i64 c4)], .c (.v (.int .i64 m))]) (args := [.x (.agg [.v (.int .i64 a0), .v (.int .i64 a1), .v (.int .i64 a2), .v (.int .i64 a3), .v (.int .i64 a4)]), .x (.agg [.v (.int .i64 b0), .v (.int .i64 b1), .v (.int .i64 b2), .v (.int .i64 b3), .v (.int .i64 b4)]), .x (.agg [.v (.int .i64 c0), .v (.int .i64 c1), .v (.int .i64 c2), .v (.int .i64 c3), .v (.int .i64 c4)]), .x (.c (.v (.int .i64 m)))]) rfl rfl (by simp) ?_ w hG hF
  rw [PixelOverIsAssociativeUpToRounding_vc]
  have gm := gx16 m
  have hM := gxMax_cases m
  have p := gp_all a0 a1 a2 a3 a4 m
  have q := gp_all b0 b1 b2 b3 b4 m
  have r := gp_all c0 c1 c2 c3 c4 m
  refine ⟨trivial, ?_⟩
  rintro M rfl
  refine ⟨trivial, ?_⟩
  generalize gxMax m = M at *
  rintro p0 rfl p1 rfl p2 rfl pa rfl pf rfl q0 rfl q1 rfl q2 rfl qa rfl qf rfl r0 rfl r1 rfl r2 rfl ra rfl rf rfl
  refine ⟨⟨gm, gm, gm, trivial⟩, ?_⟩
  generalize gpC a0 a3 a4 M = p0 at *
  generalize gpC a1 a3 a4 M = p1 at *
  generalize gpC a2 a3 a4 M = p2 at *
  generalize gpA a3 a4 M = pa at *
  generalize gpF a4 M = pf at *
  generalize gpC b0 b3 b4 M = q0 at *
  generalize gpC b1 b3 b4 M = q1 at *
  generalize gpC b2 b3 b4 M = q2 at *
  generalize gpA b3 b4 M = qa at *
  generalize gpF b4 M = qf at *
  generalize gpC c0 c3 c4 M = r0 at *
  generalize gpC c1 c3 c4 M = r1 at *
  generalize gpC c2 c3 c4 M = r2 at *
  generalize gpA c3 c4 M = ra at *
  generalize gpF c4 M = rf at *
  have i16 : ∀ {x : Int}, 0 ≤ x → x ≤ M → in16 x = true := fun h k => in16_of h k hM
  -- the four composites
  obtain ⟨k1, x0, x1, x2, xa, xf⟩ := pc_over hM q r
  have v1 := pc_valid k1 q.1.1 q.2.1.1 q.2.2.1.1 r.1.1 r.2.1.1 r.2.2.1.1
  rw [x0, x1, x2, xa, xf] at v1
  obtain ⟨k2, y0, y1, y2, ya, yf⟩ := pc_over hM p v1
  have v2 := pc_valid k2 p.1.1 p.2.1.1 p.2.2.1.1 v1.1.1 v1.2.1.1 v1.2.2.1.1
  obtain ⟨k3, z0, z1, z2, za, zf⟩ := pc_over hM p q
  have v3 := pc_valid k3 p.1.1 p.2.1.1 p.2.2.1.1 q.1.1 q.2.1.1 q.2.2.1.1
  rw [z0, z1, z2, za, zf] at v3
  obtain ⟨k4, w0, w1, w2, wa, wf⟩ := pc_over hM v3 r
  have v4 := pc_valid k4 v3.1.1 v3.2.1.1 v3.2.2.1.1 r.1.1 r.2.1.1 r.2.2.1.1
  rw [y0, y1, y2, ya, yf] at v2
  rw [w0, w1, w2, wa, wf] at v4
  have hM0 : 0 < M := by omega
  have d0 := over_two (x := p0) hM0 p.2.2.2.1.1 (show pa ≤ M by omega) q.2.2.2.1.1 (show qa ≤ M by omega) q.1.1 r.1.1 (show r0 ≤ M by omega)
  have d1 := over_two (x := p1) hM0 p.2.2.2.1.1 (show pa ≤ M by omega) q.2.2.2.1.1 (show qa ≤ M by omega) q.2.1.1 r.2.1.1 (show r1 ≤ M by omega)
  have d2 := over_two (x := p2) hM0 p.2.2.2.1.1 (show pa ≤ M by omega) q.2.2.2.1.1 (show qa ≤ M by omega) q.2.2.1.1 r.2.2.1.1 (show r2 ≤ M by omega)
  have da := over_two (x := pa) hM0 p.2.2.2.1.1 (show pa ≤ M by omega) q.2.2.2.1.1 (show qa ≤ M by omega) q.2.2.2.1.1 r.2.2.2.1.1 (show ra ≤ M by omega)
  have df := over_two (x := pf) hM0 (show 0 ≤ pf by omega) p.2.2.2.2 (show 0 ≤ qf by omega) q.2.2.2.2 (show 0 ≤ qf by omega) (show 0 ≤ rf by omega) r.2.2.2.2
  have most := mx2_le (mx2_le (mx2_le (mx2_le da df) d0) d1) d2
  have crisp : (pa = 0 ∨ pa = M) → (qa = 0 ∨ qa = M) → pf = pa → qf = qa → mx2 (mx2 (mx2 (mx2 _ _) _) _) _ = 0 := fun c1 c2 c4 c5 => by
    have g0 := ap_eq (over_crisp (x := p0) hM0 c1 c2 q.1.1 q.1.2 r.1.1)
    have g1 := ap_eq (over_crisp (x := p1) hM0 c1 c2 q.2.1.1 q.2.1.2 r.2.1.1)
    have g2 := ap_eq (over_crisp (x := p2) hM0 c1 c2 q.2.2.1.1 q.2.2.1.2 r.2.2.1.1)
    have ga := ap_eq (over_crisp (x := pa) hM0 c1 c2 q.2.2.2.1.1 (Int.le_refl qa) r.2.2.2.1.1)
    have gf := ap_eq (over_crisp (x := pf) (ap := pf) (aq := qf) hM0 (by omega) (by omega) (show 0 ≤ qf by omega) (Int.le_refl qf) (show 0 ≤ rf by omega))
    have := congr (congrArg mx2 (congr (congrArg mx2 (congr (congrArg mx2 (congr (congrArg mx2 ga) gf)) g0)) g1)) g2
    exact this.trans (by decide)
  have jp0 := i16 p.1.1 (by omega)
  have jp1 := i16 p.2.1.1 (by omega)
  have jp2 := i16 p.2.2.1.1 (by omega)
  have jpa := i16 p.2.2.2.1.1 (by omega)
  have jpf := i16 (Int.le_trans p.2.2.2.1.1 p.2.2.2.1.2) (by omega)
  have jq0 := i16 q.1.1 (by omega)
  have jq1 := i16 q.2.1.1 (by omega)
  have jq2 := i16 q.2.2.1.1 (by omega)
  have jqa := i16 q.2.2.2.1.1 (by omega)
  have jqf := i16 (Int.le_trans q.2.2.2.1.1 q.2.2.2.1.2) (by omega)
  have jr0 := i16 r.1.1 (by omega)
  have jr1 := i16 r.2.1.1 (by omega)
  have jr2 := i16 r.2.2.1.1 (by omega)
  have jra := i16 r.2.2.2.1.1 (by omega)
  have jrf := i16 (Int.le_trans r.2.2.2.1.1 r.2.2.2.1.2) (by omega)
  have jx0 := i16 v1.1.1 (by omega)
  have jx1 := i16 v1.2.1.1 (by omega)
  have jx2 := i16 v1.2.2.1.1 (by omega)
  have jxa := i16 v1.2.2.2.1.1 (by omega)
  have jxf := i16 (Int.le_trans v1.2.2.2.1.1 v1.2.2.2.1.2) (by omega)
  have jy0 := i16 v2.1.1 (by omega)
  have jy1 := i16 v2.2.1.1 (by omega)
  have jy2 := i16 v2.2.2.1.1 (by omega)
  have jya := i16 v2.2.2.2.1.1 (by omega)
  have jyf := i16 (Int.le_trans v2.2.2.2.1.1 v2.2.2.2.1.2) (by omega)
  have jz0 := i16 v3.1.1 (by omega)
  have jz1 := i16 v3.2.1.1 (by omega)
  have jz2 := i16 v3.2.2.1.1 (by omega)
  have jza := i16 v3.2.2.2.1.1 (by omega)
  have jzf := i16 (Int.le_trans v3.2.2.2.1.1 v3.2.2.2.1.2) (by omega)
  have jw0 := i16 v4.1.1 (by omega)
  have jw1 := i16 v4.2.1.1 (by omega)
  have jw2 := i16 v4.2.2.1.1 (by omega)
  have jwa := i16 v4.2.2.2.1.1 (by omega)
  have jwf := i16 (Int.le_trans v4.2.2.2.1.1 v4.2.2.2.1.2) (by omega)
  simp only [forall_eq, k1, x0, x1, x2, xa, xf, bz_t, k2, y0, y1, y2, ya, yf, k3, z0, z1, z2, za, zf, k4, w0, w1, w2, wa, wf]
  generalize mx2 (mx2 (mx2 (mx2 _ _) _) _) _ = G at *
  have l : ile G 2 = true := decide_eq_true most
  simp only [bcond_iff, okAns, eqXs, eqX, eqc, veq, eqUs, forall_eq, true_and, and_true, bnot, Bool.not_true, Bool.false_eq_true, false_implies, true_implies, forall_const, gm, l, reduceCtorEq, Bool.true_eq_false, jp0, jp1, jp2, jpa, jpf, jq0, jq1, jq2, jqa, jqf, jr0, jr1, jr2, jra, jrf, jx0, jx1, jx2, jxa, jxf, jy0, jy1, jy2, jya, jyf, jz0, jz1, jz2, jza, jzf, jw0, jw1, jw2, jwa, jwf]
  simp only [ieq, beq_iff_eq, beq_eq_false_iff_ne, ne_eq, Bool.not_eq_true', Bool.not_eq_false', implies_true, true_and, and_true, decide_eq_true_eq, decide_eq_false_iff_not]
  grind
end Go.Proofs.YtgbhjdpjjhlbiaaDoor
