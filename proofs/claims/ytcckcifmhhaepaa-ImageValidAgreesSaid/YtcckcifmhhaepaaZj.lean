import Derived.Test.YtcckcifmhhaepaaZaa
import Derived.Test.YtcckcifmhhaepaaZs
import Derived.Test.YtcckcifmhhaepaaZi
namespace Go.Proofs.Ytcckcifmhhaepaa
open Go.RowKit PR QR
set_option linter.unusedVariables false
set_option linter.unusedSimpArgs false
set_option maxRecDepth 20000
section
variable {p : Pl} {k i : Int}
theorem gst_num (h : plB p.w p.h p.s p.n = true) (hw : in64 p.w = true) :
    (1 ≤ p.w ∧ p.w ≤ 16777216) ∧ (1 ≤ p.h ∧ p.h ≤ 16777216) ∧ (p.w ≤ gstS p k ∧ gstS p k ≤ p.w + 3) ∧ (0 ≤ gstN p k ∧ gstN p k ≤ 67108864) ∧ iadd .i64 p.w (gmod k 4) = gstS p k ∧ imul .i64 (gstS p k) p.h = gstN p k ∧ p.w ≤ p.s ∧ p.s ≤ 16777216 ∧ (p.h - 1) * p.s + p.w ≤ p.n := by
  obtain ⟨f, h1, h2, h3⟩ := pl_iff.1 h
  have l := fit_le f
  have f := fit_iff.1 f
  have g := gmod_range k (show (0 : Int) < 4 by decide)
  have s1 : p.w ≤ gstS p k ∧ gstS p k ≤ p.w + 3 := by unfold gstS; omega
  have n0 := Int.mul_nonneg (show 0 ≤ gstS p k by omega) (show 0 ≤ p.h by omega)
  have n1 : gstS p k * p.h ≤ (4 * p.w) * p.h := Int.mul_le_mul_of_nonneg_right (by omega) (by omega)
  rw [Int.mul_assoc] at n1
  have n2 : gstS p k * p.h ≤ 67108864 := by omega
  refine ⟨⟨f.1, l.1⟩, ⟨f.2.1, l.2⟩, s1, ⟨n0, n2⟩, ?_, ?_, h1, h2, h3⟩
  · unfold iadd; rw [IntKind.wrap_i64]; unfold gstS at *; omega
  · unfold imul; rw [IntKind.wrap_i64]; show _ = gstS p k * p.h; omega
theorem gst_app {v : Int} (i0 : 0 ≤ i) (hv : v = gstL p k i) (q : Nat) (hq : ilt (Int.ofNat q) (addZ i 1) = true) : isel (ilt (Int.ofNat q) i) (gstL p k (Int.ofNat q)) (isel (ieq (subZ (Int.ofNat q) i) 0) v 0) = gstL p k (Int.ofNat q) :=
  row_app (g := gstL p k) i0 hv q hq
theorem gst_go (h : plB p.w p.h p.s p.n = true) (hw : in64 p.w = true) (hi : gsiGood p k i) (lt : i < gstN p k) {v : Int} (hv : v = gstL p k i) :
    ile (imulZ (addZ i 1) 2) 140737488355328 = true ∧ ∃ s, gsiGood p k s ∧ (iadd .i64 i 1 = s ∧ addZ i 1 = s ∧ addZ i 1 = s ∧ ∀ q : Nat, ilt (Int.ofNat q) (addZ i 1) = true → isel (ilt (Int.ofNat q) i) (gstL p k (Int.ofNat q)) (isel (ieq (subZ (Int.ofNat q) i) 0) v 0) = gstL p k (Int.ofNat q)) ∧ (gsiMu p k s).succ.le (gsiMu p k i) := by
  obtain ⟨_, _, _, n, _⟩ := gst_num (k := k) h hw
  have i0 := hi.1
  refine ⟨ile_t (by unfold imulZ addZ; omega), i + 1, ⟨by omega, by omega⟩, ⟨?_, rfl, rfl, gst_app i0 hv⟩, ?_⟩
  · unfold iadd; rw [IntKind.wrap_i64]; omega
  · unfold gsiMu; show (gstN p k - (i + 1)).toNat + 1 ≤ (gstN p k - i).toNat; omega
theorem tdiv_nn {a b : Int} (h : 0 ≤ a) : a.tdiv b = a / b := Int.tdiv_eq_ediv_of_nonneg h
theorem gst_round (h : plB p.w p.h p.s p.n = true) (hw : in64 p.w = true) (hi : gsiGood p k i) (lt : ilt i (imul .i64 (gstS p k) p.h) = true) :
    ine (gstS p k) 0 = true ∧
    (ilt (irem i (gstS p k)) p.w = true → (ile 0 (iadd .i64 (imul .i64 (iquo .i64 i (gstS p k)) p.s) (irem i (gstS p k))) = true ∧ ilt (iadd .i64 (imul .i64 (iquo .i64 i (gstS p k)) p.s) (irem i (gstS p k))) p.n = true ∧ ine (gstS p k) 0 = true) ∧
      ile (imulZ (addZ i 1) 2) 140737488355328 = true ∧ ∃ s, gsiGood p k s ∧ (iadd .i64 i 1 = s ∧ addZ i 1 = s ∧ addZ i 1 = s ∧ ∀ q : Nat, ilt (Int.ofNat q) (addZ i 1) = true → isel (ilt (Int.ofNat q) i) (gstL p k (Int.ofNat q)) (isel (ieq (subZ (Int.ofNat q) i) 0) (p.l (iadd .i64 (imul .i64 (iquo .i64 i (gstS p k)) p.s) (irem i (gstS p k)))) 0) = gstL p k (Int.ofNat q)) ∧ (gsiMu p k s).succ.le (gsiMu p k i)) ∧
    (ilt (irem i (gstS p k)) p.w = false → ile (imulZ (addZ i 1) 2) 140737488355328 = true ∧ ∃ s, gsiGood p k s ∧ (iadd .i64 i 1 = s ∧ addZ i 1 = s ∧ addZ i 1 = s ∧ ∀ q : Nat, ilt (Int.ofNat q) (addZ i 1) = true → isel (ilt (Int.ofNat q) i) (gstL p k (Int.ofNat q)) (isel (ieq (subZ (Int.ofNat q) i) 0) (iconv .u16 (iadd .i64 40000 i)) 0) = gstL p k (Int.ofNat q)) ∧ (gsiMu p k s).succ.le (gsiMu p k i)) := by
  obtain ⟨w1, h1, s1, n, e1, e2, g1, g2, g3⟩ := gst_num (k := k) h hw
  rw [e2] at lt
  have lt := ilt_tt lt
  have i0 := hi.1
  have sp : 0 < gstS p k := by omega
  have er : irem i (gstS p k) = i % gstS p k := rem_nn' i0
  have r0 := Int.emod_nonneg i (show gstS p k ≠ 0 by omega)
  have r1 := Int.emod_lt_of_pos i sp
  have d0 := Int.ediv_nonneg i0 (show 0 ≤ gstS p k by omega)
  have d1 : i / gstS p k < p.h := Int.ediv_lt_of_lt_mul sp (by rw [Int.mul_comm]; exact lt)
  have m0 := Int.mul_nonneg d0 (show 0 ≤ p.s by omega)
  have m1 : i / gstS p k * p.s ≤ (p.h - 1) * p.s := Int.mul_le_mul_of_nonneg_right (by omega) (by omega)
  have sz := size_in h1.1 h1.2 (show 0 ≤ p.s by omega) g2 (show 0 ≤ p.w by omega) w1.2
  have eq : iquo .i64 i (gstS p k) = i / gstS p k := by
    unfold iquo
    rw [tdiv_nn i0, IntKind.wrap_i64]
    have : i / gstS p k ≤ i := Int.ediv_le_self _ i0
    omega
  have nz : ine (gstS p k) 0 = true := by unfold ine; simp; omega
  rw [er, eq]
  refine ⟨nz, fun c => ?_, fun c => ?_⟩
  · have c := ilt_tt c
    have b1 : i / gstS p k * p.s + i % gstS p k < p.n := by omega
    have eA : imul .i64 (i / gstS p k) p.s = i / gstS p k * p.s := by unfold imul; rw [IntKind.wrap_i64]; omega
    have eB : iadd .i64 (i / gstS p k * p.s) (i % gstS p k) = i / gstS p k * p.s + i % gstS p k := by unfold iadd; rw [IntKind.wrap_i64]; omega
    rw [eA, eB]
    refine ⟨⟨ile_t (by omega), ilt_t b1, nz⟩, gst_go h hw hi lt ?_⟩
    unfold gstL gstP
    simp only
    rw [if_pos c]
  · have c := ilt_ff c
    refine gst_go h hw hi lt ?_
    unfold gstL gstP
    simp only
    rw [if_neg (by omega)]
    have : iadd .i64 40000 i = 40000 + i := by unfold iadd; rw [IntKind.wrap_i64]; omega
    rw [this]
theorem gst_end (h : plB p.w p.h p.s p.n = true) (hw : in64 p.w = true) (hi : gsiGood p k i) (ge : ilt i (imul .i64 (gstS p k) p.h) = false) : i = gstN p k := by
  obtain ⟨_, _, _, _, _, e2, _⟩ := gst_num (k := k) h hw
  rw [e2] at ge
  have ge := ilt_ff ge
  have := hi.2
  omega
end
theorem eqLo_im (m : Im) : eqLo (imC m) (imC m) := by
  have K : ∀ p : Pl, EqC (.slc 1 p.n (.fn fun i _ => .v (.int .u16 (p.l i)))) (.slc 1 p.n (.fn fun i _ => .v (.int .u16 (p.l i)))) := fun p => .slc fun i j _ _ => .v _
  simp only [imC, eqLo, eqo, eqc, veq, true_and, and_true, and_self]
  exact ⟨K m.p0, K m.p1, K m.p2, K m.p3, K m.p4⟩
theorem a_gst : Answers2 12 s_gstr := by
  intro al ans hh hq
  unfold s_gstr at hh
  split at hh <;> try (simp at hh; done)
  rename_i l x
  cases em : s_imOf l with
  | none => simp [em] at hh
  | some p =>
  obtain ⟨m, A⟩ := p
  simp only [em] at hh
  simp only [Option.some.injEq] at hh
  subst hh
  have hG : imG m := hq _ (by simp)
  have hok : imOk m = true := hq _ (by simp)
  refine does_args2 (al' := [.x (.agg (imC m)), .x (.c (.v (.int .i64 x)))]) ⟨imOf_eq em fun p hp => hq p (by simp [hp]), .v _, trivial⟩ ?_
  cases hs : m.sol
  · rw [imC_sol hs]
    refine QR.does_of_eval (O := o_gst) (QR.orc_cons (up a_mod) QR.orc_nil) mixed (fun n_ => bif Nat.beq n_ 4 then some (.rounds 6) else bif Nat.beq n_ 9 then some (.ownF [(7, some 3, 1)] fun g => o_gstI m x (g 999999)) else none) Try.func12 (by kernel_rfl) (by kernel_rfl) (by simp) ?_
    rw [gstF_vc]
    delta zz0 zz4 zz23 zz29 zz36 zz37 zz39 zz42 zz45 zz51 zz52 zz56 zz57 zz59 zz65 zz66 zz67 zz68 zz69 zz71 zz75 zz78 zz88 zz89 zz90 zz91 zz92 zz97 zz117 zz118 zz119 zz121 zz122 zz123 zz124 zz125 zz135 zz136 zz137 zz138 zz139 zz157 zz165 zz174
    simp only [okAns, eqXs, eqX, eqo, eqLo, eqL, eqc, veq, eqUs, bcond_iff, bnot, nilC, true_and, and_true, and_self, implies_true, true_implies, reduceCtorEq, false_implies, Bool.not_true, Bool.not_false, forall_eq, or_false, false_or, and_false, false_and, exists_false]
    obtain ⟨_, _, ⟨w0, _⟩, ⟨w1, _⟩, ⟨w2, _⟩, ⟨w3, _⟩, w4, _⟩ := hG
    have hF := (ok_iff.1 hok).2
    unfold imF at hF
    rw [hs] at hF
    simp only [cond_false, Bool.and_eq_true, plW, decide_eq_true_eq] at hF
    obtain ⟨⟨b0, _⟩, ⟨b1, _⟩, ⟨b2, _⟩, ⟨b3, _⟩, ⟨b4, _⟩, _⟩ := hF
    have ini : ∀ {p : Pl} {k : Int}, plB p.w p.h p.s p.n = true → in64 p.w = true → iadd .i64 p.w (gmod k 4) = gstS p k ∧ (0 : Int) ≤ gstN p k := fun h hw => ⟨(gst_num h hw).2.2.2.2.1, (gst_num h hw).2.2.2.1.1⟩
    have none : ∀ i : Nat, ilt (Int.ofNat i) 0 = true → False := fun i h => by have := ilt_tt h; simp at this; omega
    have i0 := ini (k := iadd .i64 x 0) b0 w0
    have i1 := ini (k := iadd .i64 x 1) b1 w1
    have i2 := ini (k := iadd .i64 x 2) b2 w2
    have i3 := ini (k := iadd .i64 x 3) b3 w3
    have i4 := ini (k := iadd .i64 x 4) b4 w4
    refine ⟨rfl, ⟨0, ⟨Int.le_refl _, i0.2⟩, by and_intros <;> first | rfl | exact i0.1 | exact none⟩, fun i hi => ⟨gst_round b0 w0 hi, fun e => ?_⟩⟩
    have z0 := gst_end b0 w0 hi e
    refine ⟨rfl, ⟨0, ⟨Int.le_refl _, i1.2⟩, by and_intros <;> first | rfl | exact z0 | exact i1.1 | exact none⟩, fun i hi => ⟨gst_round b1 w1 hi, fun e => ?_⟩⟩
    have z1 := gst_end b1 w1 hi e
    refine ⟨rfl, ⟨0, ⟨Int.le_refl _, i2.2⟩, by and_intros <;> first | rfl | exact z1 | exact i2.1 | exact none⟩, fun i hi => ⟨gst_round b2 w2 hi, fun e => ?_⟩⟩
    have z2 := gst_end b2 w2 hi e
    refine ⟨rfl, ⟨0, ⟨Int.le_refl _, i3.2⟩, by and_intros <;> first | rfl | exact z2 | exact i3.1 | exact none⟩, fun i hi => ⟨gst_round b3 w3 hi, fun e => ?_⟩⟩
    have z3 := gst_end b3 w3 hi e
    refine ⟨rfl, ⟨0, ⟨Int.le_refl _, i4.2⟩, by and_intros <;> first | rfl | exact z3 | exact i4.1 | exact none⟩, fun i hi => ⟨gst_round b4 w4 hi, fun e => ?_⟩⟩
    have z4 := gst_end b4 w4 hi e
    have eg : gstV m x = ⟨m.w, m.h, false, m.c0, m.c1, m.c2, m.a, m.f, gstP m.p0 (iadd .i64 x 0), gstP m.p1 (iadd .i64 x 1), gstP m.p2 (iadd .i64 x 2), gstP m.p3 (iadd .i64 x 3), gstP m.p4 (iadd .i64 x 4)⟩ := by unfold gstV; rw [hs]; rfl
    rw [eg, z4]
    exact eqLo_im (⟨m.w, m.h, false, m.c0, m.c1, m.c2, m.a, m.f, gstP m.p0 (iadd .i64 x 0), gstP m.p1 (iadd .i64 x 1), gstP m.p2 (iadd .i64 x 2), gstP m.p3 (iadd .i64 x 3), gstP m.p4 (iadd .i64 x 4)⟩ : Im)
  · rw [imC_sol hs]
    refine QR.does_of_eval (O := o_gst) (QR.orc_cons (up a_mod) QR.orc_nil) mixed (fun n_ => bif Nat.beq n_ 4 then some (.rounds 6) else bif Nat.beq n_ 9 then some (.ownF [(7, some 3, 1)] fun g => o_gstI m x (g 999999)) else none) Try.func12 (by kernel_rfl) (by kernel_rfl) (by simp) ?_
    rw [gstT_vc]
    delta zz2
    have e : gstV m x = m := by unfold gstV; rw [hs]; rfl
    have q : eqLo (imC ⟨m.w, m.h, true, m.c0, m.c1, m.c2, m.a, m.f, m.p0, m.p1, m.p2, m.p3, m.p4⟩) (imC m) := by
      rw [← imC_sol hs]; exact eqLo_im m
    exact ⟨trivial, trivial, trivial, trivial, ⟨by rw [e]; exact q, trivial⟩, trivial⟩
end Go.Proofs.Ytcckcifmhhaepaa
