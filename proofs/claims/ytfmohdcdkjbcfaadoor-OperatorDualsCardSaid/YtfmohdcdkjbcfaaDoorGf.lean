/-
  The laws of layer 7 (operator): each returns true for all arguments in their ranges.
-/
import Derived.Test.YtfmohdcdkjbcfaaDoorGe
namespace Go.Proofs.YtfmohdcdkjbcfaaDoor
open Go.RowKit PR QR
set_option linter.unusedVariables false
set_option linter.unusedSimpArgs false

theorem a_awake7 : Answers2 14 s_yes7 := by
  intro al ans h hq
  unfold s_yes7 at h
  split at h <;> try (simp at h; done)
  skip
  simp only [Option.some.injEq] at h
  subst h
  have hq := asked hq
  refine QR.does_of_eval (O := o_aw7) (QR.orc_cons a_factors (QR.orc_cons a_oalpha (QR.orc_cons a_oshape (QR.orc_cons a_oname QR.orc_nil)))) mixed (QR.noLoops) Tryd.func14 (by kernel_rfl) (by kernel_rfl) (by simp) ?_
  rw [awake7_vc]
  have e1 : faV 12 255 64 255 = 191 := by decide
  have e2 : fbV 12 255 64 255 = 0 := by decide
  have e3 : alV 4 128 128 255 = 192 := by decide
  have e4 : shV 6 255 128 255 = 128 := by decide
  have e5 : opOk7 12 255 64 255 = true := by decide
  have e6 : oname 11 = bs [100, 115, 116, 45, 97, 116, 111, 112] := rfl
  have i1 : in16 255 = true := rfl
  have i2 : in16 64 = true := rfl
  have i3 : in16 128 = true := rfl
  simp [okAns, eqXs, eqX, eqc, veq, eqUs, bcond_iff, e1, e2, e3, e4, e5, e6, i1, i2, i3, ieq, seqB_rfl]
set_option linter.unusedVariables false in
theorem OperatorNames_core (op : Int) (s : ByteArray) (w0 : (Lit.int .i64 op).wf = true) (w1 : s.size ≤ maxLen) (w : World) {F : Nat → Prop} (hG : QR.Laid F w) (hF : ∀ k, F k → k < w.heap.size) :
    Calls Tryd.prog 3 #[.int .i64 op, .string s] w fun e w' => e = .returned (.bool true) ∧ Below w.heap.size w w' := by
  refine law_of_eval (O := o_law7a) (QR.orc_cons (up a_mod) (QR.orc_cons a_oparse (QR.orc_cons a_roparse (QR.orc_cons a_roname (QR.orc_cons a_oname (QR.orc_cons a_awake7 QR.orc_nil)))))) mixed (QR.noLoops) Tryd.func3 (by kernel_rfl) (vs := [.int .i64 op, .string s]) (xs := [.c (.v (.int .i64 op)), .c (.v (.string s))]) (args := [.x (.c (.v (.int .i64 op))), .x (.c (.v (.string s)))]) rfl rfl (by simp) ?_ w hG hF
  rw [OperatorNames_vc]
  have k : modOk 15 = true := rfl
  simp [okAns, eqXs, eqX, eqc, veq, eqUs, bcond_iff, k, ieq_rfl', beq_rfl', seqB_rfl]

theorem gs_in {a n : Int} : 0 ≤ gsV a (gxMax n) ∧ gsV a (gxMax n) ≤ gxMax n := gsV_range a (gx16 n)
theorem gmod_i64 {op k : Int} (h : 0 < k) (h2 : k ≤ 100) : iadd .i64 1 (gmod op k) = 1 + gmod op k ∧ isub .i64 (gmod op k) 1 = gmod op k - 1 := by
  have r := gmod_range op h
  unfold iadd isub
  exact ⟨IntWalk.i64_in _ (by omega), IntWalk.i64_in _ (by omega)⟩
theorem ine_rfl (a : Int) : ine a a = false := by simp [ine]
set_option linter.unusedVariables false in
theorem OperatorFactorsAgree_core (op a b most x y m : Int) (w0 : (Lit.int .i64 op).wf = true) (w1 : (Lit.int .u16 a).wf = true) (w2 : (Lit.int .u16 b).wf = true) (w3 : (Lit.int .u16 most).wf = true) (w4 : (Lit.int .i64 x).wf = true) (w5 : (Lit.int .i64 y).wf = true) (w6 : (Lit.int .i64 m).wf = true) (w : World) {F : Nat → Prop} (hG : QR.Laid F w) (hF : ∀ k, F k → k < w.heap.size) :
    Calls Tryd.prog 4 #[.int .i64 op, .int .u16 a, .int .u16 b, .int .u16 most, .int .i64 x, .int .i64 y, .int .i64 m] w fun e w' => e = .returned (.bool true) ∧ Below w.heap.size w w' := by
  refine law_of_eval (O := o_law7b) (QR.orc_cons (up a_gmax) (QR.orc_cons (up a_mod) (QR.orc_cons (up a_gsample) (QR.orc_cons a_factors (QR.orc_cons a_rfactors (QR.orc_cons a_oalpha (QR.orc_cons a_roalpha (QR.orc_cons a_oshape (QR.orc_cons a_roshape (QR.orc_cons a_awake7 QR.orc_nil)))))))))) mixed (QR.noLoops) Tryd.func4 (by kernel_rfl) (vs := [.int .i64 op, .int .u16 a, .int .u16 b, .int .u16 most, .int .i64 x, .int .i64 y, .int .i64 m]) (xs := [.c (.v (.int .i64 op)), .c (.v (.int .u16 a)), .c (.v (.int .u16 b)), .c (.v (.int .u16 most)), .c (.v (.int .i64 x)), .c (.v (.int .i64 y)), .c (.v (.int .i64 m))]) (args := [.x (.c (.v (.int .i64 op))), .x (.c (.v (.int .u16 a))), .x (.c (.v (.int .u16 b))), .x (.c (.v (.int .u16 most))), .x (.c (.v (.int .i64 x))), .x (.c (.v (.int .i64 y))), .x (.c (.v (.int .i64 m)))]) rfl rfl (by simp) ?_ w hG hF
  rw [OperatorFactorsAgree_vc]
  have k : modOk 15 = true := rfl
  have g1 := wf16 w1
  have g2 := wf16 w2
  have g3 := wf16 w3
  simp [okAns, eqXs, eqX, eqc, veq, eqUs, bcond_iff, k, ieq_rfl', ine_rfl, beq_rfl', gx16, gs16, g1, g2, g3, bnot]

set_option linter.unusedVariables false in
theorem OperatorAlphaBelowShape_core (op x y f g m : Int) (w0 : (Lit.int .i64 op).wf = true) (w1 : (Lit.int .i64 x).wf = true) (w2 : (Lit.int .i64 y).wf = true) (w3 : (Lit.int .i64 f).wf = true) (w4 : (Lit.int .i64 g).wf = true) (w5 : (Lit.int .i64 m).wf = true) (w : World) {F : Nat → Prop} (hG : QR.Laid F w) (hF : ∀ k, F k → k < w.heap.size) :
    Calls Tryd.prog 5 #[.int .i64 op, .int .i64 x, .int .i64 y, .int .i64 f, .int .i64 g, .int .i64 m] w fun e w' => e = .returned (.bool true) ∧ Below w.heap.size w w' := by
  refine law_of_eval (O := o_law7c) (QR.orc_cons (up a_gmax) (QR.orc_cons (up a_mod) (QR.orc_cons (up a_galpha) (QR.orc_cons a_oshape (QR.orc_cons a_oalpha (QR.orc_cons a_awake7 QR.orc_nil)))))) mixed (QR.noLoops) Tryd.func5 (by kernel_rfl) (vs := [.int .i64 op, .int .i64 x, .int .i64 y, .int .i64 f, .int .i64 g, .int .i64 m]) (xs := [.c (.v (.int .i64 op)), .c (.v (.int .i64 x)), .c (.v (.int .i64 y)), .c (.v (.int .i64 f)), .c (.v (.int .i64 g)), .c (.v (.int .i64 m))]) (args := [.x (.c (.v (.int .i64 op))), .x (.c (.v (.int .i64 x))), .x (.c (.v (.int .i64 y))), .x (.c (.v (.int .i64 f))), .x (.c (.v (.int .i64 g))), .x (.c (.v (.int .i64 m)))]) rfl rfl (by simp) ?_ w hG hF
  rw [OperatorAlphaBelowShape_vc]
  have k : modOk 12 = true := rfl
  have r := gmod_range op (k := 12) (by decide)
  have e := (gmod_i64 (op := op) (k := 12) (by decide) (by decide)).1
  have hM := gxMax_cases m
  have rf := gs_in (a := f) (n := m)
  have rg := gs_in (a := g) (n := m)
  have rx := gsV_range x (gs16 f m)
  have ry := gsV_range y (gs16 g m)
  have l := al_le_sh (k := 1 + gmod op 12) (a := gsV x (gsV f (gxMax m))) (b := gsV y (gsV g (gxMax m))) (f := gsV f (gxMax m)) (g := gsV g (gxMax m)) (m := gxMax m) (by omega) rx.1 rx.2 rf.2 ry.1 ry.2 rg.2 (by omega)
  have s := sh_all (1 + gmod op 12) (gs16 f m) (gs16 g m) (gx16 m)
  have l1 : ile (alV (1 + gmod op 12) (gsV x (gsV f (gxMax m))) (gsV y (gsV g (gxMax m))) (gxMax m)) (shV (1 + gmod op 12) (gsV f (gxMax m)) (gsV g (gxMax m)) (gxMax m)) = true := decide_eq_true l
  have l2 : ile (shV (1 + gmod op 12) (gsV f (gxMax m)) (gsV g (gxMax m)) (gxMax m)) (gxMax m) = true := decide_eq_true s.2
  simp [okAns, eqXs, eqX, eqc, veq, eqUs, bcond_iff, k, e, gx16, gs16, gss16, l1, l2]

set_option linter.unusedVariables false in
theorem OperatorNeutralAndFresh_core (op x f m : Int) (w0 : (Lit.int .i64 op).wf = true) (w1 : (Lit.int .i64 x).wf = true) (w2 : (Lit.int .i64 f).wf = true) (w3 : (Lit.int .i64 m).wf = true) (w : World) {F : Nat → Prop} (hG : QR.Laid F w) (hF : ∀ k, F k → k < w.heap.size) :
    Calls Tryd.prog 6 #[.int .i64 op, .int .i64 x, .int .i64 f, .int .i64 m] w fun e w' => e = .returned (.bool true) ∧ Below w.heap.size w w' := by
  refine law_of_eval (O := o_law7d) (QR.orc_cons (up a_gmax) (QR.orc_cons (up a_mod) (QR.orc_cons (up a_galpha) (QR.orc_cons a_neu (QR.orc_cons a_rneu (QR.orc_cons a_fre (QR.orc_cons a_rfre (QR.orc_cons a_oshape (QR.orc_cons a_oalpha (QR.orc_cons a_awake7 QR.orc_nil)))))))))) mixed (QR.noLoops) Tryd.func6 (by kernel_rfl) (vs := [.int .i64 op, .int .i64 x, .int .i64 f, .int .i64 m]) (xs := [.c (.v (.int .i64 op)), .c (.v (.int .i64 x)), .c (.v (.int .i64 f)), .c (.v (.int .i64 m))]) (args := [.x (.c (.v (.int .i64 op))), .x (.c (.v (.int .i64 x))), .x (.c (.v (.int .i64 f))), .x (.c (.v (.int .i64 m)))]) rfl rfl (by simp) ?_ w hG hF
  rw [OperatorNeutralAndFresh_vc]
  have k : modOk 15 = true := rfl
  have i0 : in16 0 = true := rfl
  have hM := gxMax_cases m
  have rf := gs_in (a := f) (n := m)
  have rx := gsV_range x (gs16 f m)
  have e := (gmod_i64 (op := op) (k := 15) (by decide) (by decide)).2
  simp only [okAns, eqXs, eqX, eqc, veq, eqUs, bcond_iff, forall_eq, true_and, and_true, k, e, gx16, gs16, gss16, i0, beq_rfl', bnot, Bool.not_true, Bool.false_eq_true, false_implies, reduceCtorEq, true_implies, forall_const, Bool.not_eq_true', Bool.not_eq_false']
  generalize gmod op 15 - 1 = K at *
  have n1 : ∀ h : neuB K = true, alV K 0 (gsV x (gsV f (gxMax m))) (gxMax m) = gsV x (gsV f (gxMax m)) ∧ shV K 0 (gsV f (gxMax m)) (gxMax m) = gsV f (gxMax m) := fun h => ⟨(op_neutral h rx.1 (by omega) (by omega)).1, (op_neutral h rf.1 rf.2 (by omega)).2⟩
  have n2 : ∀ h : freB K = true, alV K (gsV x (gsV f (gxMax m))) 0 (gxMax m) = gsV x (gsV f (gxMax m)) ∧ shV K (gsV f (gxMax m)) 0 (gxMax m) = gsV f (gxMax m) := fun h => ⟨(op_fresh h rx.1 (by omega) (by omega)).1, (op_fresh h rf.1 rf.2 (by omega)).2⟩
  cases hn : neuB K <;> cases hf : freB K
  · simp
  · obtain ⟨m1, m2⟩ := n2 hf
    simp [m1, m2, ieq]
  · obtain ⟨m1, m2⟩ := n1 hn
    simp [m1, m2, ine]
  · obtain ⟨m1, m2⟩ := n1 hn
    obtain ⟨m3, m4⟩ := n2 hf
    simp [m1, m2, m3, m4, ine, ieq]

set_option linter.unusedVariables false in
theorem OperatorDuals_core (op x y m : Int) (w0 : (Lit.int .i64 op).wf = true) (w1 : (Lit.int .i64 x).wf = true) (w2 : (Lit.int .i64 y).wf = true) (w3 : (Lit.int .i64 m).wf = true) (w : World) {F : Nat → Prop} (hG : QR.Laid F w) (hF : ∀ k, F k → k < w.heap.size) :
    Calls Tryd.prog 7 #[.int .i64 op, .int .i64 x, .int .i64 y, .int .i64 m] w fun e w' => e = .returned (.bool true) ∧ Below w.heap.size w w' := by
  refine law_of_eval (O := o_law7e) (QR.orc_cons (up a_gmax) (QR.orc_cons (up a_mod) (QR.orc_cons (up a_gsample) (QR.orc_cons a_factors (QR.orc_cons a_oshape (QR.orc_cons a_oalpha (QR.orc_cons a_awake7 QR.orc_nil))))))) mixed (QR.noLoops) Tryd.func7 (by kernel_rfl) (vs := [.int .i64 op, .int .i64 x, .int .i64 y, .int .i64 m]) (xs := [.c (.v (.int .i64 op)), .c (.v (.int .i64 x)), .c (.v (.int .i64 y)), .c (.v (.int .i64 m))]) (args := [.x (.c (.v (.int .i64 op))), .x (.c (.v (.int .i64 x))), .x (.c (.v (.int .i64 y))), .x (.c (.v (.int .i64 m)))]) rfl rfl (by simp) ?_ w hG hF
  rw [OperatorDuals_vc]
  have k7 : modOk 7 = true := rfl
  have r := gmod_range op (k := 7) (by decide)
  have gm := gx16 m
  have rx := gs_in (a := x) (n := m)
  have ry := gs_in (a := y) (n := m)
  have gx := gs16 x m
  have gy := gs16 y m
  simp only [okAns, eqXs, eqX, eqc, veq, eqUs, bcond_iff, forall_eq, true_and, and_true]
  have pr : ∀ i, i = gmod op 7 → (isel (ieq i 6) 12 (isel (ieq i 5) 10 (isel (ieq i 4) 8 (isel (ieq i 3) 6 (isel (ieq i 2) 4 (isel (ieq i 1) 2 (isel (ieq i 0) 1 0)))))) = 1 ∧ isel (ieq i 6) 12 (isel (ieq i 5) 11 (isel (ieq i 4) 9 (isel (ieq i 3) 7 (isel (ieq i 2) 5 (isel (ieq i 1) 3 (isel (ieq i 0) 1 0)))))) = 1) ∨ (isel (ieq i 6) 12 (isel (ieq i 5) 10 (isel (ieq i 4) 8 (isel (ieq i 3) 6 (isel (ieq i 2) 4 (isel (ieq i 1) 2 (isel (ieq i 0) 1 0)))))) = 2 ∧ isel (ieq i 6) 12 (isel (ieq i 5) 11 (isel (ieq i 4) 9 (isel (ieq i 3) 7 (isel (ieq i 2) 5 (isel (ieq i 1) 3 (isel (ieq i 0) 1 0)))))) = 3) ∨ (isel (ieq i 6) 12 (isel (ieq i 5) 10 (isel (ieq i 4) 8 (isel (ieq i 3) 6 (isel (ieq i 2) 4 (isel (ieq i 1) 2 (isel (ieq i 0) 1 0)))))) = 4 ∧ isel (ieq i 6) 12 (isel (ieq i 5) 11 (isel (ieq i 4) 9 (isel (ieq i 3) 7 (isel (ieq i 2) 5 (isel (ieq i 1) 3 (isel (ieq i 0) 1 0)))))) = 5) ∨ (isel (ieq i 6) 12 (isel (ieq i 5) 10 (isel (ieq i 4) 8 (isel (ieq i 3) 6 (isel (ieq i 2) 4 (isel (ieq i 1) 2 (isel (ieq i 0) 1 0)))))) = 6 ∧ isel (ieq i 6) 12 (isel (ieq i 5) 11 (isel (ieq i 4) 9 (isel (ieq i 3) 7 (isel (ieq i 2) 5 (isel (ieq i 1) 3 (isel (ieq i 0) 1 0)))))) = 7) ∨ (isel (ieq i 6) 12 (isel (ieq i 5) 10 (isel (ieq i 4) 8 (isel (ieq i 3) 6 (isel (ieq i 2) 4 (isel (ieq i 1) 2 (isel (ieq i 0) 1 0)))))) = 8 ∧ isel (ieq i 6) 12 (isel (ieq i 5) 11 (isel (ieq i 4) 9 (isel (ieq i 3) 7 (isel (ieq i 2) 5 (isel (ieq i 1) 3 (isel (ieq i 0) 1 0)))))) = 9) ∨ (isel (ieq i 6) 12 (isel (ieq i 5) 10 (isel (ieq i 4) 8 (isel (ieq i 3) 6 (isel (ieq i 2) 4 (isel (ieq i 1) 2 (isel (ieq i 0) 1 0)))))) = 10 ∧ isel (ieq i 6) 12 (isel (ieq i 5) 11 (isel (ieq i 4) 9 (isel (ieq i 3) 7 (isel (ieq i 2) 5 (isel (ieq i 1) 3 (isel (ieq i 0) 1 0)))))) = 11) ∨ (isel (ieq i 6) 12 (isel (ieq i 5) 10 (isel (ieq i 4) 8 (isel (ieq i 3) 6 (isel (ieq i 2) 4 (isel (ieq i 1) 2 (isel (ieq i 0) 1 0)))))) = 12 ∧ isel (ieq i 6) 12 (isel (ieq i 5) 11 (isel (ieq i 4) 9 (isel (ieq i 3) 7 (isel (ieq i 2) 5 (isel (ieq i 1) 3 (isel (ieq i 0) 1 0)))))) = 12) := by
    intro i hi
    have : i = 0 ∨ i = 1 ∨ i = 2 ∨ i = 3 ∨ i = 4 ∨ i = 5 ∨ i = 6 := by omega
    rcases this with rfl | rfl | rfl | rfl | rfl | rfl | rfl <;> decide
  have pr := pr _ rfl
  have e1 : ile 0 (gmod op 7) = true := decide_eq_true r.1
  have e2 : ilt (gmod op 7) 7 = true := decide_eq_true r.2
  generalize isel (ieq (gmod op 7) 6) 12 (isel (ieq (gmod op 7) 5) 10 (isel (ieq (gmod op 7) 4) 8 (isel (ieq (gmod op 7) 3) 6 (isel (ieq (gmod op 7) 2) 4 (isel (ieq (gmod op 7) 1) 2 (isel (ieq (gmod op 7) 0) 1 0)))))) = k at *
  generalize isel (ieq (gmod op 7) 6) 12 (isel (ieq (gmod op 7) 5) 11 (isel (ieq (gmod op 7) 4) 9 (isel (ieq (gmod op 7) 3) 7 (isel (ieq (gmod op 7) 2) 5 (isel (ieq (gmod op 7) 1) 3 (isel (ieq (gmod op 7) 0) 1 0)))))) = k' at *
  obtain ⟨d1, d2, d3, d4, d5, d6⟩ := op_dual (k := k) (k' := k') (a := gsV x (gxMax m)) (b := gsV y (gxMax m)) (m := gxMax m) pr rx.2 ry.2
  simp [k7, e1, e2, gm, gx, gy, d1, d2, d3, d4, d5, d6, ieq]

/-- opaque pixels -/
theorem alq {k m : Int} (hk : 1 ≤ k ∧ k ≤ 12) (hm : 0 < m) : alV k 0 0 m = 0 ∧ alV k m 0 m = (if k = 2 ∨ k = 4 ∨ k = 5 ∨ k = 8 ∨ k = 11 ∨ k = 12 then m else 0) ∧ alV k 0 m m = (if k = 3 ∨ k = 4 ∨ k = 5 ∨ k = 9 ∨ k = 10 ∨ k = 12 then m else 0) ∧
    alV k m m m = (if k = 2 ∨ k = 3 ∨ k = 4 ∨ k = 5 ∨ k = 6 ∨ k = 7 ∨ k = 10 ∨ k = 11 then m else 0) := by
  have z : hlf 0 m = 0 := hlf0 (by omega)
  have o : hlf (m * m) m = m := hlf_exact (show 0 ≤ m by omega) hm
  obtain ⟨_, a1, a2, _⟩ := op_at hk (a := 0) (b := 0) (m := m) (by omega) (by omega)
  obtain ⟨_, b1, b2, _⟩ := op_at hk (a := m) (b := 0) (m := m) (by omega) (by omega)
  obtain ⟨_, c1, c2, _⟩ := op_at hk (a := 0) (b := m) (m := m) (by omega) (by omega)
  obtain ⟨_, d1, d2, _⟩ := op_at hk (a := m) (b := m) (m := m) (by omega) (by omega)
  unfold alV
  rw [a1, a2, b1, b2, c1, c2, d1, d2, al_num, al_num, al_num, al_num]
  rcases op_modes hk with rfl | rfl | rfl | rfl | rfl | rfl | rfl | rfl | rfl | rfl | rfl | rfl <;> simp [z, o]
theorem sat0 (x y z : UInt8) : satI (bs [x, y, z]) 0 = x.toNat := rfl
theorem sat1 (x y z : UInt8) : satI (bs [x, y, z]) 1 = y.toNat := rfl
theorem sat2 (x y z : UInt8) : satI (bs [x, y, z]) 2 = z.toNat := rfl
theorem slen3 (x y z : UInt8) : slenI (bs [x, y, z]) = 3 := rfl
set_option linter.unusedVariables false in
theorem OperatorOfOpaquePixels_core (op : Int) (src dst : Bool) (m : Int) (w0 : (Lit.int .i64 op).wf = true) (w1 : (Lit.int .i64 m).wf = true) (w : World) {F : Nat → Prop} (hG : QR.Laid F w) (hF : ∀ k, F k → k < w.heap.size) :
    Calls Tryd.prog 8 #[.int .i64 op, .bool src, .bool dst, .int .i64 m] w fun e w' => e = .returned (.bool true) ∧ Below w.heap.size w w' := by
  refine law_of_eval (O := o_law7f) (QR.orc_cons (up a_gmax) (QR.orc_cons (up a_mod) (QR.orc_cons a_oalpha (QR.orc_cons a_awake7 QR.orc_nil)))) mixed (QR.noLoops) Tryd.func8 (by kernel_rfl) (vs := [.int .i64 op, .bool src, .bool dst, .int .i64 m]) (xs := [.c (.v (.int .i64 op)), .c (.v (.bool src)), .c (.v (.bool dst)), .c (.v (.int .i64 m))]) (args := [.x (.c (.v (.int .i64 op))), .x (.c (.v (.bool src))), .x (.c (.v (.bool dst))), .x (.c (.v (.int .i64 m)))]) rfl rfl (by simp) ?_ w hG hF
  rw [OperatorOfOpaquePixels_vc]
  have k12 : modOk 12 = true := rfl
  have i0 : in16 0 = true := rfl
  have r := gmod_range op (k := 12) (by decide)
  have e := (gmod_i64 (op := op) (k := 12) (by decide) (by decide)).1
  have gm := gx16 m
  have hM := gxMax_cases m
  simp only [okAns, eqXs, eqX, eqc, veq, eqUs, bcond_iff, forall_eq, true_and, and_true, e, k12, gm, i0]
  obtain ⟨k, hk⟩ : ∃ k, k = 1 + gmod op 12 := ⟨_, rfl⟩
  rw [← hk]
  have hk' : 1 ≤ k ∧ k ≤ 12 := by omega
  obtain ⟨q1, q2, q3, q4⟩ := alq (k := k) (m := gxMax m) hk' (by omega)
  clear hk e r
  generalize gxMax m = M at *
  cases src <;> cases dst <;> simp only [reduceCtorEq, false_implies, true_implies, true_and, and_true, forall_const, q1, q2, q3, q4] <;> rcases op_modes hk' with rfl | rfl | rfl | rfl | rfl | rfl | rfl | rfl | rfl | rfl | rfl | rfl <;> simp [ssel, ieq, ine, ilt, ile, sat0, sat1, sat2, slen3]

set_option linter.unusedVariables false in
theorem OperatorUnion_core (x y m : Int) (w0 : (Lit.int .i64 x).wf = true) (w1 : (Lit.int .i64 y).wf = true) (w2 : (Lit.int .i64 m).wf = true) (w : World) {F : Nat → Prop} (hG : QR.Laid F w) (hF : ∀ k, F k → k < w.heap.size) :
    Calls Tryd.prog 9 #[.int .i64 x, .int .i64 y, .int .i64 m] w fun e w' => e = .returned (.bool true) ∧ Below w.heap.size w w' := by
  refine law_of_eval (O := o_law7g) (QR.orc_cons (up a_gmax) (QR.orc_cons (up a_gsample) (QR.orc_cons a_oshape (QR.orc_cons (up a_half) (QR.orc_cons a_awake7 QR.orc_nil))))) mixed (QR.noLoops) Tryd.func9 (by kernel_rfl) (vs := [.int .i64 x, .int .i64 y, .int .i64 m]) (xs := [.c (.v (.int .i64 x)), .c (.v (.int .i64 y)), .c (.v (.int .i64 m))]) (args := [.x (.c (.v (.int .i64 x))), .x (.c (.v (.int .i64 y))), .x (.c (.v (.int .i64 m)))]) rfl rfl (by simp) ?_ w hG hF
  rw [OperatorUnion_vc]
  have gm := gx16 m
  have rx := gs_in (a := x) (n := m)
  have ry := gs_in (a := y) (n := m)
  have gx := gs16 x m
  have gy := gs16 y m
  have hM := gxMax_cases m
  have s1 := sh_all 4 gx gy gm
  have s2 := sh_all 7 gx gy gm
  simp only [okAns, eqXs, eqX, eqc, veq, eqUs, bcond_iff, forall_eq, true_and, and_true, gm, gx, gy]
  generalize gxMax m = M at *
  generalize gsV x M = f at *
  generalize gsV y M = g at *
  obtain ⟨u1, u2, u3, u4, u5⟩ := op_union (a := f) (b := g) (m := M) rx.1 rx.2 ry.1 ry.2 (by omega)
  have p := prod16 gx gy
  have c1 := (conv64 gx).1
  have c2 := (conv64 gy).1
  obtain ⟨c3, c4⟩ := conv64 gm
  have c5 : imul .u64 f g = f * g := by rw [imulU]; omega
  have c6 : iadd .u64 f g = f + g := by rw [iaddU]; omega
  have c7 : iconv .u64 (shV 4 f g M) = shV 4 f g M := u64_id s1.1 (by omega)
  have c8 : iconv .u64 (shV 7 f g M) = shV 7 f g M := u64_id s2.1 (by omega)
  have c9 : inU (f * g) = true := inU_iff.2 (by omega)
  rw [c7, c8, c1, c2, c3, c5, c6, ← u1, ← u5]
  simp [c4, c9, u2, u3, u4, ieq, ige, ile]
end Go.Proofs.YtfmohdcdkjbcfaaDoor
