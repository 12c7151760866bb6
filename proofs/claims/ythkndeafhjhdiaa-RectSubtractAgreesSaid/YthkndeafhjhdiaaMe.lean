/-
  The laws of layer 13 (rect): each returns true for all arguments in their ranges.
-/
import Derived.Test.YthkndeafhjhdiaaMd
namespace Go.Proofs.Ythkndeafhjhdiaa
open Go.RowKit PR QR
set_option linter.unusedVariables false
set_option linter.unusedSimpArgs false
set_option maxRecDepth 20000

theorem a_awake13 : Answers2 11 s_yes13 := by
  intro al ans h hq
  unfold s_yes13 at h
  split at h <;> try (simp at h; done)
  skip
  simp only [Option.some.injEq] at h
  subst h
  have hq := asked hq
  refine QR.does_of_eval (O := o_aw13) (QR.orc_cons a_rsub (QR.orc_cons a_rhull (QR.orc_cons a_rarea QR.orc_nil))) mixed (QR.noLoops) Try.func11 (by kernel_rfl) (by kernel_rfl) (by simp) ?_
  rw [awake13_vc]
  have e0 : sbN 0 0 4 4 1 1 2 3 = 4 := by decide
  have e1 : sbV 0 0 4 4 1 1 2 3 0 0 = 0 := by decide
  have e2 : sbV 0 0 4 4 1 1 2 3 0 1 = 0 := by decide
  have e3 : sbV 0 0 4 4 1 1 2 3 0 2 = 4 := by decide
  have e4 : sbV 0 0 4 4 1 1 2 3 0 3 = 1 := by decide
  have e5 : sbV 0 0 4 4 1 1 2 3 3 0 = 2 := by decide
  have e6 : sbV 0 0 4 4 1 1 2 3 3 1 = 1 := by decide
  have e7 : sbV 0 0 4 4 1 1 2 3 3 2 = 4 := by decide
  have e8 : sbV 0 0 4 4 1 1 2 3 3 3 = 3 := by decide
  have e9 : raV 0 0 3 2 = 6 := by decide
  simp [bcond_iff, okAns, eqXs, eqX, eqo, eqLo, eqc, veq, eqUs, e0, e1, e2, e3, e4, e5, e6, e7, e8, e9, band, ieq, ilt]
def rr4 (r : QR.Row) (i : Int) (a b c d : Int) : QR.Row := .upd (.upd (.upd (.upd r i 0 (.v (.int .i64 a))) i 1 (.v (.int .i64 b))) i 2 (.v (.int .i64 c))) i 3 (.v (.int .i64 d))
def z4 : QR.Row := .zer [.int .i64 0, .int .i64 0, .int .i64 0, .int .i64 0]
theorem row4_2 (a b c d e f g h : Int) : intRow .i64 4 2 (rr4 (rr4 z4 0 a b c d) 1 e f g h) := by
  intro i j hi hj
  have hi' : i = 0 ∨ i = 1 := by omega
  have hj' : j = 0 ∨ j = 1 ∨ j = 2 ∨ j = 3 := by omega
  rcases hi' with rfl | rfl <;> rcases hj' with rfl | rfl | rfl | rfl <;> rfl
theorem row4_3 (a b c d e f g h p q r s : Int) : intRow .i64 4 3 (rr4 (rr4 (rr4 z4 0 a b c d) 1 e f g h) 2 p q r s) := by
  intro i j hi hj
  have hi' : i = 0 ∨ i = 1 ∨ i = 2 := by omega
  have hj' : j = 0 ∨ j = 1 ∨ j = 2 ∨ j = 3 := by omega
  rcases hi' with rfl | rfl | rfl <;> rcases hj' with rfl | rfl | rfl | rfl <;> rfl
theorem hu_two (a b c d e f g h : Int) (j : Nat) : huR j 2 (rr4 (rr4 z4 0 a b c d) 1 e f g h) = r4G j (r4H (r4T ⟨a, b, c, d⟩) ⟨e, f, g, h⟩) := by
  rw [← r4H_two]; rfl
theorem rc_T {x : R4} {u v : Int} : r4C (r4T x) u v = r4C x u v := by
  by_cases h : r4E x = true
  · rw [r4T_t h, rc_z, rc_e h]
  · rw [r4T_f (Bool.not_eq_true _ ▸ h)]

set_option linter.unusedVariables false in
theorem RectBasicsAgree_core (p0 p1 p2 p3 q0 q1 q2 q3 n0 n1 n2 n3 m0 m1 m2 m3 x y : Int) (w0 : (Lit.int .i64 p0).wf = true) (w1 : (Lit.int .i64 p1).wf = true) (w2 : (Lit.int .i64 p2).wf = true) (w3 : (Lit.int .i64 p3).wf = true) (w4 : (Lit.int .i64 q0).wf = true) (w5 : (Lit.int .i64 q1).wf = true) (w6 : (Lit.int .i64 q2).wf = true) (w7 : (Lit.int .i64 q3).wf = true) (w8 : (Lit.int .i64 n0).wf = true) (w9 : (Lit.int .i64 n1).wf = true) (w10 : (Lit.int .i64 n2).wf = true) (w11 : (Lit.int .i64 n3).wf = true) (w12 : (Lit.int .i64 m0).wf = true) (w13 : (Lit.int .i64 m1).wf = true) (w14 : (Lit.int .i64 m2).wf = true) (w15 : (Lit.int .i64 m3).wf = true) (w16 : (Lit.int .i64 x).wf = true) (w17 : (Lit.int .i64 y).wf = true) (w : World) {F : Nat → Prop} (hG : QR.Laid F w) (hF : ∀ k, F k → k < w.heap.size) :
    Calls Try.prog 3 #[.agg #[.int .i64 p0, .int .i64 p1, .int .i64 p2, .int .i64 p3], .agg #[.int .i64 q0, .int .i64 q1, .int .i64 q2, .int .i64 q3], .agg #[.int .i64 n0, .int .i64 n1, .int .i64 n2, .int .i64 n3], .agg #[.int .i64 m0, .int .i64 m1, .int .i64 m2, .int .i64 m3], .int .i64 x, .int .i64 y] w fun e w' => e = .returned (.bool true) ∧ Below w.heap.size w w' := by
  refine law_of_eval (O := o_law13a) (QR.orc_cons a_grect (QR.orc_cons (up a_mod) (QR.orc_cons a_awake13 (QR.orc_cons a_rvalid (QR.orc_cons a_fvalid (QR.orc_cons a_rempty (QR.orc_cons a_fempty (QR.orc_cons a_rarea (QR.orc_cons a_farea (QR.orc_cons a_rcont (QR.orc_cons a_fcont (QR.orc_cons a_rcov (QR.orc_cons a_fcov QR.orc_nil))))))))))))) mixed (QR.noLoops) Try.func3 (by kernel_rfl) (vs := [.agg #[.int .i64 p0, .int .i64 p1, .int .i64 p2, .int .i64 p3], .agg #[.int .i64 q0, .int .i64 q1, .int .i64 q2, .int .i64 q3], .agg #[.int .i64 n0, .int .i64 n1, .int .i64 n2, .int .i64 n3], .agg #[.int .i64 m0, .int .i64 m1, .int .i64 m2, .int .i64 m3], .int .i64 x, .int .i64 y]) (xs := [.agg [.v (.int .i64 p0), .v (.int .i64 p1), .v (.int .i64 p2), .v (.int .i64 p3)], .agg [.v (.int .i64 q0), .v (.int .i64 q1), .v (.int .i64 q2), .v (.int .i64 q3)], .agg [.v (.int .i64 n0), .v (.int .i64 n1), .v (.int .i64 n2), .v (.int .i64 n3)], .agg [.v (.int .i64 m0), .v (.int .i64 m1), .v (.int .i64 m2), .v (.int .i64 m3)], .c (.v (.int .i64 x)), .c (.v (.int .i64 y))]) (args := [.x (.agg [.v (.int .i64 p0), .v (.int .i64 p1), .v (.int .i64 p2), .v (.int .i64 p3)]), .x (.agg [.v (.int .i64 q0), .v (.int .i64 q1), .v (.int .i64 q2), .v (.int .i64 q3)]), .x (.agg [.v (.int .i64 n0), .v (.int .i64 n1), .v (.int .i64 n2), .v (.int .i64 n3)]), .x (.agg [.v (.int .i64 m0), .v (.int .i64 m1), .v (.int .i64 m2), .v (.int .i64 m3)]), .x (.c (.v (.int .i64 x))), .x (.c (.v (.int .i64 y)))]) rfl rfl (by simp) ?_ w hG hF
  rw [RectBasicsAgree_vc]
  have k16 : modOk 16 = true := rfl
  simp [okAns, eqXs, eqX, eqo, eqLo, eqc, veq, eqUs, bcond_iff, k16, ieq_rfl', beq_rfl']

set_option linter.unusedVariables false in
theorem RectCombinesAgree_core (p0 p1 p2 p3 q0 q1 q2 q3 n0 n1 n2 n3 m0 m1 m2 m3 : Int) (ln : Nat) (l : Int → Nat → Int) (x y : Int) (w0 : (Lit.int .i64 p0).wf = true) (w1 : (Lit.int .i64 p1).wf = true) (w2 : (Lit.int .i64 p2).wf = true) (w3 : (Lit.int .i64 p3).wf = true) (w4 : (Lit.int .i64 q0).wf = true) (w5 : (Lit.int .i64 q1).wf = true) (w6 : (Lit.int .i64 q2).wf = true) (w7 : (Lit.int .i64 q3).wf = true) (w8 : (Lit.int .i64 n0).wf = true) (w9 : (Lit.int .i64 n1).wf = true) (w10 : (Lit.int .i64 n2).wf = true) (w11 : (Lit.int .i64 n3).wf = true) (w12 : (Lit.int .i64 m0).wf = true) (w13 : (Lit.int .i64 m1).wf = true) (w14 : (Lit.int .i64 m2).wf = true) (w15 : (Lit.int .i64 m3).wf = true) (z0 : ln ≤ maxLen) (w16 : ∀ i j : Nat, i < ln → j < 4 → (Lit.int .i64 (l i j)).wf = true) (w17 : (Lit.int .i64 x).wf = true) (w18 : (Lit.int .i64 y).wf = true) (w : World) {F : Nat → Prop} (hG : QR.Laid F w) (hF : ∀ k, F k → k < w.heap.size) (x0 : Value) (r0 : QR.Rep F w (.slc 4 ((ln : Nat) : Int) (.fn fun i j => .v (.int .i64 (l i j)))) x0) :
    Calls Try.prog 4 #[.agg #[.int .i64 p0, .int .i64 p1, .int .i64 p2, .int .i64 p3], .agg #[.int .i64 q0, .int .i64 q1, .int .i64 q2, .int .i64 q3], .agg #[.int .i64 n0, .int .i64 n1, .int .i64 n2, .int .i64 n3], .agg #[.int .i64 m0, .int .i64 m1, .int .i64 m2, .int .i64 m3], x0, .int .i64 x, .int .i64 y] w fun e w' => e = .returned (.bool true) ∧ Below w.heap.size w w' := by
  refine law_of_conc (O := o_law13b) (QR.orc_cons a_grect (QR.orc_cons (up a_mod) (QR.orc_cons a_awake13 (QR.orc_cons a_rint (QR.orc_cons a_fint (QR.orc_cons a_rhull (QR.orc_cons a_fhull (QR.orc_cons a_rtrans (QR.orc_cons a_ftrans QR.orc_nil))))))))) mixed (QR.noLoops) Try.func4 (by kernel_rfl) (vs := [.agg #[.int .i64 p0, .int .i64 p1, .int .i64 p2, .int .i64 p3], .agg #[.int .i64 q0, .int .i64 q1, .int .i64 q2, .int .i64 q3], .agg #[.int .i64 n0, .int .i64 n1, .int .i64 n2, .int .i64 n3], .agg #[.int .i64 m0, .int .i64 m1, .int .i64 m2, .int .i64 m3], x0, .int .i64 x, .int .i64 y]) (args := [.x (.agg [.v (.int .i64 p0), .v (.int .i64 p1), .v (.int .i64 p2), .v (.int .i64 p3)]), .x (.agg [.v (.int .i64 q0), .v (.int .i64 q1), .v (.int .i64 q2), .v (.int .i64 q3)]), .x (.agg [.v (.int .i64 n0), .v (.int .i64 n1), .v (.int .i64 n2), .v (.int .i64 n3)]), .x (.agg [.v (.int .i64 m0), .v (.int .i64 m1), .v (.int .i64 m2), .v (.int .i64 m3)]), .x (.c (.slc 4 ((ln : Nat) : Int) (.fn fun i j => .v (.int .i64 (l i j))))), .x (.c (.v (.int .i64 x))), .x (.c (.v (.int .i64 y)))]) (by simp) ?_ w hG hF ⟨⟨[.int .i64 p0, .int .i64 p1, .int .i64 p2, .int .i64 p3], rfl, ⟨.v rfl, .v rfl, .v rfl, .v rfl, trivial⟩⟩, ⟨[.int .i64 q0, .int .i64 q1, .int .i64 q2, .int .i64 q3], rfl, ⟨.v rfl, .v rfl, .v rfl, .v rfl, trivial⟩⟩, ⟨[.int .i64 n0, .int .i64 n1, .int .i64 n2, .int .i64 n3], rfl, ⟨.v rfl, .v rfl, .v rfl, .v rfl, trivial⟩⟩, ⟨[.int .i64 m0, .int .i64 m1, .int .i64 m2, .int .i64 m3], rfl, ⟨.v rfl, .v rfl, .v rfl, .v rfl, trivial⟩⟩, r0, .v rfl, .v rfl, rfl⟩
  rw [RectCombinesAgree_vc]
  have k40 : modOk 40 = true := rfl
  have nn0 : ile 0 (ln : Int) = true := ile_t (by omega)
  cases h : igt (ln : Int) 20
  · have le : (ln : Int) ≤ 20 := by have := of_decide_eq_false h; omega
    have nn1 : ile (ln : Int) 1099511627776 = true := ile_t (by omega)
    have r3 := row4_3 (grA n0) (grB n1) (grC n0 n2) (grD n1 n3) (grA m0) (grB m1) (grC m0 m2) (grD m1 m3) q0 q1 q2 q3
    unfold rr4 z4 at r3
    have t0 : ile 0 3 = true := rfl
    have t1 : ile 3 1099511627776 = true := rfl
    simp [okAns, eqXs, eqX, eqo, eqLo, eqc, veq, eqUs, bcond_iff, k40, h, nn0, nn1, r3, t0, t1, in64_sub, wf64 w17, wf64 w18, intRow_fn, ieq_rfl', beq_rfl', band]
  · simp [okAns, eqXs, eqX, eqo, eqLo, eqc, veq, eqUs, bcond_iff, h]

set_option linter.unusedVariables false in
theorem RectSubtractAgrees_core (p0 p1 p2 p3 q0 q1 q2 q3 n0 n1 n2 n3 m0 m1 m2 m3 : Int) (w0 : (Lit.int .i64 p0).wf = true) (w1 : (Lit.int .i64 p1).wf = true) (w2 : (Lit.int .i64 p2).wf = true) (w3 : (Lit.int .i64 p3).wf = true) (w4 : (Lit.int .i64 q0).wf = true) (w5 : (Lit.int .i64 q1).wf = true) (w6 : (Lit.int .i64 q2).wf = true) (w7 : (Lit.int .i64 q3).wf = true) (w8 : (Lit.int .i64 n0).wf = true) (w9 : (Lit.int .i64 n1).wf = true) (w10 : (Lit.int .i64 n2).wf = true) (w11 : (Lit.int .i64 n3).wf = true) (w12 : (Lit.int .i64 m0).wf = true) (w13 : (Lit.int .i64 m1).wf = true) (w14 : (Lit.int .i64 m2).wf = true) (w15 : (Lit.int .i64 m3).wf = true) (w : World) {F : Nat → Prop} (hG : QR.Laid F w) (hF : ∀ k, F k → k < w.heap.size) :
    Calls Try.prog 6 #[.agg #[.int .i64 p0, .int .i64 p1, .int .i64 p2, .int .i64 p3], .agg #[.int .i64 q0, .int .i64 q1, .int .i64 q2, .int .i64 q3], .agg #[.int .i64 n0, .int .i64 n1, .int .i64 n2, .int .i64 n3], .agg #[.int .i64 m0, .int .i64 m1, .int .i64 m2, .int .i64 m3]] w fun e w' => e = .returned (.bool true) ∧ Below w.heap.size w w' := by
  refine law_of_eval (O := o_law13d) (QR.orc_cons a_grect (QR.orc_cons (up a_mod) (QR.orc_cons a_awake13 (QR.orc_cons a_rsub (QR.orc_cons a_fsub (QR.orc_cons a_rsame QR.orc_nil)))))) mixed (QR.noLoops) Try.func6 (by kernel_rfl) (vs := [.agg #[.int .i64 p0, .int .i64 p1, .int .i64 p2, .int .i64 p3], .agg #[.int .i64 q0, .int .i64 q1, .int .i64 q2, .int .i64 q3], .agg #[.int .i64 n0, .int .i64 n1, .int .i64 n2, .int .i64 n3], .agg #[.int .i64 m0, .int .i64 m1, .int .i64 m2, .int .i64 m3]]) (xs := [.agg [.v (.int .i64 p0), .v (.int .i64 p1), .v (.int .i64 p2), .v (.int .i64 p3)], .agg [.v (.int .i64 q0), .v (.int .i64 q1), .v (.int .i64 q2), .v (.int .i64 q3)], .agg [.v (.int .i64 n0), .v (.int .i64 n1), .v (.int .i64 n2), .v (.int .i64 n3)], .agg [.v (.int .i64 m0), .v (.int .i64 m1), .v (.int .i64 m2), .v (.int .i64 m3)]]) (args := [.x (.agg [.v (.int .i64 p0), .v (.int .i64 p1), .v (.int .i64 p2), .v (.int .i64 p3)]), .x (.agg [.v (.int .i64 q0), .v (.int .i64 q1), .v (.int .i64 q2), .v (.int .i64 q3)]), .x (.agg [.v (.int .i64 n0), .v (.int .i64 n1), .v (.int .i64 n2), .v (.int .i64 n3)]), .x (.agg [.v (.int .i64 m0), .v (.int .i64 m1), .v (.int .i64 m2), .v (.int .i64 m3)])]) rfl rfl (by simp) ?_ w hG hF
  rw [RectSubtractAgrees_vc]
  have sm := fun (n : Int) (r : QR.Row) => sameR_rfl 4 n r
  have sn : ∀ a b c d e f g h : Int, ile 0 (sbN a b c d e f g h) = true ∧ ile (sbN a b c d e f g h) 1099511627776 = true := fun a b c d e f g h => by
    have := sb_len ⟨a, b, c, d⟩ ⟨e, f, g, h⟩
    unfold sbN
    exact ⟨ile_t (by omega), ile_t (by omega)⟩
  simp [okAns, eqXs, eqX, eqo, eqLo, eqc, veq, eqUs, bcond_iff, sm, sn, intRow_fn]

set_option linter.unusedVariables false in
theorem RectIntersectsPoints_core (n0 n1 n2 n3 m0 m1 m2 m3 x y : Int) (w0 : (Lit.int .i64 n0).wf = true) (w1 : (Lit.int .i64 n1).wf = true) (w2 : (Lit.int .i64 n2).wf = true) (w3 : (Lit.int .i64 n3).wf = true) (w4 : (Lit.int .i64 m0).wf = true) (w5 : (Lit.int .i64 m1).wf = true) (w6 : (Lit.int .i64 m2).wf = true) (w7 : (Lit.int .i64 m3).wf = true) (w8 : (Lit.int .i64 x).wf = true) (w9 : (Lit.int .i64 y).wf = true) (w : World) {F : Nat → Prop} (hG : QR.Laid F w) (hF : ∀ k, F k → k < w.heap.size) :
    Calls Try.prog 5 #[.agg #[.int .i64 n0, .int .i64 n1, .int .i64 n2, .int .i64 n3], .agg #[.int .i64 m0, .int .i64 m1, .int .i64 m2, .int .i64 m3], .int .i64 x, .int .i64 y] w fun e w' => e = .returned (.bool true) ∧ Below w.heap.size w w' := by
  refine law_of_eval (O := o_law13c) (QR.orc_cons a_grect (QR.orc_cons (up a_mod) (QR.orc_cons a_awake13 (QR.orc_cons a_rcont (QR.orc_cons a_rcov (QR.orc_cons a_rint (QR.orc_cons a_rhull QR.orc_nil))))))) mixed (QR.noLoops) Try.func5 (by kernel_rfl) (vs := [.agg #[.int .i64 n0, .int .i64 n1, .int .i64 n2, .int .i64 n3], .agg #[.int .i64 m0, .int .i64 m1, .int .i64 m2, .int .i64 m3], .int .i64 x, .int .i64 y]) (xs := [.agg [.v (.int .i64 n0), .v (.int .i64 n1), .v (.int .i64 n2), .v (.int .i64 n3)], .agg [.v (.int .i64 m0), .v (.int .i64 m1), .v (.int .i64 m2), .v (.int .i64 m3)], .c (.v (.int .i64 x)), .c (.v (.int .i64 y))]) (args := [.x (.agg [.v (.int .i64 n0), .v (.int .i64 n1), .v (.int .i64 n2), .v (.int .i64 n3)]), .x (.agg [.v (.int .i64 m0), .v (.int .i64 m1), .v (.int .i64 m2), .v (.int .i64 m3)]), .x (.c (.v (.int .i64 x))), .x (.c (.v (.int .i64 y)))]) rfl rfl (by simp) ?_ w hG hF
  rw [RectIntersectsPoints_vc]
  have k16 : modOk 16 = true := rfl
  have t0 : ile 0 2 = true := rfl
  have t1 : ile 2 1099511627776 = true := rfl
  simp only [forall_eq, k16, t0, t1]
  generalize isub .i64 (gmod x 16) 8 = U at *
  generalize isub .i64 (gmod y 16) 8 = V at *
  generalize grA n0 = a at *
  generalize grB n1 = b at *
  generalize grC n0 n2 = c at *
  generalize grD n1 n3 = d at *
  generalize grA m0 = e at *
  generalize grB m1 = f at *
  generalize grC m0 m2 = g at *
  generalize grD m1 m3 = h at *
  have r2 := row4_2 a b c d e f g h
  have hh := hu_two a b c d e f g h
  unfold rr4 z4 at r2 hh
  have hc : rcB (riV 0 a b c d e f g h) (riV 1 a b c d e f g h) (riV 2 a b c d e f g h) (riV 3 a b c d e f g h) U V = (rcB a b c d U V && rcB e f g h U V) := rc_inter ⟨a, b, c, d⟩ ⟨e, f, g, h⟩ U V
  have cv2 : rcovB a b c d (riV 0 a b c d e f g h) (riV 1 a b c d e f g h) (riV 2 a b c d e f g h) (riV 3 a b c d e f g h) = true := r4V_inter ⟨a, b, c, d⟩ ⟨e, f, g, h⟩
  have hk : (rcB a b c d U V = true ∨ rcB e f g h U V = true) → rcB (r4G 0 (r4H (r4T ⟨a, b, c, d⟩) ⟨e, f, g, h⟩)) (r4G 1 (r4H (r4T ⟨a, b, c, d⟩) ⟨e, f, g, h⟩)) (r4G 2 (r4H (r4T ⟨a, b, c, d⟩) ⟨e, f, g, h⟩)) (r4G 3 (r4H (r4T ⟨a, b, c, d⟩) ⟨e, f, g, h⟩)) U V = true := fun k => rc_hull (r4T ⟨a, b, c, d⟩) ⟨e, f, g, h⟩ U V (by rw [rc_T]; exact k)
  have cv1 : rcovB (r4G 0 (r4H (r4T ⟨a, b, c, d⟩) ⟨e, f, g, h⟩)) (r4G 1 (r4H (r4T ⟨a, b, c, d⟩) ⟨e, f, g, h⟩)) (r4G 2 (r4H (r4T ⟨a, b, c, d⟩) ⟨e, f, g, h⟩)) (r4G 3 (r4H (r4T ⟨a, b, c, d⟩) ⟨e, f, g, h⟩)) a b c d = true := r4V_hull ⟨a, b, c, d⟩ ⟨e, f, g, h⟩
  cases p : rcB a b c d U V <;> cases q : rcB e f g h U V <;> simp only [p, q, Bool.false_eq_true, or_self, or_true, true_or, false_implies, true_implies] at hk <;> simp [okAns, eqXs, eqX, eqo, eqLo, eqc, veq, eqUs, bcond_iff, bnot, band, beq', r2, hh, hc, cv1, cv2, hk, p, q]

set_option linter.unusedVariables false in
theorem RectSubtractsPoints_core (n0 n1 n2 n3 m0 m1 m2 m3 x y : Int) (w0 : (Lit.int .i64 n0).wf = true) (w1 : (Lit.int .i64 n1).wf = true) (w2 : (Lit.int .i64 n2).wf = true) (w3 : (Lit.int .i64 n3).wf = true) (w4 : (Lit.int .i64 m0).wf = true) (w5 : (Lit.int .i64 m1).wf = true) (w6 : (Lit.int .i64 m2).wf = true) (w7 : (Lit.int .i64 m3).wf = true) (w8 : (Lit.int .i64 x).wf = true) (w9 : (Lit.int .i64 y).wf = true) (w : World) {F : Nat → Prop} (hG : QR.Laid F w) (hF : ∀ k, F k → k < w.heap.size) :
    Calls Try.prog 7 #[.agg #[.int .i64 n0, .int .i64 n1, .int .i64 n2, .int .i64 n3], .agg #[.int .i64 m0, .int .i64 m1, .int .i64 m2, .int .i64 m3], .int .i64 x, .int .i64 y] w fun e w' => e = .returned (.bool true) ∧ Below w.heap.size w w' := by
  refine law_of_eval (O := o_law13e) (QR.orc_cons a_grect (QR.orc_cons (up a_mod) (QR.orc_cons a_awake13 (QR.orc_cons a_rsub (QR.orc_cons a_rint (QR.orc_cons a_rarea (QR.orc_cons a_rcont (QR.orc_cons a_fcont QR.orc_nil)))))))) mixed (fun k => bif Nat.beq k 6 then some (.inv (o_inv_sp n0 n1 n2 n3 m0 m1 m2 m3 x y)) else none) Try.func7 (by kernel_rfl) (vs := [.agg #[.int .i64 n0, .int .i64 n1, .int .i64 n2, .int .i64 n3], .agg #[.int .i64 m0, .int .i64 m1, .int .i64 m2, .int .i64 m3], .int .i64 x, .int .i64 y]) (xs := [.agg [.v (.int .i64 n0), .v (.int .i64 n1), .v (.int .i64 n2), .v (.int .i64 n3)], .agg [.v (.int .i64 m0), .v (.int .i64 m1), .v (.int .i64 m2), .v (.int .i64 m3)], .c (.v (.int .i64 x)), .c (.v (.int .i64 y))]) (args := [.x (.agg [.v (.int .i64 n0), .v (.int .i64 n1), .v (.int .i64 n2), .v (.int .i64 n3)]), .x (.agg [.v (.int .i64 m0), .v (.int .i64 m1), .v (.int .i64 m2), .v (.int .i64 m3)]), .x (.c (.v (.int .i64 x))), .x (.c (.v (.int .i64 y)))]) rfl rfl (by simp) ?_ w hG hF
  rw [RectSubtractsPoints_vc]
  have k16 : modOk 16 = true := rfl
  simp only [forall_eq, k16, true_and, and_true]
  have eN : sbN (grA n0) (grB n1) (grC n0 n2) (grD n1 n3) (grA m0) (grB m1) (grC m0 m2) (grD m1 m3) = ((spL n0 n1 n2 n3 m0 m1 m2 m3).length : Nat) := rfl
  have eV : ∀ i j, sbV (grA n0) (grB n1) (grC n0 n2) (grD n1 n3) (grA m0) (grB m1) (grC m0 m2) (grD m1 m3) i j = r4G j ((spL n0 n1 n2 n3 m0 m1 m2 m3).getD i.toNat r4z) := fun _ _ => rfl
  have ar := sb_area ⟨grA n0, grB n1, grC n0 n2, grD n1 n3⟩ ⟨grA m0, grB m1, grC m0 m2, grD m1 m3⟩
  have ct := sb_count ⟨grA n0, grB n1, grC n0 n2, grD n1 n3⟩ ⟨grA m0, grB m1, grC m0 m2, grD m1 m3⟩ (isub .i64 (gmod x 16) 8) (isub .i64 (gmod y 16) 8)
  have ln4 := sb_len ⟨grA n0, grB n1, grC n0 n2, grD n1 n3⟩ ⟨grA m0, grB m1, grC m0 m2, grD m1 m3⟩
  refine ⟨⟨(0, raV (riV 0 (grA n0) (grB n1) (grC n0 n2) (grD n1 n3) (grA m0) (grB m1) (grC m0 m2) (grD m1 m3)) (riV 1 (grA n0) (grB n1) (grC n0 n2) (grD n1 n3) (grA m0) (grB m1) (grC m0 m2) (grD m1 m3)) (riV 2 (grA n0) (grB n1) (grC n0 n2) (grD n1 n3) (grA m0) (grB m1) (grC m0 m2) (grD m1 m3)) (riV 3 (grA n0) (grB n1) (grC n0 n2) (grD n1 n3) (grA m0) (grB m1) (grC m0 m2) (grD m1 m3)), 0), ⟨⟨Int.le_refl 0, by simp only; omega⟩, rfl, (Int.add_zero _).symm⟩, by simp⟩, fun i hi => ?_⟩
  obtain ⟨found, area, i⟩ := i
  obtain ⟨⟨i0, i1⟩, hf, ha⟩ := hi
  simp only at i0 i1 hf ha
  rw [eN]
  simp only [eV]
  have ari : r4A (r4I ⟨grA n0, grB n1, grC n0 n2, grD n1 n3⟩ ⟨grA m0, grB m1, grC m0 m2, grD m1 m3⟩) + areaL (spL n0 n1 n2 n3 m0 m1 m2 m3) = r4A ⟨grA n0, grB n1, grC n0 n2, grD n1 n3⟩ := ar
  have cti : cntL (isub .i64 (gmod x 16) 8) (isub .i64 (gmod y 16) 8) (spL n0 n1 n2 n3 m0 m1 m2 m3) = b01 (r4C ⟨grA n0, grB n1, grC n0 n2, grD n1 n3⟩ (isub .i64 (gmod x 16) 8) (isub .i64 (gmod y 16) 8) && !r4C ⟨grA m0, grB m1, grC m0 m2, grD m1 m3⟩ (isub .i64 (gmod x 16) 8) (isub .i64 (gmod y 16) 8)) := ct
  have lni : (spL n0 n1 n2 n3 m0 m1 m2 m3).length ≤ 4 := ln4
  have mus : ∀ i, spMu n0 n1 n2 n3 m0 m1 m2 m3 i = ((spL n0 n1 n2 n3 m0 m1 m2 m3).length - i).toNat := fun _ => rfl
  have good : ∀ f a i, spGood n0 n1 n2 n3 m0 m1 m2 m3 x y f a i = ((0 ≤ i ∧ i ≤ (spL n0 n1 n2 n3 m0 m1 m2 m3).length) ∧ f = cntL (isub .i64 (gmod x 16) 8) (isub .i64 (gmod y 16) 8) ((spL n0 n1 n2 n3 m0 m1 m2 m3).take i.toNat) ∧ a = r4A (r4I ⟨grA n0, grB n1, grC n0 n2, grD n1 n3⟩ ⟨grA m0, grB m1, grC m0 m2, grD m1 m3⟩) + areaL ((spL n0 n1 n2 n3 m0 m1 m2 m3).take i.toNat)) := fun _ _ _ => rfl
  simp only [good, mus]
  clear ar ct ln4 eN eV good mus
  have az := (r4A_le (r4I ⟨grA n0, grB n1, grC n0 n2, grD n1 n3⟩ ⟨grA m0, grB m1, grC m0 m2, grD m1 m3⟩)).1
  generalize spL n0 n1 n2 n3 m0 m1 m2 m3 = L at *
  generalize isub .i64 (gmod x 16) 8 = U at *
  generalize isub .i64 (gmod y 16) 8 = V at *
  generalize r4A (r4I ⟨grA n0, grB n1, grC n0 n2, grD n1 n3⟩ ⟨grA m0, grB m1, grC m0 m2, grD m1 m3⟩) = A0 at *
  have le : ile 0 i = true := ile_t i0
  rw [bcond_iff]
  refine ⟨fun c1 => ?_, fun c1 => ?_⟩
  · have lt := of_decide_eq_true c1
    obtain ⟨k, rfl⟩ : ∃ k : Nat, i = k := ⟨i.toNat, by omega⟩
    simp only [Int.toNat_natCast] at hf ha ⊢
    have hk : k < L.length := by omega
    have ia : iadd .i64 (k : Int) 1 = ((k + 1 : Nat) : Int) := by unfold iadd; rw [IntWalk.i64_in _ (by omega)]; omega
    have tk : L.take (k + 1) = L.take k ++ [L.getD k r4z] := by
      rw [List.take_succ_eq_append_getElem hk, List.getD, List.getElem?_eq_getElem hk]; rfl
    have cadd : ∀ (l : List R4) (p : R4), cntL U V (l ++ [p]) = cntL U V l + b01 (r4C p U V) := by
      intro l p
      induction l with
      | nil => simp [cntL]
      | cons q l ih => simp only [List.cons_append, cntL, ih]; omega
    have aadd : ∀ (l : List R4) (p : R4), areaL (l ++ [p]) = areaL l + r4A p := by
      intro l p
      induction l with
      | nil => simp [areaL]
      | cons q l ih => simp only [List.cons_append, areaL, ih]; omega
    have hf' := cadd (L.take k) (L.getD k r4z)
    have ha' := aadd (L.take k) (L.getD k r4z)
    rw [← tk] at hf' ha'
    have mu : Nat.le (Nat.succ ((L.length : Int) - ((k + 1 : Nat) : Int)).toNat) ((L.length : Int) - (k : Int)).toNat := by show ((L.length : Int) - ((k + 1 : Nat) : Int)).toNat < ((L.length : Int) - (k : Int)).toNat; omega
    simp only [ia, le, c1, true_and, and_true, implies_true]
    have at1 := area_take L (k + 1)
    have at2 := r4A_le ⟨grA n0, grB n1, grC n0 n2, grD n1 n3⟩
    have at0 := area_take L k
    have at3 := r4A_le (L.getD k r4z)
    have cl := cnt_le U V (L.take (k + 1))
    have cl0 := cnt_le U V (L.take k)
    have ll : (L.take (k + 1)).length ≤ L.length := by rw [List.length_take]; omega
    have ga : iadd .i64 area (raV (r4G 0 (L.getD k r4z)) (r4G 1 (L.getD k r4z)) (r4G 2 (L.getD k r4z)) (r4G 3 (L.getD k r4z))) = A0 + areaL (L.take (k + 1)) := by
      show iadd .i64 area (r4A (L.getD k r4z)) = _
      unfold iadd
      rw [ha, IntWalk.i64_in _ (by omega)]; omega
    rw [ga]
    have hcc : rcB (r4G 0 (L.getD k r4z)) (r4G 1 (L.getD k r4z)) (r4G 2 (L.getD k r4z)) (r4G 3 (L.getD k r4z)) U V = r4C (L.getD k r4z) U V := rfl
    rw [hcc]
    cases hb : r4C (L.getD k r4z) U V
    · rw [hb] at hf'
      simp only [b01, cond_false] at hf'
      refine bcond_iff.2 ⟨fun h => by simp at h, fun _ => ⟨(found, A0 + areaL (L.take (k + 1)), ((k + 1 : Nat) : Int)), ⟨⟨by simp only; omega, by simp only; omega⟩, ?_, ?_⟩, ⟨rfl, rfl, rfl⟩, mu⟩⟩
      · simp only [Int.toNat_natCast]; omega
      · simp only [Int.toNat_natCast]
    · rw [hb] at hf'
      simp only [b01, cond_true] at hf'
      have gf : iadd .i64 found 1 = found + 1 := by unfold iadd; exact IntWalk.i64_in _ (by omega)
      rw [gf]
      refine bcond_iff.2 ⟨fun _ => ⟨(found + 1, A0 + areaL (L.take (k + 1)), ((k + 1 : Nat) : Int)), ⟨⟨by simp only; omega, by simp only; omega⟩, ?_, ?_⟩, ⟨rfl, rfl, rfl⟩, mu⟩, fun h => by simp at h⟩
      · simp only [Int.toNat_natCast]; omega
      · simp only [Int.toNat_natCast]
  · have := of_decide_eq_false c1
    obtain rfl : i = (L.length : Int) := by omega
    rw [Int.toNat_natCast, List.take_length] at hf ha
    rw [cti] at hf
    rw [ari] at ha
    have f4 : ile (L.length : Int) 4 = true := ile_t (by omega)
    have ea : raV (grA n0) (grB n1) (grC n0 n2) (grD n1 n3) = area := ha.symm
    have e1 : rcB (grA n0) (grB n1) (grC n0 n2) (grD n1 n3) U V = r4C ⟨grA n0, grB n1, grC n0 n2, grD n1 n3⟩ U V := rfl
    have e2 : rcB (grA m0) (grB m1) (grC m0 m2) (grD m1 m3) U V = r4C ⟨grA m0, grB m1, grC m0 m2, grD m1 m3⟩ U V := rfl
    rw [e1, e2, ea]
    cases h1 : r4C ⟨grA n0, grB n1, grC n0 n2, grD n1 n3⟩ U V <;> cases h2 : r4C ⟨grA m0, grB m1, grC m0 m2, grD m1 m3⟩ U V <;> simp only [h1, h2, b01, Bool.and_true, Bool.and_false, Bool.not_true, Bool.not_false, Bool.true_and, Bool.false_and, cond_true, cond_false] at hf <;> subst hf <;> simp [bcond_iff, bnot, okAns, eqXs, eqX, eqo, eqLo, eqc, veq, eqUs, f4, ieq_rfl']

set_option linter.unusedVariables false in
theorem RectTranslatesBack_core (n0 n1 n2 n3 x y u v : Int) (w0 : (Lit.int .i64 n0).wf = true) (w1 : (Lit.int .i64 n1).wf = true) (w2 : (Lit.int .i64 n2).wf = true) (w3 : (Lit.int .i64 n3).wf = true) (w4 : (Lit.int .i64 x).wf = true) (w5 : (Lit.int .i64 y).wf = true) (w6 : (Lit.int .i64 u).wf = true) (w7 : (Lit.int .i64 v).wf = true) (w : World) {F : Nat → Prop} (hG : QR.Laid F w) (hF : ∀ k, F k → k < w.heap.size) :
    Calls Try.prog 8 #[.agg #[.int .i64 n0, .int .i64 n1, .int .i64 n2, .int .i64 n3], .int .i64 x, .int .i64 y, .int .i64 u, .int .i64 v] w fun e w' => e = .returned (.bool true) ∧ Below w.heap.size w w' := by
  refine law_of_eval (O := o_law13f) (QR.orc_cons a_grect (QR.orc_cons (up a_mod) (QR.orc_cons a_awake13 (QR.orc_cons a_rtrans (QR.orc_cons a_rempty (QR.orc_cons a_rcont (QR.orc_cons a_rarea QR.orc_nil))))))) mixed (QR.noLoops) Try.func8 (by kernel_rfl) (vs := [.agg #[.int .i64 n0, .int .i64 n1, .int .i64 n2, .int .i64 n3], .int .i64 x, .int .i64 y, .int .i64 u, .int .i64 v]) (xs := [.agg [.v (.int .i64 n0), .v (.int .i64 n1), .v (.int .i64 n2), .v (.int .i64 n3)], .c (.v (.int .i64 x)), .c (.v (.int .i64 y)), .c (.v (.int .i64 u)), .c (.v (.int .i64 v))]) (args := [.x (.agg [.v (.int .i64 n0), .v (.int .i64 n1), .v (.int .i64 n2), .v (.int .i64 n3)]), .x (.c (.v (.int .i64 x))), .x (.c (.v (.int .i64 y))), .x (.c (.v (.int .i64 u))), .x (.c (.v (.int .i64 v)))]) rfl rfl (by simp) ?_ w hG hF
  rw [RectTranslatesBack_vc]
  have k16 : modOk 16 = true := rfl
  have k4 : modOk 4000 = true := rfl
  have r1 := gmod_range x (k := 4000) (by decide)
  have r2 := gmod_range y (k := 4000) (by decide)
  have r3 := gmod_range u (k := 16) (by decide)
  have r4 := gmod_range v (k := 16) (by decide)
  have e1 : isub .i64 (gmod x 4000) 2000 = gmod x 4000 - 2000 := IntWalk.i64_in _ (by omega)
  have e2 : isub .i64 (gmod y 4000) 2000 = gmod y 4000 - 2000 := IntWalk.i64_in _ (by omega)
  have e3 : isub .i64 (gmod u 16) 8 = gmod u 16 - 8 := IntWalk.i64_in _ (by omega)
  have e4 : isub .i64 (gmod v 16) 8 = gmod v 16 - 8 := IntWalk.i64_in _ (by omega)
  have i1 := in64_sub (gmod x 4000) 2000
  have i2 := in64_sub (gmod y 4000) 2000
  simp only [forall_eq, k16, k4, in64_sub, true_and, and_true]
  rw [e1, e2, e3, e4]
  obtain ⟨U, hU⟩ : ∃ U, U = gmod x 4000 - 2000 := ⟨_, rfl⟩
  obtain ⟨V, hV⟩ : ∃ V, V = gmod y 4000 - 2000 := ⟨_, rfl⟩
  obtain ⟨p, hp⟩ : ∃ p, p = gmod u 16 - 8 := ⟨_, rfl⟩
  obtain ⟨q, hq⟩ : ∃ q, q = gmod v 16 - 8 := ⟨_, rfl⟩
  rw [← hU, ← hV, ← hp, ← hq]
  have ng1 : isub .i64 0 U = -U := by unfold isub; rw [IntWalk.i64_in _ (by omega)]; omega
  have ng2 : isub .i64 0 V = -V := by unfold isub; rw [IntWalk.i64_in _ (by omega)]; omega
  have ng3 : iadd .i64 p U = p + U := IntWalk.i64_in _ (by omega)
  have ng4 : iadd .i64 q V = q + V := IntWalk.i64_in _ (by omega)
  rw [ng1, ng2, ng3, ng4]
  generalize grA n0 = a at *
  generalize grB n1 = b at *
  generalize grC n0 n2 = c at *
  generalize grD n1 n3 = d at *
  have z : reB 0 0 0 0 = true := rfl
  cases k : reB a b c d
  · cases k2 : reB (a + U) (b + V) (c + U) (d + V)
    · have h1 : ∀ j, rtV j a b c d U V = r4G j ⟨a + U, b + V, c + U, d + V⟩ := fun j => by rw [rt_f k, ti_f k2]
      obtain ⟨m1, m2, m3⟩ := r4M (x := ⟨a, b, c, d⟩) (u := U) (v := V) k k2 p q
      have ca : ∀ s t : Int, s + t + -t = s := fun s t => by omega
      have h2 : ∀ j, rtV j (a + U) (b + V) (c + U) (d + V) (-U) (-V) = r4G j ⟨a, b, c, d⟩ := fun j => by rw [rt_f k2, ca, ca, ca, ca, ti_f k]
      have m2 : rcB (a + U) (b + V) (c + U) (d + V) (p + U) (q + V) = rcB a b c d p q := m2
      have m3 : raV (a + U) (b + V) (c + U) (d + V) = raV a b c d := m3
      simp [okAns, eqXs, eqX, eqo, eqLo, eqc, veq, eqUs, bcond_iff, h1, h2, k2, m2, m3, r4G, band, ieq_rfl', beq_rfl']
    · have h1 : ∀ j, rtV j a b c d U V = 0 := fun j => by rw [rt_f k, ti_t k2]
      simp [okAns, eqXs, eqX, eqo, eqLo, eqc, veq, eqUs, bcond_iff, h1, z, band, ieq_rfl']
  · have h1 : ∀ j, rtV j a b c d U V = 0 := rt_t k
    simp [okAns, eqXs, eqX, eqo, eqLo, eqc, veq, eqUs, bcond_iff, h1, z, band, ieq_rfl']
end Go.Proofs.Ythkndeafhjhdiaa
