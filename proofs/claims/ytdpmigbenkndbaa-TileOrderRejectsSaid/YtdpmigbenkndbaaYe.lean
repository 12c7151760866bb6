import Derived.Test.YtdpmigbenkndbaaYo
namespace Go.Proofs.Ytdpmigbenkndbaa
open Go.RowKit PR QR
set_option linter.unusedVariables false
set_option linter.unusedSimpArgs false
set_option maxRecDepth 20000
theorem a_awake17 : Answers2 14 s_yes17 := by
  intro al ans h hq
  unfold s_yes17 at h
  split at h <;> try (simp at h; done)
  skip
  simp only [Option.some.injEq] at h
  subst h
  have hq := asked hq
  refine QR.does_of_eval (O := o_aw17) (QR.orc_cons a_tcount (QR.orc_cons a_ttile QR.orc_nil)) mixed (QR.noLoops) Try.func14 (by kernel_rfl) (by kernel_rfl) (by simp) ?_
  rw [awake17_vc]
  have e0 : tiX 0 0 5 4 2 3 = 3 := by decide
  have e1 : tiY 0 0 5 4 2 3 = 2 := by decide
  have e2 : tlV 0 0 0 5 4 2 3 5 = 4 := by decide
  have e3 : tlV 1 0 0 5 4 2 3 5 = 3 := by decide
  have e4 : tlV 2 0 0 5 4 2 3 5 = 5 := by decide
  have e5 : tlV 3 0 0 5 4 2 3 5 = 4 := by decide
  have e6 : tiB 0 0 5 4 2 3 = true := by decide
  have e7 : tlB 0 0 5 4 2 3 5 = true := by decide
  simp [bcond_iff, okAns, eqXs, eqX, eqo, eqLo, eqc, veq, eqUs, e0, e1, e2, e3, e4, e5, e6, e7, band, ieq]
set_option linter.unusedVariables false in
theorem TileCountAgrees_core (a b c d tw th i n0 n1 n2 n3 u v k : Int) (w0 : (Lit.int .i64 a).wf = true) (w1 : (Lit.int .i64 b).wf = true) (w2 : (Lit.int .i64 c).wf = true) (w3 : (Lit.int .i64 d).wf = true) (w4 : (Lit.int .i64 tw).wf = true) (w5 : (Lit.int .i64 th).wf = true) (w6 : (Lit.int .i64 i).wf = true) (w7 : (Lit.int .i64 n0).wf = true) (w8 : (Lit.int .i64 n1).wf = true) (w9 : (Lit.int .i64 n2).wf = true) (w10 : (Lit.int .i64 n3).wf = true) (w11 : (Lit.int .i64 u).wf = true) (w12 : (Lit.int .i64 v).wf = true) (w13 : (Lit.int .i64 k).wf = true) (w : World) {F : Nat → Prop} (hG : QR.Laid F w) (hF : ∀ k, F k → k < w.heap.size) :
    Calls Try.prog 3 #[.agg #[.int .i64 a, .int .i64 b, .int .i64 c, .int .i64 d], .int .i64 tw, .int .i64 th, .int .i64 i, .agg #[.int .i64 n0, .int .i64 n1, .int .i64 n2, .int .i64 n3], .int .i64 u, .int .i64 v, .int .i64 k] w fun e w' => e = .returned (.bool true) ∧ Below w.heap.size w w' := by
  refine law_of_eval (O := o_law17) (QR.orc_cons a_grect (QR.orc_cons (up a_mod) (QR.orc_cons a_awake17 (QR.orc_cons a_tcount (QR.orc_cons a_ftiles (QR.orc_cons a_ttile (QR.orc_cons a_ftile (QR.orc_cons a_tindex (QR.orc_cons a_ftindex QR.orc_nil))))))))) mixed (QR.noLoops) Try.func3 (by kernel_rfl) (vs := [.agg #[.int .i64 a, .int .i64 b, .int .i64 c, .int .i64 d], .int .i64 tw, .int .i64 th, .int .i64 i, .agg #[.int .i64 n0, .int .i64 n1, .int .i64 n2, .int .i64 n3], .int .i64 u, .int .i64 v, .int .i64 k]) (xs := [.agg [.v (.int .i64 a), .v (.int .i64 b), .v (.int .i64 c), .v (.int .i64 d)], .c (.v (.int .i64 tw)), .c (.v (.int .i64 th)), .c (.v (.int .i64 i)), .agg [.v (.int .i64 n0), .v (.int .i64 n1), .v (.int .i64 n2), .v (.int .i64 n3)], .c (.v (.int .i64 u)), .c (.v (.int .i64 v)), .c (.v (.int .i64 k))]) (args := [.x (.agg [.v (.int .i64 a), .v (.int .i64 b), .v (.int .i64 c), .v (.int .i64 d)]), .x (.c (.v (.int .i64 tw))), .x (.c (.v (.int .i64 th))), .x (.c (.v (.int .i64 i))), .x (.agg [.v (.int .i64 n0), .v (.int .i64 n1), .v (.int .i64 n2), .v (.int .i64 n3)]), .x (.c (.v (.int .i64 u))), .x (.c (.v (.int .i64 v))), .x (.c (.v (.int .i64 k)))]) rfl rfl (by simp) ?_ w hG hF
  rw [TileCountAgrees_vc]
  have k9 : modOk 9 = true := rfl
  have k40 : modOk 40 = true := rfl
  simp [okAns, eqXs, eqX, eqo, eqLo, eqc, veq, eqUs, bcond_iff, k9, k40, ieq_rfl', beq_rfl', band]
set_option linter.unusedVariables false in
theorem TileIndexAgrees_core (n0 n1 n2 n3 tw th x y a b c d : Int) (w0 : (Lit.int .i64 n0).wf = true) (w1 : (Lit.int .i64 n1).wf = true) (w2 : (Lit.int .i64 n2).wf = true) (w3 : (Lit.int .i64 n3).wf = true) (w4 : (Lit.int .i64 tw).wf = true) (w5 : (Lit.int .i64 th).wf = true) (w6 : (Lit.int .i64 x).wf = true) (w7 : (Lit.int .i64 y).wf = true) (w8 : (Lit.int .i64 a).wf = true) (w9 : (Lit.int .i64 b).wf = true) (w10 : (Lit.int .i64 c).wf = true) (w11 : (Lit.int .i64 d).wf = true) (w : World) {F : Nat → Prop} (hG : QR.Laid F w) (hF : ∀ k, F k → k < w.heap.size) :
    Calls Try.prog 4 #[.agg #[.int .i64 n0, .int .i64 n1, .int .i64 n2, .int .i64 n3], .int .i64 tw, .int .i64 th, .int .i64 x, .int .i64 y, .agg #[.int .i64 a, .int .i64 b, .int .i64 c, .int .i64 d]] w fun e w' => e = .returned (.bool true) ∧ Below w.heap.size w w' := by
  refine law_of_eval (O := o_law17) (QR.orc_cons a_grect (QR.orc_cons (up a_mod) (QR.orc_cons a_awake17 (QR.orc_cons a_tcount (QR.orc_cons a_ftiles (QR.orc_cons a_ttile (QR.orc_cons a_ftile (QR.orc_cons a_tindex (QR.orc_cons a_ftindex QR.orc_nil))))))))) mixed (QR.noLoops) Try.func4 (by kernel_rfl) (vs := [.agg #[.int .i64 n0, .int .i64 n1, .int .i64 n2, .int .i64 n3], .int .i64 tw, .int .i64 th, .int .i64 x, .int .i64 y, .agg #[.int .i64 a, .int .i64 b, .int .i64 c, .int .i64 d]]) (xs := [.agg [.v (.int .i64 n0), .v (.int .i64 n1), .v (.int .i64 n2), .v (.int .i64 n3)], .c (.v (.int .i64 tw)), .c (.v (.int .i64 th)), .c (.v (.int .i64 x)), .c (.v (.int .i64 y)), .agg [.v (.int .i64 a), .v (.int .i64 b), .v (.int .i64 c), .v (.int .i64 d)]]) (args := [.x (.agg [.v (.int .i64 n0), .v (.int .i64 n1), .v (.int .i64 n2), .v (.int .i64 n3)]), .x (.c (.v (.int .i64 tw))), .x (.c (.v (.int .i64 th))), .x (.c (.v (.int .i64 x))), .x (.c (.v (.int .i64 y))), .x (.agg [.v (.int .i64 a), .v (.int .i64 b), .v (.int .i64 c), .v (.int .i64 d)])]) rfl rfl (by simp) ?_ w hG hF
  rw [TileIndexAgrees_vc]
  have k8 : modOk 8 = true := rfl
  have k20 : modOk 20 = true := rfl
  simp [okAns, eqXs, eqX, eqo, eqLo, eqc, veq, eqUs, bcond_iff, k8, k20, ieq_rfl', beq_rfl', band]
end Go.Proofs.Ytdpmigbenkndbaa
