import Derived.Test.YtpjhdjakpbabhaaGreatDoorRs
namespace Go.Proofs.YtpjhdjakpbabhaaGreatDoor
open Go.RowKit PR QR
set_option linter.unusedVariables false
set_option linter.unusedSimpArgs false
def s_pvalid2 : List AV → Option QR.Ans
  | [.x (.agg [.v (.int .u16 c0), .v (.int .u16 c1), .v (.int .u16 c2), .v (.int .u16 a), .v (.int .u16 f)]), .x (.c (.v (.int .u16 m)))] => some ⟨[.c (.v (.bool (pvB c0 c1 c2 a f m)))], [], []⟩
  | _ => none
set_option maxRecDepth 100000 in
theorem pvalid2_vc (c0 c1 c2 a f m : Int) (V : List QR.XV → List (List QR.CV) → Prop) : QR.evalBody Tryz.prog (QR.orc []) (fun n => bif Nat.beq n 2 then some (.rounds 4) else none) (Tryz.f59.body.getD .skip) Tryz.f59.results.toList Tryz.f59.ntmps [.x (.agg [.v (.int .u16 c0), .v (.int .u16 c1), .v (.int .u16 c2), .v (.int .u16 a), .v (.int .u16 f)]), .x (.c (.v (.int .u16 m)))] V = (True ∧ True ∧ True ∧ (true = true ∧ true = true ∧ True) ∧ True ∧ bcond (igt c0 a) (True ∧ True ∧ V [XV.c (CV.v (Value.bool false))] []) (True ∧ True ∧ (true = true ∧ true = true ∧ True) ∧ True ∧ bcond (igt c1 a) (True ∧ True ∧ V [XV.c (CV.v (Value.bool false))] []) (True ∧ True ∧ (true = true ∧ true = true ∧ True) ∧ True ∧ bcond (igt c2 a) (True ∧ True ∧ V [XV.c (CV.v (Value.bool false))] []) (True ∧ True ∧ bcond (ile a f) (True ∧ True ∧ V [XV.c (CV.v (Value.bool (ile f m)))] []) (True ∧ True ∧ V [XV.c (CV.v (Value.bool false))] []))))) := by
  kernel_rfl
theorem a_pvalid2 : Answers2 59 s_pvalid2 := by
  intro al ans h hq
  unfold s_pvalid2 at h
  split at h <;> try (simp at h; done)
  rename_i c0 c1 c2 a f m
  simp only [Option.some.injEq] at h
  subst h
  have hq := asked hq
  refine QR.does_of_eval (O := (QR.orc [])) QR.orc_nil mixed ((fun n => bif Nat.beq n 2 then some (.rounds 4) else none)) Tryz.func59 (by kernel_rfl) (by kernel_rfl) (by simp) ?_
  rw [pvalid2_vc]
  simp only [bcond_iff, okAns, eqXs, eqX, eqo, eqLo, eqc, veq, eqUs, igt, ile, pvB, true_and, and_true, decide_eq_true_eq, decide_eq_false_iff_not, decide_eq_decide, eq_self, false_eq_decide_iff]
  omega
end Go.Proofs.YtpjhdjakpbabhaaGreatDoor
