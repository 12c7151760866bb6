import Derived.Test.YtdpmigbenkndbaaRs
namespace Go.Proofs.Ytdpmigbenkndbaa
open Go.RowKit PR QR
set_option linter.unusedVariables false
set_option linter.unusedSimpArgs false
def atV (n : Int) (x : Int) (i : Int) : Int := if 0 ≤ i ∧ i < n then x else 0
def s_at : List AV → Option QR.Ans
  | [.x (.c (.slc z n r)), .x (.c (.v (.int .i64 i)))] => bif Nat.beq z 1 then some ⟨[.c (.v (.int .i64 (atV n (intC (den r i 0)) i)))], [], [intRow .i64 1 n r]⟩ else none
  | _ => none
set_option maxRecDepth 100000 in
theorem at_vc (n i : Int) (l : Int → Nat → Int) (V : List QR.XV → List (List QR.CV) → Prop) : QR.evalBody Try.prog (QR.orc []) (QR.noLoops) (Try.f32.body.getD .skip) Try.f32.results.toList Try.f32.ntmps [.x (.c (.slc 1 n (.fn fun i j => .v (.int .i64 (l i j))))), .x (.c (.v (.int .i64 i)))] V = (True ∧ bcond (ilt i 0) (True ∧ True ∧ True ∧ V [XV.c (CV.v (Value.int .i64 0))] []) (∀ (i_1 : Int), i_1 = n → True ∧ bcond (ige i i_1) (True ∧ True ∧ V [XV.c (CV.v (Value.int .i64 0))] []) ((ile 0 i = true ∧ ilt i n = true ∧ True) ∧ True ∧ V [XV.c (CV.v (Value.int .i64 (l i 0)))] []))) := by
  kernel_rfl
theorem a_at : Answers2 32 s_at := by
  intro al ans h hq
  unfold s_at at h
  split at h <;> try (simp at h; done)
  rename_i z n r i
  cases hz : Nat.beq z 1
  · rw [hz] at h; simp at h
  rw [hz, cond_true] at h
  obtain rfl := Nat.eq_of_beq_eq_true hz
  simp only [Option.some.injEq] at h
  subst h
  have hq := asked hq
  refine does_args (al' := [.x (.c (.slc 1 n (ints .i64 r))), .x (.c (.v (.int .i64 i)))]) ⟨intRow_eq hq.1, .v _, trivial⟩ ?_
  refine QR.does_of_eval (O := QR.orc []) QR.orc_nil mixed QR.noLoops Try.func32 (by kernel_rfl) (by kernel_rfl) (by simp) ?_
  unfold ints
  rw [at_vc]
  simp only [bcond_iff, okAns, eqXs, eqX, eqo, eqLo, eqc, veq, eqUs, forall_eq, true_and, and_true, ilt, ige, ile, decide_eq_true_eq, decide_eq_false_iff_not, ge_iff_le, gt_iff_lt]
  unfold atV
  refine ⟨fun c => ?_, fun c => ⟨fun e => ?_, fun e => ?_⟩⟩
  · rw [if_neg (by omega)]
  · rw [if_neg (by omega)]
  · rw [if_pos (by omega)]; exact ⟨by omega, rfl⟩
end Go.Proofs.Ytdpmigbenkndbaa
