import Derived.Test.YtpjhdjakpbabhaaGreatDoorZaa
import Derived.Test.YtpjhdjakpbabhaaGreatDoorZ0
import Derived.Test.YtpjhdjakpbabhaaGreatDoorXd
import Derived.Test.YtpjhdjakpbabhaaGreatDoorXl
import Derived.Test.YtpjhdjakpbabhaaGreatDoorXm
import Derived.Test.YtpjhdjakpbabhaaGreatDoorZa
import Derived.Test.YtpjhdjakpbabhaaGreatDoorRs
import Derived.Test.YtpjhdjakpbabhaaGreatDoorMa
namespace Go.Proofs.YtpjhdjakpbabhaaGreatDoor
open Go.RowKit PR QR
set_option linter.unusedVariables false
set_option linter.unusedSimpArgs false
set_option maxRecDepth 20000
theorem row16_nil (z : Nat) (q : Int → Nat → Int) : row16 z 0 q := fun i k h0 h1 _ => by omega
theorem intRow_nil (k : IntKind) (z : Nat) (r : QR.Row) : intRow k z 0 r := fun i j hi _ => by omega
theorem intRow_z5 (n : Int) : intRow .u16 5 n (.zer [.int .u16 0, .int .u16 0, .int .u16 0, .int .u16 0, .int .u16 0]) := fun i j _ hj => by
  match j, hj with
  | 0, _ => rfl
  | 1, _ => rfl
  | 2, _ => rfl
  | 3, _ => rfl
  | 4, _ => rfl
theorem intRow_z6 (n : Int) : intRow .u16 6 n (.zer [.int .u16 0, .int .u16 0, .int .u16 0, .int .u16 0, .int .u16 0, .int .u16 0]) := fun i j _ hj => by
  match j, hj with
  | 0, _ => rfl
  | 1, _ => rfl
  | 2, _ => rfl
  | 3, _ => rfl
  | 4, _ => rfl
  | 5, _ => rfl
theorem row16_z5 (n : Int) : row16 5 n (qOf (.zer [.int .u16 0, .int .u16 0, .int .u16 0, .int .u16 0, .int .u16 0])) := fun i j _ _ hj => by
  match j, hj with
  | 0, _ => rfl
  | 1, _ => rfl
  | 2, _ => rfl
  | 3, _ => rfl
  | 4, _ => rfl
theorem row16_z6 (n : Int) : row16 6 n (qOf (.zer [.int .u16 0, .int .u16 0, .int .u16 0, .int .u16 0, .int .u16 0, .int .u16 0])) := fun i j _ _ hj => by
  match j, hj with
  | 0, _ => rfl
  | 1, _ => rfl
  | 2, _ => rfl
  | 3, _ => rfl
  | 4, _ => rfl
  | 5, _ => rfl
theorem intRow_r1 : intRow .u16 5 1 (.upd (.upd (.upd (.upd (.upd (.zer [.int .u16 0, .int .u16 0, .int .u16 0, .int .u16 0, .int .u16 0]) 0 0 (.v (.int .u16 0))) 0 1 (.v (.int .u16 0))) 0 2 (.v (.int .u16 0))) 0 3 (.v (.int .u16 255))) 0 4 (.v (.int .u16 255))) := fun i j hi hj => by
  obtain rfl : i = 0 := by omega
  match j, hj with
  | 0, _ => rfl
  | 1, _ => rfl
  | 2, _ => rfl
  | 3, _ => rfl
  | 4, _ => rfl
theorem row16_r1 : row16 5 1 (qOf (.upd (.upd (.upd (.upd (.upd (.zer [.int .u16 0, .int .u16 0, .int .u16 0, .int .u16 0, .int .u16 0]) 0 0 (.v (.int .u16 0))) 0 1 (.v (.int .u16 0))) 0 2 (.v (.int .u16 0))) 0 3 (.v (.int .u16 255))) 0 4 (.v (.int .u16 255)))) := fun i j h0 h1 hj => by
  obtain rfl : i = 0 := by omega
  match j, hj with
  | 0, _ => rfl
  | 1, _ => rfl
  | 2, _ => rfl
  | 3, _ => rfl
  | 4, _ => rfl
theorem intRow_r0 : intRow .u16 5 1 (.upd (.upd (.upd (.upd (.upd (.zer [.int .u16 0, .int .u16 0, .int .u16 0, .int .u16 0, .int .u16 0]) 0 0 (.v (.int .u16 0))) 0 1 (.v (.int .u16 0))) 0 2 (.v (.int .u16 0))) 0 3 (.v (.int .u16 0))) 0 4 (.v (.int .u16 0))) := fun i j hi hj => by
  obtain rfl : i = 0 := by omega
  match j, hj with
  | 0, _ => rfl
  | 1, _ => rfl
  | 2, _ => rfl
  | 3, _ => rfl
  | 4, _ => rfl
theorem row16_r0 : row16 5 1 (qOf (.upd (.upd (.upd (.upd (.upd (.zer [.int .u16 0, .int .u16 0, .int .u16 0, .int .u16 0, .int .u16 0]) 0 0 (.v (.int .u16 0))) 0 1 (.v (.int .u16 0))) 0 2 (.v (.int .u16 0))) 0 3 (.v (.int .u16 0))) 0 4 (.v (.int .u16 0)))) := fun i j h0 h1 hj => by
  obtain rfl : i = 0 := by omega
  match j, hj with
  | 0, _ => rfl
  | 1, _ => rfl
  | 2, _ => rfl
  | 3, _ => rfl
  | 4, _ => rfl
theorem intRow_r2 : intRow .u16 5 2 (.upd (.upd (.upd (.upd (.upd (.upd (.upd (.upd (.upd (.upd (.zer [.int .u16 0, .int .u16 0, .int .u16 0, .int .u16 0, .int .u16 0]) 0 0 (.v (.int .u16 0))) 0 1 (.v (.int .u16 0))) 0 2 (.v (.int .u16 0))) 0 3 (.v (.int .u16 255))) 0 4 (.v (.int .u16 255))) 1 0 (.v (.int .u16 0))) 1 1 (.v (.int .u16 0))) 1 2 (.v (.int .u16 0))) 1 3 (.v (.int .u16 255))) 1 4 (.v (.int .u16 255))) := fun i j hi hj => by
  have : i = 0 ∨ i = 1 := by omega
  rcases this with rfl | rfl
  · match j, hj with
    | 0, _ => rfl
    | 1, _ => rfl
    | 2, _ => rfl
    | 3, _ => rfl
    | 4, _ => rfl
  · match j, hj with
    | 0, _ => rfl
    | 1, _ => rfl
    | 2, _ => rfl
    | 3, _ => rfl
    | 4, _ => rfl
theorem a_awake16 : Answers2 11 s_yes16 := by
  intro al ans h hq
  unfold s_yes16 at h
  split at h <;> try (simp at h; done)
  skip
  simp only [Option.some.injEq] at h
  subst h
  have hq := asked hq
  refine QR.does_of_eval (O := o_aw16) (QR.orc_cons a_spr (QR.orc_cons a_spc QR.orc_nil)) mixed (QR.noLoops) Tryz.func11 (by kernel_rfl) (by kernel_rfl) (by simp) ?_
  rw [awake16_vc]
  delta zz256 zz264 zz275 zz277
  have e1 : clsV 2 (qOf (.upd (.upd (.upd (.upd (.upd (.upd (.upd (.upd (.upd (.upd (.zer [.int .u16 0, .int .u16 0, .int .u16 0, .int .u16 0, .int .u16 0]) 0 0 (.v (.int .u16 0))) 0 1 (.v (.int .u16 0))) 0 2 (.v (.int .u16 0))) 0 3 (.v (.int .u16 255))) 0 4 (.v (.int .u16 255))) 1 0 (.v (.int .u16 0))) 1 1 (.v (.int .u16 0))) 1 2 (.v (.int .u16 0))) 1 3 (.v (.int .u16 255))) 1 4 (.v (.int .u16 255)))) 255 = 2 := by decide
  have e2 : clsV 0 (qOf (.zer [])) 255 = 1 := by decide
  have e3 : rcOk 4 1 255 1 1 (qOf (.upd (.upd (.upd (.upd (.upd (.zer [.int .u16 0, .int .u16 0, .int .u16 0, .int .u16 0, .int .u16 0]) 0 0 (.v (.int .u16 0))) 0 1 (.v (.int .u16 0))) 0 2 (.v (.int .u16 0))) 0 3 (.v (.int .u16 255))) 0 4 (.v (.int .u16 255)))) (qOf (.upd (.upd (.upd (.upd (.upd (.zer [.int .u16 0, .int .u16 0, .int .u16 0, .int .u16 0, .int .u16 0]) 0 0 (.v (.int .u16 0))) 0 1 (.v (.int .u16 0))) 0 2 (.v (.int .u16 0))) 0 3 (.v (.int .u16 0))) 0 4 (.v (.int .u16 0)))) = true := by decide +kernel
  have e4 : rcN 4 1 255 1 1 (qOf (.upd (.upd (.upd (.upd (.upd (.zer [.int .u16 0, .int .u16 0, .int .u16 0, .int .u16 0, .int .u16 0]) 0 0 (.v (.int .u16 0))) 0 1 (.v (.int .u16 0))) 0 2 (.v (.int .u16 0))) 0 3 (.v (.int .u16 255))) 0 4 (.v (.int .u16 255)))) (qOf (.upd (.upd (.upd (.upd (.upd (.zer [.int .u16 0, .int .u16 0, .int .u16 0, .int .u16 0, .int .u16 0]) 0 0 (.v (.int .u16 0))) 0 1 (.v (.int .u16 0))) 0 2 (.v (.int .u16 0))) 0 3 (.v (.int .u16 0))) 0 4 (.v (.int .u16 0)))) = 1 := by unfold rcN; rw [e3]; rfl
  have e5 : rcV 4 1 255 (qOf (.upd (.upd (.upd (.upd (.upd (.zer [.int .u16 0, .int .u16 0, .int .u16 0, .int .u16 0, .int .u16 0]) 0 0 (.v (.int .u16 0))) 0 1 (.v (.int .u16 0))) 0 2 (.v (.int .u16 0))) 0 3 (.v (.int .u16 255))) 0 4 (.v (.int .u16 255)))) (qOf (.upd (.upd (.upd (.upd (.upd (.zer [.int .u16 0, .int .u16 0, .int .u16 0, .int .u16 0, .int .u16 0]) 0 0 (.v (.int .u16 0))) 0 1 (.v (.int .u16 0))) 0 2 (.v (.int .u16 0))) 0 3 (.v (.int .u16 0))) 0 4 (.v (.int .u16 0)))) 0 0 = 0 := by decide +kernel
  have e6 : rcV 4 1 255 (qOf (.upd (.upd (.upd (.upd (.upd (.zer [.int .u16 0, .int .u16 0, .int .u16 0, .int .u16 0, .int .u16 0]) 0 0 (.v (.int .u16 0))) 0 1 (.v (.int .u16 0))) 0 2 (.v (.int .u16 0))) 0 3 (.v (.int .u16 255))) 0 4 (.v (.int .u16 255)))) (qOf (.upd (.upd (.upd (.upd (.upd (.zer [.int .u16 0, .int .u16 0, .int .u16 0, .int .u16 0, .int .u16 0]) 0 0 (.v (.int .u16 0))) 0 1 (.v (.int .u16 0))) 0 2 (.v (.int .u16 0))) 0 3 (.v (.int .u16 0))) 0 4 (.v (.int .u16 0)))) 0 1 = 0 := by decide +kernel
  have e7 : rcV 4 1 255 (qOf (.upd (.upd (.upd (.upd (.upd (.zer [.int .u16 0, .int .u16 0, .int .u16 0, .int .u16 0, .int .u16 0]) 0 0 (.v (.int .u16 0))) 0 1 (.v (.int .u16 0))) 0 2 (.v (.int .u16 0))) 0 3 (.v (.int .u16 255))) 0 4 (.v (.int .u16 255)))) (qOf (.upd (.upd (.upd (.upd (.upd (.zer [.int .u16 0, .int .u16 0, .int .u16 0, .int .u16 0, .int .u16 0]) 0 0 (.v (.int .u16 0))) 0 1 (.v (.int .u16 0))) 0 2 (.v (.int .u16 0))) 0 3 (.v (.int .u16 0))) 0 4 (.v (.int .u16 0)))) 0 2 = 0 := by decide +kernel
  have e8 : rcV 4 1 255 (qOf (.upd (.upd (.upd (.upd (.upd (.zer [.int .u16 0, .int .u16 0, .int .u16 0, .int .u16 0, .int .u16 0]) 0 0 (.v (.int .u16 0))) 0 1 (.v (.int .u16 0))) 0 2 (.v (.int .u16 0))) 0 3 (.v (.int .u16 255))) 0 4 (.v (.int .u16 255)))) (qOf (.upd (.upd (.upd (.upd (.upd (.zer [.int .u16 0, .int .u16 0, .int .u16 0, .int .u16 0, .int .u16 0]) 0 0 (.v (.int .u16 0))) 0 1 (.v (.int .u16 0))) 0 2 (.v (.int .u16 0))) 0 3 (.v (.int .u16 0))) 0 4 (.v (.int .u16 0)))) 0 3 = 255 := by decide +kernel
  have e9 : rcV 4 1 255 (qOf (.upd (.upd (.upd (.upd (.upd (.zer [.int .u16 0, .int .u16 0, .int .u16 0, .int .u16 0, .int .u16 0]) 0 0 (.v (.int .u16 0))) 0 1 (.v (.int .u16 0))) 0 2 (.v (.int .u16 0))) 0 3 (.v (.int .u16 255))) 0 4 (.v (.int .u16 255)))) (qOf (.upd (.upd (.upd (.upd (.upd (.zer [.int .u16 0, .int .u16 0, .int .u16 0, .int .u16 0, .int .u16 0]) 0 0 (.v (.int .u16 0))) 0 1 (.v (.int .u16 0))) 0 2 (.v (.int .u16 0))) 0 3 (.v (.int .u16 0))) 0 4 (.v (.int .u16 0)))) 0 4 = 255 := by decide +kernel
  have g1 : in16 255 = true := rfl
  have g2 : ilt 0 1 = true := rfl
  simp only [forall_eq, e1, e2, e3, e4, e5, e6, e7, e8, e9, g1, g2, intRow_r1, intRow_r0, row16_r1, row16_r0, intRow_r2, intRow_nil, ieq_rfl', bcond_iff, band, true_and, and_true, and_self, true_implies, reduceCtorEq, false_implies, okAns, eqXs, eqX, eqo, eqLo, eqL, eqc, veq, eqUs]
  rfl
set_option linter.unusedVariables false in
theorem SpanOfNothing_core (op' mode m oc : Int) (kn : Bool) (w0 : (Lit.int .i64 op').wf = true) (w1 : (Lit.int .i64 mode).wf = true) (w2 : (Lit.int .u16 m).wf = true) (w3 : (Lit.int .u16 oc).wf = true) (w : World) {F : Nat → Prop} (hG : QR.Laid F w) (hF : ∀ k, F k → k < w.heap.size) :
    Calls Tryz.prog 6 #[.int .i64 op', .int .i64 mode, .int .u16 m, .int .u16 oc, .bool kn] w fun e w' => e = .returned (.bool true) ∧ Below w.heap.size w w' := by
  refine law_of_eval (O := o_law16n) (QR.orc_cons a_spr (QR.orc_cons a_sps (QR.orc_cons a_spt (QR.orc_cons a_spz (QR.orc_cons a_awake16 QR.orc_nil))))) mixed (QR.noLoops) Tryz.func6 (by kernel_rfl) (vs := [.int .i64 op', .int .i64 mode, .int .u16 m, .int .u16 oc, .bool kn]) (xs := [.c (.v (.int .i64 op')), .c (.v (.int .i64 mode)), .c (.v (.int .u16 m)), .c (.v (.int .u16 oc)), .c (.v (.bool kn))]) (args := [.x (.c (.v (.int .i64 op'))), .x (.c (.v (.int .i64 mode))), .x (.c (.v (.int .u16 m))), .x (.c (.v (.int .u16 oc))), .x (.c (.v (.bool kn)))]) rfl rfl (by simp) ?_ w hG hF
  rw [SpanOfNothing_vc]
  have i1 : in16 m = true := wf16 w2
  have i2 : in16 oc = true := wf16 w3
  have e1 : ∀ s d, rcOk op' mode m 0 0 s d = true := fun s d => by unfold rcOk; rw [allR_zero]; rfl
  have e2 : ∀ s k, rsOk m oc 0 0 s k = true := fun s k => by unfold rsOk; rw [allR_zero]; rfl
  have e3 : ∀ s a b, rgOk kn op' mode m 0 0 0 s a b = true := fun s a b => by unfold rgOk; rw [allR_zero]; rfl
  have e4 : ∀ a b, rrOk m 0 0 a b = true := fun a b => by unfold rrOk; rw [allR_zero]; rfl
  have e5 : ∀ a b, rrOk m 1 0 a b = false := fun a b => rfl
  have e6 : ∀ s a b, rgOk kn op' mode m 0 0 1 s a b = false := fun s a b => rfl
  have f1 : ∀ s d, rcN op' mode m 0 0 s d = 0 := fun s d => by unfold rcN; rw [e1]; rfl
  have f2 : ∀ s k, rsN m oc 0 0 s k = 0 := fun s k => by unfold rsN; rw [e2]; rfl
  have f3 : ∀ s a b, rgN kn op' mode m 0 0 0 s a b = 0 := fun s a b => by unfold rgN; rw [e3]; rfl
  have f4 : ∀ a b, rrN m 0 0 a b = 0 := fun a b => by unfold rrN; rw [e4]; rfl
  have g1 : iadd .i64 0 0 = 0 := rfl
  simp [okAns, eqXs, eqX, eqo, eqLo, eqL, eqc, veq, eqUs, bcond_iff, bnot, beq_rfl', ieq_rfl', intRow_fn, qOf_fn, qO1_fn, intRow_nil, row16_nil, i1, i2, e1, e2, e3, e4, e5, e6, f1, f2, f3, f4, g1, intRow_z5, intRow_z6, row16_z5, row16_z6]
section
variable (an : Int) (al : Int → Nat → Int) (on : Int) (ol : Int → Nat → Int) (bn : Int) (bl : Int → Nat → Int) (mx i : Int)
end
section
variable (kn : Bool) (o k m : Int) (s a b : Int → Nat → Int) (i : Int)
end
end Go.Proofs.YtpjhdjakpbabhaaGreatDoor
