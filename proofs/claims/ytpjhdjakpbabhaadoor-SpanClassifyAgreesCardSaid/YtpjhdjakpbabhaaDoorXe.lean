import Derived.Test.YtpjhdjakpbabhaaDoorZaa
import Derived.Test.YtpjhdjakpbabhaaDoorZ0
import Derived.Test.YtpjhdjakpbabhaaDoorXd
import Derived.Test.YtpjhdjakpbabhaaDoorXk
import Derived.Test.YtpjhdjakpbabhaaDoorXh
import Derived.Test.YtpjhdjakpbabhaaDoorZh
namespace Go.Proofs.YtpjhdjakpbabhaaDoor
open Go.RowKit PR QR
set_option linter.unusedVariables false
set_option linter.unusedSimpArgs false
set_option maxRecDepth 20000
theorem row16_nil (z : Nat) (q : Int → Nat → Int) : row16 z 0 q := fun i k h0 h1 _ => by omega
theorem intRow_nil (k : IntKind) (z : Nat) (r : QR.Row) : intRow k z 0 r := fun i j hi _ => by omega
theorem intRow_r1 : intRow .u16 5 1 (.upd (.upd (.upd (.upd (.upd (.zer [.int .u16 0, .int .u16 0, .int .u16 0, .int .u16 0, .int .u16 0]) 0 0 (.v (.int .u16 0))) 0 1 (.v (.int .u16 0))) 0 2 (.v (.int .u16 0))) 0 3 (.v (.int .u16 255))) 0 4 (.v (.int .u16 255))) := fun i j hi hj => by
  obtain rfl : i = 0 := by omega
  match j, hj with
  | 0, _ => rfl
  | 1, _ => rfl
  | 2, _ => rfl
  | 3, _ => rfl
  | 4, _ => rfl
theorem row16_r1 : row16 5 1 (qOf (.upd (.upd (.upd (.upd (.upd (.zer [.int .u16 0, .int .u16 0, .int .u16 0, .int .u16 0, .int .u16 0]) 0 0 (.v (.int .u16 0))) 0 1 (.v (.int .u16 0))) 0 2 (.v (.int .u16 0))) 0 3 (.v (.int .u16 255))) 0 4 (.v (.int .u16 255)))) := fun i j h0 h1 hj => by
  obtain rfl : i = 0 := by omega
  match j, hj with
  | 0, _ => rfl
  | 1, _ => rfl
  | 2, _ => rfl
  | 3, _ => rfl
  | 4, _ => rfl
theorem intRow_r0 : intRow .u16 5 1 (.upd (.upd (.upd (.upd (.upd (.zer [.int .u16 0, .int .u16 0, .int .u16 0, .int .u16 0, .int .u16 0]) 0 0 (.v (.int .u16 0))) 0 1 (.v (.int .u16 0))) 0 2 (.v (.int .u16 0))) 0 3 (.v (.int .u16 0))) 0 4 (.v (.int .u16 0))) := fun i j hi hj => by
  obtain rfl : i = 0 := by omega
  match j, hj with
  | 0, _ => rfl
  | 1, _ => rfl
  | 2, _ => rfl
  | 3, _ => rfl
  | 4, _ => rfl
theorem row16_r0 : row16 5 1 (qOf (.upd (.upd (.upd (.upd (.upd (.zer [.int .u16 0, .int .u16 0, .int .u16 0, .int .u16 0, .int .u16 0]) 0 0 (.v (.int .u16 0))) 0 1 (.v (.int .u16 0))) 0 2 (.v (.int .u16 0))) 0 3 (.v (.int .u16 0))) 0 4 (.v (.int .u16 0)))) := fun i j h0 h1 hj => by
  obtain rfl : i = 0 := by omega
  match j, hj with
  | 0, _ => rfl
  | 1, _ => rfl
  | 2, _ => rfl
  | 3, _ => rfl
  | 4, _ => rfl
theorem intRow_r2 : intRow .u16 5 2 (.upd (.upd (.upd (.upd (.upd (.upd (.upd (.upd (.upd (.upd (.zer [.int .u16 0, .int .u16 0, .int .u16 0, .int .u16 0, .int .u16 0]) 0 0 (.v (.int .u16 0))) 0 1 (.v (.int .u16 0))) 0 2 (.v (.int .u16 0))) 0 3 (.v (.int .u16 255))) 0 4 (.v (.int .u16 255))) 1 0 (.v (.int .u16 0))) 1 1 (.v (.int .u16 0))) 1 2 (.v (.int .u16 0))) 1 3 (.v (.int .u16 255))) 1 4 (.v (.int .u16 255))) := fun i j hi hj => by
  have : i = 0 ∨ i = 1 := by omega
  rcases this with rfl | rfl
  · match j, hj with
    | 0, _ => rfl
    | 1, _ => rfl
    | 2, _ => rfl
    | 3, _ => rfl
    | 4, _ => rfl
  · match j, hj with
    | 0, _ => rfl
    | 1, _ => rfl
    | 2, _ => rfl
    | 3, _ => rfl
    | 4, _ => rfl
theorem a_awake16 : Answers2 8 s_yes16 := by
  intro al ans h hq
  unfold s_yes16 at h
  split at h <;> try (simp at h; done)
  skip
  simp only [Option.some.injEq] at h
  subst h
  have hq := asked hq
  refine QR.does_of_eval (O := o_aw16) (QR.orc_cons a_spr (QR.orc_cons a_spc QR.orc_nil)) mixed (QR.noLoops) Tryd.func8 (by kernel_rfl) (by kernel_rfl) (by simp) ?_
  rw [awake16_vc]
  delta zz256 zz264 zz275 zz277
  have e1 : clsV 2 (qOf (.upd (.upd (.upd (.upd (.upd (.upd (.upd (.upd (.upd (.upd (.zer [.int .u16 0, .int .u16 0, .int .u16 0, .int .u16 0, .int .u16 0]) 0 0 (.v (.int .u16 0))) 0 1 (.v (.int .u16 0))) 0 2 (.v (.int .u16 0))) 0 3 (.v (.int .u16 255))) 0 4 (.v (.int .u16 255))) 1 0 (.v (.int .u16 0))) 1 1 (.v (.int .u16 0))) 1 2 (.v (.int .u16 0))) 1 3 (.v (.int .u16 255))) 1 4 (.v (.int .u16 255)))) 255 = 2 := by decide
  have e2 : clsV 0 (qOf (.zer [])) 255 = 1 := by decide
  have e3 : rcOk 4 1 255 1 1 (qOf (.upd (.upd (.upd (.upd (.upd (.zer [.int .u16 0, .int .u16 0, .int .u16 0, .int .u16 0, .int .u16 0]) 0 0 (.v (.int .u16 0))) 0 1 (.v (.int .u16 0))) 0 2 (.v (.int .u16 0))) 0 3 (.v (.int .u16 255))) 0 4 (.v (.int .u16 255)))) (qOf (.upd (.upd (.upd (.upd (.upd (.zer [.int .u16 0, .int .u16 0, .int .u16 0, .int .u16 0, .int .u16 0]) 0 0 (.v (.int .u16 0))) 0 1 (.v (.int .u16 0))) 0 2 (.v (.int .u16 0))) 0 3 (.v (.int .u16 0))) 0 4 (.v (.int .u16 0)))) = true := by decide +kernel
  have e4 : rcN 4 1 255 1 1 (qOf (.upd (.upd (.upd (.upd (.upd (.zer [.int .u16 0, .int .u16 0, .int .u16 0, .int .u16 0, .int .u16 0]) 0 0 (.v (.int .u16 0))) 0 1 (.v (.int .u16 0))) 0 2 (.v (.int .u16 0))) 0 3 (.v (.int .u16 255))) 0 4 (.v (.int .u16 255)))) (qOf (.upd (.upd (.upd (.upd (.upd (.zer [.int .u16 0, .int .u16 0, .int .u16 0, .int .u16 0, .int .u16 0]) 0 0 (.v (.int .u16 0))) 0 1 (.v (.int .u16 0))) 0 2 (.v (.int .u16 0))) 0 3 (.v (.int .u16 0))) 0 4 (.v (.int .u16 0)))) = 1 := by unfold rcN; rw [e3]; rfl
  have e5 : rcV 4 1 255 (qOf (.upd (.upd (.upd (.upd (.upd (.zer [.int .u16 0, .int .u16 0, .int .u16 0, .int .u16 0, .int .u16 0]) 0 0 (.v (.int .u16 0))) 0 1 (.v (.int .u16 0))) 0 2 (.v (.int .u16 0))) 0 3 (.v (.int .u16 255))) 0 4 (.v (.int .u16 255)))) (qOf (.upd (.upd (.upd (.upd (.upd (.zer [.int .u16 0, .int .u16 0, .int .u16 0, .int .u16 0, .int .u16 0]) 0 0 (.v (.int .u16 0))) 0 1 (.v (.int .u16 0))) 0 2 (.v (.int .u16 0))) 0 3 (.v (.int .u16 0))) 0 4 (.v (.int .u16 0)))) 0 0 = 0 := by decide +kernel
  have e6 : rcV 4 1 255 (qOf (.upd (.upd (.upd (.upd (.upd (.zer [.int .u16 0, .int .u16 0, .int .u16 0, .int .u16 0, .int .u16 0]) 0 0 (.v (.int .u16 0))) 0 1 (.v (.int .u16 0))) 0 2 (.v (.int .u16 0))) 0 3 (.v (.int .u16 255))) 0 4 (.v (.int .u16 255)))) (qOf (.upd (.upd (.upd (.upd (.upd (.zer [.int .u16 0, .int .u16 0, .int .u16 0, .int .u16 0, .int .u16 0]) 0 0 (.v (.int .u16 0))) 0 1 (.v (.int .u16 0))) 0 2 (.v (.int .u16 0))) 0 3 (.v (.int .u16 0))) 0 4 (.v (.int .u16 0)))) 0 1 = 0 := by decide +kernel
  have e7 : rcV 4 1 255 (qOf (.upd (.upd (.upd (.upd (.upd (.zer [.int .u16 0, .int .u16 0, .int .u16 0, .int .u16 0, .int .u16 0]) 0 0 (.v (.int .u16 0))) 0 1 (.v (.int .u16 0))) 0 2 (.v (.int .u16 0))) 0 3 (.v (.int .u16 255))) 0 4 (.v (.int .u16 255)))) (qOf (.upd (.upd (.upd (.upd (.upd (.zer [.int .u16 0, .int .u16 0, .int .u16 0, .int .u16 0, .int .u16 0]) 0 0 (.v (.int .u16 0))) 0 1 (.v (.int .u16 0))) 0 2 (.v (.int .u16 0))) 0 3 (.v (.int .u16 0))) 0 4 (.v (.int .u16 0)))) 0 2 = 0 := by decide +kernel
  have e8 : rcV 4 1 255 (qOf (.upd (.upd (.upd (.upd (.upd (.zer [.int .u16 0, .int .u16 0, .int .u16 0, .int .u16 0, .int .u16 0]) 0 0 (.v (.int .u16 0))) 0 1 (.v (.int .u16 0))) 0 2 (.v (.int .u16 0))) 0 3 (.v (.int .u16 255))) 0 4 (.v (.int .u16 255)))) (qOf (.upd (.upd (.upd (.upd (.upd (.zer [.int .u16 0, .int .u16 0, .int .u16 0, .int .u16 0, .int .u16 0]) 0 0 (.v (.int .u16 0))) 0 1 (.v (.int .u16 0))) 0 2 (.v (.int .u16 0))) 0 3 (.v (.int .u16 0))) 0 4 (.v (.int .u16 0)))) 0 3 = 255 := by decide +kernel
  have e9 : rcV 4 1 255 (qOf (.upd (.upd (.upd (.upd (.upd (.zer [.int .u16 0, .int .u16 0, .int .u16 0, .int .u16 0, .int .u16 0]) 0 0 (.v (.int .u16 0))) 0 1 (.v (.int .u16 0))) 0 2 (.v (.int .u16 0))) 0 3 (.v (.int .u16 255))) 0 4 (.v (.int .u16 255)))) (qOf (.upd (.upd (.upd (.upd (.upd (.zer [.int .u16 0, .int .u16 0, .int .u16 0, .int .u16 0, .int .u16 0]) 0 0 (.v (.int .u16 0))) 0 1 (.v (.int .u16 0))) 0 2 (.v (.int .u16 0))) 0 3 (.v (.int .u16 0))) 0 4 (.v (.int .u16 0)))) 0 4 = 255 := by decide +kernel
  have g1 : in16 255 = true := rfl
  have g2 : ilt 0 1 = true := rfl
  simp only [forall_eq, e1, e2, e3, e4, e5, e6, e7, e8, e9, g1, g2, intRow_r1, intRow_r0, row16_r1, row16_r0, intRow_r2, intRow_nil, ieq_rfl', bcond_iff, band, true_and, and_true, and_self, true_implies, reduceCtorEq, false_implies, okAns, eqXs, eqX, eqo, eqLo, eqL, eqc, veq, eqUs]
  rfl
set_option linter.unusedVariables false in
theorem SpanClassifyAgrees_core (md : Int) (rn : Nat) (rl : Int → Nat → Int) (n mx : Int) (wn : Nat) (wl : Int → Nat → Int) (ms : Int) (w0 : (Lit.int .i64 md).wf = true) (z0 : rn ≤ maxLen) (w1 : ∀ i j : Nat, i < rn → j < 5 → (Lit.int .i64 (rl i j)).wf = true) (w2 : (Lit.int .i64 n).wf = true) (w3 : (Lit.int .i64 mx).wf = true) (z1 : wn ≤ maxLen) (w4 : ∀ i j : Nat, i < wn → j < 5 → (Lit.int .u16 (wl i j)).wf = true) (w5 : (Lit.int .u16 ms).wf = true) (w : World) {F : Nat → Prop} (hG : QR.Laid F w) (hF : ∀ k, F k → k < w.heap.size) (x0 : Value) (r0 : QR.Rep F w (.slc 5 ((rn : Nat) : Int) (.fn fun i j => .v (.int .i64 (rl i j)))) x0) (x1 : Value) (r1 : QR.Rep F w (.slc 5 ((wn : Nat) : Int) (.fn fun i j => .v (.int .u16 (wl i j)))) x1) :
    Calls Tryd.prog 3 #[.agg #[.int .i64 md, x0], .int .i64 n, .int .i64 mx, x1, .int .u16 ms] w fun e w' => e = .returned (.bool true) ∧ Below w.heap.size w w' := by
  refine law_of_conc (O := o_law16a) (QR.orc_cons a_gmax2 (QR.orc_cons (up a_mod) (QR.orc_cons a_gps (QR.orc_cons a_spc (QR.orc_cons a_rcls (QR.orc_cons a_awake16 QR.orc_nil)))))) mixed (QR.noLoops) Tryd.func3 (by kernel_rfl) (vs := [.agg #[.int .i64 md, x0], .int .i64 n, .int .i64 mx, x1, .int .u16 ms]) (args := [.x (.agg [.v (.int .i64 md), .slc 5 ((rn : Nat) : Int) (.fn fun i j => .v (.int .i64 (rl i j)))]), .x (.c (.v (.int .i64 n))), .x (.c (.v (.int .i64 mx))), .x (.c (.slc 5 ((wn : Nat) : Int) (.fn fun i j => .v (.int .u16 (wl i j))))), .x (.c (.v (.int .u16 ms)))]) (by simp) ?_ w hG hF ⟨⟨[.int .i64 md, x0], rfl, ⟨.v rfl, r0, trivial⟩⟩, .v rfl, .v rfl, r1, .v rfl, rfl⟩
  rw [SpanClassifyAgrees_vc]
  delta zz252
  have k12 : modOk 12 = true := rfl
  have gr := gmod_range n (k := 12) (by decide)
  have em : iimax (gmod n 12) 0 = gmod n 12 := by unfold iimax; split <;> omega
  have b0 : ile 0 (gmod n 12) = true := ile_t gr.1
  have b1 : ile (gmod n 12) 1099511627776 = true := ile_t (by omega)
  have b2 : ile (gmod n 12) 9223372036854775807 = true := ile_t (by omega)
  have c0 : ile 0 (wn : Int) = true := ile_t (Int.natCast_nonneg wn)
  have c1 : ile (wn : Int) 9223372036854775807 = true := ile_t (by have h : wn ≤ 2 ^ 63 - 1 := z1; omega)
  have c2 : ile 0 (rn : Int) = true := ile_t (Int.natCast_nonneg rn)
  simp [okAns, eqXs, eqX, eqo, eqLo, eqL, eqc, veq, eqUs, bcond_iff, bnot, beq_rfl', ieq_rfl', intRow_fn, qOf_fn, qO1_fn, intRow_nil, row16_nil, k12, em, b0, b1, b2, c0, c1, c2, gx16]
section
variable (an : Int) (al : Int → Nat → Int) (on : Int) (ol : Int → Nat → Int) (bn : Int) (bl : Int → Nat → Int) (mx i : Int)
end
section
variable (kn : Bool) (o k m : Int) (s a b : Int → Nat → Int) (i : Int)
end
end Go.Proofs.YtpjhdjakpbabhaaDoor
