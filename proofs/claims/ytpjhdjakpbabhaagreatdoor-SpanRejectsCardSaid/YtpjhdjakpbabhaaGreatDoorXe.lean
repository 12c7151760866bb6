import Derived.Test.YtpjhdjakpbabhaaGreatDoorZaa
import Derived.Test.YtpjhdjakpbabhaaGreatDoorZ0
import Derived.Test.YtpjhdjakpbabhaaGreatDoorXd
import Derived.Test.YtpjhdjakpbabhaaGreatDoorXk
import Derived.Test.YtpjhdjakpbabhaaGreatDoorXh
import Derived.Test.YtpjhdjakpbabhaaGreatDoorXm
import Derived.Test.YtpjhdjakpbabhaaGreatDoorZ2
namespace Go.Proofs.YtpjhdjakpbabhaaGreatDoor
open Go.RowKit PR QR
set_option linter.unusedVariables false
set_option linter.unusedSimpArgs false
set_option maxRecDepth 20000
theorem row16_nil (z : Nat) (q : Int → Nat → Int) : row16 z 0 q := fun i k h0 h1 _ => by omega
theorem intRow_nil (k : IntKind) (z : Nat) (r : QR.Row) : intRow k z 0 r := fun i j hi _ => by omega
theorem intRow_r1 : intRow .u16 5 1 (.upd (.upd (.upd (.upd (.upd (.zer [.int .u16 0, .int .u16 0, .int .u16 0, .int .u16 0, .int .u16 0]) 0 0 (.v (.int .u16 0))) 0 1 (.v (.int .u16 0))) 0 2 (.v (.int .u16 0))) 0 3 (.v (.int .u16 255))) 0 4 (.v (.int .u16 255))) := fun i j hi hj => by
  obtain rfl : i = 0 := by omega
  match j, hj with
  | 0, _ => rfl
  | 1, _ => rfl
  | 2, _ => rfl
  | 3, _ => rfl
  | 4, _ => rfl
theorem row16_r1 : row16 5 1 (qOf (.upd (.upd (.upd (.upd (.upd (.zer [.int .u16 0, .int .u16 0, .int .u16 0, .int .u16 0, .int .u16 0]) 0 0 (.v (.int .u16 0))) 0 1 (.v (.int .u16 0))) 0 2 (.v (.int .u16 0))) 0 3 (.v (.int .u16 255))) 0 4 (.v (.int .u16 255)))) := fun i j h0 h1 hj => by
  obtain rfl : i = 0 := by omega
  match j, hj with
  | 0, _ => rfl
  | 1, _ => rfl
  | 2, _ => rfl
  | 3, _ => rfl
  | 4, _ => rfl
theorem intRow_r0 : intRow .u16 5 1 (.upd (.upd (.upd (.upd (.upd (.zer [.int .u16 0, .int .u16 0, .int .u16 0, .int .u16 0, .int .u16 0]) 0 0 (.v (.int .u16 0))) 0 1 (.v (.int .u16 0))) 0 2 (.v (.int .u16 0))) 0 3 (.v (.int .u16 0))) 0 4 (.v (.int .u16 0))) := fun i j hi hj => by
  obtain rfl : i = 0 := by omega
  match j, hj with
  | 0, _ => rfl
  | 1, _ => rfl
  | 2, _ => rfl
  | 3, _ => rfl
  | 4, _ => rfl
theorem row16_r0 : row16 5 1 (qOf (.upd (.upd (.upd (.upd (.upd (.zer [.int .u16 0, .int .u16 0, .int .u16 0, .int .u16 0, .int .u16 0]) 0 0 (.v (.int .u16 0))) 0 1 (.v (.int .u16 0))) 0 2 (.v (.int .u16 0))) 0 3 (.v (.int .u16 0))) 0 4 (.v (.int .u16 0)))) := fun i j h0 h1 hj => by
  obtain rfl : i = 0 := by omega
  match j, hj with
  | 0, _ => rfl
  | 1, _ => rfl
  | 2, _ => rfl
  | 3, _ => rfl
  | 4, _ => rfl
theorem intRow_r2 : intRow .u16 5 2 (.upd (.upd (.upd (.upd (.upd (.upd (.upd (.upd (.upd (.upd (.zer [.int .u16 0, .int .u16 0, .int .u16 0, .int .u16 0, .int .u16 0]) 0 0 (.v (.int .u16 0))) 0 1 (.v (.int .u16 0))) 0 2 (.v (.int .u16 0))) 0 3 (.v (.int .u16 255))) 0 4 (.v (.int .u16 255))) 1 0 (.v (.int .u16 0))) 1 1 (.v (.int .u16 0))) 1 2 (.v (.int .u16 0))) 1 3 (.v (.int .u16 255))) 1 4 (.v (.int .u16 255))) := fun i j hi hj => by
  have : i = 0 ∨ i = 1 := by omega
  rcases this with rfl | rfl
  · match j, hj with
    | 0, _ => rfl
    | 1, _ => rfl
    | 2, _ => rfl
    | 3, _ => rfl
    | 4, _ => rfl
  · match j, hj with
    | 0, _ => rfl
    | 1, _ => rfl
    | 2, _ => rfl
    | 3, _ => rfl
    | 4, _ => rfl
theorem a_awake16 : Answers2 11 s_yes16 := by
  intro al ans h hq
  unfold s_yes16 at h
  split at h <;> try (simp at h; done)
  skip
  simp only [Option.some.injEq] at h
  subst h
  have hq := asked hq
  refine QR.does_of_eval (O := o_aw16) (QR.orc_cons a_spr (QR.orc_cons a_spc QR.orc_nil)) mixed (QR.noLoops) Tryz.func11 (by kernel_rfl) (by kernel_rfl) (by simp) ?_
  rw [awake16_vc]
  delta zz256 zz264 zz275 zz277
  have e1 : clsV 2 (qOf (.upd (.upd (.upd (.upd (.upd (.upd (.upd (.upd (.upd (.upd (.zer [.int .u16 0, .int .u16 0, .int .u16 0, .int .u16 0, .int .u16 0]) 0 0 (.v (.int .u16 0))) 0 1 (.v (.int .u16 0))) 0 2 (.v (.int .u16 0))) 0 3 (.v (.int .u16 255))) 0 4 (.v (.int .u16 255))) 1 0 (.v (.int .u16 0))) 1 1 (.v (.int .u16 0))) 1 2 (.v (.int .u16 0))) 1 3 (.v (.int .u16 255))) 1 4 (.v (.int .u16 255)))) 255 = 2 := by decide
  have e2 : clsV 0 (qOf (.zer [])) 255 = 1 := by decide
  have e3 : rcOk 4 1 255 1 1 (qOf (.upd (.upd (.upd (.upd (.upd (.zer [.int .u16 0, .int .u16 0, .int .u16 0, .int .u16 0, .int .u16 0]) 0 0 (.v (.int .u16 0))) 0 1 (.v (.int .u16 0))) 0 2 (.v (.int .u16 0))) 0 3 (.v (.int .u16 255))) 0 4 (.v (.int .u16 255)))) (qOf (.upd (.upd (.upd (.upd (.upd (.zer [.int .u16 0, .int .u16 0, .int .u16 0, .int .u16 0, .int .u16 0]) 0 0 (.v (.int .u16 0))) 0 1 (.v (.int .u16 0))) 0 2 (.v (.int .u16 0))) 0 3 (.v (.int .u16 0))) 0 4 (.v (.int .u16 0)))) = true := by decide +kernel
  have e4 : rcN 4 1 255 1 1 (qOf (.upd (.upd (.upd (.upd (.upd (.zer [.int .u16 0, .int .u16 0, .int .u16 0, .int .u16 0, .int .u16 0]) 0 0 (.v (.int .u16 0))) 0 1 (.v (.int .u16 0))) 0 2 (.v (.int .u16 0))) 0 3 (.v (.int .u16 255))) 0 4 (.v (.int .u16 255)))) (qOf (.upd (.upd (.upd (.upd (.upd (.zer [.int .u16 0, .int .u16 0, .int .u16 0, .int .u16 0, .int .u16 0]) 0 0 (.v (.int .u16 0))) 0 1 (.v (.int .u16 0))) 0 2 (.v (.int .u16 0))) 0 3 (.v (.int .u16 0))) 0 4 (.v (.int .u16 0)))) = 1 := by unfold rcN; rw [e3]; rfl
  have e5 : rcV 4 1 255 (qOf (.upd (.upd (.upd (.upd (.upd (.zer [.int .u16 0, .int .u16 0, .int .u16 0, .int .u16 0, .int .u16 0]) 0 0 (.v (.int .u16 0))) 0 1 (.v (.int .u16 0))) 0 2 (.v (.int .u16 0))) 0 3 (.v (.int .u16 255))) 0 4 (.v (.int .u16 255)))) (qOf (.upd (.upd (.upd (.upd (.upd (.zer [.int .u16 0, .int .u16 0, .int .u16 0, .int .u16 0, .int .u16 0]) 0 0 (.v (.int .u16 0))) 0 1 (.v (.int .u16 0))) 0 2 (.v (.int .u16 0))) 0 3 (.v (.int .u16 0))) 0 4 (.v (.int .u16 0)))) 0 0 = 0 := by decide +kernel
  have e6 : rcV 4 1 255 (qOf (.upd (.upd (.upd (.upd (.upd (.zer [.int .u16 0, .int .u16 0, .int .u16 0, .int .u16 0, .int .u16 0]) 0 0 (.v (.int .u16 0))) 0 1 (.v (.int .u16 0))) 0 2 (.v (.int .u16 0))) 0 3 (.v (.int .u16 255))) 0 4 (.v (.int .u16 255)))) (qOf (.upd (.upd (.upd (.upd (.upd (.zer [.int .u16 0, .int .u16 0, .int .u16 0, .int .u16 0, .int .u16 0]) 0 0 (.v (.int .u16 0))) 0 1 (.v (.int .u16 0))) 0 2 (.v (.int .u16 0))) 0 3 (.v (.int .u16 0))) 0 4 (.v (.int .u16 0)))) 0 1 = 0 := by decide +kernel
  have e7 : rcV 4 1 255 (qOf (.upd (.upd (.upd (.upd (.upd (.zer [.int .u16 0, .int .u16 0, .int .u16 0, .int .u16 0, .int .u16 0]) 0 0 (.v (.int .u16 0))) 0 1 (.v (.int .u16 0))) 0 2 (.v (.int .u16 0))) 0 3 (.v (.int .u16 255))) 0 4 (.v (.int .u16 255)))) (qOf (.upd (.upd (.upd (.upd (.upd (.zer [.int .u16 0, .int .u16 0, .int .u16 0, .int .u16 0, .int .u16 0]) 0 0 (.v (.int .u16 0))) 0 1 (.v (.int .u16 0))) 0 2 (.v (.int .u16 0))) 0 3 (.v (.int .u16 0))) 0 4 (.v (.int .u16 0)))) 0 2 = 0 := by decide +kernel
  have e8 : rcV 4 1 255 (qOf (.upd (.upd (.upd (.upd (.upd (.zer [.int .u16 0, .int .u16 0, .int .u16 0, .int .u16 0, .int .u16 0]) 0 0 (.v (.int .u16 0))) 0 1 (.v (.int .u16 0))) 0 2 (.v (.int .u16 0))) 0 3 (.v (.int .u16 255))) 0 4 (.v (.int .u16 255)))) (qOf (.upd (.upd (.upd (.upd (.upd (.zer [.int .u16 0, .int .u16 0, .int .u16 0, .int .u16 0, .int .u16 0]) 0 0 (.v (.int .u16 0))) 0 1 (.v (.int .u16 0))) 0 2 (.v (.int .u16 0))) 0 3 (.v (.int .u16 0))) 0 4 (.v (.int .u16 0)))) 0 3 = 255 := by decide +kernel
  have e9 : rcV 4 1 255 (qOf (.upd (.upd (.upd (.upd (.upd (.zer [.int .u16 0, .int .u16 0, .int .u16 0, .int .u16 0, .int .u16 0]) 0 0 (.v (.int .u16 0))) 0 1 (.v (.int .u16 0))) 0 2 (.v (.int .u16 0))) 0 3 (.v (.int .u16 255))) 0 4 (.v (.int .u16 255)))) (qOf (.upd (.upd (.upd (.upd (.upd (.zer [.int .u16 0, .int .u16 0, .int .u16 0, .int .u16 0, .int .u16 0]) 0 0 (.v (.int .u16 0))) 0 1 (.v (.int .u16 0))) 0 2 (.v (.int .u16 0))) 0 3 (.v (.int .u16 0))) 0 4 (.v (.int .u16 0)))) 0 4 = 255 := by decide +kernel
  have g1 : in16 255 = true := rfl
  have g2 : ilt 0 1 = true := rfl
  simp only [forall_eq, e1, e2, e3, e4, e5, e6, e7, e8, e9, g1, g2, intRow_r1, intRow_r0, row16_r1, row16_r0, intRow_r2, intRow_nil, ieq_rfl', bcond_iff, band, true_and, and_true, and_self, true_implies, reduceCtorEq, false_implies, okAns, eqXs, eqX, eqo, eqLo, eqL, eqc, veq, eqUs]
  rfl
theorem flat_fn (k : IntKind) (z : Nat) (n : Int) (f : Int → Nat → Int) : flatRow z n (.fn fun i j => .v (.int k (f i j))) := fun i j _ _ => rfl
def upd5 (r : QR.Row) (i a b c d e : Int) : QR.Row := .upd (.upd (.upd (.upd (.upd r i 0 (.v (.int .u16 a))) i 1 (.v (.int .u16 b))) i 2 (.v (.int .u16 c))) i 3 (.v (.int .u16 d))) i 4 (.v (.int .u16 e))
theorem den_upd5 (f : Int → Nat → Int) (x a b c d e i : Int) {j : Nat} (hj : j < 5) : den (upd5 (.fn fun i j => .v (.int .u16 (f i j))) x a b c d e) i j = .v (.int .u16 (isel (ieq i x) (match j with | 0 => a | 1 => b | 2 => c | 3 => d | _ => e) (f i j))) := by
  match j, hj with
  | 0, _ => rfl
  | 1, _ => rfl
  | 2, _ => rfl
  | 3, _ => rfl
  | 4, _ => rfl
theorem intRow_upd5 (n : Int) (f : Int → Nat → Int) (x a b c d e : Int) : intRow .u16 5 n (upd5 (.fn fun i j => .v (.int .u16 (f i j))) x a b c d e) := fun i j _ hj => by
  rw [den_upd5 f x a b c d e i hj]; rfl
theorem row16_upd5 {n : Int} {f : Int → Nat → Int} (x : Int) {a b c d e : Int} (h : row16 5 n f) (ha : in16 a = true) (hb : in16 b = true) (hc : in16 c = true) (hd : in16 d = true) (he : in16 e = true) : row16 5 n (qOf (upd5 (.fn fun i j => .v (.int .u16 (f i j))) x a b c d e)) := fun i j h0 h1 hj => by
  unfold qOf
  rw [den_upd5 f x a b c d e i hj]
  have := h i j h0 h1 hj
  show in16 (isel (ieq i x) _ (f i j)) = true
  unfold isel
  cases ieq i x
  · exact this
  · match j, hj with
    | 0, _ => exact ha
    | 1, _ => exact hb
    | 2, _ => exact hc
    | 3, _ => exact hd
    | 4, _ => exact he
theorem row16_gpx (md n : Int) (q : Int → Nat → Int) {t : Int} (h : in16 t = true) (k : Int) : row16 5 k (gpxV md n q t) := fun i j _ _ hj => gpx16 md n q h i hj
theorem row16_gpxA (md n : Int) (q : Int → Nat → Int) {t : Int} (h : in16 t = true) (k : Int) (g : Int → Int) : row16 5 k (fun i j => gpxV md n q t (g i) j) := fun i j _ _ hj => gpx16 md n q h (g i) hj
theorem intRow_sub (k : IntKind) (z : Nat) (n l : Int) (f : Int → Nat → Int) : intRow k z n (.sub (.fn fun i j => .v (.int k (f i j))) l) := fun i j _ _ => rfl
theorem qOf_sub (k : IntKind) (l : Int) (f : Int → Nat → Int) : qOf (.sub (.fn fun i j => .v (.int k (f i j))) l) = fun i j => f (addZ i l) j := rfl
theorem pxs_rfl (n : Int) (q : Int → Nat → Int) : pxSame n n q q = true := pxSame_iff.2 ⟨rfl, fun _ _ _ _ => rfl⟩
theorem rcN_in {o k m n n2 : Int} {s d : Int → Nat → Int} (h : 0 ≤ n) : 0 ≤ rcN o k m n n2 s d ∧ rcN o k m n n2 s d ≤ n := by
  unfold rcN
  cases rcOk o k m n n2 s d
  · exact ⟨Int.le_refl 0, h⟩
  · exact ⟨h, Int.le_refl n⟩
theorem rsN_in {m o n nm : Int} {q : Int → Nat → Int} {k : Int → Int} (h : 0 ≤ n) : 0 ≤ rsN m o n nm q k ∧ rsN m o n nm q k ≤ n := by
  unfold rsN
  cases rsOk m o n nm q k
  · exact ⟨Int.le_refl 0, h⟩
  · exact ⟨h, Int.le_refl n⟩
section
variable (an : Int) (al : Int → Nat → Int) (on : Int) (ol : Int → Nat → Int) (bn : Int) (bl : Int → Nat → Int) (mx i : Int)
end
section
variable (kn : Bool) (o k m : Int) (s a b : Int → Nat → Int) (i : Int)
end
theorem intRow_z1 (n : Int) : intRow .u16 1 n (.zer [.int .u16 0]) := fun i j _ hj => by
  obtain rfl : j = 0 := by omega
  rfl
theorem row16_z1 (n : Int) : row16 1 n (fun i _ => qO1 (.zer [.int .u16 0]) i) := fun i j _ _ _ => rfl
set_option linter.unusedVariables false in
theorem SpanRejects_core (op' mode : Int) (md : Int) (rn : Nat) (rl : Int → Nat → Int) (qd : Int) (qn : Nat) (ql : Int → Nat → Int) (n at' mx : Int) (c0 c1 c2 cA cF : Int) (w0 : (Lit.int .i64 op').wf = true) (w1 : (Lit.int .i64 mode).wf = true) (w2 : (Lit.int .i64 md).wf = true) (z0 : rn ≤ maxLen) (w3 : ∀ i j : Nat, i < rn → j < 5 → (Lit.int .i64 (rl i j)).wf = true) (w4 : (Lit.int .i64 qd).wf = true) (z1 : qn ≤ maxLen) (w5 : ∀ i j : Nat, i < qn → j < 5 → (Lit.int .i64 (ql i j)).wf = true) (w6 : (Lit.int .i64 n).wf = true) (w7 : (Lit.int .i64 at').wf = true) (w8 : (Lit.int .i64 mx).wf = true) (w9 : (Lit.int .u16 c0).wf = true) (w10 : (Lit.int .u16 c1).wf = true) (w11 : (Lit.int .u16 c2).wf = true) (w12 : (Lit.int .u16 cA).wf = true) (w13 : (Lit.int .u16 cF).wf = true) (w : World) {F : Nat → Prop} (hG : QR.Laid F w) (hF : ∀ k, F k → k < w.heap.size) (x0 : Value) (r0 : QR.Rep F w (.slc 5 ((rn : Nat) : Int) (.fn fun i j => .v (.int .i64 (rl i j)))) x0) (x1 : Value) (r1 : QR.Rep F w (.slc 5 ((qn : Nat) : Int) (.fn fun i j => .v (.int .i64 (ql i j)))) x1) :
    Calls Tryz.prog 5 #[.int .i64 op', .int .i64 mode, .agg #[.int .i64 md, x0], .agg #[.int .i64 qd, x1], .int .i64 n, .int .i64 at', .int .i64 mx, .agg #[.int .u16 c0, .int .u16 c1, .int .u16 c2, .int .u16 cA, .int .u16 cF]] w fun e w' => e = .returned (.bool true) ∧ Below w.heap.size w w' := by
  refine law_of_conc (O := o_law16f) (QR.orc_cons QR.a_flat (QR.orc_cons a_gmax2 (QR.orc_cons (up a_mod) (QR.orc_cons a_gps (QR.orc_cons a_spr (QR.orc_cons a_sps (QR.orc_cons a_rcr (QR.orc_cons a_rsr (QR.orc_cons a_rsp (QR.orc_cons a_awake16 QR.orc_nil)))))))))) mixed (QR.noLoops) Tryz.func5 (by kernel_rfl) (vs := [.int .i64 op', .int .i64 mode, .agg #[.int .i64 md, x0], .agg #[.int .i64 qd, x1], .int .i64 n, .int .i64 at', .int .i64 mx, .agg #[.int .u16 c0, .int .u16 c1, .int .u16 c2, .int .u16 cA, .int .u16 cF]]) (args := [.x (.c (.v (.int .i64 op'))), .x (.c (.v (.int .i64 mode))), .x (.agg [.v (.int .i64 md), .slc 5 ((rn : Nat) : Int) (.fn fun i j => .v (.int .i64 (rl i j)))]), .x (.agg [.v (.int .i64 qd), .slc 5 ((qn : Nat) : Int) (.fn fun i j => .v (.int .i64 (ql i j)))]), .x (.c (.v (.int .i64 n))), .x (.c (.v (.int .i64 at'))), .x (.c (.v (.int .i64 mx))), .x (.agg [.v (.int .u16 c0), .v (.int .u16 c1), .v (.int .u16 c2), .v (.int .u16 cA), .v (.int .u16 cF)])]) (by simp) ?_ w hG hF ⟨.v rfl, .v rfl, ⟨[.int .i64 md, x0], rfl, ⟨.v rfl, r0, trivial⟩⟩, ⟨[.int .i64 qd, x1], rfl, ⟨.v rfl, r1, trivial⟩⟩, .v rfl, .v rfl, .v rfl, ⟨[.int .u16 c0, .int .u16 c1, .int .u16 c2, .int .u16 cA, .int .u16 cF], rfl, ⟨.v rfl, .v rfl, .v rfl, .v rfl, .v rfl, trivial⟩⟩, rfl⟩
  rw [SpanRejects_vc]
  delta zz249 zz252 zz268 zz271 zz276
  have k8 : modOk 8 = true := rfl
  have k14 : modOk 14 = true := rfl
  have gr := gmod_range n (k := 8) (by decide)
  have er : iadd .i64 1 (gmod n 8) = 1 + gmod n 8 := IntWalk.i64_in _ (by omega)
  generalize hc : 1 + gmod n 8 = c at er
  have hc1 : 1 ≤ c ∧ c ≤ 8 := by omega
  have em : iimax c 0 = c := by unfold iimax; split <;> omega
  have es : isub .i64 c 1 = c - 1 := IntWalk.i64_in _ (by omega)
  have es2 : subZ (c - 1) 0 = c - 1 := Int.sub_zero _
  have ea : iadd .i64 c 1 = c + 1 := IntWalk.i64_in _ (by omega)
  have gi := gmod_range at' (k := c) (by omega)
  have kc : modOk c = true := decide_eq_true (by omega)
  have h1 : ile 0 c = true := ile_t (by omega)
  have h2 : ile c 1099511627776 = true := ile_t (by omega)
  have h3 : ile 0 (c - 1) = true := ile_t (by omega)
  have h4 : ile (c - 1) c = true := ile_t (by omega)
  have h5 : ile 0 (c + 1) = true := ile_t (by omega)
  have h6 : ile 0 (gmod at' c) = true := ile_t gi.1
  have h7 : ilt (gmod at' c) c = true := ilt_t gi.2
  have h8 : ile (c + 1) (c + 1) = true := ile_t (Int.le_refl _)
  have h9 : ile (imulZ (c + 1) 2) 140737488355328 = true := ile_t (by unfold imulZ; omega)
  have h10 : ile (c + 1) 140737488355328 = true := ile_t (by omega)
  have n1 : ile 0 (rn : Int) = true := ile_t (Int.natCast_nonneg rn)
  have n2 : ile 0 (qn : Int) = true := ile_t (Int.natCast_nonneg qn)
  have o1 : ∀ o k m s d, rcOk o k m c (c - 1) s d = false := fun o k m s d => by unfold rcOk; rw [decide_eq_false (by omega)]; rfl
  have o2 : ∀ o k m s d, rcN o k m c (c - 1) s d = 0 := fun o k m s d => by unfold rcN; rw [o1]; rfl
  have o3 : ∀ m o q k, rsOk m o c (c + 1) q k = false := fun m o q k => by unfold rsOk; rw [decide_eq_false (by omega)]; rfl
  have o4 : ∀ m o q k, rsN m o c (c + 1) q k = 0 := fun m o q k => by unfold rsN; rw [o3]; rfl
  have i0 : in16 0 = true := rfl
  have i3 : in16 3 = true := rfl
  have gm := gx16 mx
  simp only [forall_eq, er, em, es, es2, ea, qOf_fn, qO1_fn, qOf_sub, intRow_fn, intRow_sub, intRow_nil, row16_nil, flat_fn, row16_gpx _ _ _ gm, row16_gpxA _ _ _ gm, intRow_z1, row16_z1, kc, k8, k14, gm, h1, h2, h3, h4, h5, h6, h7, h8, h9, h10, n1, n2, o1, o2, o3, o4, i0, i3, true_and, and_true, and_self, true_implies]
  have U1 := intRow_upd5 c (gpxV md rn (fun i j => rl i j) (gxMax mx)) (gmod at' c) c0 c1 c2 cA cF
  have U2 := row16_upd5 (gmod at' c) (row16_gpx md rn (fun i j => rl i j) gm c) (wf16 w9) (wf16 w10) (wf16 w11) (wf16 w12) (wf16 w13)
  unfold upd5 at U1 U2
  generalize (((((QR.Row.fn fun i j => CV.v (.int .u16 (gpxV md rn (fun i j => rl i j) (gxMax mx) i j))).upd (gmod at' c) 0 (CV.v (.int .u16 c0))).upd (gmod at' c) 1 (CV.v (.int .u16 c1))).upd (gmod at' c) 2 (CV.v (.int .u16 c2))).upd (gmod at' c) 3 (CV.v (.int .u16 cA))).upd (gmod at' c) 4 (CV.v (.int .u16 cF)) = R at *
  simp only [U1, U2, pxs_rfl, band, okAns, eqXs, eqX, eqo, eqLo, eqL, eqc, veq, eqUs, bnot, ieq_rfl', beq_rfl', bcond_iff, true_and, and_true, and_self, true_implies, reduceCtorEq, false_implies, Bool.not_false]
  have A := rsN_in (m := gxMax mx) (o := 3) (n := c) (nm := 0) (q := qOf R) (k := qO1 (.zer [])) (by omega)
  have B := rcN_in (o := gmod op' 14) (k := gmod mode 14) (m := gxMax mx) (n := c) (n2 := c) (s := qOf R) (d := gpxV qd qn (fun i j => ql i j) (gxMax mx)) (by omega)
  exact ⟨ile_t A.1, ile_t A.1, ile_t (by omega), ile_t B.1, ile_t B.1, ile_t (by omega)⟩
end Go.Proofs.YtpjhdjakpbabhaaGreatDoor
