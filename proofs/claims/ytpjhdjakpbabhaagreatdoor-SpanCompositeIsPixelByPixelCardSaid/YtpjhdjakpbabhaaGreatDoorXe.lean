import Derived.Test.YtpjhdjakpbabhaaGreatDoorZaa
import Derived.Test.YtpjhdjakpbabhaaGreatDoorZ0
import Derived.Test.YtpjhdjakpbabhaaGreatDoorXd
import Derived.Test.YtpjhdjakpbabhaaGreatDoorXk
import Derived.Test.YtpjhdjakpbabhaaGreatDoorXh
import Derived.Test.YtpjhdjakpbabhaaGreatDoorZ2
namespace Go.Proofs.YtpjhdjakpbabhaaGreatDoor
open Go.RowKit PR QR
set_option linter.unusedVariables false
set_option linter.unusedSimpArgs false
set_option maxRecDepth 20000
theorem intRow_nil (k : IntKind) (z : Nat) (r : QR.Row) : intRow k z 0 r := fun i j hi _ => by omega
theorem intRow_r1 : intRow .u16 5 1 (.upd (.upd (.upd (.upd (.upd (.zer [.int .u16 0, .int .u16 0, .int .u16 0, .int .u16 0, .int .u16 0]) 0 0 (.v (.int .u16 0))) 0 1 (.v (.int .u16 0))) 0 2 (.v (.int .u16 0))) 0 3 (.v (.int .u16 255))) 0 4 (.v (.int .u16 255))) := fun i j hi hj => by
  obtain rfl : i = 0 := by omega
  match j, hj with
  | 0, _ => rfl
  | 1, _ => rfl
  | 2, _ => rfl
  | 3, _ => rfl
  | 4, _ => rfl
theorem row16_r1 : row16 5 1 (qOf (.upd (.upd (.upd (.upd (.upd (.zer [.int .u16 0, .int .u16 0, .int .u16 0, .int .u16 0, .int .u16 0]) 0 0 (.v (.int .u16 0))) 0 1 (.v (.int .u16 0))) 0 2 (.v (.int .u16 0))) 0 3 (.v (.int .u16 255))) 0 4 (.v (.int .u16 255)))) := fun i j h0 h1 hj => by
  obtain rfl : i = 0 := by omega
  match j, hj with
  | 0, _ => rfl
  | 1, _ => rfl
  | 2, _ => rfl
  | 3, _ => rfl
  | 4, _ => rfl
theorem intRow_r0 : intRow .u16 5 1 (.upd (.upd (.upd (.upd (.upd (.zer [.int .u16 0, .int .u16 0, .int .u16 0, .int .u16 0, .int .u16 0]) 0 0 (.v (.int .u16 0))) 0 1 (.v (.int .u16 0))) 0 2 (.v (.int .u16 0))) 0 3 (.v (.int .u16 0))) 0 4 (.v (.int .u16 0))) := fun i j hi hj => by
  obtain rfl : i = 0 := by omega
  match j, hj with
  | 0, _ => rfl
  | 1, _ => rfl
  | 2, _ => rfl
  | 3, _ => rfl
  | 4, _ => rfl
theorem row16_r0 : row16 5 1 (qOf (.upd (.upd (.upd (.upd (.upd (.zer [.int .u16 0, .int .u16 0, .int .u16 0, .int .u16 0, .int .u16 0]) 0 0 (.v (.int .u16 0))) 0 1 (.v (.int .u16 0))) 0 2 (.v (.int .u16 0))) 0 3 (.v (.int .u16 0))) 0 4 (.v (.int .u16 0)))) := fun i j h0 h1 hj => by
  obtain rfl : i = 0 := by omega
  match j, hj with
  | 0, _ => rfl
  | 1, _ => rfl
  | 2, _ => rfl
  | 3, _ => rfl
  | 4, _ => rfl
theorem intRow_r2 : intRow .u16 5 2 (.upd (.upd (.upd (.upd (.upd (.upd (.upd (.upd (.upd (.upd (.zer [.int .u16 0, .int .u16 0, .int .u16 0, .int .u16 0, .int .u16 0]) 0 0 (.v (.int .u16 0))) 0 1 (.v (.int .u16 0))) 0 2 (.v (.int .u16 0))) 0 3 (.v (.int .u16 255))) 0 4 (.v (.int .u16 255))) 1 0 (.v (.int .u16 0))) 1 1 (.v (.int .u16 0))) 1 2 (.v (.int .u16 0))) 1 3 (.v (.int .u16 255))) 1 4 (.v (.int .u16 255))) := fun i j hi hj => by
  have : i = 0 ∨ i = 1 := by omega
  rcases this with rfl | rfl
  · match j, hj with
    | 0, _ => rfl
    | 1, _ => rfl
    | 2, _ => rfl
    | 3, _ => rfl
    | 4, _ => rfl
  · match j, hj with
    | 0, _ => rfl
    | 1, _ => rfl
    | 2, _ => rfl
    | 3, _ => rfl
    | 4, _ => rfl
theorem a_awake16 : Answers2 11 s_yes16 := by
  intro al ans h hq
  unfold s_yes16 at h
  split at h <;> try (simp at h; done)
  skip
  simp only [Option.some.injEq] at h
  subst h
  have hq := asked hq
  refine QR.does_of_eval (O := o_aw16) (QR.orc_cons a_spr (QR.orc_cons a_spc QR.orc_nil)) mixed (QR.noLoops) Tryz.func11 (by kernel_rfl) (by kernel_rfl) (by simp) ?_
  rw [awake16_vc]
  delta zz256 zz264 zz275 zz277
  have e1 : clsV 2 (qOf (.upd (.upd (.upd (.upd (.upd (.upd (.upd (.upd (.upd (.upd (.zer [.int .u16 0, .int .u16 0, .int .u16 0, .int .u16 0, .int .u16 0]) 0 0 (.v (.int .u16 0))) 0 1 (.v (.int .u16 0))) 0 2 (.v (.int .u16 0))) 0 3 (.v (.int .u16 255))) 0 4 (.v (.int .u16 255))) 1 0 (.v (.int .u16 0))) 1 1 (.v (.int .u16 0))) 1 2 (.v (.int .u16 0))) 1 3 (.v (.int .u16 255))) 1 4 (.v (.int .u16 255)))) 255 = 2 := by decide
  have e2 : clsV 0 (qOf (.zer [])) 255 = 1 := by decide
  have e3 : rcOk 4 1 255 1 1 (qOf (.upd (.upd (.upd (.upd (.upd (.zer [.int .u16 0, .int .u16 0, .int .u16 0, .int .u16 0, .int .u16 0]) 0 0 (.v (.int .u16 0))) 0 1 (.v (.int .u16 0))) 0 2 (.v (.int .u16 0))) 0 3 (.v (.int .u16 255))) 0 4 (.v (.int .u16 255)))) (qOf (.upd (.upd (.upd (.upd (.upd (.zer [.int .u16 0, .int .u16 0, .int .u16 0, .int .u16 0, .int .u16 0]) 0 0 (.v (.int .u16 0))) 0 1 (.v (.int .u16 0))) 0 2 (.v (.int .u16 0))) 0 3 (.v (.int .u16 0))) 0 4 (.v (.int .u16 0)))) = true := by decide +kernel
  have e4 : rcN 4 1 255 1 1 (qOf (.upd (.upd (.upd (.upd (.upd (.zer [.int .u16 0, .int .u16 0, .int .u16 0, .int .u16 0, .int .u16 0]) 0 0 (.v (.int .u16 0))) 0 1 (.v (.int .u16 0))) 0 2 (.v (.int .u16 0))) 0 3 (.v (.int .u16 255))) 0 4 (.v (.int .u16 255)))) (qOf (.upd (.upd (.upd (.upd (.upd (.zer [.int .u16 0, .int .u16 0, .int .u16 0, .int .u16 0, .int .u16 0]) 0 0 (.v (.int .u16 0))) 0 1 (.v (.int .u16 0))) 0 2 (.v (.int .u16 0))) 0 3 (.v (.int .u16 0))) 0 4 (.v (.int .u16 0)))) = 1 := by unfold rcN; rw [e3]; rfl
  have e5 : rcV 4 1 255 (qOf (.upd (.upd (.upd (.upd (.upd (.zer [.int .u16 0, .int .u16 0, .int .u16 0, .int .u16 0, .int .u16 0]) 0 0 (.v (.int .u16 0))) 0 1 (.v (.int .u16 0))) 0 2 (.v (.int .u16 0))) 0 3 (.v (.int .u16 255))) 0 4 (.v (.int .u16 255)))) (qOf (.upd (.upd (.upd (.upd (.upd (.zer [.int .u16 0, .int .u16 0, .int .u16 0, .int .u16 0, .int .u16 0]) 0 0 (.v (.int .u16 0))) 0 1 (.v (.int .u16 0))) 0 2 (.v (.int .u16 0))) 0 3 (.v (.int .u16 0))) 0 4 (.v (.int .u16 0)))) 0 0 = 0 := by decide +kernel
  have e6 : rcV 4 1 255 (qOf (.upd (.upd (.upd (.upd (.upd (.zer [.int .u16 0, .int .u16 0, .int .u16 0, .int .u16 0, .int .u16 0]) 0 0 (.v (.int .u16 0))) 0 1 (.v (.int .u16 0))) 0 2 (.v (.int .u16 0))) 0 3 (.v (.int .u16 255))) 0 4 (.v (.int .u16 255)))) (qOf (.upd (.upd (.upd (.upd (.upd (.zer [.int .u16 0, .int .u16 0, .int .u16 0, .int .u16 0, .int .u16 0]) 0 0 (.v (.int .u16 0))) 0 1 (.v (.int .u16 0))) 0 2 (.v (.int .u16 0))) 0 3 (.v (.int .u16 0))) 0 4 (.v (.int .u16 0)))) 0 1 = 0 := by decide +kernel
  have e7 : rcV 4 1 255 (qOf (.upd (.upd (.upd (.upd (.upd (.zer [.int .u16 0, .int .u16 0, .int .u16 0, .int .u16 0, .int .u16 0]) 0 0 (.v (.int .u16 0))) 0 1 (.v (.int .u16 0))) 0 2 (.v (.int .u16 0))) 0 3 (.v (.int .u16 255))) 0 4 (.v (.int .u16 255)))) (qOf (.upd (.upd (.upd (.upd (.upd (.zer [.int .u16 0, .int .u16 0, .int .u16 0, .int .u16 0, .int .u16 0]) 0 0 (.v (.int .u16 0))) 0 1 (.v (.int .u16 0))) 0 2 (.v (.int .u16 0))) 0 3 (.v (.int .u16 0))) 0 4 (.v (.int .u16 0)))) 0 2 = 0 := by decide +kernel
  have e8 : rcV 4 1 255 (qOf (.upd (.upd (.upd (.upd (.upd (.zer [.int .u16 0, .int .u16 0, .int .u16 0, .int .u16 0, .int .u16 0]) 0 0 (.v (.int .u16 0))) 0 1 (.v (.int .u16 0))) 0 2 (.v (.int .u16 0))) 0 3 (.v (.int .u16 255))) 0 4 (.v (.int .u16 255)))) (qOf (.upd (.upd (.upd (.upd (.upd (.zer [.int .u16 0, .int .u16 0, .int .u16 0, .int .u16 0, .int .u16 0]) 0 0 (.v (.int .u16 0))) 0 1 (.v (.int .u16 0))) 0 2 (.v (.int .u16 0))) 0 3 (.v (.int .u16 0))) 0 4 (.v (.int .u16 0)))) 0 3 = 255 := by decide +kernel
  have e9 : rcV 4 1 255 (qOf (.upd (.upd (.upd (.upd (.upd (.zer [.int .u16 0, .int .u16 0, .int .u16 0, .int .u16 0, .int .u16 0]) 0 0 (.v (.int .u16 0))) 0 1 (.v (.int .u16 0))) 0 2 (.v (.int .u16 0))) 0 3 (.v (.int .u16 255))) 0 4 (.v (.int .u16 255)))) (qOf (.upd (.upd (.upd (.upd (.upd (.zer [.int .u16 0, .int .u16 0, .int .u16 0, .int .u16 0, .int .u16 0]) 0 0 (.v (.int .u16 0))) 0 1 (.v (.int .u16 0))) 0 2 (.v (.int .u16 0))) 0 3 (.v (.int .u16 0))) 0 4 (.v (.int .u16 0)))) 0 4 = 255 := by decide +kernel
  have g1 : in16 255 = true := rfl
  have g2 : ilt 0 1 = true := rfl
  simp only [forall_eq, e1, e2, e3, e4, e5, e6, e7, e8, e9, g1, g2, intRow_r1, intRow_r0, row16_r1, row16_r0, intRow_r2, intRow_nil, ieq_rfl', bcond_iff, band, true_and, and_true, and_self, true_implies, reduceCtorEq, false_implies, okAns, eqXs, eqX, eqo, eqLo, eqL, eqc, veq, eqUs]
  rfl
theorem row16_gpx (md n : Int) (q : Int → Nat → Int) {t : Int} (h : in16 t = true) (k : Int) : row16 5 k (gpxV md n q t) := fun i j _ _ hj => gpx16 md n q h i hj
theorem full_gx (n : Int) : fullB (gxMax n) = true := by rcases gxMax_cases n with h | h <;> rw [h] <;> rfl
theorem pc_gen {o k : Int} (md n : Int) (q : Int → Nat → Int) (md' n' : Int) (q' : Int → Nat → Int) (mx : Int) (ho : 1 ≤ o ∧ o ≤ 12) (hk : 1 ≤ k ∧ k ≤ 12) (i : Int) :
    pcOk o k (gxMax mx) (gpxV md n q (gxMax mx) i 0) (gpxV md n q (gxMax mx) i 1) (gpxV md n q (gxMax mx) i 2) (gpxV md n q (gxMax mx) i 3) (gpxV md n q (gxMax mx) i 4) (gpxV md' n' q' (gxMax mx) i 0) (gpxV md' n' q' (gxMax mx) i 1) (gpxV md' n' q' (gxMax mx) i 2) (gpxV md' n' q' (gxMax mx) i 3) (gpxV md' n' q' (gxMax mx) i 4) = true := by
  unfold pcOk
  rw [decide_eq_true ⟨ho, hk⟩, gpx_valid md n q (gx16 mx) i, gpx_valid md' n' q' (gx16 mx) i, full_gx]; rfl
theorem rc_gen {o k : Int} (md n : Int) (q : Int → Nat → Int) (md' n' : Int) (q' : Int → Nat → Int) (mx c : Int) (ho : 1 ≤ o ∧ o ≤ 12) (hk : 1 ≤ k ∧ k ≤ 12) : rcOk o k (gxMax mx) c c (gpxV md n q (gxMax mx)) (gpxV md' n' q' (gxMax mx)) = true := by
  unfold rcOk
  rw [decide_eq_true rfl]
  exact allR_iff.2 fun i _ _ => pc_gen md n q md' n' q' mx ho hk i
theorem rcN_gen {o k : Int} (md n : Int) (q : Int → Nat → Int) (md' n' : Int) (q' : Int → Nat → Int) (mx c : Int) (ho : 1 ≤ o ∧ o ≤ 12) (hk : 1 ≤ k ∧ k ≤ 12) : rcN o k (gxMax mx) c c (gpxV md n q (gxMax mx)) (gpxV md' n' q' (gxMax mx)) = c := by
  unfold rcN
  rw [rc_gen md n q md' n' q' mx c ho hk]; rfl
theorem rcV_0 (o k m : Int) (s d : Int → Nat → Int) (i : Int) : rcV o k m s d i 0 = mcV o k m (s i 0) (s i 3) (d i 0) (d i 3) := rfl
theorem rcV_1 (o k m : Int) (s d : Int → Nat → Int) (i : Int) : rcV o k m s d i 1 = mcV o k m (s i 1) (s i 3) (d i 1) (d i 3) := rfl
theorem rcV_2 (o k m : Int) (s d : Int → Nat → Int) (i : Int) : rcV o k m s d i 2 = mcV o k m (s i 2) (s i 3) (d i 2) (d i 3) := rfl
theorem rcV_3 (o k m : Int) (s d : Int → Nat → Int) (i : Int) : rcV o k m s d i 3 = alV o (s i 3) (d i 3) m := rfl
theorem rcV_4 (o k m : Int) (s d : Int → Nat → Int) (i : Int) : rcV o k m s d i 4 = shV o (s i 4) (d i 4) m := rfl
theorem lw_go {c i : Int} (hb : c ≤ 1099511627776) (h : lwGood c i) (lt : i < c) : iadd .i64 i 1 = i + 1 ∧ lwGood c (i + 1) ∧ (lwMu c (i + 1)).succ.le (lwMu c i) := by
  have h0 := h.1
  refine ⟨IntWalk.i64_in _ (by omega), ⟨by omega, by omega⟩, ?_⟩
  show (c - (i + 1)).toNat + 1 ≤ (c - i).toNat
  omega
section
variable (an : Int) (al : Int → Nat → Int) (on : Int) (ol : Int → Nat → Int) (bn : Int) (bl : Int → Nat → Int) (mx i : Int)
end
section
variable (kn : Bool) (o k m : Int) (s a b : Int → Nat → Int) (i : Int)
end
set_option linter.unusedVariables false in
theorem SpanComposite_core (op' mode : Int) (md : Int) (rn : Nat) (rl : Int → Nat → Int) (qd : Int) (qn : Nat) (ql : Int → Nat → Int) (n mx : Int) (w0 : (Lit.int .i64 op').wf = true) (w1 : (Lit.int .i64 mode).wf = true) (w2 : (Lit.int .i64 md).wf = true) (z0 : rn ≤ maxLen) (w3 : ∀ i j : Nat, i < rn → j < 5 → (Lit.int .i64 (rl i j)).wf = true) (w4 : (Lit.int .i64 qd).wf = true) (z1 : qn ≤ maxLen) (w5 : ∀ i j : Nat, i < qn → j < 5 → (Lit.int .i64 (ql i j)).wf = true) (w6 : (Lit.int .i64 n).wf = true) (w7 : (Lit.int .i64 mx).wf = true) (w : World) {F : Nat → Prop} (hG : QR.Laid F w) (hF : ∀ k, F k → k < w.heap.size) (x0 : Value) (r0 : QR.Rep F w (.slc 5 ((rn : Nat) : Int) (.fn fun i j => .v (.int .i64 (rl i j)))) x0) (x1 : Value) (r1 : QR.Rep F w (.slc 5 ((qn : Nat) : Int) (.fn fun i j => .v (.int .i64 (ql i j)))) x1) :
    Calls Tryz.prog 3 #[.int .i64 op', .int .i64 mode, .agg #[.int .i64 md, x0], .agg #[.int .i64 qd, x1], .int .i64 n, .int .i64 mx] w fun e w' => e = .returned (.bool true) ∧ Below w.heap.size w w' := by
  refine law_of_conc (O := o_law16c) (QR.orc_cons a_gmax2 (QR.orc_cons (up a_mod) (QR.orc_cons a_gps (QR.orc_cons a_spr (QR.orc_cons a_comp (QR.orc_cons a_rcomp (QR.orc_cons a_awake16 QR.orc_nil))))))) mixed (fun q_ => bif Nat.beq q_ 7 then some (.invF fun g => [o_inv_lsc md rn rl qd qn ql (g 13) (g 14) (g 15) (g 16)]) else none) Tryz.func3 (by kernel_rfl) (vs := [.int .i64 op', .int .i64 mode, .agg #[.int .i64 md, x0], .agg #[.int .i64 qd, x1], .int .i64 n, .int .i64 mx]) (args := [.x (.c (.v (.int .i64 op'))), .x (.c (.v (.int .i64 mode))), .x (.agg [.v (.int .i64 md), .slc 5 ((rn : Nat) : Int) (.fn fun i j => .v (.int .i64 (rl i j)))]), .x (.agg [.v (.int .i64 qd), .slc 5 ((qn : Nat) : Int) (.fn fun i j => .v (.int .i64 (ql i j)))]), .x (.c (.v (.int .i64 n))), .x (.c (.v (.int .i64 mx)))]) (by simp) ?_ w hG hF ⟨.v rfl, .v rfl, ⟨[.int .i64 md, x0], rfl, ⟨.v rfl, r0, trivial⟩⟩, ⟨[.int .i64 qd, x1], rfl, ⟨.v rfl, r1, trivial⟩⟩, .v rfl, .v rfl, rfl⟩
  rw [SpanComposite_vc]
  delta zz252 zz257 zz260 zz279 zz287
  have k10 : modOk 10 = true := rfl
  have k12 : modOk 12 = true := rfl
  have gr := gmod_range n (k := 10) (by decide)
  have go := gmod_range op' (k := 12) (by decide)
  have gk := gmod_range mode (k := 12) (by decide)
  have eo : iadd .i64 1 (gmod op' 12) = 1 + gmod op' 12 := IntWalk.i64_in _ (by omega)
  have ek : iadd .i64 1 (gmod mode 12) = 1 + gmod mode 12 := IntWalk.i64_in _ (by omega)
  have gm := gx16 mx
  have em : iimax (gmod n 10) 0 = gmod n 10 := by unfold iimax; split <;> omega
  have h1 : ile 0 (gmod n 10) = true := ile_t (by omega)
  have h2 : ile (gmod n 10) 1099511627776 = true := ile_t (by omega)
  have n1 : ile 0 (rn : Int) = true := ile_t (Int.natCast_nonneg rn)
  have n2 : ile 0 (qn : Int) = true := ile_t (Int.natCast_nonneg qn)
  have ho : 1 ≤ 1 + gmod op' 12 ∧ 1 + gmod op' 12 ≤ 12 := by omega
  have hk : 1 ≤ 1 + gmod mode 12 ∧ 1 + gmod mode 12 ≤ 12 := by omega
  have v16 : ∀ i, (in16 (gpxV md rn rl (gxMax mx) i 0) = true ∧ in16 (gpxV md rn rl (gxMax mx) i 1) = true ∧ in16 (gpxV md rn rl (gxMax mx) i 2) = true ∧ in16 (gpxV md rn rl (gxMax mx) i 3) = true ∧ in16 (gpxV md rn rl (gxMax mx) i 4) = true) := fun i => ⟨gpx16 _ _ _ gm i (by decide), gpx16 _ _ _ gm i (by decide), gpx16 _ _ _ gm i (by decide), gpx16 _ _ _ gm i (by decide), gpx16 _ _ _ gm i (by decide)⟩
  have u16 : ∀ i, (in16 (gpxV qd qn ql (gxMax mx) i 0) = true ∧ in16 (gpxV qd qn ql (gxMax mx) i 1) = true ∧ in16 (gpxV qd qn ql (gxMax mx) i 2) = true ∧ in16 (gpxV qd qn ql (gxMax mx) i 3) = true ∧ in16 (gpxV qd qn ql (gxMax mx) i 4) = true) := fun i => ⟨gpx16 _ _ _ gm i (by decide), gpx16 _ _ _ gm i (by decide), gpx16 _ _ _ gm i (by decide), gpx16 _ _ _ gm i (by decide), gpx16 _ _ _ gm i (by decide)⟩
  have P1 := rc_gen md rn (fun i j => rl i j) qd qn (fun i j => ql i j) mx (gmod n 10) ho hk
  have P2 := rcN_gen md rn (fun i j => rl i j) qd qn (fun i j => ql i j) mx (gmod n 10) ho hk
  have P3 : rcN (1 + gmod op' 12) (1 + gmod mode 12) (gxMax mx) (gmod n 10) (gmod n 10) (fun a b => gpxV md rn rl (gxMax mx) a b) (fun a b => gpxV qd qn ql (gxMax mx) a b) = gmod n 10 := P2
  simp only [forall_eq, eo, ek, em, qOf_fn, intRow_fn, row16_gpx _ _ _ gm, k10, k12, gm, h1, h2, n1, n2, P1, P2, P3, pc_gen _ _ _ _ _ _ _ ho hk, rcV_0, rcV_1, rcV_2, rcV_3, rcV_4, bz_t, v16, u16, ine_f, bnot, band, ieq_rfl', bcond_iff, okAns, eqXs, eqX, eqo, eqLo, eqL, eqc, veq, eqUs, true_and, and_true, and_self, true_implies, implies_true, reduceCtorEq, false_implies, Bool.not_true, Bool.not_false, Bool.and_true, or_false, exists_eq_right, exists_eq_right']
  refine ⟨⟨Int.le_refl 0, by omega⟩, fun i hi c => ?_⟩
  obtain ⟨ia, g, mu⟩ := lw_go (by omega) hi (ilt_tt c)
  exact ⟨⟨ile_t hi.1, c, ile_t hi.1, c⟩, ⟨ile_t hi.1, c, ile_t hi.1, c⟩, ⟨ile_t hi.1, c⟩, i + 1, g, ia, mu⟩
end Go.Proofs.YtpjhdjakpbabhaaGreatDoor
