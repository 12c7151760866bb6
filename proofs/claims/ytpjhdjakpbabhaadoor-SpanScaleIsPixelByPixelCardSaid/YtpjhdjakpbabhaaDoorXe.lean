import Derived.Test.YtpjhdjakpbabhaaDoorZaa
import Derived.Test.YtpjhdjakpbabhaaDoorZ0
import Derived.Test.YtpjhdjakpbabhaaDoorXd
import Derived.Test.YtpjhdjakpbabhaaDoorXk
import Derived.Test.YtpjhdjakpbabhaaDoorXh
import Derived.Test.YtpjhdjakpbabhaaDoorXm
import Derived.Test.YtpjhdjakpbabhaaDoorZ2
namespace Go.Proofs.YtpjhdjakpbabhaaDoor
open Go.RowKit PR QR
set_option linter.unusedVariables false
set_option linter.unusedSimpArgs false
set_option maxRecDepth 20000
theorem intRow_nil (k : IntKind) (z : Nat) (r : QR.Row) : intRow k z 0 r := fun i j hi _ => by omega
theorem intRow_r1 : intRow .u16 5 1 (.upd (.upd (.upd (.upd (.upd (.zer [.int .u16 0, .int .u16 0, .int .u16 0, .int .u16 0, .int .u16 0]) 0 0 (.v (.int .u16 0))) 0 1 (.v (.int .u16 0))) 0 2 (.v (.int .u16 0))) 0 3 (.v (.int .u16 255))) 0 4 (.v (.int .u16 255))) := fun i j hi hj => by
  obtain rfl : i = 0 := by omega
  match j, hj with
  | 0, _ => rfl
  | 1, _ => rfl
  | 2, _ => rfl
  | 3, _ => rfl
  | 4, _ => rfl
theorem row16_r1 : row16 5 1 (qOf (.upd (.upd (.upd (.upd (.upd (.zer [.int .u16 0, .int .u16 0, .int .u16 0, .int .u16 0, .int .u16 0]) 0 0 (.v (.int .u16 0))) 0 1 (.v (.int .u16 0))) 0 2 (.v (.int .u16 0))) 0 3 (.v (.int .u16 255))) 0 4 (.v (.int .u16 255)))) := fun i j h0 h1 hj => by
  obtain rfl : i = 0 := by omega
  match j, hj with
  | 0, _ => rfl
  | 1, _ => rfl
  | 2, _ => rfl
  | 3, _ => rfl
  | 4, _ => rfl
theorem intRow_r0 : intRow .u16 5 1 (.upd (.upd (.upd (.upd (.upd (.zer [.int .u16 0, .int .u16 0, .int .u16 0, .int .u16 0, .int .u16 0]) 0 0 (.v (.int .u16 0))) 0 1 (.v (.int .u16 0))) 0 2 (.v (.int .u16 0))) 0 3 (.v (.int .u16 0))) 0 4 (.v (.int .u16 0))) := fun i j hi hj => by
  obtain rfl : i = 0 := by omega
  match j, hj with
  | 0, _ => rfl
  | 1, _ => rfl
  | 2, _ => rfl
  | 3, _ => rfl
  | 4, _ => rfl
theorem row16_r0 : row16 5 1 (qOf (.upd (.upd (.upd (.upd (.upd (.zer [.int .u16 0, .int .u16 0, .int .u16 0, .int .u16 0, .int .u16 0]) 0 0 (.v (.int .u16 0))) 0 1 (.v (.int .u16 0))) 0 2 (.v (.int .u16 0))) 0 3 (.v (.int .u16 0))) 0 4 (.v (.int .u16 0)))) := fun i j h0 h1 hj => by
  obtain rfl : i = 0 := by omega
  match j, hj with
  | 0, _ => rfl
  | 1, _ => rfl
  | 2, _ => rfl
  | 3, _ => rfl
  | 4, _ => rfl
theorem intRow_r2 : intRow .u16 5 2 (.upd (.upd (.upd (.upd (.upd (.upd (.upd (.upd (.upd (.upd (.zer [.int .u16 0, .int .u16 0, .int .u16 0, .int .u16 0, .int .u16 0]) 0 0 (.v (.int .u16 0))) 0 1 (.v (.int .u16 0))) 0 2 (.v (.int .u16 0))) 0 3 (.v (.int .u16 255))) 0 4 (.v (.int .u16 255))) 1 0 (.v (.int .u16 0))) 1 1 (.v (.int .u16 0))) 1 2 (.v (.int .u16 0))) 1 3 (.v (.int .u16 255))) 1 4 (.v (.int .u16 255))) := fun i j hi hj => by
  have : i = 0 ∨ i = 1 := by omega
  rcases this with rfl | rfl
  · match j, hj with
    | 0, _ => rfl
    | 1, _ => rfl
    | 2, _ => rfl
    | 3, _ => rfl
    | 4, _ => rfl
  · match j, hj with
    | 0, _ => rfl
    | 1, _ => rfl
    | 2, _ => rfl
    | 3, _ => rfl
    | 4, _ => rfl
theorem a_awake16 : Answers2 8 s_yes16 := by
  intro al ans h hq
  unfold s_yes16 at h
  split at h <;> try (simp at h; done)
  skip
  simp only [Option.some.injEq] at h
  subst h
  have hq := asked hq
  refine QR.does_of_eval (O := o_aw16) (QR.orc_cons a_spr (QR.orc_cons a_spc QR.orc_nil)) mixed (QR.noLoops) Tryd.func8 (by kernel_rfl) (by kernel_rfl) (by simp) ?_
  rw [awake16_vc]
  delta zz256 zz264 zz275 zz277
  have e1 : clsV 2 (qOf (.upd (.upd (.upd (.upd (.upd (.upd (.upd (.upd (.upd (.upd (.zer [.int .u16 0, .int .u16 0, .int .u16 0, .int .u16 0, .int .u16 0]) 0 0 (.v (.int .u16 0))) 0 1 (.v (.int .u16 0))) 0 2 (.v (.int .u16 0))) 0 3 (.v (.int .u16 255))) 0 4 (.v (.int .u16 255))) 1 0 (.v (.int .u16 0))) 1 1 (.v (.int .u16 0))) 1 2 (.v (.int .u16 0))) 1 3 (.v (.int .u16 255))) 1 4 (.v (.int .u16 255)))) 255 = 2 := by decide
  have e2 : clsV 0 (qOf (.zer [])) 255 = 1 := by decide
  have e3 : rcOk 4 1 255 1 1 (qOf (.upd (.upd (.upd (.upd (.upd (.zer [.int .u16 0, .int .u16 0, .int .u16 0, .int .u16 0, .int .u16 0]) 0 0 (.v (.int .u16 0))) 0 1 (.v (.int .u16 0))) 0 2 (.v (.int .u16 0))) 0 3 (.v (.int .u16 255))) 0 4 (.v (.int .u16 255)))) (qOf (.upd (.upd (.upd (.upd (.upd (.zer [.int .u16 0, .int .u16 0, .int .u16 0, .int .u16 0, .int .u16 0]) 0 0 (.v (.int .u16 0))) 0 1 (.v (.int .u16 0))) 0 2 (.v (.int .u16 0))) 0 3 (.v (.int .u16 0))) 0 4 (.v (.int .u16 0)))) = true := by decide +kernel
  have e4 : rcN 4 1 255 1 1 (qOf (.upd (.upd (.upd (.upd (.upd (.zer [.int .u16 0, .int .u16 0, .int .u16 0, .int .u16 0, .int .u16 0]) 0 0 (.v (.int .u16 0))) 0 1 (.v (.int .u16 0))) 0 2 (.v (.int .u16 0))) 0 3 (.v (.int .u16 255))) 0 4 (.v (.int .u16 255)))) (qOf (.upd (.upd (.upd (.upd (.upd (.zer [.int .u16 0, .int .u16 0, .int .u16 0, .int .u16 0, .int .u16 0]) 0 0 (.v (.int .u16 0))) 0 1 (.v (.int .u16 0))) 0 2 (.v (.int .u16 0))) 0 3 (.v (.int .u16 0))) 0 4 (.v (.int .u16 0)))) = 1 := by unfold rcN; rw [e3]; rfl
  have e5 : rcV 4 1 255 (qOf (.upd (.upd (.upd (.upd (.upd (.zer [.int .u16 0, .int .u16 0, .int .u16 0, .int .u16 0, .int .u16 0]) 0 0 (.v (.int .u16 0))) 0 1 (.v (.int .u16 0))) 0 2 (.v (.int .u16 0))) 0 3 (.v (.int .u16 255))) 0 4 (.v (.int .u16 255)))) (qOf (.upd (.upd (.upd (.upd (.upd (.zer [.int .u16 0, .int .u16 0, .int .u16 0, .int .u16 0, .int .u16 0]) 0 0 (.v (.int .u16 0))) 0 1 (.v (.int .u16 0))) 0 2 (.v (.int .u16 0))) 0 3 (.v (.int .u16 0))) 0 4 (.v (.int .u16 0)))) 0 0 = 0 := by decide +kernel
  have e6 : rcV 4 1 255 (qOf (.upd (.upd (.upd (.upd (.upd (.zer [.int .u16 0, .int .u16 0, .int .u16 0, .int .u16 0, .int .u16 0]) 0 0 (.v (.int .u16 0))) 0 1 (.v (.int .u16 0))) 0 2 (.v (.int .u16 0))) 0 3 (.v (.int .u16 255))) 0 4 (.v (.int .u16 255)))) (qOf (.upd (.upd (.upd (.upd (.upd (.zer [.int .u16 0, .int .u16 0, .int .u16 0, .int .u16 0, .int .u16 0]) 0 0 (.v (.int .u16 0))) 0 1 (.v (.int .u16 0))) 0 2 (.v (.int .u16 0))) 0 3 (.v (.int .u16 0))) 0 4 (.v (.int .u16 0)))) 0 1 = 0 := by decide +kernel
  have e7 : rcV 4 1 255 (qOf (.upd (.upd (.upd (.upd (.upd (.zer [.int .u16 0, .int .u16 0, .int .u16 0, .int .u16 0, .int .u16 0]) 0 0 (.v (.int .u16 0))) 0 1 (.v (.int .u16 0))) 0 2 (.v (.int .u16 0))) 0 3 (.v (.int .u16 255))) 0 4 (.v (.int .u16 255)))) (qOf (.upd (.upd (.upd (.upd (.upd (.zer [.int .u16 0, .int .u16 0, .int .u16 0, .int .u16 0, .int .u16 0]) 0 0 (.v (.int .u16 0))) 0 1 (.v (.int .u16 0))) 0 2 (.v (.int .u16 0))) 0 3 (.v (.int .u16 0))) 0 4 (.v (.int .u16 0)))) 0 2 = 0 := by decide +kernel
  have e8 : rcV 4 1 255 (qOf (.upd (.upd (.upd (.upd (.upd (.zer [.int .u16 0, .int .u16 0, .int .u16 0, .int .u16 0, .int .u16 0]) 0 0 (.v (.int .u16 0))) 0 1 (.v (.int .u16 0))) 0 2 (.v (.int .u16 0))) 0 3 (.v (.int .u16 255))) 0 4 (.v (.int .u16 255)))) (qOf (.upd (.upd (.upd (.upd (.upd (.zer [.int .u16 0, .int .u16 0, .int .u16 0, .int .u16 0, .int .u16 0]) 0 0 (.v (.int .u16 0))) 0 1 (.v (.int .u16 0))) 0 2 (.v (.int .u16 0))) 0 3 (.v (.int .u16 0))) 0 4 (.v (.int .u16 0)))) 0 3 = 255 := by decide +kernel
  have e9 : rcV 4 1 255 (qOf (.upd (.upd (.upd (.upd (.upd (.zer [.int .u16 0, .int .u16 0, .int .u16 0, .int .u16 0, .int .u16 0]) 0 0 (.v (.int .u16 0))) 0 1 (.v (.int .u16 0))) 0 2 (.v (.int .u16 0))) 0 3 (.v (.int .u16 255))) 0 4 (.v (.int .u16 255)))) (qOf (.upd (.upd (.upd (.upd (.upd (.zer [.int .u16 0, .int .u16 0, .int .u16 0, .int .u16 0, .int .u16 0]) 0 0 (.v (.int .u16 0))) 0 1 (.v (.int .u16 0))) 0 2 (.v (.int .u16 0))) 0 3 (.v (.int .u16 0))) 0 4 (.v (.int .u16 0)))) 0 4 = 255 := by decide +kernel
  have g1 : in16 255 = true := rfl
  have g2 : ilt 0 1 = true := rfl
  simp only [forall_eq, e1, e2, e3, e4, e5, e6, e7, e8, e9, g1, g2, intRow_r1, intRow_r0, row16_r1, row16_r0, intRow_r2, intRow_nil, ieq_rfl', bcond_iff, band, true_and, and_true, and_self, true_implies, reduceCtorEq, false_implies, okAns, eqXs, eqX, eqo, eqLo, eqL, eqc, veq, eqUs]
  rfl
theorem row16_gpx (md n : Int) (q : Int → Nat → Int) {t : Int} (h : in16 t = true) (k : Int) : row16 5 k (gpxV md n q t) := fun i j _ _ hj => gpx16 md n q h i hj
theorem lw_go {c i : Int} (hb : c ≤ 1099511627776) (h : lwGood c i) (lt : i < c) : iadd .i64 i 1 = i + 1 ∧ lwGood c (i + 1) ∧ (lwMu c (i + 1)).succ.le (lwMu c i) := by
  have h0 := h.1
  refine ⟨IntWalk.i64_in _ (by omega), ⟨by omega, by omega⟩, ?_⟩
  show (c - (i + 1)).toNat + 1 ≤ (c - i).toNat
  omega
theorem sb_gen (md n : Int) (q : Int → Nat → Int) (mx i : Int) {v o : Int} (hv : v ≤ gxMax mx) (ho : o ≤ gxMax mx) : sbOk (gpxV md n q (gxMax mx) i 0) (gpxV md n q (gxMax mx) i 1) (gpxV md n q (gxMax mx) i 2) (gpxV md n q (gxMax mx) i 3) (gpxV md n q (gxMax mx) i 4) v o (gxMax mx) = true := by
  have h := pv_iff'.1 (gpx_valid md n q (gx16 mx) i)
  exact sb_iff.2 ⟨h, hv, gxMax_cases mx, ho⟩
theorem smk_0 (m : Int) (k : Int → Int) (i : Int) : smkV m 0 k i = m := by unfold smkV; rw [if_neg (by omega)]
theorem smk_c (m : Int) (k : Int → Int) {c i : Int} (h0 : 0 ≤ i) (h1 : i < c) : smkV m c k i = k i := by unfold smkV; rw [if_pos (by omega)]
theorem rs_gen (md n : Int) (q : Int → Nat → Int) (mx c nm : Int) {k : Int → Int} {o : Int} (hn : nm = 0 ∨ nm = c) (hk : ∀ i, k i ≤ gxMax mx) (ho : o ≤ gxMax mx) : rsOk (gxMax mx) o c nm (gpxV md n q (gxMax mx)) k = true := by
  unfold rsOk
  rw [decide_eq_true hn]
  refine allR_iff.2 fun i h0 h1 => sb_gen md n q mx i ?_ ho
  unfold smkV
  split
  · exact hk i
  · exact Int.le_refl _
theorem rsN_gen (md n : Int) (q : Int → Nat → Int) (mx c nm : Int) {k : Int → Int} {o : Int} (hn : nm = 0 ∨ nm = c) (hk : ∀ i, k i ≤ gxMax mx) (ho : o ≤ gxMax mx) : rsN (gxMax mx) o c nm (gpxV md n q (gxMax mx)) k = c := by
  unfold rsN
  rw [rs_gen md n q mx c nm hn hk ho]; rfl
theorem rsV_j (m o nm : Int) (q : Int → Nat → Int) (k : Int → Int) (i : Int) (j : Nat) : rsV m o nm q k i j = sbV (q i 0) (q i 1) (q i 2) (q i 3) (q i 4) (q i j) (smkV m nm k i) o m := rfl
theorem row1_app {i : Int} (g : Int → Int) (hi : 0 ≤ i) (p : Nat) (hp : ilt (Int.ofNat p) (addZ i 1) = true) : isel (ilt (Int.ofNat p) i) (g (Int.ofNat p)) (isel (ieq (subZ (Int.ofNat p) i) 0) (g i) 0) = g (Int.ofNat p) := row_app16 hi rfl p hp
section
variable (an : Int) (al : Int → Nat → Int) (on : Int) (ol : Int → Nat → Int) (bn : Int) (bl : Int → Nat → Int) (mx i : Int)
end
section
variable (kn : Bool) (o k m : Int) (s a b : Int → Nat → Int) (i : Int)
end
set_option linter.unusedVariables false in
theorem SpanScale_core (md : Int) (rn : Nat) (rl : Int → Nat → Int) (kn : Nat) (kl : Int → Nat → Int) (mk : Bool) (op' n mx : Int) (w0 : (Lit.int .i64 md).wf = true) (z0 : rn ≤ maxLen) (w1 : ∀ i j : Nat, i < rn → j < 5 → (Lit.int .i64 (rl i j)).wf = true) (z1 : kn ≤ maxLen) (w2 : ∀ i j : Nat, i < kn → j < 1 → (Lit.int .i64 (kl i j)).wf = true) (w3 : (Lit.int .i64 op').wf = true) (w4 : (Lit.int .i64 n).wf = true) (w5 : (Lit.int .i64 mx).wf = true) (w : World) {F : Nat → Prop} (hG : QR.Laid F w) (hF : ∀ k, F k → k < w.heap.size) (x0 : Value) (r0 : QR.Rep F w (.slc 5 ((rn : Nat) : Int) (.fn fun i j => .v (.int .i64 (rl i j)))) x0) (x1 : Value) (r1 : QR.Rep F w (.slc 1 ((kn : Nat) : Int) (.fn fun i j => .v (.int .i64 (kl i j)))) x1) :
    Calls Tryd.prog 4 #[.agg #[.int .i64 md, x0], x1, .bool mk, .int .i64 op', .int .i64 n, .int .i64 mx] w fun e w' => e = .returned (.bool true) ∧ Below w.heap.size w w' := by
  refine law_of_conc (O := o_law16s) (QR.orc_cons a_gmax2 (QR.orc_cons (up a_mod) (QR.orc_cons a_at (QR.orc_cons a_gps (QR.orc_cons a_gsample2 (QR.orc_cons a_sps (QR.orc_cons a_sboth (QR.orc_cons a_awake16 QR.orc_nil)))))))) mixed (fun q_ => bif Nat.beq q_ 5 then some (.ownF [(17, none, 1)] fun g => [o_inv_ls1 md rn rl kn kl mk (g 13) (g 16) (g 14)]) else bif Nat.beq q_ 12 then some (.invF fun g => [o_inv_ls2 md rn rl kn kl mk (g 13) (g 16) (g 14) (g 18)]) else none) Tryd.func4 (by kernel_rfl) (vs := [.agg #[.int .i64 md, x0], x1, .bool mk, .int .i64 op', .int .i64 n, .int .i64 mx]) (args := [.x (.agg [.v (.int .i64 md), .slc 5 ((rn : Nat) : Int) (.fn fun i j => .v (.int .i64 (rl i j)))]), .x (.c (.slc 1 ((kn : Nat) : Int) (.fn fun i j => .v (.int .i64 (kl i j))))), .x (.c (.v (.bool mk))), .x (.c (.v (.int .i64 op'))), .x (.c (.v (.int .i64 n))), .x (.c (.v (.int .i64 mx)))]) (by simp) ?_ w hG hF ⟨⟨[.int .i64 md, x0], rfl, ⟨.v rfl, r0, trivial⟩⟩, r1, .v rfl, .v rfl, .v rfl, .v rfl, rfl⟩
  rw [SpanScale_vc]
  delta zz41 zz250 zz257 zz258 zz260 zz281 zz289 zz290 zz292
  have k10 : modOk 10 = true := rfl
  have gr := gmod_range n (k := 10) (by decide)
  have gm := gx16 mx
  have go := gs16 op' mx
  have em : iimax (gmod n 10) 0 = gmod n 10 := by unfold iimax; split <;> omega
  have h1 : ile 0 (gmod n 10) = true := ile_t (by omega)
  have h2 : ile (gmod n 10) 1099511627776 = true := ile_t (by omega)
  have n1 : ile 0 (rn : Int) = true := ile_t (Int.natCast_nonneg rn)
  have n2 : ile 0 (kn : Int) = true := ile_t (Int.natCast_nonneg kn)
  have hms : ∀ i, mskV kn kl (gxMax mx) i ≤ gxMax mx ∧ 0 ≤ mskV kn kl (gxMax mx) i := fun i => ⟨(gsV_range _ gm).2, (gsV_range _ gm).1⟩
  have hm16 : ∀ i, in16 (mskV kn kl (gxMax mx) i) = true := fun i => gsV_in16 _ gm
  have hrow : ∀ z c, row16 z c (fun i _ => mskV kn kl (gxMax mx) i) := fun z c i j _ _ _ => hm16 i
  have hog : gsV op' (gxMax mx) ≤ gxMax mx := (gsV_range _ gm).2
  have v16 : ∀ i, (in16 (gpxV md rn rl (gxMax mx) i 0) = true ∧ in16 (gpxV md rn rl (gxMax mx) i 1) = true ∧ in16 (gpxV md rn rl (gxMax mx) i 2) = true ∧ in16 (gpxV md rn rl (gxMax mx) i 3) = true ∧ in16 (gpxV md rn rl (gxMax mx) i 4) = true) := fun i => ⟨gpx16 _ _ _ gm i (by decide), gpx16 _ _ _ gm i (by decide), gpx16 _ _ _ gm i (by decide), gpx16 _ _ _ gm i (by decide), gpx16 _ _ _ gm i (by decide)⟩
  have Q1 := fun nm hn => rs_gen md rn rl mx (gmod n 10) nm (k := mskV kn kl (gxMax mx)) (o := gsV op' (gxMax mx)) hn (fun i => (hms i).1) hog
  have Q2 := fun nm hn => rsN_gen md rn rl mx (gmod n 10) nm (k := mskV kn kl (gxMax mx)) (o := gsV op' (gxMax mx)) hn (fun i => (hms i).1) hog
  have Q3 : ∀ nm, (nm = 0 ∨ nm = gmod n 10) → rsN (gxMax mx) (gsV op' (gxMax mx)) (gmod n 10) nm (fun a b => gpxV md rn rl (gxMax mx) a b) (fun a => mskV kn kl (gxMax mx) a) = gmod n 10 := Q2
  have S1 := fun i => sb_gen md rn rl mx i (hms i).1 hog
  have S2 := fun i => sb_gen md rn rl mx i (Int.le_refl (gxMax mx)) hog
  cases mk
  · simp only [forall_eq, em, qOf_fn, qO1_fn, intRow_fn, row16_gpx _ _ _ gm, k10, gm, go, h1, h2, n1, n2, bnot, band, ieq_rfl', bcond_iff, okAns, eqXs, eqX, eqo, eqLo, eqL, eqc, veq, eqUs, true_and, and_true, and_self, true_implies, implies_true, reduceCtorEq, false_implies, Bool.not_true, Bool.not_false, Bool.and_true, or_false, exists_eq_right, exists_eq_right', Bool.false_eq_true]
    refine ⟨⟨0, ⟨⟨Int.le_refl 0, by omega⟩, fun _ => rfl⟩, rfl, rfl, fun q hq => by have := ilt_tt hq; have : (q : Int) < 0 := this; omega⟩, fun i hi => ?_⟩
    obtain rfl : i = 0 := hi.2 rfl
    have q0 : (0 : Int) = 0 ∨ (0 : Int) = gmod n 10 := Or.inl rfl
    have z0 : ile 0 0 = true := rfl
    simp only [hrow, Q1 0 q0, Q2 0 q0, Q3 0 q0, S1, S2, rsV_j, smk_0, hm16, v16, ine_f, ieq_rfl', z0, true_and, and_true, and_self, true_implies, implies_true, reduceCtorEq, false_implies, Bool.not_true, Bool.not_false, Bool.and_true, Bool.and_self, Bool.false_eq_true]
    refine ⟨fun _ => ?_, fun _ => ?_⟩ <;>
    · refine ⟨⟨Int.le_refl 0, by omega⟩, fun i hi c => ?_⟩
      obtain ⟨ia, g, mu⟩ := lw_go (by omega) hi (ilt_tt c)
      exact ⟨⟨ile_t hi.1, c⟩, ⟨ile_t hi.1, c⟩, i + 1, g, ia, mu⟩
  · simp only [forall_eq, em, qOf_fn, qO1_fn, intRow_fn, row16_gpx _ _ _ gm, k10, gm, go, h1, h2, n1, n2, bnot, band, ieq_rfl', bcond_iff, okAns, eqXs, eqX, eqo, eqLo, eqL, eqc, veq, eqUs, true_and, and_true, and_self, true_implies, implies_true, reduceCtorEq, false_implies, Bool.not_true, Bool.not_false, Bool.and_true, or_false, exists_eq_right, exists_eq_right', Bool.false_eq_true]
    refine ⟨⟨0, ⟨⟨Int.le_refl 0, by omega⟩, fun _ => rfl⟩, rfl, rfl, fun q hq => by have := ilt_tt hq; have : (q : Int) < 0 := this; omega⟩, fun i hi => ⟨fun c1 => ?_, fun c1 => ?_⟩⟩
    · obtain ⟨⟨i0, i1⟩, _⟩ := hi
      have lt := ilt_tt c1
      obtain ⟨ia, _, mu⟩ := lw_go (c := gmod n 10) (by omega) ⟨i0, i1⟩ lt
      exact ⟨ile_t (by unfold imulZ addZ; omega), i + 1, ⟨⟨by omega, by omega⟩, fun h => by cases h⟩, ⟨⟨rfl, ia⟩, rfl, fun p hp => row1_app (mskV kn kl (gxMax mx)) i0 p hp⟩, mu⟩
    · obtain rfl : i = gmod n 10 := by have := ilt_ff c1; have := hi.1; omega
      have q0 : gmod n 10 = 0 ∨ gmod n 10 = gmod n 10 := Or.inr rfl
      simp only [hrow, Q1 _ q0, Q2 _ q0, Q3 _ q0, S1, S2, rsV_j, hm16, v16, ine_f, ieq_rfl', h1, true_and, and_true, and_self, true_implies, implies_true, reduceCtorEq, false_implies, Bool.not_true, Bool.not_false, Bool.and_true, Bool.and_self, Bool.false_eq_true]
      refine ⟨⟨Int.le_refl 0, by omega⟩, fun i hi c => ?_⟩
      obtain ⟨ia, g, mu⟩ := lw_go (by omega) hi (ilt_tt c)
      have e : smkV (gxMax mx) (gmod n 10) (fun a => mskV kn kl (gxMax mx) a) i = mskV kn kl (gxMax mx) i := smk_c _ _ hi.1 (ilt_tt c)
      simp only [e, ieq_rfl', Bool.and_self, Bool.not_true, Bool.false_eq_true, reduceCtorEq, false_implies, true_implies, true_and]
      exact ⟨⟨ile_t hi.1, c⟩, ⟨ile_t hi.1, c⟩, ⟨ile_t hi.1, c⟩, i + 1, g, ia, mu⟩
end Go.Proofs.YtpjhdjakpbabhaaDoor
