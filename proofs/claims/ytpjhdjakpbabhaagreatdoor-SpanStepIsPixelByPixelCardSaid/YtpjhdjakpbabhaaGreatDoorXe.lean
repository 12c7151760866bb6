import Derived.Test.YtpjhdjakpbabhaaGreatDoorZaa
import Derived.Test.YtpjhdjakpbabhaaGreatDoorZ0
import Derived.Test.YtpjhdjakpbabhaaGreatDoorXd
import Derived.Test.YtpjhdjakpbabhaaGreatDoorXl
import Derived.Test.YtpjhdjakpbabhaaGreatDoorXk
import Derived.Test.YtpjhdjakpbabhaaGreatDoorXh
import Derived.Test.YtpjhdjakpbabhaaGreatDoorZ2
namespace Go.Proofs.YtpjhdjakpbabhaaGreatDoor
open Go.RowKit PR QR
set_option linter.unusedVariables false
set_option linter.unusedSimpArgs false
set_option maxRecDepth 20000
theorem intRow_nil (k : IntKind) (z : Nat) (r : QR.Row) : intRow k z 0 r := fun i j hi _ => by omega
theorem intRow_r1 : intRow .u16 5 1 (.upd (.upd (.upd (.upd (.upd (.zer [.int .u16 0, .int .u16 0, .int .u16 0, .int .u16 0, .int .u16 0]) 0 0 (.v (.int .u16 0))) 0 1 (.v (.int .u16 0))) 0 2 (.v (.int .u16 0))) 0 3 (.v (.int .u16 255))) 0 4 (.v (.int .u16 255))) := fun i j hi hj => by
  obtain rfl : i = 0 := by omega
  match j, hj with
  | 0, _ => rfl
  | 1, _ => rfl
  | 2, _ => rfl
  | 3, _ => rfl
  | 4, _ => rfl
theorem row16_r1 : row16 5 1 (qOf (.upd (.upd (.upd (.upd (.upd (.zer [.int .u16 0, .int .u16 0, .int .u16 0, .int .u16 0, .int .u16 0]) 0 0 (.v (.int .u16 0))) 0 1 (.v (.int .u16 0))) 0 2 (.v (.int .u16 0))) 0 3 (.v (.int .u16 255))) 0 4 (.v (.int .u16 255)))) := fun i j h0 h1 hj => by
  obtain rfl : i = 0 := by omega
  match j, hj with
  | 0, _ => rfl
  | 1, _ => rfl
  | 2, _ => rfl
  | 3, _ => rfl
  | 4, _ => rfl
theorem intRow_r0 : intRow .u16 5 1 (.upd (.upd (.upd (.upd (.upd (.zer [.int .u16 0, .int .u16 0, .int .u16 0, .int .u16 0, .int .u16 0]) 0 0 (.v (.int .u16 0))) 0 1 (.v (.int .u16 0))) 0 2 (.v (.int .u16 0))) 0 3 (.v (.int .u16 0))) 0 4 (.v (.int .u16 0))) := fun i j hi hj => by
  obtain rfl : i = 0 := by omega
  match j, hj with
  | 0, _ => rfl
  | 1, _ => rfl
  | 2, _ => rfl
  | 3, _ => rfl
  | 4, _ => rfl
theorem row16_r0 : row16 5 1 (qOf (.upd (.upd (.upd (.upd (.upd (.zer [.int .u16 0, .int .u16 0, .int .u16 0, .int .u16 0, .int .u16 0]) 0 0 (.v (.int .u16 0))) 0 1 (.v (.int .u16 0))) 0 2 (.v (.int .u16 0))) 0 3 (.v (.int .u16 0))) 0 4 (.v (.int .u16 0)))) := fun i j h0 h1 hj => by
  obtain rfl : i = 0 := by omega
  match j, hj with
  | 0, _ => rfl
  | 1, _ => rfl
  | 2, _ => rfl
  | 3, _ => rfl
  | 4, _ => rfl
theorem intRow_r2 : intRow .u16 5 2 (.upd (.upd (.upd (.upd (.upd (.upd (.upd (.upd (.upd (.upd (.zer [.int .u16 0, .int .u16 0, .int .u16 0, .int .u16 0, .int .u16 0]) 0 0 (.v (.int .u16 0))) 0 1 (.v (.int .u16 0))) 0 2 (.v (.int .u16 0))) 0 3 (.v (.int .u16 255))) 0 4 (.v (.int .u16 255))) 1 0 (.v (.int .u16 0))) 1 1 (.v (.int .u16 0))) 1 2 (.v (.int .u16 0))) 1 3 (.v (.int .u16 255))) 1 4 (.v (.int .u16 255))) := fun i j hi hj => by
  have : i = 0 ∨ i = 1 := by omega
  rcases this with rfl | rfl
  · match j, hj with
    | 0, _ => rfl
    | 1, _ => rfl
    | 2, _ => rfl
    | 3, _ => rfl
    | 4, _ => rfl
  · match j, hj with
    | 0, _ => rfl
    | 1, _ => rfl
    | 2, _ => rfl
    | 3, _ => rfl
    | 4, _ => rfl
theorem a_awake16 : Answers2 11 s_yes16 := by
  intro al ans h hq
  unfold s_yes16 at h
  split at h <;> try (simp at h; done)
  skip
  simp only [Option.some.injEq] at h
  subst h
  have hq := asked hq
  refine QR.does_of_eval (O := o_aw16) (QR.orc_cons a_spr (QR.orc_cons a_spc QR.orc_nil)) mixed (QR.noLoops) Tryz.func11 (by kernel_rfl) (by kernel_rfl) (by simp) ?_
  rw [awake16_vc]
  delta zz256 zz264 zz275 zz277
  have e1 : clsV 2 (qOf (.upd (.upd (.upd (.upd (.upd (.upd (.upd (.upd (.upd (.upd (.zer [.int .u16 0, .int .u16 0, .int .u16 0, .int .u16 0, .int .u16 0]) 0 0 (.v (.int .u16 0))) 0 1 (.v (.int .u16 0))) 0 2 (.v (.int .u16 0))) 0 3 (.v (.int .u16 255))) 0 4 (.v (.int .u16 255))) 1 0 (.v (.int .u16 0))) 1 1 (.v (.int .u16 0))) 1 2 (.v (.int .u16 0))) 1 3 (.v (.int .u16 255))) 1 4 (.v (.int .u16 255)))) 255 = 2 := by decide
  have e2 : clsV 0 (qOf (.zer [])) 255 = 1 := by decide
  have e3 : rcOk 4 1 255 1 1 (qOf (.upd (.upd (.upd (.upd (.upd (.zer [.int .u16 0, .int .u16 0, .int .u16 0, .int .u16 0, .int .u16 0]) 0 0 (.v (.int .u16 0))) 0 1 (.v (.int .u16 0))) 0 2 (.v (.int .u16 0))) 0 3 (.v (.int .u16 255))) 0 4 (.v (.int .u16 255)))) (qOf (.upd (.upd (.upd (.upd (.upd (.zer [.int .u16 0, .int .u16 0, .int .u16 0, .int .u16 0, .int .u16 0]) 0 0 (.v (.int .u16 0))) 0 1 (.v (.int .u16 0))) 0 2 (.v (.int .u16 0))) 0 3 (.v (.int .u16 0))) 0 4 (.v (.int .u16 0)))) = true := by decide +kernel
  have e4 : rcN 4 1 255 1 1 (qOf (.upd (.upd (.upd (.upd (.upd (.zer [.int .u16 0, .int .u16 0, .int .u16 0, .int .u16 0, .int .u16 0]) 0 0 (.v (.int .u16 0))) 0 1 (.v (.int .u16 0))) 0 2 (.v (.int .u16 0))) 0 3 (.v (.int .u16 255))) 0 4 (.v (.int .u16 255)))) (qOf (.upd (.upd (.upd (.upd (.upd (.zer [.int .u16 0, .int .u16 0, .int .u16 0, .int .u16 0, .int .u16 0]) 0 0 (.v (.int .u16 0))) 0 1 (.v (.int .u16 0))) 0 2 (.v (.int .u16 0))) 0 3 (.v (.int .u16 0))) 0 4 (.v (.int .u16 0)))) = 1 := by unfold rcN; rw [e3]; rfl
  have e5 : rcV 4 1 255 (qOf (.upd (.upd (.upd (.upd (.upd (.zer [.int .u16 0, .int .u16 0, .int .u16 0, .int .u16 0, .int .u16 0]) 0 0 (.v (.int .u16 0))) 0 1 (.v (.int .u16 0))) 0 2 (.v (.int .u16 0))) 0 3 (.v (.int .u16 255))) 0 4 (.v (.int .u16 255)))) (qOf (.upd (.upd (.upd (.upd (.upd (.zer [.int .u16 0, .int .u16 0, .int .u16 0, .int .u16 0, .int .u16 0]) 0 0 (.v (.int .u16 0))) 0 1 (.v (.int .u16 0))) 0 2 (.v (.int .u16 0))) 0 3 (.v (.int .u16 0))) 0 4 (.v (.int .u16 0)))) 0 0 = 0 := by decide +kernel
  have e6 : rcV 4 1 255 (qOf (.upd (.upd (.upd (.upd (.upd (.zer [.int .u16 0, .int .u16 0, .int .u16 0, .int .u16 0, .int .u16 0]) 0 0 (.v (.int .u16 0))) 0 1 (.v (.int .u16 0))) 0 2 (.v (.int .u16 0))) 0 3 (.v (.int .u16 255))) 0 4 (.v (.int .u16 255)))) (qOf (.upd (.upd (.upd (.upd (.upd (.zer [.int .u16 0, .int .u16 0, .int .u16 0, .int .u16 0, .int .u16 0]) 0 0 (.v (.int .u16 0))) 0 1 (.v (.int .u16 0))) 0 2 (.v (.int .u16 0))) 0 3 (.v (.int .u16 0))) 0 4 (.v (.int .u16 0)))) 0 1 = 0 := by decide +kernel
  have e7 : rcV 4 1 255 (qOf (.upd (.upd (.upd (.upd (.upd (.zer [.int .u16 0, .int .u16 0, .int .u16 0, .int .u16 0, .int .u16 0]) 0 0 (.v (.int .u16 0))) 0 1 (.v (.int .u16 0))) 0 2 (.v (.int .u16 0))) 0 3 (.v (.int .u16 255))) 0 4 (.v (.int .u16 255)))) (qOf (.upd (.upd (.upd (.upd (.upd (.zer [.int .u16 0, .int .u16 0, .int .u16 0, .int .u16 0, .int .u16 0]) 0 0 (.v (.int .u16 0))) 0 1 (.v (.int .u16 0))) 0 2 (.v (.int .u16 0))) 0 3 (.v (.int .u16 0))) 0 4 (.v (.int .u16 0)))) 0 2 = 0 := by decide +kernel
  have e8 : rcV 4 1 255 (qOf (.upd (.upd (.upd (.upd (.upd (.zer [.int .u16 0, .int .u16 0, .int .u16 0, .int .u16 0, .int .u16 0]) 0 0 (.v (.int .u16 0))) 0 1 (.v (.int .u16 0))) 0 2 (.v (.int .u16 0))) 0 3 (.v (.int .u16 255))) 0 4 (.v (.int .u16 255)))) (qOf (.upd (.upd (.upd (.upd (.upd (.zer [.int .u16 0, .int .u16 0, .int .u16 0, .int .u16 0, .int .u16 0]) 0 0 (.v (.int .u16 0))) 0 1 (.v (.int .u16 0))) 0 2 (.v (.int .u16 0))) 0 3 (.v (.int .u16 0))) 0 4 (.v (.int .u16 0)))) 0 3 = 255 := by decide +kernel
  have e9 : rcV 4 1 255 (qOf (.upd (.upd (.upd (.upd (.upd (.zer [.int .u16 0, .int .u16 0, .int .u16 0, .int .u16 0, .int .u16 0]) 0 0 (.v (.int .u16 0))) 0 1 (.v (.int .u16 0))) 0 2 (.v (.int .u16 0))) 0 3 (.v (.int .u16 255))) 0 4 (.v (.int .u16 255)))) (qOf (.upd (.upd (.upd (.upd (.upd (.zer [.int .u16 0, .int .u16 0, .int .u16 0, .int .u16 0, .int .u16 0]) 0 0 (.v (.int .u16 0))) 0 1 (.v (.int .u16 0))) 0 2 (.v (.int .u16 0))) 0 3 (.v (.int .u16 0))) 0 4 (.v (.int .u16 0)))) 0 4 = 255 := by decide +kernel
  have g1 : in16 255 = true := rfl
  have g2 : ilt 0 1 = true := rfl
  simp only [forall_eq, e1, e2, e3, e4, e5, e6, e7, e8, e9, g1, g2, intRow_r1, intRow_r0, row16_r1, row16_r0, intRow_r2, intRow_nil, ieq_rfl', bcond_iff, band, true_and, and_true, and_self, true_implies, reduceCtorEq, false_implies, okAns, eqXs, eqX, eqo, eqLo, eqL, eqc, veq, eqUs]
  rfl
theorem row16_gpx (md n : Int) (q : Int → Nat → Int) {t : Int} (h : in16 t = true) (k : Int) : row16 5 k (gpxV md n q t) := fun i j _ _ hj => gpx16 md n q h i hj
theorem lw_go {c i : Int} (hb : c ≤ 1099511627776) (h : lwGood c i) (lt : i < c) : iadd .i64 i 1 = i + 1 ∧ lwGood c (i + 1) ∧ (lwMu c (i + 1)).succ.le (lwMu c i) := by
  have h0 := h.1
  refine ⟨IntWalk.i64_in _ (by omega), ⟨by omega, by omega⟩, ?_⟩
  show (c - (i + 1)).toNat + 1 ≤ (c - i).toNat
  omega
theorem ga_gen (n3 n4 own t : Int) : (0 ≤ gaO n3 n4 own (gxMax t) ∧ gaO n3 n4 own (gxMax t) ≤ gpA n3 n4 (gxMax t) ∧ gaO n3 n4 own (gxMax t) ≤ gaF n4 own (gxMax t)) ∧ 0 ≤ gaF n4 own (gxMax t) ∧ gaF n4 own (gxMax t) ≤ gxMax t ∧ in16 (gaO n3 n4 own (gxMax t)) = true ∧ in16 (gaF n4 own (gxMax t)) = true := by
  have h := gx16 t
  have f := ga_fin n4 own h
  have i := iimin_in (gpA_in16 n3 n4 h) f
  have r := gsV_range own i
  have l : iimin (gpA n3 n4 (gxMax t)) (gaF n4 own (gxMax t)) ≤ gpA n3 n4 (gxMax t) ∧ iimin (gpA n3 n4 (gxMax t)) (gaF n4 own (gxMax t)) ≤ gaF n4 own (gxMax t) := by unfold iimin; split <;> omega
  have ff := in16_iff.1 f
  have fm : gaF n4 own (gxMax t) ≤ gxMax t := by
    unfold gaF
    cases ieq (gmod own 4) 3
    · exact (gsV_range n4 h).2
    · exact (gsV_range _ h).2
  exact ⟨⟨r.1, Int.le_trans r.2 l.1, Int.le_trans r.2 l.2⟩, ff.1, fm, gsV_in16 _ i, f⟩
section
variable (an : Int) (al : Int → Nat → Int) (on : Int) (ol : Int → Nat → Int) (bn : Int) (bl : Int → Nat → Int) (mx i : Int)
theorem va_gen : vaB (lacV an al on ol (gxMax mx) i 0) (lacV an al on ol (gxMax mx) i 1) (lacV an al on ol (gxMax mx) i 2) (lacV an al on ol (gxMax mx) i 3) (lacV an al on ol (gxMax mx) i 4) (lacV an al on ol (gxMax mx) i 5) (lbkV bn bl (gxMax mx) i 0) (lbkV bn bl (gxMax mx) i 1) (lbkV bn bl (gxMax mx) i 2) (lbkV bn bl (gxMax mx) i 3) (lbkV bn bl (gxMax mx) i 4) (gxMax mx) = true := by
  have gm := gx16 mx
  obtain ⟨⟨o0, o1, o2⟩, f0, f1, _, _⟩ := ga_gen (xzV an al i 3) (xzV an al i 4) (atV on (ol i 0) i) mx
  have c := fun j => gpC_range (xzV an al i j) (xzV an al i 3) (xzV an al i 4) gm
  have d := fun j => gpC_range (xzV bn bl i j) (xzV bn bl i 3) (xzV bn bl i 4) gm
  have a := gpA_range (xzV an al i 3) (xzV an al i 4) gm
  have b := gpA_range (xzV bn bl i 3) (xzV bn bl i 4) gm
  have af : gpF (xzV an al i 4) (gxMax mx) ≤ gxMax mx := (gsV_range _ gm).2
  have bf : gpF (xzV bn bl i 4) (gxMax mx) ≤ gxMax mx := (gsV_range _ gm).2
  exact va_iff.2 ⟨⟨(c 0).2, (c 1).2, (c 2).2, o1, o2, Int.le_trans a.2 af, f1⟩, ⟨(d 0).2, (d 1).2, (d 2).2, rfl, Int.le_trans b.2 bf⟩, gxMax_cases mx⟩
theorem lac16 : in16 (lacV an al on ol (gxMax mx) i 0) = true ∧ in16 (lacV an al on ol (gxMax mx) i 1) = true ∧ in16 (lacV an al on ol (gxMax mx) i 2) = true ∧ in16 (lacV an al on ol (gxMax mx) i 3) = true ∧ in16 (lacV an al on ol (gxMax mx) i 4) = true ∧ in16 (lacV an al on ol (gxMax mx) i 5) = true := by
  have gm := gx16 mx
  obtain ⟨_, _, _, g1, g2⟩ := ga_gen (xzV an al i 3) (xzV an al i 4) (atV on (ol i 0) i) mx
  have a := gpA_in16 (xzV an al i 3) (xzV an al i 4) gm
  exact ⟨gsV_in16 _ a, gsV_in16 _ a, gsV_in16 _ a, a, g1, g2⟩
theorem lbk16 : in16 (lbkV bn bl (gxMax mx) i 0) = true ∧ in16 (lbkV bn bl (gxMax mx) i 1) = true ∧ in16 (lbkV bn bl (gxMax mx) i 2) = true ∧ in16 (lbkV bn bl (gxMax mx) i 3) = true ∧ in16 (lbkV bn bl (gxMax mx) i 4) = true := by
  have a := gpA_in16 (xzV bn bl i 3) (xzV bn bl i 4) (gx16 mx)
  exact ⟨gsV_in16 _ a, gsV_in16 _ a, gsV_in16 _ a, a, a⟩
theorem gs_gen (md n : Int) (q : Int → Nat → Int) {kn : Bool} {o k : Int} (ho : 1 ≤ o ∧ o ≤ 12) (hk : 1 ≤ k ∧ k ≤ 12) (h4 : kn = true → o = 4) : gsOk kn o k (gxMax mx) (gpxV md n q (gxMax mx) i 0) (gpxV md n q (gxMax mx) i 1) (gpxV md n q (gxMax mx) i 2) (gpxV md n q (gxMax mx) i 3) (gpxV md n q (gxMax mx) i 4) (lacV an al on ol (gxMax mx) i 0) (lacV an al on ol (gxMax mx) i 1) (lacV an al on ol (gxMax mx) i 2) (lacV an al on ol (gxMax mx) i 3) (lacV an al on ol (gxMax mx) i 4) (lacV an al on ol (gxMax mx) i 5) (lbkV bn bl (gxMax mx) i 0) (lbkV bn bl (gxMax mx) i 1) (lbkV bn bl (gxMax mx) i 2) (lbkV bn bl (gxMax mx) i 3) (lbkV bn bl (gxMax mx) i 4) = true :=
  gs_iff.2 ⟨⟨ho, hk, h4⟩, pv_iff'.1 (gpx_valid md n q (gx16 mx) i), va_gen an al on ol bn bl mx i⟩
end
theorem row16_lac (an : Int) (al : Int → Nat → Int) (on : Int) (ol : Int → Nat → Int) (mx c : Int) : row16 6 c (lacV an al on ol (gxMax mx)) := fun i j _ _ hj => by
  obtain ⟨a0, a1, a2, a3, a4, a5⟩ := lac16 an al on ol mx i
  match j, hj with
  | 0, _ => exact a0
  | 1, _ => exact a1
  | 2, _ => exact a2
  | 3, _ => exact a3
  | 4, _ => exact a4
  | 5, _ => exact a5
theorem row16_lbk (bn : Int) (bl : Int → Nat → Int) (mx c : Int) : row16 5 c (lbkV bn bl (gxMax mx)) := fun i j _ _ hj => by
  obtain ⟨a0, a1, a2, a3, a4⟩ := lbk16 bn bl mx i
  match j, hj with
  | 0, _ => exact a0
  | 1, _ => exact a1
  | 2, _ => exact a2
  | 3, _ => exact a3
  | 4, _ => exact a4
theorem rg_gen (md n : Int) (q : Int → Nat → Int) (an : Int) (al : Int → Nat → Int) (on : Int) (ol : Int → Nat → Int) (bn : Int) (bl : Int → Nat → Int) (mx c : Int) {kn : Bool} {o k : Int} (ho : 1 ≤ o ∧ o ≤ 12) (hk : 1 ≤ k ∧ k ≤ 12) (h4 : kn = true → o = 4) : rgOk kn o k (gxMax mx) c c c (gpxV md n q (gxMax mx)) (lacV an al on ol (gxMax mx)) (lbkV bn bl (gxMax mx)) = true := by
  unfold rgOk
  rw [decide_eq_true ⟨rfl, rfl⟩]
  exact allR_iff.2 fun i _ _ => gs_gen an al on ol bn bl mx i md n q ho hk h4
theorem rgN_gen (md n : Int) (q : Int → Nat → Int) (an : Int) (al : Int → Nat → Int) (on : Int) (ol : Int → Nat → Int) (bn : Int) (bl : Int → Nat → Int) (mx c : Int) {kn : Bool} {o k : Int} (ho : 1 ≤ o ∧ o ≤ 12) (hk : 1 ≤ k ∧ k ≤ 12) (h4 : kn = true → o = 4) : rgN kn o k (gxMax mx) c c c (gpxV md n q (gxMax mx)) (lacV an al on ol (gxMax mx)) (lbkV bn bl (gxMax mx)) = c := by
  unfold rgN
  rw [rg_gen md n q an al on ol bn bl mx c ho hk h4]; rfl
theorem rr_gen (an : Int) (al : Int → Nat → Int) (on : Int) (ol : Int → Nat → Int) (bn : Int) (bl : Int → Nat → Int) (mx c : Int) : rrOk (gxMax mx) c c (lacV an al on ol (gxMax mx)) (lbkV bn bl (gxMax mx)) = true := by
  unfold rrOk
  rw [decide_eq_true rfl]
  exact allR_iff.2 fun i _ _ => va_gen an al on ol bn bl mx i
theorem rrN_gen (an : Int) (al : Int → Nat → Int) (on : Int) (ol : Int → Nat → Int) (bn : Int) (bl : Int → Nat → Int) (mx c : Int) : rrN (gxMax mx) c c (lacV an al on ol (gxMax mx)) (lbkV bn bl (gxMax mx)) = c := by
  unfold rrN
  rw [rr_gen an al on ol bn bl mx c]; rfl
section
variable (kn : Bool) (o k m : Int) (s a b : Int → Nat → Int) (i : Int)
theorem rgV_0 : rgV kn o k m s a b i 0 = gsC kn o k m (s i 0) (s i 3) (s i 4) (a i 0) (a i 3) (b i 0) (b i 3) := rfl
theorem rgV_1 : rgV kn o k m s a b i 1 = gsC kn o k m (s i 1) (s i 3) (s i 4) (a i 1) (a i 3) (b i 1) (b i 3) := rfl
theorem rgV_2 : rgV kn o k m s a b i 2 = gsC kn o k m (s i 2) (s i 3) (s i 4) (a i 2) (a i 3) (b i 2) (b i 3) := rfl
theorem rgV_3 : rgV kn o k m s a b i 3 = gsA kn o m (s i 3) (s i 4) (a i 3) (b i 3) := rfl
theorem rgV_4 : rgV kn o k m s a b i 4 = gsO kn o m (s i 3) (s i 4) (a i 4) := rfl
theorem rgV_5 : rgV kn o k m s a b i 5 = gsF o m (s i 4) (a i 5) := rfl
theorem rrV_0 : rrV m a b i 0 = grV true (a i 0) (b i 0) (a i 4) m := rfl
theorem rrV_1 : rrV m a b i 1 = grV true (a i 1) (b i 1) (a i 4) m := rfl
theorem rrV_2 : rrV m a b i 2 = grV true (a i 2) (b i 2) (a i 4) m := rfl
theorem rrV_3 : rrV m a b i 3 = a i 4 := rfl
theorem rrV_4 : rrV m a b i 4 = a i 5 := rfl
end
set_option linter.unusedVariables false in
theorem SpanStep_core (kn : Bool) (op' mode : Int) (md : Int) (rn : Nat) (rl : Int → Nat → Int) (an : Nat) (al : Int → Nat → Int) (bn : Nat) (bl : Int → Nat → Int) (on : Nat) (ol : Int → Nat → Int) (n mx : Int) (w0 : (Lit.int .i64 op').wf = true) (w1 : (Lit.int .i64 mode).wf = true) (w2 : (Lit.int .i64 md).wf = true) (z0 : rn ≤ maxLen) (w3 : ∀ i j : Nat, i < rn → j < 5 → (Lit.int .i64 (rl i j)).wf = true) (z1 : an ≤ maxLen) (w4 : ∀ i j : Nat, i < an → j < 5 → (Lit.int .i64 (al i j)).wf = true) (z2 : bn ≤ maxLen) (w5 : ∀ i j : Nat, i < bn → j < 5 → (Lit.int .i64 (bl i j)).wf = true) (z3 : on ≤ maxLen) (w6 : ∀ i j : Nat, i < on → j < 1 → (Lit.int .i64 (ol i j)).wf = true) (w7 : (Lit.int .i64 n).wf = true) (w8 : (Lit.int .i64 mx).wf = true) (w : World) {F : Nat → Prop} (hG : QR.Laid F w) (hF : ∀ k, F k → k < w.heap.size) (x0 : Value) (r0 : QR.Rep F w (.slc 5 ((rn : Nat) : Int) (.fn fun i j => .v (.int .i64 (rl i j)))) x0) (x1 : Value) (r1 : QR.Rep F w (.slc 5 ((an : Nat) : Int) (.fn fun i j => .v (.int .i64 (al i j)))) x1) (x2 : Value) (r2 : QR.Rep F w (.slc 5 ((bn : Nat) : Int) (.fn fun i j => .v (.int .i64 (bl i j)))) x2) (x3 : Value) (r3 : QR.Rep F w (.slc 1 ((on : Nat) : Int) (.fn fun i j => .v (.int .i64 (ol i j)))) x3) :
    Calls Tryz.prog 4 #[.bool kn, .int .i64 op', .int .i64 mode, .agg #[.int .i64 md, x0], x1, x2, x3, .int .i64 n, .int .i64 mx] w fun e w' => e = .returned (.bool true) ∧ Below w.heap.size w w' := by
  refine law_of_conc (O := o_law16t) (QR.orc_cons a_gmax2 (QR.orc_cons (up a_mod) (QR.orc_cons a_at (QR.orc_cons a_gps (QR.orc_cons a_gaccum (QR.orc_cons a_gback (QR.orc_cons a_spt (QR.orc_cons a_spz (QR.orc_cons a_gstep (QR.orc_cons a_gres (QR.orc_cons a_awake16 QR.orc_nil))))))))))) mixed (fun q_ => bif Nat.beq q_ 700004 then some (.cutF fun g => [o_inv_lt0 md rn rl an al bn bl on ol kn op' (g 19) (g 21) (g 22)]) else bif Nat.beq q_ 8 then some (.ownF [(24, none, 6), (25, none, 5)] fun g => [o_inv_lt1 md rn rl an al bn bl on ol kn (g 19) (g 20) (g 21) (g 22)]) else bif Nat.beq q_ 21 then some (.invF fun g => [o_inv_lt2 md rn rl an al bn bl on ol kn (g 19) (g 20) (g 21) (g 22)]) else none) Tryz.func4 (by kernel_rfl) (vs := [.bool kn, .int .i64 op', .int .i64 mode, .agg #[.int .i64 md, x0], x1, x2, x3, .int .i64 n, .int .i64 mx]) (args := [.x (.c (.v (.bool kn))), .x (.c (.v (.int .i64 op'))), .x (.c (.v (.int .i64 mode))), .x (.agg [.v (.int .i64 md), .slc 5 ((rn : Nat) : Int) (.fn fun i j => .v (.int .i64 (rl i j)))]), .x (.c (.slc 5 ((an : Nat) : Int) (.fn fun i j => .v (.int .i64 (al i j))))), .x (.c (.slc 5 ((bn : Nat) : Int) (.fn fun i j => .v (.int .i64 (bl i j))))), .x (.c (.slc 1 ((on : Nat) : Int) (.fn fun i j => .v (.int .i64 (ol i j))))), .x (.c (.v (.int .i64 n))), .x (.c (.v (.int .i64 mx)))]) (by simp) ?_ w hG hF ⟨.v rfl, .v rfl, .v rfl, ⟨[.int .i64 md, x0], rfl, ⟨.v rfl, r0, trivial⟩⟩, r1, r2, r3, .v rfl, .v rfl, rfl⟩
  rw [SpanStep_vc]
  delta zz38 zz41 zz248 zz257 zz259 zz260 zz261 zz273 zz278 zz279 zz281 zz282
  have k8 : modOk 8 = true := rfl
  have k12 : modOk 12 = true := rfl
  have gr := gmod_range n (k := 8) (by decide)
  have go := gmod_range op' (k := 12) (by decide)
  have gk := gmod_range mode (k := 12) (by decide)
  have eo : iadd .i64 1 (gmod op' 12) = 1 + gmod op' 12 := IntWalk.i64_in _ (by omega)
  have ek : iadd .i64 1 (gmod mode 12) = 1 + gmod mode 12 := IntWalk.i64_in _ (by omega)
  have gm := gx16 mx
  have em : iimax (gmod n 8) 0 = gmod n 8 := by unfold iimax; split <;> omega
  have h1 : ile 0 (gmod n 8) = true := ile_t (by omega)
  have h2 : ile (gmod n 8) 1099511627776 = true := ile_t (by omega)
  have n1 : ile 0 (rn : Int) = true := ile_t (Int.natCast_nonneg rn)
  have n2 : ile 0 (an : Int) = true := ile_t (Int.natCast_nonneg an)
  have n3 : ile 0 (bn : Int) = true := ile_t (Int.natCast_nonneg bn)
  have hk : 1 ≤ 1 + gmod mode 12 ∧ 1 + gmod mode 12 ≤ 12 := by omega
  simp only [forall_eq, eo, ek, em, qOf_fn, qO1_fn, intRow_fn, row16_gpx _ _ _ gm, k8, k12, gm, h1, h2, n1, n2, n3, bnot, band, ieq_rfl', bcond_iff, okAns, eqXs, eqX, eqo, eqLo, eqL, eqc, veq, eqUs, true_and, and_true, and_self, true_implies, implies_true, reduceCtorEq, false_implies, Bool.not_true, Bool.not_false, Bool.and_true, or_false, exists_eq_right, exists_eq_right']
  refine ⟨⟨fun h => by subst h; rfl, fun h => by subst h; rfl⟩, fun o hoo => ⟨⟨0, ⟨Int.le_refl 0, by omega⟩, rfl, rfl, fun q hq => by have := ilt_tt hq; have : (q : Int) < 0 := this; omega⟩, fun i hi => ⟨fun c1 => ?_, fun c1 => ?_⟩⟩⟩
  · have lt := ilt_tt c1
    obtain ⟨ia, g, mu⟩ := lw_go (by omega) hi lt
    have l0 := ile_t hi.1
    have hi0 := hi.1
    have b10 : ile (imulZ (addZ i 1) 10) 140737488355328 = true := ile_t (by unfold imulZ addZ; omega)
    have b12 : ile (imulZ (addZ i 1) 12) 140737488355328 = true := ile_t (by unfold imulZ addZ; omega)
    have J := fun (P Q : Prop) (p : P) (q : Q) => show (addZ i 1 = i + 1 ∧ addZ i 1 = i + 1 ∧ iadd .i64 i 1 = i + 1) ∧ (addZ i 1 = i + 1 ∧ P) ∧ addZ i 1 = i + 1 ∧ Q from ⟨⟨rfl, rfl, ia⟩, ⟨rfl, p⟩, rfl, q⟩
    refine ⟨fun ca => ⟨⟨l0, ca⟩, fun cb => ⟨⟨l0, cb⟩, ⟨b10, b12⟩, i + 1, g, J _ _ ?_ ?_, mu⟩, fun cb => ⟨⟨b10, b12⟩, i + 1, g, J _ _ ?_ ?_, mu⟩⟩, fun ca => ⟨fun cb => ⟨⟨l0, cb⟩, ⟨b10, b12⟩, i + 1, g, J _ _ ?_ ?_, mu⟩, fun cb => ⟨⟨b10, b12⟩, i + 1, g, J _ _ ?_ ?_, mu⟩⟩⟩
    all_goals
      clear J hi lt g mu ia c1
      repeat' apply And.intro
    all_goals
      intro p hp
      first
        | exact row_app16 (g := fun x => lacV an al on ol (gxMax mx) x 0) hi0 (by simp only [lacV, xzV, ca, cond_true, cond_false]) p hp
        | exact row_app16 (g := fun x => lacV an al on ol (gxMax mx) x 1) hi0 (by simp only [lacV, xzV, ca, cond_true, cond_false]) p hp
        | exact row_app16 (g := fun x => lacV an al on ol (gxMax mx) x 2) hi0 (by simp only [lacV, xzV, ca, cond_true, cond_false]) p hp
        | exact row_app16 (g := fun x => lacV an al on ol (gxMax mx) x 3) hi0 (by simp only [lacV, xzV, ca, cond_true, cond_false]) p hp
        | exact row_app16 (g := fun x => lacV an al on ol (gxMax mx) x 4) hi0 (by simp only [lacV, xzV, ca, cond_true, cond_false]) p hp
        | exact row_app16 (g := fun x => lacV an al on ol (gxMax mx) x 5) hi0 (by simp only [lacV, xzV, ca, cond_true, cond_false]) p hp
        | exact row_app16 (g := fun x => lbkV bn bl (gxMax mx) x 0) hi0 (by simp only [lbkV, xzV, cb, cond_true, cond_false]) p hp
        | exact row_app16 (g := fun x => lbkV bn bl (gxMax mx) x 1) hi0 (by simp only [lbkV, xzV, cb, cond_true, cond_false]) p hp
        | exact row_app16 (g := fun x => lbkV bn bl (gxMax mx) x 2) hi0 (by simp only [lbkV, xzV, cb, cond_true, cond_false]) p hp
        | exact row_app16 (g := fun x => lbkV bn bl (gxMax mx) x 3) hi0 (by simp only [lbkV, xzV, cb, cond_true, cond_false]) p hp
        | exact row_app16 (g := fun x => lbkV bn bl (gxMax mx) x 4) hi0 (by simp only [lbkV, xzV, cb, cond_true, cond_false]) p hp
  · obtain rfl : i = gmod n 8 := by have := ilt_ff c1; have := hi.1; have := hi.2; omega
    have ho : 1 ≤ o ∧ o ≤ 12 := by
      have : o = bif kn then 4 else 1 + gmod op' 12 := hoo
      cases kn <;> simp at this <;> omega
    have h4 : kn = true → o = 4 := fun h => by have : o = bif kn then 4 else 1 + gmod op' 12 := hoo; rw [h] at this; exact this
    have v16 : ∀ i, (in16 (gpxV md rn rl (gxMax mx) i 0) = true ∧ in16 (gpxV md rn rl (gxMax mx) i 1) = true ∧ in16 (gpxV md rn rl (gxMax mx) i 2) = true ∧ in16 (gpxV md rn rl (gxMax mx) i 3) = true ∧ in16 (gpxV md rn rl (gxMax mx) i 4) = true) := fun i => ⟨gpx16 _ _ _ gm i (by decide), gpx16 _ _ _ gm i (by decide), gpx16 _ _ _ gm i (by decide), gpx16 _ _ _ gm i (by decide), gpx16 _ _ _ gm i (by decide)⟩
    have A := fun i => lac16 an al on ol mx i
    have B := fun i => lbk16 bn bl mx i
    have V := fun i => va_gen an al on ol bn bl mx i
    have G := fun i => gs_gen an al on ol bn bl mx i md rn rl ho hk h4
    have R1 := rg_gen md rn rl an al on ol bn bl mx (gmod n 8) ho hk h4
    have R2 := rgN_gen md rn rl an al on ol bn bl mx (gmod n 8) ho hk h4
    have R3 := rr_gen an al on ol bn bl mx (gmod n 8)
    have R4 := rrN_gen an al on ol bn bl mx (gmod n 8)
    have R5 : rgN kn o (1 + gmod mode 12) (gxMax mx) (gmod n 8) (gmod n 8) (gmod n 8) (fun a b => gpxV md rn rl (gxMax mx) a b) (fun a b => lacV an al on ol (gxMax mx) a b) (fun a b => lbkV bn bl (gxMax mx) a b) = gmod n 8 := R2
    have R6 : rrN (gxMax mx) (gmod n 8) (gmod n 8) (fun a b => lacV an al on ol (gxMax mx) a b) (fun a b => lbkV bn bl (gxMax mx) a b) = gmod n 8 := R4
    simp only [row16_lac, row16_lbk, A, B, V, G, R1, R2, R3, R4, R5, R6, v16, rgV_0, rgV_1, rgV_2, rgV_3, rgV_4, rgV_5, rrV_0, rrV_1, rrV_2, rrV_3, rrV_4, bz_t, h1, h2, ine_f, ieq_rfl', true_and, and_true, and_self, true_implies, implies_true, reduceCtorEq, false_implies, Bool.not_true, Bool.not_false, Bool.and_true, Bool.and_self, Bool.false_eq_true]
    refine ⟨⟨0, ⟨Int.le_refl 0, by omega⟩, rfl⟩, fun i hi c => ?_⟩
    obtain ⟨ia, g, mu⟩ := lw_go (by omega) hi (ilt_tt c)
    have l0 := ile_t hi.1
    exact ⟨⟨l0, c, l0, c, l0, c⟩, ⟨l0, c, l0, c⟩, ⟨l0, c, l0, c⟩, i + 1, g, ia, mu⟩
end Go.Proofs.YtpjhdjakpbabhaaGreatDoor
