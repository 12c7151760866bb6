/-
  Layer 4 (unit): the laws.
-/
import Derived.Test.YtljjffcjoohgfaaUe
namespace Go.Proofs.Ytljjffcjoohgfaa
open Go.RowKit PR
set_option linter.unusedVariables false

theorem ieq_rfl' (a : Int) : ieq a a = true := by simp [ieq]
theorem beq_rfl' (a : Bool) : beq' a a = true := by simp [beq']
theorem wf16 {a : Int} (h : (Lit.int .u16 a).wf = true) : in16 a = true := by
  simp only [Lit.wf, Bool.and_eq_true, decide_eq_true_eq] at h
  have h1 : IntKind.u16.min = 0 := rfl
  have h2 : IntKind.u16.max = 65535 := rfl
  unfold in16; rw [decide_eq_true_eq]; omega
theorem wf64 {a : Nat} (h : (Lit.float .f64 a).wf = true) : inF a = true := by
  have : a < 2 ^ 64 := by simpa [Lit.wf] using h
  exact decide_eq_true (by omega)
theorem inF_u64f {n : Int} (h : 0 ≤ n) (k : n < 18446744073709551616) : inF (u64f n) = true := by
  unfold inF u64f; exact decide_eq_true (by omega)
theorem inF_lt {x : Nat} (h : inF x = true) : x < 18446744073709551616 := of_decide_eq_true h

theorem a_awake4 : Answers 14 s_yes := by
  intro args v bs h hok
  unfold s_yes at h
  split at h <;> try (simp at h; done)
  skip
  simp only [Option.some.injEq, Prod.mk.injEq] at h
  obtain ⟨rfl, rfl⟩ := h
  refine does_of_eval (O := o_awake4) (orc_cons a_from (orc_cons a_nan (orc_cons a_tofloat orc_nil))) mixed (noLoops) Try.func14 (by kernel_rfl) (by kernel_rfl) rfl ?_
  rw [awake4_vc]
  have t : tfV 255 255 = 4607182418800017408 := rt_one (m := 255) (by omega) (by omega)
  have e1 : ffOk 4602678819172646912 = true := by decide +kernel
  have e2 : ieq (ffV 4602678819172646912 255) 128 = true := by decide +kernel
  have e3 : ffOk 9221120237041090561 = false := by decide +kernel
  have e4 : ieq (ffV 9221120237041090561 255) 0 = true := by decide +kernel
  have e5 : feq .f64 4607182418800017408 4607182418800017408 = true := by decide +kernel
  have e6 : tfOk 255 255 = true := rfl
  have i1 : in16 255 = true := rfl
  have i2 : inF 9221120237041090561 = true := rfl
  have i3 : inF 4602678819172646912 = true := rfl
  rw [t]
  simp [bcond_iff, bnot, e1, e2, e3, e4, e5, e6, i1, i2, i3]

theorem gxMax_cases (n : Int) : gxMax n = 255 ∨ gxMax n = 65535 := by unfold gxMax; split <;> simp
theorem gm_facts (n : Int) : in16 (gxMax n) = true ∧ modOk (iadd .i64 (iconv .i64 (gxMax n)) 1) = true ∧ ∃ g : Nat, gmod n (iadd .i64 (iconv .i64 (gxMax n)) 1) = g ∧ (g : Int) ≤ gxMax n ∧ g < 65536 := by
  have e : iadd .i64 (iconv .i64 (gxMax n)) 1 = gxMax n + 1 := by
    have := gxMax_cases n
    unfold iadd iconv; rw [IntWalk.i64_in (gxMax n) (by omega), IntWalk.i64_in _ (by omega)]
  rw [e]
  unfold gmod
  rcases gxMax_cases n with h | h <;> rw [h]
  · exact ⟨rfl, rfl, (n % (255 + 1)).toNat, by omega, by omega, by omega⟩
  · exact ⟨rfl, rfl, (n % (65535 + 1)).toNat, by omega, by omega, by omega⟩

theorem UnitFromFloatAgrees_core (x : Nat) (m n b : Int) (w0 : (Lit.float .f64 x).wf = true) (w1 : (Lit.int .u16 m).wf = true) (w2 : (Lit.int .i64 n).wf = true) (w3 : (Lit.int .u64 b).wf = true) (w : World) :
    Calls Try.prog 3 #[.float .f64 x, .int .u16 m, .int .i64 n, .int .u64 b] w fun e w' => e = .returned (.bool true) ∧ Below w.heap.size w w' := by
  refine calls_of_eval (O := o_law4a) (orc_cons a_gmax (orc_cons a_mod (orc_cons a_f64bits (orc_cons a_frombits (orc_cons a_from (orc_cons a_rfrom (orc_cons a_awake4 orc_nil))))))) mixed noLoops Try.func3 (by kernel_rfl) rfl (args := [.float .f64 x, .int .u16 m, .int .i64 n, .int .u64 b]) ?_ w
  rw [UnitFromFloatAgrees_vc]
  obtain ⟨g1, g2, g, g3, g4, g5⟩ := gm_facts n
  have i1 : inF (u64f b) = true := by
    simp only [Lit.wf, Bool.and_eq_true, decide_eq_true_eq] at w3
    have h1 : IntKind.u64.min = 0 := rfl
    have h2 : IntKind.u64.max = 18446744073709551615 := rfl
    exact inF_u64f (by omega) (by omega)
  have i2 : ∀ z : Int, inF (u64f (isub .u64 z 1)) = true := fun z => inF_u64f (by unfold isub; rw [IntKind.wrap_u64]; omega) (by unfold isub; rw [IntKind.wrap_u64]; omega)
  obtain ⟨p, q, e⟩ := read_u16 g5
  have k1 : fok .add .f64 (fofi .f64 (g : Int)) 4602678819172646912 = true := by
    show (((Ieee.double.read (fofi .f64 (g : Int))).sum (Ieee.double.read 4602678819172646912)).map Ieee.double.write).isSome = true
    rw [e, read_small (by omega)]
    rfl
  have k2 : fok .quo .f64 (fop .add .f64 (fofi .f64 (g : Int)) 4602678819172646912) (fofi .f64 (gxMax n)) = true := by
    have hr : ∃ t, Ieee.double.read (fop .add .f64 (fofi .f64 (g : Int)) 4602678819172646912) = .infinity t ∨ ∃ m q, Ieee.double.read (fop .add .f64 (fofi .f64 (g : Int)) 4602678819172646912) = .number t m q := by
      have : ∃ s m p, fop .add .f64 (fofi .f64 (g : Int)) 4602678819172646912 = Ieee.double.nearest s m p := by
        have e1 : fop .add .f64 (fofi .f64 (g : Int)) 4602678819172646912 = (((Ieee.double.read (fofi .f64 (g : Int))).sum (Ieee.double.read 4602678819172646912)).map Ieee.double.write).getD 0 := rfl
        rw [e1, e, read_small (x := 4602678819172646912) (by omega)]
        exact ⟨_, _, _, rfl⟩
      obtain ⟨s, m', p', e1⟩ := this
      rw [e1]
      exact nearest_not_nan s m' p'
    rcases gxMax_cases n with h | h <;> rw [h]
    · exact quo_ok (n := 255) (by omega) (by have := log2_16 (n := 255) (by omega) (by omega); omega) hr
    · exact quo_ok (n := 65535) (by omega) (by have := log2_16 (n := 65535) (by omega) (by omega); omega) hr
  rw [g3]
  simp [bcond_iff, beq_rfl', ieq_rfl', wf64 w0, wf16 w1, i1, i2, g1, g2, k1, k2]

theorem UnitToFloatAgrees_core (v m : Int) (w0 : (Lit.int .u16 v).wf = true) (w1 : (Lit.int .u16 m).wf = true) (w : World) :
    Calls Try.prog 5 #[.int .u16 v, .int .u16 m] w fun e w' => e = .returned (.bool true) ∧ Below w.heap.size w w' := by
  refine calls_of_eval (O := o_law4c) (orc_cons a_tofloat (orc_cons a_rtofloat (orc_cons a_f64bits (orc_cons a_awake4 orc_nil)))) mixed noLoops Try.func5 (by kernel_rfl) rfl (args := [.int .u16 v, .int .u16 m]) ?_ w
  rw [UnitToFloatAgrees_vc]
  cases h : tfOk v m
  · have : ieq (b64 (tfV v m)) 0 = true := by unfold tfV; rw [h]; rfl
    simp [bcond_iff, beq_rfl', ieq_rfl', wf16 w0, wf16 w1, this]
  · simp [bcond_iff, beq_rfl', ieq_rfl', wf16 w0, wf16 w1]

theorem UnitSpecialNumbers_core (x : Nat) (m : Int) (w0 : (Lit.float .f64 x).wf = true) (w1 : (Lit.int .u16 m).wf = true) (w : World) :
    Calls Try.prog 4 #[.float .f64 x, .int .u16 m] w fun e w' => e = .returned (.bool true) ∧ Below w.heap.size w w' := by
  refine calls_of_eval (O := o_law4b) (orc_cons a_inf (orc_cons a_copysign (orc_cons a_from (orc_cons a_awake4 orc_nil)))) mixed noLoops Try.func4 (by kernel_rfl) rfl (args := [.float .f64 x, .int .u16 m]) ?_ w
  rw [UnitSpecialNumbers_vc]
  have i0 := wf16 w1
  have ix := wf64 w0
  have i1 : inF (infB 1) = true := rfl
  have i2 : inF (infB (-1)) = true := rfl
  have i3 : inF 9223372036854775808 = true := rfl
  have k1 : ffOk (infB 1) = true := by decide +kernel
  have k2 : ffOk (infB (-1)) = true := by decide +kernel
  have k3 : ffOk 9223372036854775808 = true := by decide +kernel
  have v1 : ffV (infB 1) m = m := by
    unfold ffV
    rw [show fne .f64 (infB 1) (infB 1) = false by decide +kernel, show fle .f64 (infB 1) 0 = false by decide +kernel, show fge .f64 (infB 1) 4607182418800017408 = true by decide +kernel]
    rfl
  have v2 : ffV (infB (-1)) m = 0 := by
    unfold ffV
    rw [show fne .f64 (infB (-1)) (infB (-1)) = false by decide +kernel, show fle .f64 (infB (-1)) 0 = true by decide +kernel]
    rfl
  have v3 : ffV 9223372036854775808 m = 0 := by
    unfold ffV
    rw [show fne .f64 9223372036854775808 9223372036854775808 = false by decide +kernel, show fle .f64 9223372036854775808 0 = true by decide +kernel]
    rfl
  have m0 : 0 ≤ m := (of_decide_eq_true i0).1
  have ine_self : ∀ a : Int, ine a a = false := fun a => by simp [ine]
  rw [v1, v2, v3]
  by_cases hn : fNan x
  · have hf : fne .f64 x x = true := (fne_spec x).2 hn
    have ho : ffOk x = false := by unfold ffOk; rw [hf]; rfl
    have hv : ffV x m = 0 := by unfold ffV; rw [hf]; rfl
    rw [hv, ho, hf]
    simp [bcond_iff, bnot, ine_self, ieq_rfl', i0, ix, i1, i2, i3, k1, k2, k3]
  · have hf : fne .f64 x x = false := by rw [← Bool.not_eq_true]; exact fun h => hn ((fne_spec x).1 h)
    have ho : ffOk x = true := by unfold ffOk; rw [hf]; rfl
    have hv := ffV_key (m := m) (inF_lt ix) hn
    have h2 := flt_spec x 0 hn nan_zero
    have h3 := fge_spec x _ hn nan_one
    rw [key_zero] at h2
    rw [key_one] at h3
    rw [hv, ho, hf]
    have hr := kV_range (k := fKey x) m0
    have hle : ile (kV (fKey x) m) m = true := decide_eq_true hr.2
    cases e2 : flt .f64 x 0
    · cases e3 : fge .f64 x 4607182418800017408
      · simp [bcond_iff, bnot, ine_self, i0, ix, i1, i2, i3, k1, k2, k3, hle]
      · have : kV (fKey x) m = m := by
          have := h3.1 e3
          unfold kV; rw [if_neg (by omega), if_pos this]
        rw [this]
        simp [bcond_iff, bnot, ine_self, ieq_rfl', i0, ix, i1, i2, i3, k1, k2, k3]
    · have : kV (fKey x) m = 0 := by
        have := h2.1 e2
        unfold kV; rw [if_pos (by omega)]
      rw [this]
      simp [bcond_iff, bnot, ine_self, ieq_rfl', i0, ix, i1, i2, i3, k1, k2, k3]

theorem UnitIsMonotone_core (x y : Nat) (m : Int) (w0 : (Lit.float .f64 x).wf = true) (w1 : (Lit.float .f64 y).wf = true) (w2 : (Lit.int .u16 m).wf = true) (w : World) :
    Calls Try.prog 7 #[.float .f64 x, .float .f64 y, .int .u16 m] w fun e w' => e = .returned (.bool true) ∧ Below w.heap.size w w' := by
  refine calls_of_eval (O := o_law4e) (orc_cons a_from (orc_cons a_awake4 orc_nil)) mixed noLoops Try.func7 (by kernel_rfl) rfl (args := [.float .f64 x, .float .f64 y, .int .u16 m]) ?_ w
  rw [UnitIsMonotone_vc]
  have i0 := wf16 w2
  have ix := wf64 w0
  have iy := wf64 w1
  have m0 : 0 ≤ m := (of_decide_eq_true i0).1
  have eqs : ∀ z, beq' (ffOk z) (feq .f64 z z) = true := by
    intro z
    by_cases hn : fNan z
    · have hf : fne .f64 z z = true := (fne_spec z).2 hn
      have : feq .f64 z z = false := by
        have h : fne .f64 z z = !feq .f64 z z := rfl
        rw [hf] at h
        cases hq : feq .f64 z z
        · rfl
        · rw [hq] at h; simp at h
      unfold ffOk; rw [hf, this]; rfl
    · have hf : fne .f64 z z = false := by rw [← Bool.not_eq_true]; exact fun h => hn ((fne_spec z).1 h)
      have : feq .f64 z z = true := (feq_spec z z hn hn).2 rfl
      unfold ffOk; rw [hf, this]; rfl
  cases hx : ffOk x
  · have e1 := eqs x
    have e2 := eqs y
    rw [hx] at e1
    simp [bcond_iff, bnot, e1, e2, i0, ix, iy]
  · cases hy : ffOk y
    · have e1 := eqs x
      have e2 := eqs y
      rw [hx] at e1
      rw [hy] at e2
      simp [bcond_iff, bnot, e1, e2, i0, ix, iy]
    · have nx : ¬ fNan x := fun h => by unfold ffOk at hx; rw [(fne_spec x).2 h] at hx; simp [bnot] at hx
      have ny : ¬ fNan y := fun h => by unfold ffOk at hy; rw [(fne_spec y).2 h] at hy; simp [bnot] at hy
      rw [ffV_key (m := m) (inF_lt ix) nx, ffV_key (m := m) (inF_lt iy) ny]
      have l1 := fgt_spec x y nx ny
      have l2 := flt_spec x y nx ny
      cases c1 : fgt .f64 x y
      · have : fKey x ≤ fKey y := by
          rw [c1] at l1
          have : ¬ fKey y < fKey x := by simpa using l1
          omega
        have h1 : ile (kV (fKey x) m) (kV (fKey y) m) = true := decide_eq_true (kV_mono m0 this)
        cases c2 : flt .f64 x y
        · have : fKey y ≤ fKey x := by
            rw [c2] at l2
            have : ¬ fKey x < fKey y := by simpa using l2
            omega
          have h2 : ige (kV (fKey x) m) (kV (fKey y) m) = true := decide_eq_true (kV_mono m0 this)
          simp [bcond_iff, bnot, h1, h2, i0, ix, iy]
        · simp [bcond_iff, bnot, h1, i0, ix, iy]
      · cases c2 : flt .f64 x y
        · have : fKey y ≤ fKey x := by
            rw [c2] at l2
            have : ¬ fKey x < fKey y := by simpa using l2
            omega
          have h2 : ige (kV (fKey x) m) (kV (fKey y) m) = true := decide_eq_true (kV_mono m0 this)
          simp [bcond_iff, bnot, h2, i0, ix, iy]
        · simp [bcond_iff, bnot, i0, ix, iy]

theorem UnitRoundTrip_core (v m : Int) (w0 : (Lit.int .u16 v).wf = true) (w1 : (Lit.int .u16 m).wf = true) (w : World) :
    Calls Try.prog 6 #[.int .u16 v, .int .u16 m] w fun e w' => e = .returned (.bool true) ∧ Below w.heap.size w w' := by
  refine calls_of_eval (O := o_law4d) (orc_cons a_tofloat (orc_cons a_from (orc_cons a_mod (orc_cons a_awake4 orc_nil)))) mixed noLoops Try.func6 (by kernel_rfl) rfl (args := [.int .u16 v, .int .u16 m]) ?_ w
  rw [UnitRoundTrip_vc]
  have i0 := wf16 w0
  have i1 := wf16 w1
  obtain ⟨v, rfl, hv⟩ := in16_nat i0
  obtain ⟨m, rfl, hm⟩ := in16_nat i1
  rw [bcond_iff]
  refine ⟨fun _ => ⟨trivial, rfl⟩, fun h0 => ?_⟩
  have h0 : 0 < m := by simp only [ieq, beq_eq_false_iff_ne, ne_eq] at h0; omega
  have e1 : iadd .i64 (iconv .i64 (m : Int)) 1 = (m : Int) + 1 := by
    unfold iadd iconv; rw [IntWalk.i64_in (m : Int) (by omega), IntWalk.i64_in _ (by omega)]
  have e2 : iconv .i64 (v : Int) = v := by unfold iconv; rw [IntWalk.i64_in _ (by omega)]
  rw [e1, e2]
  have k1 : modOk ((m : Int) + 1) = true := decide_eq_true (by omega)
  obtain ⟨u, hu, hum⟩ : ∃ u : Nat, iconv .u16 (gmod (v : Int) ((m : Int) + 1)) = u ∧ u ≤ m := by
    have a1 := Int.emod_nonneg (v : Int) (show (m : Int) + 1 ≠ 0 by omega)
    have a2 := Int.emod_lt_of_pos (v : Int) (show (0 : Int) < (m : Int) + 1 by omega)
    refine ⟨((v : Int) % ((m : Int) + 1)).toNat, ?_, by omega⟩
    unfold iconv gmod
    rw [IntKind.wrap_u16]
    omega
  rw [hu]
  have i2 : in16 (u : Int) = true := decide_eq_true (by omega)
  have ok : tfOk (u : Int) (m : Int) = true := decide_eq_true (by omega)
  have tv : tfV (u : Int) (m : Int) = fop .quo .f64 (fofi .f64 (u : Int)) (fofi .f64 (m : Int)) := by unfold tfV; rw [ok]; rfl
  have key : ∃ R, tfV (u : Int) (m : Int) = R ∧ R ≤ 4607182418800017408 ∧ ffV R (m : Int) = u := by
    rw [tv]
    rcases Nat.eq_zero_or_pos u with rfl | hu0
    · refine ⟨0, rt_zero h0 hm, by omega, ?_⟩
      unfold ffV
      rw [show fne .f64 0 0 = false by decide +kernel, show fle .f64 0 0 = true by decide +kernel]
      rfl
    · rcases Nat.eq_or_lt_of_le hum with rfl | hlt
      · refine ⟨4607182418800017408, rt_one h0 hm, by omega, ?_⟩
        unfold ffV
        rw [show fne .f64 4607182418800017408 4607182418800017408 = false by decide +kernel, show fle .f64 4607182418800017408 0 = false by decide +kernel, show fge .f64 4607182418800017408 4607182418800017408 = true by decide +kernel]
        rfl
      · obtain ⟨R, r1, r2, r3, r4⟩ := rt_core hu0 hlt hm
        refine ⟨R, r1, by omega, ?_⟩
        obtain ⟨s1, s2⟩ := key_small (x := R) (by omega)
        rw [ffV_key (by omega) s2, s1]
        unfold kV
        rw [if_neg (by omega), if_neg (by omega), Int.toNat_natCast, r4]
  obtain ⟨R, r1, r2, r3⟩ := key
  rw [r1, r3]
  obtain ⟨s1, s2⟩ := key_small (x := R) (by omega)
  have iR : inF R = true := decide_eq_true (by omega)
  have oR : ffOk R = true := by
    unfold ffOk
    rw [show fne .f64 R R = false by rw [← Bool.not_eq_true]; exact fun h => s2 ((fne_spec R).1 h)]
    rfl
  have g1 : fge .f64 R 0 = true := (fge_spec R 0 s2 nan_zero).2 (by rw [key_zero, s1]; omega)
  have g2 : fle .f64 R 4607182418800017408 = true := (fle_spec R _ s2 nan_one).2 (by rw [key_one, s1]; omega)
  simp [bcond_iff, ieq_rfl', i1, i2, k1, ok, iR, oR, g1, g2]
end Go.Proofs.Ytljjffcjoohgfaa
