/-
  Layer 7 (operator): what each call answers.
-/
import Derived.Test.YtfmohdcdkjbcfaaDoorGb
namespace Go.Proofs.YtfmohdcdkjbcfaaDoor
open Go.RowKit PR QR
set_option linter.unusedVariables false
set_option linter.unusedSimpArgs false

theorem knownB7 {m : Int} : band (ige m 1) (ile m 12) = opB m := by
  unfold band ige ile opB; simp
theorem hlf0 {m : Int} (h : 0 ≤ m) : hlf 0 m = 0 := by
  by_cases c : m = 0
  · subst c; exact hlf_zero 0
  · have := hlf_exact (x := 0) (Int.le_refl 0) (show 0 < m by omega); rwa [Int.mul_zero] at this
theorem opOk_iff {k a b m : Int} : opOk7 k a b m = true ↔ (1 ≤ k ∧ k ≤ 12) ∧ a ≤ m ∧ b ≤ m := by unfold opOk7; rw [decide_eq_true_eq]; omega
theorem op_no {k a b m : Int} (h : opOk7 k a b m = false) : faV k a b m = 0 ∧ fbV k a b m = 0 ∧ shV k a b m = 0 := by
  unfold faV fbV shV; rw [h]; exact ⟨rfl, rfl, rfl⟩
theorem fa_in {k a b m : Int} (ha : in16 a = true) (hb : in16 b = true) (hm : in16 m = true) : in16 (faV k a b m) = true ∧ in16 (fbV k a b m) = true := by
  rw [in16_iff] at *
  cases ok : opOk7 k a b m
  · obtain ⟨z1, z2, _⟩ := op_no ok
    rw [z1, z2]; decide
  · have o := opOk_iff.1 ok
    obtain ⟨_, e1, e2, _⟩ := op_at o.1 o.2.1 o.2.2
    have r := fa_range (k := k) (a := a) (b := b) (m := m) ha.1 o.2.1 hb.1 o.2.2
    rw [in16_iff, e1, e2]
    omega
/-- every operator, every argument -/
theorem al_all (k : Int) {a b m : Int} (ha : in16 a = true) (hb : in16 b = true) (hm : in16 m = true) : 0 ≤ alV k a b m ∧ alV k a b m ≤ m := by
  rw [in16_iff] at ha hb hm
  cases ok : opOk7 k a b m
  · obtain ⟨z1, z2, _⟩ := op_no ok
    unfold alV
    rw [z1, z2, Int.zero_mul, Int.zero_mul, Int.add_zero, hlf0 hm.1]; omega
  · have o := opOk_iff.1 ok
    by_cases c : m = 0
    · unfold alV; subst c; rw [hlf_zero]; omega
    · exact al_range o.1 ha.1 o.2.1 hb.1 o.2.2 (by omega)
theorem sh_all (k : Int) {a b m : Int} (ha : in16 a = true) (hb : in16 b = true) (hm : in16 m = true) : 0 ≤ shV k a b m ∧ shV k a b m ≤ m := by
  rw [in16_iff] at ha hb hm
  cases ok : opOk7 k a b m
  · obtain ⟨_, _, z⟩ := op_no ok
    rw [z]; omega
  · have o := opOk_iff.1 ok
    by_cases c : m = 0
    · obtain ⟨_, _, _, e⟩ := op_at o.1 o.2.1 o.2.2
      rw [e]; unfold shT; subst c; simp only [hlf_zero]
      refine ⟨?_, ?_⟩ <;> (repeat' split) <;> omega
    · exact sh_range o.1 ha.1 o.2.1 hb.1 o.2.2 (by omega)
theorem prod16 {a b : Int} (ha : in16 a = true) (hb : in16 b = true) : 0 ≤ a * b ∧ a * b ≤ 4294836225 := by
  rw [in16_iff] at *
  exact ⟨Int.mul_nonneg ha.1 hb.1, Int.mul_le_mul (show a ≤ 65535 by omega) (show b ≤ 65535 by omega) hb.1 (by decide)⟩
theorem sum16 {v x w y : Int} (hv : in16 v = true) (hx : in16 x = true) (hw : in16 w = true) (hy : in16 y = true) :
    iadd .u64 (imul .u64 (iconv .u64 v) (iconv .u64 x)) (imul .u64 (iconv .u64 w) (iconv .u64 y)) = v * x + w * y ∧ inU (v * x + w * y) = true := by
  have p := prod16 hv hx
  have q := prod16 hw hy
  have e : ∀ z, in16 z = true → iconv .u64 z = z := fun z h => by rw [in16_iff] at h; exact u64_id h.1 (by omega)
  rw [e v hv, e x hx, e w hw, e y hy, inU_iff, iaddU, imulU, imulU]
  omega
theorem conv64 {z : Int} (h : in16 z = true) : iconv .u64 z = z ∧ inU z = true := by
  rw [in16_iff] at h; exact ⟨u64_id h.1 (by omega), inU_iff.2 (by omega)⟩
theorem alV_conv (k : Int) {a b m : Int} (ha : in16 a = true) (hb : in16 b = true) (hm : in16 m = true) : iconv .u16 (alV k a b m) = alV k a b m := by
  have := al_all k ha hb hm
  rw [in16_iff] at hm
  exact u16_id this.1 (by omega)

theorem a_known7 : Answers2 30 s_known7 := by
  intro al ans h hq
  unfold s_known7 at h
  split at h <;> try (simp at h; done)
  rename_i m
  simp only [Option.some.injEq] at h
  subst h
  have hq := asked hq
  refine QR.does_of_eval (O := (QR.orc [])) QR.orc_nil mixed (QR.noLoops) Tryd.func30 (by kernel_rfl) (by kernel_rfl) (by simp) ?_
  rw [known7_vc]
  simp only [bcond_iff, okAns, eqXs, eqX, eqL, eqc, veq, eqUs, forall_eq, true_and, and_true, band]
  refine ⟨fun c => ?_, fun c => ?_⟩ <;> simp [c]
theorem a_perm7 : Answers2 31 s_perm7 := by
  intro al ans h hq
  unfold s_perm7 at h
  split at h <;> try (simp at h; done)
  rename_i k a b m
  simp only [Option.some.injEq] at h
  subst h
  have hq := asked hq
  refine QR.does_of_eval (O := o_kn7) (QR.orc_cons a_known7 QR.orc_nil) mixed (QR.noLoops) Tryd.func31 (by kernel_rfl) (by kernel_rfl) (by simp) ?_
  rw [perm7_vc]
  simp only [bcond_iff, okAns, eqXs, eqX, eqL, eqc, veq, eqUs, forall_eq, true_and, and_true, band, ige, ile, ge_iff_le, Bool.and_eq_true, Bool.and_eq_false_iff, decide_eq_true_eq, decide_eq_false_iff_not, opOk7]
  refine ⟨fun c => ⟨fun d => ?_, fun d => ?_⟩, fun c => ?_⟩
  · exact decide_eq_decide.2 (by omega)
  · symm; exact decide_eq_false (by omega)
  · symm; exact decide_eq_false (by omega)
theorem a_weight7 : Answers2 32 s_weight7 := by
  intro al ans h hq
  unfold s_weight7 at h
  split at h <;> try (simp at h; done)
  rename_i f a m
  simp only [Option.some.injEq] at h
  subst h
  have hq := asked hq
  refine QR.does_of_eval (O := (QR.orc [])) QR.orc_nil mixed (QR.noLoops) Tryd.func32 (by kernel_rfl) (by kernel_rfl) (by simp) ?_
  rw [weight7_vc]
  obtain ⟨g1, g2, g3, _⟩ := hq
  rw [in16_iff] at g1 g2
  have g3 := of_decide_eq_true g3
  have e : isub .u16 m a = m - a := by unfold isub; rw [IntKind.wrap_u16]; omega
  simp only [bcond_iff, okAns, eqXs, eqX, eqL, eqc, veq, eqUs, forall_eq, true_and, and_true, ieq, beq_iff_eq, beq_eq_false_iff_ne, ne_eq, e]
  unfold wtV
  refine ⟨fun c => ?_, fun c => ⟨fun d => ?_, fun d => ⟨fun e => ?_, fun e => ?_⟩⟩⟩
  · rw [if_pos c]
  · rw [if_neg c, if_pos d]
  · rw [if_neg c, if_neg d, if_pos e]
  · rw [if_neg c, if_neg d, if_neg e]
theorem a_weighted7 : Answers2 34 s_weighted7 := by
  intro al ans h hq
  unfold s_weighted7 at h
  split at h <;> try (simp at h; done)
  rename_i v x w y m
  simp only [Option.some.injEq] at h
  subst h
  have hq := asked hq
  refine QR.does_of_eval (O := o_wd7) (QR.orc_cons (up a_rndhalf) QR.orc_nil) mixed (QR.noLoops) Tryd.func34 (by kernel_rfl) (by kernel_rfl) (by simp) ?_
  rw [weighted7_vc]
  obtain ⟨g1, g2, g3, g4, g5, _⟩ := hq
  obtain ⟨e1, e2⟩ := sum16 g1 g2 g3 g4
  obtain ⟨e3, e4⟩ := conv64 g5
  simp only [okAns, eqXs, eqX, eqL, eqc, veq, eqUs, forall_eq, true_and, and_true, e1, e2, e3, e4, wdV7]
theorem oname_none {m : Int} (h : ¬ (1 ≤ m ∧ m ≤ 12)) : oname m = bs [] := by unfold oname; rw [if_neg (by omega), if_neg (by omega), if_neg (by omega), if_neg (by omega), if_neg (by omega), if_neg (by omega), if_neg (by omega), if_neg (by omega), if_neg (by omega), if_neg (by omega), if_neg (by omega), if_neg (by omega)]
theorem oname_known {m : Int} : bnot (seqB (oname m) (bs [])) = opB m := by
  by_cases h : 1 ≤ m ∧ m ≤ 12
  · rcases op_modes h with rfl | rfl | rfl | rfl | rfl | rfl | rfl | rfl | rfl | rfl | rfl | rfl <;> rfl
  · rw [oname_none h]
    unfold opB
    rw [decide_eq_false h]; rfl
theorem a_roname : Answers2 13 s_oname := by
  intro al ans h hq
  unfold s_oname at h
  split at h <;> try (simp at h; done)
  rename_i m
  simp only [Option.some.injEq] at h
  subst h
  have hq := asked hq
  refine QR.does_of_eval (O := (QR.orc [])) QR.orc_nil mixed (QR.noLoops) Tryd.func13 (by kernel_rfl) (by kernel_rfl) (by simp) ?_
  rw [roname_vc]
  simp only [bcond_iff, okAns, eqXs, eqX, eqc, veq, eqUs, forall_eq, true_and, and_true, ilt, ile, ige, ge_iff_le, decide_eq_true_eq, decide_eq_false_iff_not]
  refine ⟨fun c => ?_, fun c => ⟨fun e => ?_, fun e => ?_⟩⟩
  · exact (oname_none (by omega)).symm
  · exact (oname_none (by omega)).symm
  · refine ⟨by omega, ?_⟩
    rcases op_modes (k := m) (by omega) with rfl | rfl | rfl | rfl | rfl | rfl | rfl | rfl | rfl | rfl | rfl | rfl <;> rfl
theorem a_isop : Answers2 33 s_known7 := by
  intro al ans h hq
  unfold s_known7 at h
  split at h <;> try (simp at h; done)
  rename_i m
  simp only [Option.some.injEq] at h
  subst h
  have hq := asked hq
  refine QR.does_of_eval (O := o_ron) (QR.orc_cons a_roname QR.orc_nil) mixed (QR.noLoops) Tryd.func33 (by kernel_rfl) (by kernel_rfl) (by simp) ?_
  rw [isop_vc]
  simp only [okAns, eqXs, eqX, eqc, veq, eqUs, true_and, and_true, oname_known, knownB7]
theorem a_oname : Answers2 15 s_oname := by
  intro al ans h hq
  unfold s_oname at h
  split at h <;> try (simp at h; done)
  rename_i m
  simp only [Option.some.injEq] at h
  subst h
  have hq := asked hq
  refine QR.does_of_eval (O := o_kn7) (QR.orc_cons a_known7 QR.orc_nil) mixed (QR.noLoops) Tryd.func15 (by kernel_rfl) (by kernel_rfl) (by simp) ?_
  rw [oname_vc]
  rw [knownB7]
  unfold opB
  by_cases h : 1 ≤ m ∧ m ≤ 12
  · rcases op_modes h with rfl | rfl | rfl | rfl | rfl | rfl | rfl | rfl | rfl | rfl | rfl | rfl <;> simp [bcond_iff, bnot, ieq, okAns, eqXs, eqX, eqc, veq, eqUs, oname]
  · simp [bcond_iff, bnot, h, okAns, eqXs, eqX, eqc, veq, eqUs, oname_none]
theorem a_oparse : Answers2 11 s_oparse := by
  intro al ans h hq
  unfold s_oparse at h
  split at h <;> try (simp at h; done)
  rename_i s
  simp only [Option.some.injEq] at h
  subst h
  have hq := asked hq
  refine QR.does_of_eval (O := o_kn7) (QR.orc_cons a_known7 QR.orc_nil) mixed ((fun n => bif Nat.beq n 2 then some (.rounds 14) else none)) Tryd.func11 (by kernel_rfl) (by kernel_rfl) (by simp) ?_
  rw [oparse_vc]
  unfold oparse oparsed oname
  simp only [bcond_iff, okAns, eqXs, eqX, eqc, veq, eqUs, true_and, and_true, Int.reduceEq, if_true, if_false]
  simp +contextual
theorem a_roparse : Answers2 12 s_oparse := by
  intro al ans h hq
  unfold s_oparse at h
  split at h <;> try (simp at h; done)
  rename_i s
  simp only [Option.some.injEq] at h
  subst h
  have hq := asked hq
  refine QR.does_of_eval (O := o_ron) (QR.orc_cons a_roname QR.orc_nil) mixed ((fun n => bif Nat.beq n 2 then some (.rounds 14) else none)) Tryd.func12 (by kernel_rfl) (by kernel_rfl) (by simp) ?_
  rw [roparse_vc]
  unfold oparse oparsed
  simp only [bcond_iff, okAns, eqXs, eqX, eqc, veq, eqUs, true_and, and_true, Int.reduceEq, if_true, if_false]
  simp +contextual
theorem a_neu : Answers2 25 s_neu := by
  intro al ans h hq
  unfold s_neu at h
  split at h <;> try (simp at h; done)
  rename_i m
  simp only [Option.some.injEq] at h
  subst h
  have hq := asked hq
  refine QR.does_of_eval (O := o_kn7) (QR.orc_cons a_known7 QR.orc_nil) mixed (QR.noLoops) Tryd.func25 (by kernel_rfl) (by kernel_rfl) (by simp) ?_
  rw [neu_vc]
  rw [knownB7]
  unfold opB
  by_cases h : 1 ≤ m ∧ m ≤ 12
  · rcases op_modes h with rfl | rfl | rfl | rfl | rfl | rfl | rfl | rfl | rfl | rfl | rfl | rfl <;> simp [bcond_iff, bnot, ieq, okAns, eqXs, eqX, eqc, veq, eqUs, neuB]
  · have no : neuB m = false := decide_eq_false (by omega)
    simp [bcond_iff, bnot, h, okAns, eqXs, eqX, eqc, veq, eqUs, no]
theorem a_fre : Answers2 27 s_fre := by
  intro al ans h hq
  unfold s_fre at h
  split at h <;> try (simp at h; done)
  rename_i m
  simp only [Option.some.injEq] at h
  subst h
  have hq := asked hq
  refine QR.does_of_eval (O := o_kn7) (QR.orc_cons a_known7 QR.orc_nil) mixed (QR.noLoops) Tryd.func27 (by kernel_rfl) (by kernel_rfl) (by simp) ?_
  rw [fre_vc]
  rw [knownB7]
  unfold opB
  by_cases h : 1 ≤ m ∧ m ≤ 12
  · rcases op_modes h with rfl | rfl | rfl | rfl | rfl | rfl | rfl | rfl | rfl | rfl | rfl | rfl <;> simp [bcond_iff, bnot, ieq, okAns, eqXs, eqX, eqc, veq, eqUs, freB]
  · have no : freB m = false := decide_eq_false (by omega)
    simp [bcond_iff, bnot, h, okAns, eqXs, eqX, eqc, veq, eqUs, no]
theorem a_rneu : Answers2 26 s_neu := by
  intro al ans h hq
  unfold s_neu at h
  split at h <;> try (simp at h; done)
  rename_i m
  simp only [Option.some.injEq] at h
  subst h
  have hq := asked hq
  refine QR.does_of_eval (O := (QR.orc [])) QR.orc_nil mixed (QR.noLoops) Tryd.func26 (by kernel_rfl) (by kernel_rfl) (by simp) ?_
  rw [rneu_vc]
  simp only [bcond_iff, okAns, eqXs, eqX, eqL, eqc, veq, eqUs, forall_eq, true_and, and_true, ieq, beq_iff_eq, beq_eq_false_iff_ne, ne_eq, neuB]
  refine ⟨fun c => ?_, fun c => ⟨fun c => ?_, fun c => ⟨fun c => ?_, fun c => ⟨fun c => ?_, fun c => ⟨fun c => ?_, fun c => ?_⟩⟩⟩⟩⟩ <;> simp_all <;> rfl
theorem a_rfre : Answers2 28 s_fre := by
  intro al ans h hq
  unfold s_fre at h
  split at h <;> try (simp at h; done)
  rename_i m
  simp only [Option.some.injEq] at h
  subst h
  have hq := asked hq
  refine QR.does_of_eval (O := (QR.orc [])) QR.orc_nil mixed (QR.noLoops) Tryd.func28 (by kernel_rfl) (by kernel_rfl) (by simp) ?_
  rw [rfre_vc]
  simp only [bcond_iff, okAns, eqXs, eqX, eqL, eqc, veq, eqUs, forall_eq, true_and, and_true, ieq, beq_iff_eq, beq_eq_false_iff_ne, ne_eq, freB]
  refine ⟨fun c => ?_, fun c => ⟨fun c => ?_, fun c => ⟨fun c => ?_, fun c => ⟨fun c => ?_, fun c => ⟨fun c => ?_, fun c => ?_⟩⟩⟩⟩⟩ <;> simp_all <;> rfl
end Go.Proofs.YtfmohdcdkjbcfaaDoor
