import Derived.Test.YtpjhdjakpbabhaaDoorXf
import Derived.Test.YtpjhdjakpbabhaaDoorRg
import Derived.Test.YtpjhdjakpbabhaaDoorRk
import Derived.Test.YtpjhdjakpbabhaaDoorKc
import Derived.Test.YtpjhdjakpbabhaaDoorLc
namespace Go.Proofs.YtpjhdjakpbabhaaDoor
open Go.RowKit PR QR
set_option linter.unusedVariables false
set_option linter.unusedSimpArgs false
set_option maxRecDepth 20000
theorem a_nu : Answers2 48 s_nu := by
  intro al ans h hq
  unfold s_nu at h
  split at h <;> try (simp at h; done)
  rename_i o
  simp only [Option.some.injEq] at h
  subst h
  have hq := asked hq
  refine QR.does_of_eval (O := (QR.orc [])) QR.orc_nil mixed (QR.noLoops) Tryd.func48 (by kernel_rfl) (by kernel_rfl) (by simp) ?_
  rw [nu_vc]
  have e : nuB o = (ieq o 3 || (ieq o 4 || (ieq o 5 || (ieq o 9 || (ieq o 10 || ieq o 12))))) := by
    rw [Bool.eq_iff_iff]; unfold nuB; simp only [Bool.or_eq_true, decide_eq_true_eq, ieq, beq_iff_eq]
  simp only [okAns, eqXs, eqX, eqo, eqLo, eqc, veq, eqUs, bcond_iff, true_and, and_true, e]
  cases ieq o 3 <;> cases ieq o 4 <;> cases ieq o 5 <;> cases ieq o 9 <;> cases ieq o 10 <;> cases ieq o 12 <;> simp
theorem a_spv : Answers2 31 s_spv := by
  intro al ans h hq
  unfold s_spv at h
  split at h <;> try (simp at h; done)
  rename_i c0 c1 c2 a f m
  simp only [Option.some.injEq] at h
  subst h
  have hq := asked hq
  refine QR.does_of_eval (O := o_spv) (QR.orc_cons a_gva QR.orc_nil) mixed (QR.noLoops) Tryd.func31 (by kernel_rfl) (by kernel_rfl) (by simp) ?_
  rw [spv_vc]
  simp [okAns, eqXs, eqX, eqo, eqLo, eqc, veq, eqUs]
theorem eqQ_t (z : Nat) (n : Int) (q : Int → Nat → Int) : EqC (.slc z n (.fn fun i j => .v (.int .u16 (q i j)))) (.slc z n (.fn fun i j => .v (.int .u16 (q i j)))) = True := eq_true (.slc fun i j _ _ => .v _)
theorem pxQ_b (c0 c1 c2 a f : Int) (q : Int → Nat → Int) : pxQ c0 c1 c2 a f q = band (band (ieq c0 (q 0 0)) (band (ieq c1 (q 0 1)) (band (ieq c2 (q 0 2)) true))) (band (ieq a (q 0 3)) (band (ieq f (q 0 4)) true)) := by
  rw [Bool.eq_iff_iff]; unfold pxQ band ieq; simp only [Bool.and_eq_true, decide_eq_true_eq, beq_iff_eq, and_true]; exact ⟨fun ⟨a, b, c, d, e⟩ => ⟨⟨a, b, c⟩, d, e⟩, fun ⟨⟨a, b, c⟩, d, e⟩ => ⟨a, b, c, d, e⟩⟩
theorem eqR5_b (d : Int → Nat → Int) (i i' : Int) : eqR 5 d i i' = band (band (ieq (d i 0) (d i' 0)) (band (ieq (d i 1) (d i' 1)) (band (ieq (d i 2) (d i' 2)) true))) (band (ieq (d i 3) (d i' 3)) (band (ieq (d i 4) (d i' 4)) true)) := by
  rw [Bool.eq_iff_iff]; unfold eqR band ieq; simp only [Bool.and_eq_true, decide_eq_true_eq, beq_iff_eq, and_true]
  exact ⟨fun h => ⟨⟨h 0 (by decide), h 1 (by decide), h 2 (by decide)⟩, h 3 (by decide), h 4 (by decide)⟩, fun ⟨⟨a, b, c⟩, d, e⟩ j hj => by match j, hj with | 0, _ => exact a | 1, _ => exact b | 2, _ => exact c | 3, _ => exact d | 4, _ => exact e⟩
theorem a_cl1 : AnswersR Tryd.prog 19 s_cl1 := by
  intro al ans hh hq
  unfold s_cl1 at hh
  split at hh <;> try (simp at hh; done)
  rename_i c0 c1 c2 a f z n r
  cases hz : Nat.beq z 5 with
  | false => rw [hz] at hh; simp at hh
  | true =>
  rw [hz, cond_true] at hh
  simp only [Option.some.injEq] at hh
  subst hh
  simp only [Bool.and_eq_true, Nat.beq_eq] at hz
  obtain rfl := hz
  refine ⟨rfl, does_reads (al' := [.x (.agg [.v (.int .u16 c0), .v (.int .u16 c1), .v (.int .u16 c2), .v (.int .u16 a), .v (.int .u16 f)]), .ref 0 [.slc 5 n (.fn fun i j => .v (.int .u16 (qOf r i j)))]]) ⟨⟨.v _, .v _, .v _, .v _, .v _, trivial⟩, ⟨rfl, (intRow_eq (hq _ (by simp))), trivial⟩, trivial⟩ ⟨⟨(intRow_back (hq _ (by simp))), trivial⟩, trivial⟩ (ask' := []) ?_⟩
  have hq := asked hq
  refine QR.does_of_eval (O := (QR.orc [])) QR.orc_nil mixed (QR.noLoops) Tryd.func19 (by kernel_rfl) (by kernel_rfl) (by simp) ?_
  rw [cl1_vc]
  generalize hdn : qOf r = q at hq ⊢
  obtain ⟨_, h0, _⟩ := hq
  simp [eqQ_t, okAns, eqXs, eqX, eqo, eqLo, eqL, eqc, veq, eqUs, refCells, pxQ_b, h0]
theorem a_cl2 : AnswersR Tryd.prog 20 s_cl2 := by
  intro al ans hh hq
  unfold s_cl2 at hh
  split at hh <;> try (simp at hh; done)
  rename_i c0 c1 c2 a f m
  simp only [Option.some.injEq] at hh
  subst hh
  refine ⟨rfl, does_reads (al' := [.x (.agg [.v (.int .u16 c0), .v (.int .u16 c1), .v (.int .u16 c2), .v (.int .u16 a), .v (.int .u16 f)]), .ref 0 [.v (.int .u16 m)]]) ⟨⟨.v _, .v _, .v _, .v _, .v _, trivial⟩, ⟨rfl, .v _, trivial⟩, trivial⟩ ⟨⟨.v _, trivial⟩, trivial⟩ (ask' := []) ?_⟩
  have hq := asked hq
  refine QR.does_of_eval (O := o_cl2) (QR.orc_cons a_opaque QR.orc_nil) mixed (QR.noLoops) Tryd.func20 (by kernel_rfl) (by kernel_rfl) (by simp) ?_
  rw [cl2_vc]
  simp [eqQ_t, okAns, eqXs, eqX, eqo, eqLo, eqL, eqc, veq, eqUs, refCells]
theorem a_cex : AnswersR Tryd.prog 33 s_cex := by
  intro al ans hh hq
  unfold s_cex at hh
  split at hh <;> try (simp at hh; done)
  rename_i i o k m z n r z2 n2 r2
  cases hz : Nat.beq z 5 && Nat.beq z2 5 with
  | false => rw [hz] at hh; simp at hh
  | true =>
  rw [hz, cond_true] at hh
  simp only [Option.some.injEq] at hh
  subst hh
  simp only [Bool.and_eq_true, Nat.beq_eq] at hz
  obtain ⟨rfl, rfl⟩ := hz
  refine ⟨rfl, does_reads (al' := [.x (.c (.v (.int .i64 i))), .ref 0 [.v (.int .i64 o)], .ref 0 [.v (.int .i64 k)], .ref 0 [.v (.int .u16 m)], .ref 0 [.slc 5 n (.fn fun i j => .v (.int .u16 (qOf r i j)))], .ref 0 [.slc 5 n2 (.fn fun i j => .v (.int .u16 (qOf r2 i j)))]]) ⟨.v _, ⟨rfl, .v _, trivial⟩, ⟨rfl, .v _, trivial⟩, ⟨rfl, .v _, trivial⟩, ⟨rfl, (intRow_eq (hq _ (by simp))), trivial⟩, ⟨rfl, (intRow_eq (hq _ (by simp))), trivial⟩, trivial⟩ ⟨⟨.v _, trivial⟩, ⟨.v _, trivial⟩, ⟨.v _, trivial⟩, ⟨(intRow_back (hq _ (by simp))), trivial⟩, ⟨(intRow_back (hq _ (by simp))), trivial⟩, trivial⟩ (ask' := []) ?_⟩
  have hq := asked hq
  refine QR.does_of_eval (O := o_cex) (QR.orc_cons a_comp QR.orc_nil) mixed (QR.noLoops) Tryd.func33 (by kernel_rfl) (by kernel_rfl) (by simp) ?_
  rw [cex_vc]
  generalize hdn : qOf r = s at hq ⊢
  generalize hdn2 : qOf r2 = d at hq ⊢
  obtain ⟨_, _, hs, hd, hm, h0, h1, h2, _⟩ := hq
  have i0 := ile_tt h0
  have x := fun (j : Nat) (hj : j < 5) => hs i j i0 (ilt_tt h1) hj
  have y := fun (j : Nat) (hj : j < 5) => hd i j i0 (ilt_tt h2) hj
  have e : rcI o k m s d i = pcOk o k m (s i 0) (s i 1) (s i 2) (s i 3) (s i 4) (d i 0) (d i 1) (d i 2) (d i 3) (d i 4) := rfl
  simp [eqQ_t, okAns, eqXs, eqX, eqo, eqLo, eqL, eqc, veq, eqUs, refCells, rcZ, rcV, e, hm, h0, h1, h2, x 0 (by decide), x 1 (by decide), x 2 (by decide), x 3 (by decide), x 4 (by decide), y 0 (by decide), y 1 (by decide), y 2 (by decide), y 3 (by decide), y 4 (by decide)]
theorem a_ckp : AnswersR Tryd.prog 36 s_ckp := by
  intro al ans hh hq
  unfold s_ckp at hh
  split at hh <;> try (simp at hh; done)
  rename_i i z n r m
  cases hz : Nat.beq z 5 with
  | false => rw [hz] at hh; simp at hh
  | true =>
  rw [hz, cond_true] at hh
  simp only [Option.some.injEq] at hh
  subst hh
  simp only [Bool.and_eq_true, Nat.beq_eq] at hz
  obtain rfl := hz
  refine ⟨rfl, does_reads (al' := [.x (.c (.v (.int .i64 i))), .ref 0 [.slc 5 n (.fn fun i j => .v (.int .u16 (qOf r i j)))], .ref 0 [.v (.int .u16 m)]]) ⟨.v _, ⟨rfl, (intRow_eq (hq _ (by simp))), trivial⟩, ⟨rfl, .v _, trivial⟩, trivial⟩ ⟨⟨(intRow_back (hq _ (by simp))), trivial⟩, ⟨.v _, trivial⟩, trivial⟩ (ask' := []) ?_⟩
  have hq := asked hq
  refine QR.does_of_eval (O := o_cva) (QR.orc_cons a_spv QR.orc_nil) mixed (QR.noLoops) Tryd.func36 (by kernel_rfl) (by kernel_rfl) (by simp) ?_
  rw [ckp_vc]
  generalize hdn : qOf r = d at hq ⊢
  obtain ⟨_, h0, h1, _⟩ := hq
  simp [eqQ_t, okAns, eqXs, eqX, eqo, eqLo, eqL, eqc, veq, eqUs, refCells, vpR, h0, h1]
theorem a_ccv : AnswersR Tryd.prog 37 s_ccv := by
  intro al ans hh hq
  unfold s_ccv at hh
  split at hh <;> try (simp at hh; done)
  rename_i i z n r z2 n2 r2 m
  cases hz : Nat.beq z 5 && Nat.beq z2 5 with
  | false => rw [hz] at hh; simp at hh
  | true =>
  rw [hz, cond_true] at hh
  simp only [Option.some.injEq] at hh
  subst hh
  simp only [Bool.and_eq_true, Nat.beq_eq] at hz
  obtain ⟨rfl, rfl⟩ := hz
  refine ⟨rfl, does_reads (al' := [.x (.c (.v (.int .i64 i))), .ref 0 [.slc 5 n (.fn fun i j => .v (.int .u16 (qOf r i j)))], .ref 0 [.slc 5 n2 (.fn fun i j => .v (.int .u16 (qOf r2 i j)))], .ref 0 [.v (.int .u16 m)]]) ⟨.v _, ⟨rfl, (intRow_eq (hq _ (by simp))), trivial⟩, ⟨rfl, (intRow_eq (hq _ (by simp))), trivial⟩, ⟨rfl, .v _, trivial⟩, trivial⟩ ⟨⟨(intRow_back (hq _ (by simp))), trivial⟩, ⟨(intRow_back (hq _ (by simp))), trivial⟩, ⟨.v _, trivial⟩, trivial⟩ (ask' := []) ?_⟩
  have hq := asked hq
  refine QR.does_of_eval (O := o_cva) (QR.orc_cons a_spv QR.orc_nil) mixed (QR.noLoops) Tryd.func37 (by kernel_rfl) (by kernel_rfl) (by simp) ?_
  rw [ccv_vc]
  generalize hdn : qOf r = s at hq ⊢
  generalize hdn2 : qOf r2 = d at hq ⊢
  obtain ⟨_, _, h0, h1, h2, _⟩ := hq
  simp [eqQ_t, okAns, eqXs, eqX, eqo, eqLo, eqL, eqc, veq, eqUs, refCells, vpR, h0, h1, h2]
theorem a_csm : AnswersR Tryd.prog 38 s_csm := by
  intro al ans hh hq
  unfold s_csm at hh
  split at hh <;> try (simp at hh; done)
  rename_i i z n r
  cases hz : Nat.beq z 5 with
  | false => rw [hz] at hh; simp at hh
  | true =>
  rw [hz, cond_true] at hh
  simp only [Option.some.injEq] at hh
  subst hh
  simp only [Bool.and_eq_true, Nat.beq_eq] at hz
  obtain rfl := hz
  refine ⟨rfl, does_reads (al' := [.x (.c (.v (.int .i64 i))), .ref 0 [.slc 5 n (.fn fun i j => .v (.int .u16 (qOf r i j)))]]) ⟨.v _, ⟨rfl, (intRow_eq (hq _ (by simp))), trivial⟩, trivial⟩ ⟨⟨(intRow_back (hq _ (by simp))), trivial⟩, trivial⟩ (ask' := []) ?_⟩
  have hq := asked hq
  refine QR.does_of_eval (O := (QR.orc [])) QR.orc_nil mixed (QR.noLoops) Tryd.func38 (by kernel_rfl) (by kernel_rfl) (by simp) ?_
  rw [csm_vc]
  generalize hdn : qOf r = d at hq ⊢
  obtain ⟨_, h0, h1, h2, h3, _⟩ := hq
  simp [eqQ_t, okAns, eqXs, eqX, eqo, eqLo, eqL, eqc, veq, eqUs, refCells, eqR5_b, h0, h1, h2, h3]
theorem a_cfa : AnswersR Tryd.prog 24 s_cfa := by
  intro al ans hh hq
  unfold s_cfa at hh
  split at hh <;> try (simp at hh; done)
  rename_i i z n r m
  cases hz : Nat.beq z 1 with
  | false => rw [hz] at hh; simp at hh
  | true =>
  rw [hz, cond_true] at hh
  simp only [Option.some.injEq] at hh
  subst hh
  simp only [Bool.and_eq_true, Nat.beq_eq] at hz
  obtain rfl := hz
  refine ⟨rfl, does_reads (al' := [.x (.c (.v (.int .i64 i))), .ref 0 [.slc 1 n (.fn fun i j => .v (.int .u16 (qOf r i j)))], .ref 0 [.v (.int .u16 m)]]) ⟨.v _, ⟨rfl, (intRow_eq (hq _ (by simp))), trivial⟩, ⟨rfl, .v _, trivial⟩, trivial⟩ ⟨⟨(intRow_back (hq _ (by simp))), trivial⟩, ⟨.v _, trivial⟩, trivial⟩ (ask' := []) ?_⟩
  have hq := asked hq
  refine QR.does_of_eval (O := (QR.orc [])) QR.orc_nil mixed (QR.noLoops) Tryd.func24 (by kernel_rfl) (by kernel_rfl) (by simp) ?_
  rw [cfa_vc]
  generalize hdn : qOf r = k at hq ⊢
  obtain ⟨_, h0, _⟩ := hq
  have h0 : 0 ≤ n ∧ (0 < n → 0 ≤ i ∧ i < n) := of_decide_eq_true h0
  have e : smkV m n (qO1 r) i = if 0 < n then k i 0 else m := by rw [← hdn]; rfl
  simp only [eqQ_t, okAns, eqXs, eqX, eqo, eqLo, eqL, eqc, veq, eqUs, refCells, bcond_iff, true_and, and_true, forall_eq, e]
  refine ⟨fun h => ?_, fun h => ?_⟩
  · rw [if_neg (by have := ieq_tt h; omega)]
  · have h : n ≠ 0 := fun c => by rw [ieq_t c] at h; simp at h
    obtain ⟨g1, g2⟩ := h0.2 (by omega)
    exact ⟨⟨ile_t g1, ilt_t g2⟩, by rw [if_pos (by omega)]⟩
end Go.Proofs.YtpjhdjakpbabhaaDoor
