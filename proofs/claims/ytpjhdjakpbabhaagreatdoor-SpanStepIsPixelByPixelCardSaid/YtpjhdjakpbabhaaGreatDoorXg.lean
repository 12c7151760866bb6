import Derived.Test.YtpjhdjakpbabhaaGreatDoorXf
import Derived.Test.YtpjhdjakpbabhaaGreatDoorRg
import Derived.Test.YtpjhdjakpbabhaaGreatDoorRk
import Derived.Test.YtpjhdjakpbabhaaGreatDoorZaa
import Derived.Test.YtpjhdjakpbabhaaGreatDoorZ0
import Derived.Test.YtpjhdjakpbabhaaGreatDoorKa
import Derived.Test.YtpjhdjakpbabhaaGreatDoorJc
import Derived.Test.YtpjhdjakpbabhaaGreatDoorLc
namespace Go.Proofs.YtpjhdjakpbabhaaGreatDoor
open Go.RowKit PR QR
set_option linter.unusedVariables false
set_option linter.unusedSimpArgs false
set_option maxRecDepth 20000
theorem a_nu : Answers2 70 s_nu := by
  intro al ans h hq
  unfold s_nu at h
  split at h <;> try (simp at h; done)
  rename_i o
  simp only [Option.some.injEq] at h
  subst h
  have hq := asked hq
  refine QR.does_of_eval (O := (QR.orc [])) QR.orc_nil mixed (QR.noLoops) Tryz.func70 (by kernel_rfl) (by kernel_rfl) (by simp) ?_
  rw [nu_vc]
  have e : nuB o = (ieq o 3 || (ieq o 4 || (ieq o 5 || (ieq o 9 || (ieq o 10 || ieq o 12))))) := by
    rw [Bool.eq_iff_iff]; unfold nuB; simp only [Bool.or_eq_true, decide_eq_true_eq, ieq, beq_iff_eq]
  simp only [okAns, eqXs, eqX, eqo, eqLo, eqc, veq, eqUs, bcond_iff, true_and, and_true, e]
  cases ieq o 3 <;> cases ieq o 4 <;> cases ieq o 5 <;> cases ieq o 9 <;> cases ieq o 10 <;> cases ieq o 12 <;> simp
theorem a_spv : Answers2 30 s_spv := by
  intro al ans h hq
  unfold s_spv at h
  split at h <;> try (simp at h; done)
  rename_i c0 c1 c2 a f m
  simp only [Option.some.injEq] at h
  subst h
  have hq := asked hq
  refine QR.does_of_eval (O := o_spv) (QR.orc_cons a_gva QR.orc_nil) mixed (QR.noLoops) Tryz.func30 (by kernel_rfl) (by kernel_rfl) (by simp) ?_
  rw [spv_vc]
  simp [okAns, eqXs, eqX, eqo, eqLo, eqc, veq, eqUs]
theorem a_alone : Answers2 57 s_alone := by
  intro al ans h hq
  unfold s_alone at h
  split at h <;> try (simp at h; done)
  rename_i c0 c1 c2 a own f
  simp only [Option.some.injEq] at h
  subst h
  have hq := asked hq
  refine QR.does_of_eval (O := (QR.orc [])) QR.orc_nil mixed ((fun n => bif Nat.beq n 3 then some (.rounds 4) else none)) Tryz.func57 (by kernel_rfl) (by kernel_rfl) (by simp) ?_
  rw [alone_vc]
  simp [okAns, eqXs, eqX, eqo, eqLo, eqc, veq, eqUs]
theorem eqQ_t (z : Nat) (n : Int) (q : Int → Nat → Int) : EqC (.slc z n (.fn fun i j => .v (.int .u16 (q i j)))) (.slc z n (.fn fun i j => .v (.int .u16 (q i j)))) = True := eq_true (.slc fun i j _ _ => .v _)
theorem pxQ_b (c0 c1 c2 a f : Int) (q : Int → Nat → Int) : pxQ c0 c1 c2 a f q = band (band (ieq c0 (q 0 0)) (band (ieq c1 (q 0 1)) (band (ieq c2 (q 0 2)) true))) (band (ieq a (q 0 3)) (band (ieq f (q 0 4)) true)) := by
  rw [Bool.eq_iff_iff]; unfold pxQ band ieq; simp only [Bool.and_eq_true, decide_eq_true_eq, beq_iff_eq, and_true]; exact ⟨fun ⟨a, b, c, d, e⟩ => ⟨⟨a, b, c⟩, d, e⟩, fun ⟨⟨a, b, c⟩, d, e⟩ => ⟨a, b, c, d, e⟩⟩
theorem eqR5_b (d : Int → Nat → Int) (i i' : Int) : eqR 5 d i i' = band (band (ieq (d i 0) (d i' 0)) (band (ieq (d i 1) (d i' 1)) (band (ieq (d i 2) (d i' 2)) true))) (band (ieq (d i 3) (d i' 3)) (band (ieq (d i 4) (d i' 4)) true)) := by
  rw [Bool.eq_iff_iff]; unfold eqR band ieq; simp only [Bool.and_eq_true, decide_eq_true_eq, beq_iff_eq, and_true]
  exact ⟨fun h => ⟨⟨h 0 (by decide), h 1 (by decide), h 2 (by decide)⟩, h 3 (by decide), h 4 (by decide)⟩, fun ⟨⟨a, b, c⟩, d, e⟩ j hj => by match j, hj with | 0, _ => exact a | 1, _ => exact b | 2, _ => exact c | 3, _ => exact d | 4, _ => exact e⟩
theorem eqR6_b (d : Int → Nat → Int) (i i' : Int) : eqR 6 d i i' = band (band (ieq (d i 0) (d i' 0)) (band (ieq (d i 1) (d i' 1)) (band (ieq (d i 2) (d i' 2)) true))) (band (ieq (d i 3) (d i' 3)) (band (ieq (d i 4) (d i' 4)) (band (ieq (d i 5) (d i' 5)) true))) := by
  rw [Bool.eq_iff_iff]; unfold eqR band ieq; simp only [Bool.and_eq_true, decide_eq_true_eq, beq_iff_eq, and_true]
  exact ⟨fun h => ⟨⟨h 0 (by decide), h 1 (by decide), h 2 (by decide)⟩, h 3 (by decide), h 4 (by decide), h 5 (by decide)⟩, fun ⟨⟨a, b, c⟩, d, e, f⟩ j hj => by match j, hj with | 0, _ => exact a | 1, _ => exact b | 2, _ => exact c | 3, _ => exact d | 4, _ => exact e | 5, _ => exact f⟩
theorem a_cl1 : AnswersR Tryz.prog 75 s_cl1 := by
  intro al ans hh hq
  unfold s_cl1 at hh
  split at hh <;> try (simp at hh; done)
  rename_i c0 c1 c2 a f z n r
  cases hz : Nat.beq z 5 with
  | false => rw [hz] at hh; simp at hh
  | true =>
  rw [hz, cond_true] at hh
  simp only [Option.some.injEq] at hh
  subst hh
  simp only [Bool.and_eq_true, Nat.beq_eq] at hz
  obtain rfl := hz
  refine ⟨rfl, does_reads (al' := [.x (.agg [.v (.int .u16 c0), .v (.int .u16 c1), .v (.int .u16 c2), .v (.int .u16 a), .v (.int .u16 f)]), .ref 0 [.slc 5 n (.fn fun i j => .v (.int .u16 (qOf r i j)))]]) ⟨⟨.v _, .v _, .v _, .v _, .v _, trivial⟩, ⟨rfl, (intRow_eq (hq _ (by simp))), trivial⟩, trivial⟩ ⟨⟨(intRow_back (hq _ (by simp))), trivial⟩, trivial⟩ (ask' := []) ?_⟩
  have hq := asked hq
  refine QR.does_of_eval (O := (QR.orc [])) QR.orc_nil mixed (QR.noLoops) Tryz.func75 (by kernel_rfl) (by kernel_rfl) (by simp) ?_
  rw [cl1_vc]
  generalize hdn : qOf r = q at hq ⊢
  obtain ⟨_, h0, _⟩ := hq
  simp [eqQ_t, okAns, eqXs, eqX, eqo, eqLo, eqL, eqc, veq, eqUs, refCells, pxQ_b, h0]
theorem a_cl2 : AnswersR Tryz.prog 76 s_cl2 := by
  intro al ans hh hq
  unfold s_cl2 at hh
  split at hh <;> try (simp at hh; done)
  rename_i c0 c1 c2 a f m
  simp only [Option.some.injEq] at hh
  subst hh
  refine ⟨rfl, does_reads (al' := [.x (.agg [.v (.int .u16 c0), .v (.int .u16 c1), .v (.int .u16 c2), .v (.int .u16 a), .v (.int .u16 f)]), .ref 0 [.v (.int .u16 m)]]) ⟨⟨.v _, .v _, .v _, .v _, .v _, trivial⟩, ⟨rfl, .v _, trivial⟩, trivial⟩ ⟨⟨.v _, trivial⟩, trivial⟩ (ask' := []) ?_⟩
  have hq := asked hq
  refine QR.does_of_eval (O := o_cl2) (QR.orc_cons a_opaque QR.orc_nil) mixed (QR.noLoops) Tryz.func76 (by kernel_rfl) (by kernel_rfl) (by simp) ?_
  rw [cl2_vc]
  simp [eqQ_t, okAns, eqXs, eqX, eqo, eqLo, eqL, eqc, veq, eqUs, refCells]
theorem a_cex : AnswersR Tryz.prog 26 s_cex := by
  intro al ans hh hq
  unfold s_cex at hh
  split at hh <;> try (simp at hh; done)
  rename_i i o k m z n r z2 n2 r2
  cases hz : Nat.beq z 5 && Nat.beq z2 5 with
  | false => rw [hz] at hh; simp at hh
  | true =>
  rw [hz, cond_true] at hh
  simp only [Option.some.injEq] at hh
  subst hh
  simp only [Bool.and_eq_true, Nat.beq_eq] at hz
  obtain ⟨rfl, rfl⟩ := hz
  refine ⟨rfl, does_reads (al' := [.x (.c (.v (.int .i64 i))), .ref 0 [.v (.int .i64 o)], .ref 0 [.v (.int .i64 k)], .ref 0 [.v (.int .u16 m)], .ref 0 [.slc 5 n (.fn fun i j => .v (.int .u16 (qOf r i j)))], .ref 0 [.slc 5 n2 (.fn fun i j => .v (.int .u16 (qOf r2 i j)))]]) ⟨.v _, ⟨rfl, .v _, trivial⟩, ⟨rfl, .v _, trivial⟩, ⟨rfl, .v _, trivial⟩, ⟨rfl, (intRow_eq (hq _ (by simp))), trivial⟩, ⟨rfl, (intRow_eq (hq _ (by simp))), trivial⟩, trivial⟩ ⟨⟨.v _, trivial⟩, ⟨.v _, trivial⟩, ⟨.v _, trivial⟩, ⟨(intRow_back (hq _ (by simp))), trivial⟩, ⟨(intRow_back (hq _ (by simp))), trivial⟩, trivial⟩ (ask' := []) ?_⟩
  have hq := asked hq
  refine QR.does_of_eval (O := o_cex) (QR.orc_cons a_comp QR.orc_nil) mixed (QR.noLoops) Tryz.func26 (by kernel_rfl) (by kernel_rfl) (by simp) ?_
  rw [cex_vc]
  generalize hdn : qOf r = s at hq ⊢
  generalize hdn2 : qOf r2 = d at hq ⊢
  obtain ⟨_, _, hs, hd, hm, h0, h1, h2, _⟩ := hq
  have i0 := ile_tt h0
  have x := fun (j : Nat) (hj : j < 5) => hs i j i0 (ilt_tt h1) hj
  have y := fun (j : Nat) (hj : j < 5) => hd i j i0 (ilt_tt h2) hj
  have e : rcI o k m s d i = pcOk o k m (s i 0) (s i 1) (s i 2) (s i 3) (s i 4) (d i 0) (d i 1) (d i 2) (d i 3) (d i 4) := rfl
  simp [eqQ_t, okAns, eqXs, eqX, eqo, eqLo, eqL, eqc, veq, eqUs, refCells, rcZ, rcV, e, hm, h0, h1, h2, x 0 (by decide), x 1 (by decide), x 2 (by decide), x 3 (by decide), x 4 (by decide), y 0 (by decide), y 1 (by decide), y 2 (by decide), y 3 (by decide), y 4 (by decide)]
theorem a_ckp : AnswersR Tryz.prog 29 s_ckp := by
  intro al ans hh hq
  unfold s_ckp at hh
  split at hh <;> try (simp at hh; done)
  rename_i i z n r m
  cases hz : Nat.beq z 5 with
  | false => rw [hz] at hh; simp at hh
  | true =>
  rw [hz, cond_true] at hh
  simp only [Option.some.injEq] at hh
  subst hh
  simp only [Bool.and_eq_true, Nat.beq_eq] at hz
  obtain rfl := hz
  refine ⟨rfl, does_reads (al' := [.x (.c (.v (.int .i64 i))), .ref 0 [.slc 5 n (.fn fun i j => .v (.int .u16 (qOf r i j)))], .ref 0 [.v (.int .u16 m)]]) ⟨.v _, ⟨rfl, (intRow_eq (hq _ (by simp))), trivial⟩, ⟨rfl, .v _, trivial⟩, trivial⟩ ⟨⟨(intRow_back (hq _ (by simp))), trivial⟩, ⟨.v _, trivial⟩, trivial⟩ (ask' := []) ?_⟩
  have hq := asked hq
  refine QR.does_of_eval (O := o_cva) (QR.orc_cons a_spv QR.orc_nil) mixed (QR.noLoops) Tryz.func29 (by kernel_rfl) (by kernel_rfl) (by simp) ?_
  rw [ckp_vc]
  generalize hdn : qOf r = d at hq ⊢
  obtain ⟨_, h0, h1, _⟩ := hq
  simp [eqQ_t, okAns, eqXs, eqX, eqo, eqLo, eqL, eqc, veq, eqUs, refCells, vpR, h0, h1]
theorem a_ccv : AnswersR Tryz.prog 31 s_ccv := by
  intro al ans hh hq
  unfold s_ccv at hh
  split at hh <;> try (simp at hh; done)
  rename_i i z n r z2 n2 r2 m
  cases hz : Nat.beq z 5 && Nat.beq z2 5 with
  | false => rw [hz] at hh; simp at hh
  | true =>
  rw [hz, cond_true] at hh
  simp only [Option.some.injEq] at hh
  subst hh
  simp only [Bool.and_eq_true, Nat.beq_eq] at hz
  obtain ⟨rfl, rfl⟩ := hz
  refine ⟨rfl, does_reads (al' := [.x (.c (.v (.int .i64 i))), .ref 0 [.slc 5 n (.fn fun i j => .v (.int .u16 (qOf r i j)))], .ref 0 [.slc 5 n2 (.fn fun i j => .v (.int .u16 (qOf r2 i j)))], .ref 0 [.v (.int .u16 m)]]) ⟨.v _, ⟨rfl, (intRow_eq (hq _ (by simp))), trivial⟩, ⟨rfl, (intRow_eq (hq _ (by simp))), trivial⟩, ⟨rfl, .v _, trivial⟩, trivial⟩ ⟨⟨(intRow_back (hq _ (by simp))), trivial⟩, ⟨(intRow_back (hq _ (by simp))), trivial⟩, ⟨.v _, trivial⟩, trivial⟩ (ask' := []) ?_⟩
  have hq := asked hq
  refine QR.does_of_eval (O := o_cva) (QR.orc_cons a_spv QR.orc_nil) mixed (QR.noLoops) Tryz.func31 (by kernel_rfl) (by kernel_rfl) (by simp) ?_
  rw [ccv_vc]
  generalize hdn : qOf r = s at hq ⊢
  generalize hdn2 : qOf r2 = d at hq ⊢
  obtain ⟨_, _, h0, h1, h2, _⟩ := hq
  simp [eqQ_t, okAns, eqXs, eqX, eqo, eqLo, eqL, eqc, veq, eqUs, refCells, vpR, h0, h1, h2]
theorem a_csm : AnswersR Tryz.prog 33 s_csm := by
  intro al ans hh hq
  unfold s_csm at hh
  split at hh <;> try (simp at hh; done)
  rename_i i z n r
  cases hz : Nat.beq z 5 with
  | false => rw [hz] at hh; simp at hh
  | true =>
  rw [hz, cond_true] at hh
  simp only [Option.some.injEq] at hh
  subst hh
  simp only [Bool.and_eq_true, Nat.beq_eq] at hz
  obtain rfl := hz
  refine ⟨rfl, does_reads (al' := [.x (.c (.v (.int .i64 i))), .ref 0 [.slc 5 n (.fn fun i j => .v (.int .u16 (qOf r i j)))]]) ⟨.v _, ⟨rfl, (intRow_eq (hq _ (by simp))), trivial⟩, trivial⟩ ⟨⟨(intRow_back (hq _ (by simp))), trivial⟩, trivial⟩ (ask' := []) ?_⟩
  have hq := asked hq
  refine QR.does_of_eval (O := (QR.orc [])) QR.orc_nil mixed (QR.noLoops) Tryz.func33 (by kernel_rfl) (by kernel_rfl) (by simp) ?_
  rw [csm_vc]
  generalize hdn : qOf r = d at hq ⊢
  obtain ⟨_, h0, h1, h2, h3, _⟩ := hq
  simp [eqQ_t, okAns, eqXs, eqX, eqo, eqLo, eqL, eqc, veq, eqUs, refCells, eqR5_b, h0, h1, h2, h3]
theorem a_gex : AnswersR Tryz.prog 48 s_gex := by
  intro al ans hh hq
  unfold s_gex at hh
  split at hh <;> try (simp at hh; done)
  rename_i i kn o k m z n r za na ra zb nb rb
  cases hz : Nat.beq z 5 && (Nat.beq za 6 && Nat.beq zb 5) with
  | false => rw [hz] at hh; simp at hh
  | true =>
  rw [hz, cond_true] at hh
  simp only [Option.some.injEq] at hh
  subst hh
  simp only [Bool.and_eq_true, Nat.beq_eq] at hz
  obtain ⟨rfl, rfl, rfl⟩ := hz
  refine ⟨rfl, does_reads (al' := [.x (.c (.v (.int .i64 i))), .ref 0 [.v (.bool kn)], .ref 0 [.v (.int .i64 o)], .ref 0 [.v (.int .i64 k)], .ref 0 [.v (.int .u16 m)], .ref 0 [.slc 5 n (.fn fun i j => .v (.int .u16 (qOf r i j)))], .ref 0 [.slc 6 na (.fn fun i j => .v (.int .u16 (qOf ra i j)))], .ref 0 [.slc 5 nb (.fn fun i j => .v (.int .u16 (qOf rb i j)))]]) ⟨.v _, ⟨rfl, .v _, trivial⟩, ⟨rfl, .v _, trivial⟩, ⟨rfl, .v _, trivial⟩, ⟨rfl, .v _, trivial⟩, ⟨rfl, (intRow_eq (hq _ (by simp))), trivial⟩, ⟨rfl, (intRow_eq (hq _ (by simp))), trivial⟩, ⟨rfl, (intRow_eq (hq _ (by simp))), trivial⟩, trivial⟩ ⟨⟨.v _, trivial⟩, ⟨.v _, trivial⟩, ⟨.v _, trivial⟩, ⟨.v _, trivial⟩, ⟨(intRow_back (hq _ (by simp))), trivial⟩, ⟨(intRow_back (hq _ (by simp))), trivial⟩, ⟨(intRow_back (hq _ (by simp))), trivial⟩, trivial⟩ (ask' := []) ?_⟩
  have hq := asked hq
  refine QR.does_of_eval (O := o_gex) (QR.orc_cons a_gstep QR.orc_nil) mixed (QR.noLoops) Tryz.func48 (by kernel_rfl) (by kernel_rfl) (by simp) ?_
  rw [gex_vc]
  generalize hdn : qOf r = s at hq ⊢
  generalize hdna : qOf ra = a at hq ⊢
  generalize hdnb : qOf rb = b at hq ⊢
  obtain ⟨_, _, _, hs, ha, hb, hm, h0, h1, h2, h3, _⟩ := hq
  have i0 := ile_tt h0
  have x := fun (j : Nat) (hj : j < 5) => hs i j i0 (ilt_tt h1) hj
  have y := fun (j : Nat) (hj : j < 6) => ha i j i0 (ilt_tt h2) hj
  have z := fun (j : Nat) (hj : j < 5) => hb i j i0 (ilt_tt h3) hj
  simp [eqQ_t, okAns, eqXs, eqX, eqo, eqLo, eqL, eqc, veq, eqUs, refCells, rgZ, rgI, rgV, hm, h0, h1, h2, h3, x 0 (by decide), x 1 (by decide), x 2 (by decide), x 3 (by decide), x 4 (by decide), y 0 (by decide), y 1 (by decide), y 2 (by decide), y 3 (by decide), y 4 (by decide), y 5 (by decide), z 0 (by decide), z 1 (by decide), z 2 (by decide), z 3 (by decide), z 4 (by decide)]
theorem a_gkp : AnswersR Tryz.prog 50 s_gkp := by
  intro al ans hh hq
  unfold s_gkp at hh
  split at hh <;> try (simp at hh; done)
  rename_i i za na ra zb nb rb m
  cases hz : Nat.beq za 6 && Nat.beq zb 5 with
  | false => rw [hz] at hh; simp at hh
  | true =>
  rw [hz, cond_true] at hh
  simp only [Option.some.injEq] at hh
  subst hh
  simp only [Bool.and_eq_true, Nat.beq_eq] at hz
  obtain ⟨rfl, rfl⟩ := hz
  refine ⟨rfl, does_reads (al' := [.x (.c (.v (.int .i64 i))), .ref 0 [.slc 6 na (.fn fun i j => .v (.int .u16 (qOf ra i j)))], .ref 0 [.slc 5 nb (.fn fun i j => .v (.int .u16 (qOf rb i j)))], .ref 0 [.v (.int .u16 m)]]) ⟨.v _, ⟨rfl, (intRow_eq (hq _ (by simp))), trivial⟩, ⟨rfl, (intRow_eq (hq _ (by simp))), trivial⟩, ⟨rfl, .v _, trivial⟩, trivial⟩ ⟨⟨(intRow_back (hq _ (by simp))), trivial⟩, ⟨(intRow_back (hq _ (by simp))), trivial⟩, ⟨.v _, trivial⟩, trivial⟩ (ask' := []) ?_⟩
  have hq := asked hq
  refine QR.does_of_eval (O := o_spv) (QR.orc_cons a_gva QR.orc_nil) mixed (QR.noLoops) Tryz.func50 (by kernel_rfl) (by kernel_rfl) (by simp) ?_
  rw [gkp_vc]
  generalize hdna : qOf ra = a at hq ⊢
  generalize hdnb : qOf rb = b at hq ⊢
  obtain ⟨_, _, h0, h1, h2, _⟩ := hq
  simp [eqQ_t, okAns, eqXs, eqX, eqo, eqLo, eqL, eqc, veq, eqUs, refCells, rrI, h0, h1, h2]
theorem a_gcv : AnswersR Tryz.prog 52 s_gcv := by
  intro al ans hh hq
  unfold s_gcv at hh
  split at hh <;> try (simp at hh; done)
  rename_i i z n r m za na ra zb nb rb
  cases hz : Nat.beq z 5 && (Nat.beq za 6 && Nat.beq zb 5) with
  | false => rw [hz] at hh; simp at hh
  | true =>
  rw [hz, cond_true] at hh
  simp only [Option.some.injEq] at hh
  subst hh
  simp only [Bool.and_eq_true, Nat.beq_eq] at hz
  obtain ⟨rfl, rfl, rfl⟩ := hz
  refine ⟨rfl, does_reads (al' := [.x (.c (.v (.int .i64 i))), .ref 0 [.slc 5 n (.fn fun i j => .v (.int .u16 (qOf r i j)))], .ref 0 [.v (.int .u16 m)], .ref 0 [.slc 6 na (.fn fun i j => .v (.int .u16 (qOf ra i j)))], .ref 0 [.slc 5 nb (.fn fun i j => .v (.int .u16 (qOf rb i j)))]]) ⟨.v _, ⟨rfl, (intRow_eq (hq _ (by simp))), trivial⟩, ⟨rfl, .v _, trivial⟩, ⟨rfl, (intRow_eq (hq _ (by simp))), trivial⟩, ⟨rfl, (intRow_eq (hq _ (by simp))), trivial⟩, trivial⟩ ⟨⟨(intRow_back (hq _ (by simp))), trivial⟩, ⟨.v _, trivial⟩, ⟨(intRow_back (hq _ (by simp))), trivial⟩, ⟨(intRow_back (hq _ (by simp))), trivial⟩, trivial⟩ (ask' := []) ?_⟩
  have hq := asked hq
  refine QR.does_of_eval (O := o_spv) (QR.orc_cons a_gva QR.orc_nil) mixed (QR.noLoops) Tryz.func52 (by kernel_rfl) (by kernel_rfl) (by simp) ?_
  rw [gcv_vc]
  generalize hdn : qOf r = s at hq ⊢
  generalize hdna : qOf ra = a at hq ⊢
  generalize hdnb : qOf rb = b at hq ⊢
  obtain ⟨_, _, _, h0, h1, h2, h3, _⟩ := hq
  simp [eqQ_t, okAns, eqXs, eqX, eqo, eqLo, eqL, eqc, veq, eqUs, refCells, rrI, h0, h1, h2, h3]
theorem a_gsm : AnswersR Tryz.prog 54 s_gsm := by
  intro al ans hh hq
  unfold s_gsm at hh
  split at hh <;> try (simp at hh; done)
  rename_i i za na ra zb nb rb
  cases hz : Nat.beq za 6 && Nat.beq zb 5 with
  | false => rw [hz] at hh; simp at hh
  | true =>
  rw [hz, cond_true] at hh
  simp only [Option.some.injEq] at hh
  subst hh
  simp only [Bool.and_eq_true, Nat.beq_eq] at hz
  obtain ⟨rfl, rfl⟩ := hz
  refine ⟨rfl, does_reads (al' := [.x (.c (.v (.int .i64 i))), .ref 0 [.slc 6 na (.fn fun i j => .v (.int .u16 (qOf ra i j)))], .ref 0 [.slc 5 nb (.fn fun i j => .v (.int .u16 (qOf rb i j)))]]) ⟨.v _, ⟨rfl, (intRow_eq (hq _ (by simp))), trivial⟩, ⟨rfl, (intRow_eq (hq _ (by simp))), trivial⟩, trivial⟩ ⟨⟨(intRow_back (hq _ (by simp))), trivial⟩, ⟨(intRow_back (hq _ (by simp))), trivial⟩, trivial⟩ (ask' := []) ?_⟩
  have hq := asked hq
  refine QR.does_of_eval (O := (QR.orc [])) QR.orc_nil mixed (QR.noLoops) Tryz.func54 (by kernel_rfl) (by kernel_rfl) (by simp) ?_
  rw [gsm_vc]
  generalize hdna : qOf ra = a at hq ⊢
  generalize hdnb : qOf rb = b at hq ⊢
  obtain ⟨_, _, h0, h1, h2, h3, h4, h5, _⟩ := hq
  simp only [eqQ_t, okAns, eqXs, eqX, eqo, eqLo, eqL, eqc, veq, eqUs, refCells, eqR6_b, eqR5_b, h0, h1, h2, h3, h4, h5, bcond_iff, true_and, and_true]
  exact ⟨fun h => by rw [h]; rfl, fun h => by rw [h]; rfl⟩
theorem a_rex : AnswersR Tryz.prog 55 s_rex := by
  intro al ans hh hq
  unfold s_rex at hh
  split at hh <;> try (simp at hh; done)
  rename_i i za na ra zb nb rb m
  cases hz : Nat.beq za 6 && Nat.beq zb 5 with
  | false => rw [hz] at hh; simp at hh
  | true =>
  rw [hz, cond_true] at hh
  simp only [Option.some.injEq] at hh
  subst hh
  simp only [Bool.and_eq_true, Nat.beq_eq] at hz
  obtain ⟨rfl, rfl⟩ := hz
  refine ⟨rfl, does_reads (al' := [.x (.c (.v (.int .i64 i))), .ref 0 [.slc 6 na (.fn fun i j => .v (.int .u16 (qOf ra i j)))], .ref 0 [.slc 5 nb (.fn fun i j => .v (.int .u16 (qOf rb i j)))], .ref 0 [.v (.int .u16 m)]]) ⟨.v _, ⟨rfl, (intRow_eq (hq _ (by simp))), trivial⟩, ⟨rfl, (intRow_eq (hq _ (by simp))), trivial⟩, ⟨rfl, .v _, trivial⟩, trivial⟩ ⟨⟨(intRow_back (hq _ (by simp))), trivial⟩, ⟨(intRow_back (hq _ (by simp))), trivial⟩, ⟨.v _, trivial⟩, trivial⟩ (ask' := []) ?_⟩
  have hq := asked hq
  refine QR.does_of_eval (O := o_rex) (QR.orc_cons a_gres QR.orc_nil) mixed (QR.noLoops) Tryz.func55 (by kernel_rfl) (by kernel_rfl) (by simp) ?_
  rw [rex_vc]
  generalize hdna : qOf ra = a at hq ⊢
  generalize hdnb : qOf rb = b at hq ⊢
  obtain ⟨_, _, ha, hb, hm, h0, h2, h3, _⟩ := hq
  have i0 := ile_tt h0
  have y := fun (j : Nat) (hj : j < 6) => ha i j i0 (ilt_tt h2) hj
  have z := fun (j : Nat) (hj : j < 5) => hb i j i0 (ilt_tt h3) hj
  simp [eqQ_t, okAns, eqXs, eqX, eqo, eqLo, eqL, eqc, veq, eqUs, refCells, rrZ, rrI, hm, h0, h2, h3, y 0 (by decide), y 1 (by decide), y 2 (by decide), y 3 (by decide), y 4 (by decide), y 5 (by decide), z 0 (by decide), z 1 (by decide), z 2 (by decide), z 3 (by decide), z 4 (by decide)]
theorem a_ral : AnswersR Tryz.prog 56 s_ral := by
  intro al ans hh hq
  unfold s_ral at hh
  split at hh <;> try (simp at hh; done)
  rename_i i za na ra zb nb rb m
  cases hz : Nat.beq za 6 && Nat.beq zb 5 with
  | false => rw [hz] at hh; simp at hh
  | true =>
  rw [hz, cond_true] at hh
  simp only [Option.some.injEq] at hh
  subst hh
  simp only [Bool.and_eq_true, Nat.beq_eq] at hz
  obtain ⟨rfl, rfl⟩ := hz
  refine ⟨rfl, does_reads (al' := [.x (.c (.v (.int .i64 i))), .ref 0 [.slc 6 na (.fn fun i j => .v (.int .u16 (qOf ra i j)))], .ref 0 [.slc 5 nb (.fn fun i j => .v (.int .u16 (qOf rb i j)))], .ref 0 [.v (.int .u16 m)]]) ⟨.v _, ⟨rfl, (intRow_eq (hq _ (by simp))), trivial⟩, ⟨rfl, (intRow_eq (hq _ (by simp))), trivial⟩, ⟨rfl, .v _, trivial⟩, trivial⟩ ⟨⟨(intRow_back (hq _ (by simp))), trivial⟩, ⟨(intRow_back (hq _ (by simp))), trivial⟩, ⟨.v _, trivial⟩, trivial⟩ (ask' := []) ?_⟩
  have hq := asked hq
  refine QR.does_of_eval (O := o_ral) (QR.orc_cons a_alone (QR.orc_cons a_gva QR.orc_nil)) mixed (QR.noLoops) Tryz.func56 (by kernel_rfl) (by kernel_rfl) (by simp) ?_
  rw [ral_vc]
  generalize hdna : qOf ra = a at hq ⊢
  generalize hdnb : qOf rb = b at hq ⊢
  obtain ⟨_, _, h0, h2, h3, _⟩ := hq
  simp [eqQ_t, okAns, eqXs, eqX, eqo, eqLo, eqL, eqc, veq, eqUs, refCells, rrI, h0, h2, h3]
theorem a_rsm : AnswersR Tryz.prog 58 s_rsm := by
  intro al ans hh hq
  unfold s_rsm at hh
  split at hh <;> try (simp at hh; done)
  rename_i i z n r
  cases hz : Nat.beq z 6 with
  | false => rw [hz] at hh; simp at hh
  | true =>
  rw [hz, cond_true] at hh
  simp only [Option.some.injEq] at hh
  subst hh
  simp only [Bool.and_eq_true, Nat.beq_eq] at hz
  obtain rfl := hz
  refine ⟨rfl, does_reads (al' := [.x (.c (.v (.int .i64 i))), .ref 0 [.slc 6 n (.fn fun i j => .v (.int .u16 (qOf r i j)))]]) ⟨.v _, ⟨rfl, (intRow_eq (hq _ (by simp))), trivial⟩, trivial⟩ ⟨⟨(intRow_back (hq _ (by simp))), trivial⟩, trivial⟩ (ask' := []) ?_⟩
  have hq := asked hq
  refine QR.does_of_eval (O := (QR.orc [])) QR.orc_nil mixed (QR.noLoops) Tryz.func58 (by kernel_rfl) (by kernel_rfl) (by simp) ?_
  rw [rsm_vc]
  generalize hdn : qOf r = a at hq ⊢
  obtain ⟨_, h0, h1, h2, h3, _⟩ := hq
  simp [eqQ_t, okAns, eqXs, eqX, eqo, eqLo, eqL, eqc, veq, eqUs, refCells, eqR6_b, h0, h1, h2, h3]
end Go.Proofs.YtpjhdjakpbabhaaGreatDoor
