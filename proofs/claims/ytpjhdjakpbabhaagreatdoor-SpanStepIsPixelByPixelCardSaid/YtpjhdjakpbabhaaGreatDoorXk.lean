import Derived.Test.YtpjhdjakpbabhaaGreatDoorZaa
import Derived.Test.YtpjhdjakpbabhaaGreatDoorXha
import Derived.Test.YtpjhdjakpbabhaaGreatDoorXr
namespace Go.Proofs.YtpjhdjakpbabhaaGreatDoor
open Go.RowKit PR QR
set_option linter.unusedVariables false
set_option linter.unusedSimpArgs false
set_option maxRecDepth 20000
theorem os_cO : QR.OSound Tryz.prog o_cO := QR.orc_consR a_cex (QR.orc_consR a_ckp (QR.orc_consR a_ccv (QR.orc_consR a_csm QR.orc_nil)))
theorem ok_row5 (j : Nat) {O : QR.Oracle} (hO : QR.OSound Tryz.prog O) {Is : List QR.Inv} {J : Nat → Option QR.Inl} {P : QR.Inv} (hJ : ∀ n c, J n = some c → QR.InlOK Tryz.prog c ∧ QR.GB ≤ c.T) : QR.InlOK Tryz.prog (o_inl_row5 j O (o_cfg_row Is J P)) :=
  QR.inl_topK hO mixed (T := 800) ⟨hJ, no_inl, .inr (Nat.le_refl _)⟩ (by decide) Tryz.func28 (by kernel_rfl) (by kernel_rfl)
theorem ok_runs5 (j : Nat) {O : QR.Oracle} (hO : QR.OSound Tryz.prog O) {Is : List QR.Inv} {J : Nat → Option QR.Inl} {P : QR.Inv} (hJ : ∀ n c, J n = some c → QR.InlOK Tryz.prog c ∧ QR.GB ≤ c.T) : QR.InlOK Tryz.prog (o_inl_runs5 j O (o_cfg_row Is J P)) :=
  QR.inl_topK (C := o_cfg_runs5 O (o_cfg_row Is J P)) QR.orc_nil mixed (T := 800) ⟨no_inl, one_inl (p := fun c => QR.InlOK Tryz.prog c ∧ 800 ≤ c.T) ⟨ok_row5 3 hO hJ, Nat.le_refl _⟩, .inl fun _ => rfl⟩ (by decide) Tryz.func32 (by kernel_rfl) (by kernel_rfl)
theorem ok_nx5 {O : QR.Oracle} (hO : QR.OSound Tryz.prog O) {J : Nat → Option QR.Inl} (hJ : ∀ n c, J n = some c → QR.InlOK Tryz.prog c ∧ QR.GB ≤ c.T) : QR.InlOK Tryz.prog (o_inl_nx5 O J) ∧ QR.GB ≤ (o_inl_nx5 O J).T :=
  QR.inl_flat hO mixed QR.noLoops hJ (j := 2) Tryz.func72 (by kernel_rfl) (by kernel_rfl)
theorem ok_ccm (o k m n n2 : Int) (s d : Int → Nat → Int) : QR.CfgKOK Tryz.prog (o_cfg_cm o k m n n2 s d) 500 :=
  ⟨no_inl, or_inl (p := fun c => QR.InlOK Tryz.prog c ∧ 500 ≤ c.T) ⟨ok_row5 4 os_cO no_inl, (show 500 ≤ 800 by decide)⟩ (or_inl ⟨ok_row5 4 os_cO no_inl, (show 500 ≤ 800 by decide)⟩ (or_inl ⟨ok_runs5 4 os_cO (one_inl (ok_nx5 os_cO no_inl)), (show 500 ≤ 800 by decide)⟩ (one_inl ⟨ok_row5 4 os_cO no_inl, (show 500 ≤ 800 by decide)⟩))), .inl fun _ => rfl⟩
theorem a_spr : Answers2 10 s_srow := by
  intro al ans hh hq
  unfold s_srow at hh
  split at hh <;> try (simp at hh; done)
  rename_i o k m c e
  cases en : slcOf 5 c with
  | none => simp [en] at hh
  | some pn =>
  obtain ⟨n, rn⟩ := pn
  cases en2 : slcOf 5 e with
  | none => simp [en2] at hh
  | some pn2 =>
  obtain ⟨n2, rn2⟩ := pn2
  simp only [en, en2] at hh
  simp only [Option.some.injEq] at hh
  subst hh
  simp only [qOf_eq, qO1_eq] at hq ⊢
  obtain ⟨s, hdn⟩ : ∃ s : Int → Nat → Int, s = fun i j => intC (den rn i j) := ⟨_, rfl⟩
  try rw [← hdn]
  obtain ⟨d, hdn2⟩ : ∃ d : Int → Nat → Int, d = fun i j => intC (den rn2 i j) := ⟨_, rfl⟩
  try rw [← hdn2]
  refine does_args2 (al' := [.x (.c (.v (.int .i64 o))), .x (.c (.v (.int .i64 k))), .x (.c (.v (.int .u16 m))), .x (.c (.slc 5 n (.fn fun i j => .v (.int .u16 (s i j))))), .x (.c (.slc 5 n2 (.fn fun i j => .v (.int .u16 (d i j)))))]) ⟨.v _, .v _, .v _, (hdn ▸ slcOf_ints en (by decide) (hq _ (by simp))), (hdn2 ▸ slcOf_ints en2 (by decide) (hq _ (by simp))), trivial⟩ ?_
  have hq := asked hq
  refine QR.does_of_evalK (O := o_cm) (QR.orc_cons a_peff QR.orc_nil) mixed (C := o_cfg_cm o k m n n2 s d) (ok_ccm o k m n n2 s d) Tryz.func10 (by kernel_rfl) (by kernel_rfl) (by simp) ?_
  rw [pcm_vc]
  delta zz16 zz82 zz195 zz202 zz205 zz217 zz218 zz219 zz222 zz225 zz226 zz229 zz237 zz238 zz240 zz242 zz246 zz293 zz295 zz297 zz298 zz301
  obtain ⟨_, _, hs, hd, hm, hn, hb, hn2, _⟩ := hq
  have hn := ile_tt hn
  have hb := ile_tt hb
  simp only [okAns, eqXs, eqX, eqo, eqLo, eqL, eqc, veq, eqUs, bcond_iff, bnot, nilC, true_and, and_true, and_self, implies_true, true_implies, reduceCtorEq, false_implies, Bool.not_true, Bool.not_false, forall_eq, or_false, false_or, and_false, false_and, exists_false, exists_eq_right, exists_eq_right', forall_const, exists_const, Nat.reduceEqDiff, List.cons.injEq, Prod.mk.injEq, Nat.reduceEqDiff, QR.inlA, eq_self]
  have e1 : qOf (QR.Row.fn fun x y => CV.v (Value.int .u16 (s x y))) = s := rfl
  have e2 : qOf (QR.Row.fn fun x y => CV.v (Value.int .u16 (d x y))) = d := rfl
  simp only [e1, e2]
  have hs : row16 5 n s := by rw [hdn]; exact hs
  have hd : row16 5 n2 d := by rw [hdn2]; exact hd
  have z5 : Nat.blt 0 5 = true := rfl
  have bad : rcOk o k m n n2 s d = false → (Nat.blt 0 5 = true ∧ rcN o k m n n2 s d = 0) ∧ false = rcOk o k m n n2 s d := fun h => ⟨⟨z5, by unfold rcN; rw [h]; rfl⟩, h.symm⟩
  refine ⟨fun c => bad ?_, fun c => ?_⟩
  · have c : n ≠ n2 := by simpa [ine] using c
    unfold rcOk; rw [decide_eq_false c]; rfl
  have c : n = n2 := by simpa [ine] using c
  subst c
  have bad' : allR n (rcI o k m s d) = false → (Nat.blt 0 5 = true ∧ rcN o k m n n s d = 0) ∧ false = rcOk o k m n n s d := fun h => bad (by unfold rcOk; rw [h]; simp)
  have hK : allR n (rcI o k m s d) = true → rcOk o k m n n s d = true ∧ rcN o k m n n s d = n := fun h => by
    have : rcOk o k m n n s d = true := by unfold rcOk; rw [h]; simp
    exact ⟨this, by unfold rcN; rw [this]; rfl⟩
  have iS := intRow_fn .u16 5 n s
  have iD := intRow_fn .u16 5 n d
  have hA : ∀ i : Int, 0 ≤ i → i < n → _ := fun i h0 hl => (⟨iS, iD, hs, hd, hm, ile_t h0, ilt_t hl, ilt_t hl⟩ : intRow .u16 5 n (.fn fun x y => .v (.int .u16 (s x y))) ∧ intRow .u16 5 n (.fn fun x y => .v (.int .u16 (d x y))) ∧ row16 5 n s ∧ row16 5 n d ∧ in16 m = true ∧ ile 0 i = true ∧ ilt i n = true ∧ ilt i n = true)
  have hX : ∀ i : Int, 0 ≤ i → i < n → rcI o k m s d i = true → ∀ b : Nat, b < 5 → rcZ o k m s d i b = rcV o k m s d i b := fun i _ _ e b _ => by unfold rcZ; rw [e]; rfl
  refine ⟨⟨iS, ile_t hn, ile_t (by omega)⟩, fun q1 => ?_, fun q1 => ⟨fun q2 => ?_, fun q2 => ⟨fun q3 => ?_, fun q3 => ?_⟩⟩⟩
  · have e := ieq_tt q1
    exact two5 (X := rcZ o k m s d) (Y := fun i b => qOf (QR.Row.fn fun x y => CV.v (Value.int .u16 (d x y))) i b) hn hb ⟨e, rfl⟩ bad' hK hA (fun i h0 hl => ⟨iD, ile_t (by omega), ilt_t hl⟩) hX (fun i h0 hl z => (rc_keep hd e (by omega) z (by omega) hl).1) (fun i h0 hl z y b hb => ((rc_keep hd e (by omega) z (by omega) hl).2 y b hb).symm)
  · have e := ieq_tt q2
    exact two5 (X := rcZ o k m s d) (Y := fun i b => qOf (QR.Row.fn fun x y => CV.v (Value.int .u16 (s x y))) i b) hn hb ⟨e, rfl⟩ bad' hK hA (fun i h0 hl => ⟨iS, iD, ile_t (by omega), ilt_t hl, ilt_t hl⟩) hX (fun i h0 hl z => (rc_cover hs hd e (by omega) z (by omega) hl).1) (fun i h0 hl z y b hb => ((rc_cover hs hd e (by omega) z (by omega) hl).2 y b hb).symm)
  · have e := ieq_tt q3
    refine run5 (X := rcZ o k m s d) (ok := fun i => eqR 5 d i (isub .i64 i 1)) hn hb ⟨e, rfl⟩ bad' hK hA (fun i h0 hl => ?_) hX (fun i h0 hl z => ?_)
    · have := isub1 h0 (by omega)
      exact ⟨iD, ile_t (by omega), ilt_t hl, by rw [this]; exact ile_t (by omega), by rw [this]; exact ilt_t (by omega)⟩
    · rw [isub1 h0 (by omega)] at z
      exact rc_rep e z (by omega) hl (by omega) (by omega)
  · exact one5 (X := rcZ o k m s d) hn hb ⟨rfl, rfl⟩ bad' hK hA hX
end Go.Proofs.YtpjhdjakpbabhaaGreatDoor
