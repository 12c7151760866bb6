import Derived.Test.YtpjhdjakpbabhaaGreatDoorZaa
import Derived.Test.YtpjhdjakpbabhaaGreatDoorXk
import Derived.Test.YtpjhdjakpbabhaaGreatDoorXhb
import Derived.Test.YtpjhdjakpbabhaaGreatDoorXhc
namespace Go.Proofs.YtpjhdjakpbabhaaGreatDoor
open Go.RowKit PR QR
set_option linter.unusedVariables false
set_option linter.unusedSimpArgs false
set_option maxRecDepth 20000
theorem os_gO : QR.OSound Tryz.prog o_gO := QR.orc_consR a_gex (QR.orc_consR a_gkp (QR.orc_consR a_gcv (QR.orc_consR a_gsm QR.orc_nil)))
theorem os_rO : QR.OSound Tryz.prog o_rO := QR.orc_consR a_rex (QR.orc_consR a_ral (QR.orc_consR a_rsm QR.orc_nil))
theorem ok_row6 (j : Nat) {O : QR.Oracle} (hO : QR.OSound Tryz.prog O) {Is : List QR.Inv} {J : Nat → Option QR.Inl} {P : QR.Inv} (hJ : ∀ n c, J n = some c → QR.InlOK Tryz.prog c ∧ QR.GB ≤ c.T) : QR.InlOK Tryz.prog (o_inl_row6 j O (o_cfg_row Is J P)) :=
  QR.inl_topK hO mixed (T := 800) ⟨hJ, no_inl, .inr (Nat.le_refl _)⟩ (by decide) Tryz.func49 (by kernel_rfl) (by kernel_rfl)
theorem ok_runs6 (j : Nat) {O : QR.Oracle} (hO : QR.OSound Tryz.prog O) {Is : List QR.Inv} {J : Nat → Option QR.Inl} {P : QR.Inv} (hJ : ∀ n c, J n = some c → QR.InlOK Tryz.prog c ∧ QR.GB ≤ c.T) : QR.InlOK Tryz.prog (o_inl_runs6 j O (o_cfg_row Is J P)) :=
  QR.inl_topK (C := o_cfg_runs6 O (o_cfg_row Is J P)) QR.orc_nil mixed (T := 800) ⟨no_inl, one_inl (p := fun c => QR.InlOK Tryz.prog c ∧ 800 ≤ c.T) ⟨ok_row6 3 hO hJ, Nat.le_refl _⟩, .inl fun _ => rfl⟩ (by decide) Tryz.func53 (by kernel_rfl) (by kernel_rfl)
theorem ok_nx6 {O : QR.Oracle} (hO : QR.OSound Tryz.prog O) {J : Nat → Option QR.Inl} (hJ : ∀ n c, J n = some c → QR.InlOK Tryz.prog c ∧ QR.GB ≤ c.T) : QR.InlOK Tryz.prog (o_inl_nx6 O J) ∧ QR.GB ≤ (o_inl_nx6 O J).T :=
  QR.inl_flat hO mixed QR.noLoops hJ (j := 2) Tryz.func89 (by kernel_rfl) (by kernel_rfl)
theorem ok_cgs (kn : Bool) (o k m n na nb : Int) (s a b : Int → Nat → Int) : QR.CfgKOK Tryz.prog (o_cfg_gs kn o k m n na nb s a b) 500 :=
  ⟨no_inl, or_inl (p := fun c => QR.InlOK Tryz.prog c ∧ 500 ≤ c.T) ⟨ok_row6 4 os_gO no_inl, (show 500 ≤ 800 by decide)⟩ (or_inl ⟨ok_row6 4 os_gO no_inl, (show 500 ≤ 800 by decide)⟩ (or_inl ⟨ok_runs6 4 os_gO (one_inl (ok_nx6 os_gO no_inl)), (show 500 ≤ 800 by decide)⟩ (one_inl ⟨ok_row6 4 os_gO no_inl, (show 500 ≤ 800 by decide)⟩))), .inl fun _ => rfl⟩
theorem ok_crs (m n nb : Int) (a b : Int → Nat → Int) : QR.CfgKOK Tryz.prog (o_cfg_rs m n nb a b) 500 :=
  ⟨no_inl, or_inl (p := fun c => QR.InlOK Tryz.prog c ∧ 500 ≤ c.T) ⟨ok_row5 4 os_rO no_inl, (show 500 ≤ 800 by decide)⟩ (or_inl ⟨ok_runs5 4 os_rO (one_inl (ok_nx5 os_rO no_inl)), (show 500 ≤ 800 by decide)⟩ (one_inl ⟨ok_row5 4 os_rO no_inl, (show 500 ≤ 800 by decide)⟩)), .inl fun _ => rfl⟩
theorem a_spt : Answers2 17 s_sstep := by
  intro al ans hh hq
  unfold s_sstep at hh
  split at hh <;> try (simp at hh; done)
  rename_i kn o k m c e f
  cases en : slcOf 5 c with
  | none => simp [en] at hh
  | some pn =>
  obtain ⟨n, rn⟩ := pn
  cases ena : slcOf 6 e with
  | none => simp [ena] at hh
  | some pna =>
  obtain ⟨na, rna⟩ := pna
  cases enb : slcOf 5 f with
  | none => simp [enb] at hh
  | some pnb =>
  obtain ⟨nb, rnb⟩ := pnb
  simp only [en, ena, enb] at hh
  simp only [Option.some.injEq] at hh
  subst hh
  simp only [qOf_eq, qO1_eq] at hq ⊢
  obtain ⟨s, hdn⟩ : ∃ s : Int → Nat → Int, s = fun i j => intC (den rn i j) := ⟨_, rfl⟩
  try rw [← hdn]
  obtain ⟨a, hdna⟩ : ∃ a : Int → Nat → Int, a = fun i j => intC (den rna i j) := ⟨_, rfl⟩
  try rw [← hdna]
  obtain ⟨b, hdnb⟩ : ∃ b : Int → Nat → Int, b = fun i j => intC (den rnb i j) := ⟨_, rfl⟩
  try rw [← hdnb]
  refine does_args2 (al' := [.x (.c (.v (.bool kn))), .x (.c (.v (.int .i64 o))), .x (.c (.v (.int .i64 k))), .x (.c (.v (.int .u16 m))), .x (.c (.slc 5 n (.fn fun i j => .v (.int .u16 (s i j))))), .x (.c (.slc 6 na (.fn fun i j => .v (.int .u16 (a i j))))), .x (.c (.slc 5 nb (.fn fun i j => .v (.int .u16 (b i j)))))]) ⟨.v _, .v _, .v _, .v _, (hdn ▸ slcOf_ints en (by decide) (hq _ (by simp))), (hdna ▸ slcOf_ints ena (by decide) (hq _ (by simp))), (hdnb ▸ slcOf_ints enb (by decide) (hq _ (by simp))), trivial⟩ ?_
  have hq := asked hq
  refine QR.does_of_evalK (O := o_cm) (QR.orc_cons a_peff QR.orc_nil) mixed (C := o_cfg_gs kn o k m n na nb s a b) (ok_cgs kn o k m n na nb s a b) Tryz.func17 (by kernel_rfl) (by kernel_rfl) (by simp) ?_
  rw [pgs_vc]
  delta zz16 zz82 zz194 zz198 zz201 zz210 zz211 zz213 zz214 zz215 zz220 zz234 zz236 zz238 zz241 zz243 zz245 zz293 zz294 zz296 zz298 zz301
  obtain ⟨_, _, _, hs, ha, hb', hm, hn, hb, hna, hnb, _⟩ := hq
  have hn := ile_tt hn
  have hb := ile_tt hb
  simp only [okAns, eqXs, eqX, eqo, eqLo, eqL, eqc, veq, eqUs, bcond_iff, bnot, nilC, true_and, and_true, and_self, implies_true, true_implies, reduceCtorEq, false_implies, Bool.not_true, Bool.not_false, forall_eq, or_false, false_or, and_false, false_and, exists_false, exists_eq_right, exists_eq_right', forall_const, exists_const, Nat.reduceEqDiff, List.cons.injEq, Prod.mk.injEq, eq_self]
  have e1 : qOf (QR.Row.fn fun x y => CV.v (Value.int .u16 (s x y))) = s := rfl
  have e2 : qOf (QR.Row.fn fun x y => CV.v (Value.int .u16 (a x y))) = a := rfl
  have e3 : qOf (QR.Row.fn fun x y => CV.v (Value.int .u16 (b x y))) = b := rfl
  simp only [e1, e2, e3]
  have hs : row16 5 n s := by rw [hdn]; exact hs
  have ha : row16 6 na a := by rw [hdna]; exact ha
  have hb' : row16 5 nb b := by rw [hdnb]; exact hb'
  have z6 : Nat.blt 0 6 = true := rfl
  have bad : rgOk kn o k m n na nb s a b = false → (Nat.blt 0 6 = true ∧ rgN kn o k m n na nb s a b = 0) ∧ false = rgOk kn o k m n na nb s a b := fun h => ⟨⟨z6, by unfold rgN; rw [h]; rfl⟩, h.symm⟩
  have no : ¬ (n = na ∧ n = nb) → rgOk kn o k m n na nb s a b = false := fun h => by unfold rgOk; rw [decide_eq_false h]; rfl
  refine ⟨fun c => bad (no fun h => by simp [ine, h.1] at c), fun c => ?_⟩
  have c : n = na := by simpa [ine] using c
  subst c
  refine ⟨fun c => bad (no fun h => by simp [ine, h.2] at c), fun c => ?_⟩
  have c : n = nb := by simpa [ine] using c
  subst c
  have bad' : allR n (rgI kn o k m s a b) = false → (Nat.blt 0 6 = true ∧ rgN kn o k m n n n s a b = 0) ∧ false = rgOk kn o k m n n n s a b := fun h => bad (by unfold rgOk; rw [h]; simp)
  have hK : allR n (rgI kn o k m s a b) = true → rgOk kn o k m n n n s a b = true ∧ rgN kn o k m n n n s a b = n := fun h => by
    have : rgOk kn o k m n n n s a b = true := by unfold rgOk; rw [h]; simp
    exact ⟨this, by unfold rgN; rw [this]; rfl⟩
  have iS := intRow_fn .u16 5 n s
  have iA := intRow_fn .u16 6 n a
  have iB := intRow_fn .u16 5 n b
  have hA : ∀ i : Int, 0 ≤ i → i < n → _ := fun i h0 hl => (⟨iS, iA, iB, hs, ha, hb', hm, ile_t h0, ilt_t hl, ilt_t hl, ilt_t hl⟩ : intRow .u16 5 n (.fn fun x y => .v (.int .u16 (s x y))) ∧ intRow .u16 6 n (.fn fun x y => .v (.int .u16 (a x y))) ∧ intRow .u16 5 n (.fn fun x y => .v (.int .u16 (b x y))) ∧ row16 5 n s ∧ row16 6 n a ∧ row16 5 n b ∧ in16 m = true ∧ ile 0 i = true ∧ ilt i n = true ∧ ilt i n = true ∧ ilt i n = true)
  have hX : ∀ i : Int, 0 ≤ i → i < n → rgI kn o k m s a b i = true → ∀ j : Nat, j < 6 → rgZ kn o k m s a b i j = rgV kn o k m s a b i j := fun i _ _ e j _ => by unfold rgZ; rw [e]; rfl
  refine ⟨⟨iS, ile_t hn, ile_t (by omega)⟩, fun q1 => ?_, fun q1 => ⟨fun q2 => ?_, fun q2 => ⟨fun q3 => ?_, fun q3 => ?_⟩⟩⟩
  · have e := ieq_tt q1
    exact two6 (X := rgZ kn o k m s a b) (Y := fun i j => qOf (QR.Row.fn fun x y => CV.v (Value.int .u16 (a x y))) i j) hn hb ⟨e, rfl, rfl⟩ bad' hK hA (fun i h0 hl => ⟨iA, iB, ile_t (by omega), ilt_t hl, ilt_t hl⟩) hX (fun i h0 hl z => (rg_keep ha hb' e (by omega) z (by omega) hl).1) (fun i h0 hl z y j hj => ((rg_keep ha hb' e (by omega) z (by omega) hl).2 y j hj).symm)
  · have e := ieq_tt q2
    exact two6 (P := rgP (efV o k m n s) 2 n n n) (bad := (Nat.blt 0 6 = true ∧ rgN kn o k m n n n s a b = 0) ∧ false = rgOk kn o k m n n n s a b) (A' := fun i => intRow .u16 5 n (.fn fun x y => .v (.int .u16 (s x y))) ∧ intRow .u16 6 n (.fn fun x y => .v (.int .u16 (a x y))) ∧ intRow .u16 5 n (.fn fun x y => .v (.int .u16 (b x y))) ∧ ile 0 i = true ∧ ilt i n = true ∧ ilt i n = true ∧ ilt i n = true) (X := rgZ kn o k m s a b) (Y := gcvV m s) hn hb ⟨e, rfl, rfl⟩ bad' hK hA (fun i h0 hl => ⟨iS, iA, iB, ile_t (by omega), ilt_t hl, ilt_t hl, ilt_t hl⟩) hX (fun i h0 hl z => (rg_cover hs ha hb' e (by omega) z (by omega) hl).1) (fun i h0 hl z y j hj => ((rg_cover hs ha hb' e (by omega) z (by omega) hl).2 y j hj).symm)
  · have e := ieq_tt q3
    refine run6 (X := rgZ kn o k m s a b) (ok := fun i => @Bool.rec (fun _ => Bool) false (eqR 5 b i (isub .i64 i 1)) (eqR 6 a i (isub .i64 i 1))) hn hb ⟨e, rfl, rfl⟩ bad' hK hA (fun i h0 hl => ?_) hX (fun i h0 hl z => ?_)
    · have := isub1 h0 (by omega)
      exact ⟨iA, iB, ile_t (by omega), ilt_t hl, ilt_t hl, by rw [this]; exact ile_t (by omega), by rw [this]; exact ilt_t (by omega), by rw [this]; exact ilt_t (by omega)⟩
    · have z : (eqR 6 a i (isub .i64 i 1) && eqR 5 b i (isub .i64 i 1)) = true := by
        generalize eqR 6 a i (isub .i64 i 1) = u at z ⊢
        generalize eqR 5 b i (isub .i64 i 1) = v at z ⊢
        cases u
        · exact absurd (show false = true from z) (by decide)
        · exact (show v = true from z)
      rw [isub1 h0 (by omega)] at z
      exact rg_rep e z (by omega) hl (by omega) (by omega)
  · exact one6 (X := rgZ kn o k m s a b) hn hb ⟨rfl, rfl, rfl⟩ bad' hK hA hX
theorem a_spz : Answers2 18 s_sres := by
  intro al ans hh hq
  unfold s_sres at hh
  split at hh <;> try (simp at hh; done)
  rename_i c e m
  cases en : slcOf 6 c with
  | none => simp [en] at hh
  | some pn =>
  obtain ⟨n, rn⟩ := pn
  cases enb : slcOf 5 e with
  | none => simp [enb] at hh
  | some pnb =>
  obtain ⟨nb, rnb⟩ := pnb
  simp only [en, enb] at hh
  simp only [Option.some.injEq] at hh
  subst hh
  simp only [qOf_eq, qO1_eq] at hq ⊢
  obtain ⟨a, hdn⟩ : ∃ a : Int → Nat → Int, a = fun i j => intC (den rn i j) := ⟨_, rfl⟩
  try rw [← hdn]
  obtain ⟨b, hdnb⟩ : ∃ b : Int → Nat → Int, b = fun i j => intC (den rnb i j) := ⟨_, rfl⟩
  try rw [← hdnb]
  refine does_args2 (al' := [.x (.c (.slc 6 n (.fn fun i j => .v (.int .u16 (a i j))))), .x (.c (.slc 5 nb (.fn fun i j => .v (.int .u16 (b i j))))), .x (.c (.v (.int .u16 m)))]) ⟨(hdn ▸ slcOf_ints en (by decide) (hq _ (by simp))), (hdnb ▸ slcOf_ints enb (by decide) (hq _ (by simp))), .v _, trivial⟩ ?_
  have hq := asked hq
  refine QR.does_of_evalK (O := o_rsO) (QR.orc_cons a_spc QR.orc_nil) mixed (C := o_cfg_rs m n nb a b) (ok_crs m n nb a b) Tryz.func18 (by kernel_rfl) (by kernel_rfl) (by simp) ?_
  rw [prs_vc]
  delta zz16 zz82 zz198 zz199 zz202 zz212 zz221 zz228 zz229 zz230 zz231 zz233 zz238 zz240 zz244 zz293 zz298 zz299 zz300 zz301
  obtain ⟨_, _, ha, hb', hm, hn, hb, hnb, _⟩ := hq
  have hn := ile_tt hn
  have hb := ile_tt hb
  have hnb' := ile_tt hnb
  simp only [okAns, eqXs, eqX, eqo, eqLo, eqL, eqc, veq, eqUs, bcond_iff, bnot, nilC, true_and, and_true, and_self, implies_true, true_implies, reduceCtorEq, false_implies, Bool.not_true, Bool.not_false, forall_eq, or_false, false_or, and_false, false_and, exists_false, exists_eq_right, exists_eq_right', forall_const, exists_const, Nat.reduceEqDiff, List.cons.injEq, Prod.mk.injEq, eq_self]
  have e2 : qOf (QR.Row.fn fun x y => CV.v (Value.int .u16 (a x y))) = a := rfl
  have e3 : qOf (QR.Row.fn fun x y => CV.v (Value.int .u16 (b x y))) = b := rfl
  simp only [e2, e3]
  have ha : row16 6 n a := by rw [hdn]; exact ha
  have hb' : row16 5 nb b := by rw [hdnb]; exact hb'
  have z5 : Nat.blt 0 5 = true := rfl
  have bad : rrOk m n nb a b = false → (Nat.blt 0 5 = true ∧ rrN m n nb a b = 0) ∧ false = rrOk m n nb a b := fun h => ⟨⟨z5, by unfold rrN; rw [h]; rfl⟩, h.symm⟩
  refine ⟨fun c => bad ?_, fun c => ?_⟩
  · have c : n ≠ nb := by simpa [ine] using c
    unfold rrOk; rw [decide_eq_false c]; rfl
  have c : n = nb := by simpa [ine] using c
  subst c
  have bad' : allR n (rrI m a b) = false → (Nat.blt 0 5 = true ∧ rrN m n n a b = 0) ∧ false = rrOk m n n a b := fun h => bad (by unfold rrOk; rw [h]; simp)
  have hK : allR n (rrI m a b) = true → rrOk m n n a b = true ∧ rrN m n n a b = n := fun h => by
    have : rrOk m n n a b = true := by unfold rrOk; rw [h]; simp
    exact ⟨this, by unfold rrN; rw [this]; rfl⟩
  have iA := intRow_fn .u16 6 n a
  have iB := intRow_fn .u16 5 n b
  have hA : ∀ i : Int, 0 ≤ i → i < n → _ := fun i h0 hl => (⟨iA, iB, ha, hb', hm, ile_t h0, ilt_t hl, ilt_t hl⟩ : intRow .u16 6 n (.fn fun x y => .v (.int .u16 (a x y))) ∧ intRow .u16 5 n (.fn fun x y => .v (.int .u16 (b x y))) ∧ row16 6 n a ∧ row16 5 n b ∧ in16 m = true ∧ ile 0 i = true ∧ ilt i n = true ∧ ilt i n = true)
  have hX : ∀ i : Int, 0 ≤ i → i < n → rrI m a b i = true → ∀ j : Nat, j < 5 → rrZ m a b i j = rrV m a b i j := fun i _ _ e j hj => by
    match j, hj with
    | 0, _ => unfold rrZ rrV; rw [e]; rfl
    | 1, _ => unfold rrZ rrV; rw [e]; rfl
    | 2, _ => unfold rrZ rrV; rw [e]; rfl
    | 3, _ => unfold rrZ rrV; rw [e]; rfl
    | 4, _ => unfold rrZ rrV; rw [e]; rfl
  refine ⟨⟨iB, ile_t hn, ile_t (by omega)⟩, fun q1 => ?_, fun q1 => ⟨fun q2 => ?_, fun q2 => ?_⟩⟩
  · have e := ieq_tt q1
    exact two5 (X := rrZ m a b) (Y := ralV a) hn hb ⟨e, rfl⟩ bad' hK hA (fun i h0 hl => ⟨iA, iB, ile_t (by omega), ilt_t hl, ilt_t hl⟩) hX (fun i h0 hl z => rfl) (fun i h0 hl z y j hj => (rr_alone ha e y (by omega) hl j hj).symm)
  · have e := ieq_tt q2
    refine run5 (X := rrZ m a b) (ok := fun i => eqR 6 a i (isub .i64 i 1)) hn hb ⟨e, rfl⟩ bad' hK hA (fun i h0 hl => ?_) hX (fun i h0 hl z => ?_)
    · have := isub1 h0 (by omega)
      exact ⟨iA, ile_t (by omega), ilt_t hl, by rw [this]; exact ile_t (by omega), by rw [this]; exact ilt_t (by omega)⟩
    · rw [isub1 h0 (by omega)] at z
      exact rr_rep e z (by omega) hl (by omega) (by omega)
  · exact one5 (X := rrZ m a b) hn hb ⟨rfl, rfl⟩ bad' hK hA hX
end Go.Proofs.YtpjhdjakpbabhaaGreatDoor
